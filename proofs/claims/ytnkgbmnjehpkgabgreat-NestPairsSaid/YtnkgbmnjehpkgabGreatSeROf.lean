/- Contract of the reference's semi.Of: the same tokens, the same fault. -/
import Derived.Test.YtnkgbmnjehpkgabGreatSeRFor
import Derived.Test.YtnkgbmnjehpkgabGreatGX
import Derived.Deep.CutRange
import Derived.Deep.RegionWith
import Derived.Deep.RegionHeld3
import Derived.Deep.RegionLaw
namespace Go.Proofs.YtnkgbmnjehpkgabGreat
open Go.RowKit Em
set_option maxRecDepth 100000
set_option linter.unusedVariables false

set_option maxHeartbeats 8000000 in
theorem rsemi_any (s : ByteArray) (w : World) : Calls Tryz.prog 12 #[.string s] w (SemP s w) := by
  have Hbx := Lib.hid (fau_box w)
  have Hb := Lib.hid (fau_below w)
  have HA := Lib.hid (fun w => rall_scan s w)
  unfold AllP at HA
  dsimp only [fauV] at HA
  have hsz0 : (w.alloc (.cells #[.int .i64 0, .int .i64 0] 27)).heap.size = w.heap.size + 1 := by simp
  rcases allA_fault s with ⟨e1, e2⟩ | ⟨e1, e2⟩
  · have hord := allA_ord s
    have hmost := allA_most s
    have hsize := allA_ok_size e1
    have hall := refS_all s e1
    have hsem : semA s = (refS s (allA s).1 (allA s).1.length, 0, 0) := by rw [hall]; unfold semA; rw [if_pos e1]
    rw [e1, e2] at HA
    unfold SemP
    rw [hsem]
    generalize (allA s).1 = L at HA hord hmost
    have Hord := Lib.hid hord
    obtain ⟨i0, hi, hz0, hz1, hz2⟩ := info_parts info_tok
    clear hsem hall hord e1 e2
    go_enter Tryz.func12, Tryz.ntmps12
    go_wp2_with fail
    refine (HA.out _).mono ?_
    rintro e w1 ⟨v, rfl, o1, b1⟩
    rw [hsz0] at o1
    obtain ⟨x, c, rfl, hT, hTb⟩ := tkI_of_owns o1
    have hal := (Below.refl w1.heap.size w1).alloc (Nat.le_refl _) (.cells #[.int .i64 0, .int .i64 0] 27)
    have HT3 := Lib.hid (hT.keep hal)
    have HF3 := Lib.hid ((Hbx.out.keep b1).keep hal)
    have b1' := Hb.out.trans (b1.mono (by rw [hsz0]; omega))
    have HB3 := Lib.hid (b1'.alloc b1'.size (.cells #[.int .i64 0, .int .i64 0] 27))
    have hsz3 : (w1.alloc (.cells #[.int .i64 0, .int .i64 0] 27)).heap.size = w1.heap.size + 1 := by simp
    have hk1 : FBox (w1.alloc (.cells #[.int .i64 0, .int .i64 0] 27)) w1.heap.size 0 0 := heap_alloc_new w1 _
    have k0 := hk1.c0
    have hs1 := b1.size
    rw [hsz0] at hs1
    clear b1 b1' o1 hal hT hk1 HA
    go_wp2
    generalize w1.alloc (.cells #[.int .i64 0, .int .i64 0] 27) = w3 at HT3 HF3 HB3 hsz3 k0 ⊢
    clear k0
    go_loopw [6, 7] (fun v at' wr => ∃ i : Nat, i ≤ L.length ∧ at' = .int .i64 i ∧ wr.ownsRow (w1.heap.size + 1) 41 3 v (refS s L i).length (tCells (refS s L i)) ∧ Below (w1.heap.size + 1) w3 wr) (fun _ at' _ => L.length - (intOf at').toNat)
    case atStart => exact ⟨0, by omega, rfl, World.ownsRow_nil _ _ _ _, Below.refl _ _⟩
    case round =>
      obtain ⟨i, hil, rfl, hown, hb⟩ := hrel
      have hb' : Below w3.heap.size w3 wr := by rw [hsz3]; exact hb
      have hgs := hb.size
      rw [hsz3] at hgs
      by_cases hlt : i < L.length
      · have HTr := Lib.hid (HT3.out.keep hb')
        obtain ⟨g, rfl, hg, d0, d1, d2⟩ := HTr.out.cells (i := i) hlt
        have b0 : (0 : Int) ≤ (i : Int) := by omega
        have b1 : (i : Int) < (L.length : Int) := by omega
        have hsl := refS_len s L i
        have hat := ord_at Hord.out hlt
        have HL := Lib.hid (fun (w' : World) (hx : TkI w' (some ⟨g, 0, none⟩) L) => rended_any s L (some ⟨g, 0, none⟩) c i w' hx Hord.out.2 hlt hmost hsize)
        have HE := Lib.hid (fun w => rends_any (nthT L i).k (s.extract (nthT L i).f (nthT L i).t) w)
        rw [cutT_ext] at HE
        have HS := fun w => rsilent_any (nthT L i).k w
        have Hsil := Lib.hid (fun h => refS_silent (s := s) (L := L) (i := i) h)
        have Hyes := Lib.hid (fun h0 h => refS_yes (s := s) (L := L) (i := i) h0 h)
        have Hno := Lib.hid (fun h0 h => refS_no (s := s) (L := L) (i := i) h0 h)
        generalize endedL s (L.drop (i + 1)) = D at HL Hyes Hno
        generalize hTe : nthT L i = T at d0 d1 d2 hat HE Hyes Hno Hsil HS
        obtain ⟨K, F, U⟩ := T
        have HTe := Lib.hid hTe
        clear hTe
        dsimp only at d0 d1 d2 hat HE Hyes Hno Hsil HS
        generalize endB K (cutT s F U) = E at HE Hyes Hno
        have e0 : (0 : Int) ≤ (F : Int) := by omega
        have e1 : (F : Int) ≤ (U : Int) := by omega
        have e2 : (U : Int) ≤ (s.size : Int) := by omega
        obtain ⟨hat1, hat2⟩ := hat
        cases hsil : silent K with
        | true =>
          rw [hsil] at HS
          have HS := Lib.hid HS
          have hsem := Hsil.out hsil
          have Hrel := Lib.hid (show wr.ownsRow (w1.heap.size + 1) 41 3 u6 (refS s L (i + 1)).length (tCells (refS s L (i + 1))) by rw [hsem]; exact hown)
          have Hb6 := Lib.hid hb
          clear hown hb hb' hsem
          go_wp2_with fail
          refine (HS.out _).mono ?_
          rintro e w2 ⟨rfl, rfl⟩
          go_wp2
          go_roundw
          case rel => exact ⟨i + 1, by omega, by go_num, Hrel.out, Hb6.out⟩
          case measure => simp [intOf]; omega
        | false =>
          rw [hsil] at HS
          have HS := Lib.hid HS
          have Hl3 := Lib.hid hown.lt
          have Hb4 := Lib.hid hb
          have Hsl := Lib.hid hsil
          clear hb hb' hsil
          go_wp2_with fail
          refine (HS.out _).mono ?_
          rintro e w2 ⟨rfl, rfl⟩
          go_wp2_with (at_builtin; refine wpList_append_own _ rfl _ _ 23 rfl (w1.heap.size + 1) 41 i0 _ 3 24 Tryz.underlying23 hi hz0 hz1 hz2 rfl (by decide) _ (refS s L i).length (tCells (refS s L i)) rfl (hown.alloc _) ⟨w2.heap.size, 0, none⟩ 1 1 [.int .u8 K, .int .i64 F, .int .i64 U] rfl rfl ?c1 ?c2 ?c3 ?c4 ?c5 ?_)
          case c1 => exact World.news_of_block (cs := #[.int .u8 K, .int .i64 F, .int .i64 U]) (t := 41) (fr := (0, 0)) (heap_alloc_new w2 _)
          case c2 => simp [Value.oneCell']
          case c3 => unfold maxLen; omega
          case c4 => omega
          case c5 => simp; omega
          · intro v' w5 hown5 hgrow _
            have hb6 : Below (w1.heap.size + 1) w3 w5 := (Hb4.out.alloc (by omega) _).grown hgrow (by simp; omega) (fun k e => by have := (Hl3.out k e).1; omega)
            have hb6' : Below w3.heap.size w3 w5 := by rw [hsz3]; exact hb6
            obtain ⟨g', hx', hg5, t0, t1, t2⟩ := (HT3.out.keep hb6').cells (i := i) hlt
            rw [HTe.out] at t0 t1 t2
            dsimp only at t0 t1 t2
            have hgg : g = g' := by
              have := Option.some.inj hx'
              injection this
            subst hgg
            clear hx'
            have hb7 : Below (w1.heap.size + 1) w3 w5.drew := below_draw' hb6 1
            have hT7' := HT3.out.keep hb6'
            have hT7 : TkI w5.drew (some ⟨g, 0, none⟩) L := hT7'
            have how7 : w5.drew.ownsRow (w1.heap.size + 1) 41 3 v' ((refS s L i).length + 1) (tCells (refS s L i ++ [⟨K, F, U⟩])) := by
              rw [tCells_snoc]; exact hown5
            clear hgrow hb6 hb6' hown5 hT7'
            clear Hsil HS
            have HLk := Lib.hid (fun w8 hb8 => HL.out w8 (hT7.keep hb8))
            have Hb7 := Lib.hid hb7
            have How7 := Lib.hid how7
            clear hb7 hT7 how7
            have n1 : F ≤ U := by omega
            go_upto_region 10 with fail
            go_cut [59] from 17 to 73 (fun v wx => v = .bool (E && D) ∧ ∃ wy, Below (w1.heap.size + 1) w3 wy ∧ wy.ownsRow (w1.heap.size + 1) 41 3 v' ((refS s L i).length + 1) (tCells (refS s L i ++ [⟨K, F, U⟩])) ∧ wx = wy)
            case first =>
              cases E with
              | false =>
                first
                  | go_region_with (go_at_call 22; refine (HE.out _).mono ?_; rintro e w8 ⟨rfl, hb8⟩)
                  | fail
                all_goals
                  go_wp2_with fail
                  go_meet
                  exact ⟨rfl, _, Hb7.out.trans (hb8.mono (by have := Hb7.out.size; omega)), own_below How7.out hb8, rfl⟩
              | true =>
                go_region_held3 (fun w' => w'.cell? ⟨g, i * 3, none⟩ = some (.int .u8 (K : Int)) ∧ w'.cell? ⟨g, i * 3 + 1, none⟩ = some (.int .i64 (F : Int)) ∧ w'.cell? ⟨g, i * 3 + 2, none⟩ = some (.int .i64 (U : Int)))
                  (first | exact ⟨t0, t1, t2⟩ | exact ⟨(hb8.cell (p := ⟨g, i * 3, none⟩) hg5).trans t0, (hb8.cell (p := ⟨g, i * 3 + 1, none⟩) hg5).trans t1, (hb8.cell (p := ⟨g, i * 3 + 2, none⟩) hg5).trans t2⟩)
                  (first | (go_at_call 22; refine (HE.out _).mono ?_; rintro e w8 ⟨rfl, hb8⟩) | (go_at_call 23; refine (HLk.out _ hb8).mono ?_; rintro e w9 ⟨rfl, rfl⟩))
                all_goals
                  go_wp2_with fail
                  go_meet
                  exact ⟨by simp, _, Hb7.out.trans (hb8.mono (by have := Hb7.out.size; omega)), own_below How7.out hb8, rfl⟩
            case rest =>
              obtain ⟨rfl, wy, hb9, how9, hwc⟩ := hcut
              subst hwc
              have hs9 := hb9.size
              rw [hsz3] at hs9
              cases hED : (E && D) with
              | false =>
                have hsem := Hno.out Hsl.out hED
                have Hrel := Lib.hid (show wc.ownsRow (w1.heap.size + 1) 41 3 v' (refS s L (i + 1)).length (tCells (refS s L (i + 1))) by
                  rw [hsem, List.length_append]; exact how9)
                have Hb9 := Lib.hid hb9
                clear hsem how9 hb9 hED
                go_wp2
                go_roundw
                case rel => exact ⟨i + 1, by omega, by go_num, Hrel.out, Hb9.out⟩
                case measure => simp [intOf]; omega
              | true =>
                have hsem := Hyes.out Hsl.out hED
                have Hsem := Lib.hid hsem
                have Hb9 := Lib.hid hb9
                obtain ⟨g', hx', hg9, u0, u1, u2⟩ := (HT3.out.keep (by rw [hsz3]; exact hb9 : Below w3.heap.size w3 wc)).cells (i := i) hlt
                rw [HTe.out] at u0 u1 u2
                dsimp only at u0 u1 u2
                have hgg : g = g' := by
                  have := Option.some.inj hx'
                  injection this
                subst hgg
                have how9' : wc.drew.ownsRow (w1.heap.size + 1) 41 3 v' ((refS s L i).length + 1) (tCells (refS s L i ++ [⟨K, F, U⟩])) := how9
                have hb9' := below_draw' hb9 1
                clear hsem hb9 hED hx' how9
                obtain ⟨v'', w7, hrun, hown7, hgrow7, _⟩ := run_append_own (P := Tryz.prog) (wc.drew.alloc (.cells #[.int .u8 9, .int .i64 U, .int .i64 U] 41)) (w1.heap.size + 1) 23 23 41 i0 _ 3 24 Tryz.underlying23 hi hz0 hz1 hz2 rfl (by decide) v' ((refS s L i).length + 1) (tCells (refS s L i ++ [⟨K, F, U⟩])) (how9'.alloc _)
                  ⟨wc.heap.size, 0, none⟩ 1 1 [.int .u8 9, .int .i64 U, .int .i64 U] rfl (World.news_of_block (cs := #[.int .u8 9, .int .i64 U, .int .i64 U]) (t := 41) (fr := (0, 0)) (heap_alloc_new wc.drew _)) (by simp [Value.oneCell']) (by unfold maxLen; omega) (by omega) (by simp; omega)
                have hl9 := how9'.lt
                have hb11 : Below (w1.heap.size + 1) w3 w7 := (hb9'.alloc (by simp; omega) _).grown hgrow7 (by simp; omega) (fun k e => by have := (hl9 k e).1; omega)
                have Hrel := Lib.hid (show w7.ownsRow (w1.heap.size + 1) 41 3 v'' (refS s L (i + 1)).length (tCells (refS s L (i + 1))) by
                  rw [Hsem.out, List.length_append, List.length_append, tCells_snoc]; exact hown7)
                have Hb11 := Lib.hid hb11
                clear hgrow7 hown7 hb11 hb9' how9' hl9
                go_wp2
                go_region_law (refine step_append_run rfl _ _ _ _ (by rfl) (by rfl) (by rfl) hrun ?_)
                all_goals go_wp2
                all_goals (
                  go_roundw
                  case rel => exact ⟨i + 1, by omega, by go_num, Hrel.out, Hb11.out⟩
                  case measure => simp [intOf]; omega)
      · have hdone : i = L.length := by omega
        subst hdone
        have b1 : ¬ (L.length : Int) < (L.length : Int) := by omega
        have HBw : Below w.heap.size w wr := HB3.out.trans (hb.mono (by omega))
        have hfb := HF3.out.keep hb'
        have k0 := hfb.c0
        have k1 := hfb.c1
        have f0 := hfb.free 0
        have f1 := hfb.free 1
        have hbf := hfb.set 0 0
        have r0 := hbf.c0
        have r1 := hbf.c1
        have Hown := Lib.hid (owns_far2 hown (g := w.heap.size) (by omega) (.int .i64 0) (.int .i64 0))
        have Hb2 := Lib.hid (bset2 HBw (g := w.heap.size) (by omega) (.int .i64 0) (.int .i64 0))
        clear hbf hb hb' hfb hown HBw
        go_wp2
        refine bodyPost_ret (v := .tuple #[u6, fauV 0 0]) ?_ ?_ ?_
        · simp [fauV, results, Tryz.results12, go_sem, r0, r1]
        · rfl
        · exact ⟨_, rfl, own_weaken Hown.out (by omega), Hb2.out⟩
  · have hsem : semA s = ([], (allA s).2.1, (allA s).2.2) := if_neg e1
    rw [e2] at HA
    unfold SemP
    rw [hsem]
    generalize (allA s).2.1 = E at HA e1 ⊢
    generalize (allA s).2.2 = A at HA ⊢
    have d0 : (E == 0) = false := beq_eq_false_iff_ne.2 e1
    clear hsem e1 e2
    go_enter Tryz.func12, Tryz.ntmps12
    go_wp2_with fail
    refine (HA.out _).mono ?_
    rintro e w1 ⟨v, rfl, o1, b1⟩
    have hk1 : FBox (w1.alloc (.cells #[.int .i64 E, .int .i64 A] 27)) w1.heap.size E A := heap_alloc_new w1 _
    have c0 := hk1.c0
    have c1 := hk1.c1
    have HF1 := Lib.hid ((Hbx.out.keep b1).alloc (.cells #[.int .i64 E, .int .i64 A] 27))
    have b1' := Hb.out.trans (b1.mono (by rw [hsz0]; omega))
    have HB1 := Lib.hid (b1'.alloc b1'.size (.cells #[.int .i64 E, .int .i64 A] 27))
    have k0 := HF1.out.c0
    have k1 := HF1.out.c1
    have f0 := HF1.out.free 0
    have f1 := HF1.out.free 1
    have hbf := HF1.out.set E A
    have r0 := hbf.c0
    have r1 := hbf.c1
    have Hb2 := Lib.hid (bset2 HB1.out (g := w.heap.size) (by omega) (.int .i64 E) (.int .i64 A))
    clear b1 b1' o1 hbf hk1
    go_wp2
    go_region
    go_wp2
    refine bodyPost_ret (v := .tuple #[.slice none 0 0, fauV E A]) ?_ ?_ ?_
    · simp [fauV, results, Tryz.results12, go_sem, r0, r1]
    · rfl
    · exact ⟨_, rfl, World.ownsRow_nil _ _ _ _, below_draw' Hb2.out _⟩
end Go.Proofs.YtnkgbmnjehpkgabGreat

