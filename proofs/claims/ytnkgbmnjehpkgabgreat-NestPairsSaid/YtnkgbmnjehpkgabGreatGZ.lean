/- Contract of semi.Of: a text's tokens. -/
import Derived.Test.YtnkgbmnjehpkgabGreatGY
import Derived.RegionTactic
import Derived.ChangeAlike
import Derived.Laws.StructEq
import Derived.Deep.QuietTactic
import Derived.BigQuiet
namespace Go.Proofs.YtnkgbmnjehpkgabGreat
open Go.RowKit Em
set_option maxRecDepth 100000
set_option linter.unusedVariables false

/-- The closure that asks whether a line ends. -/
theorem line_any (s : ByteArray) (L : List Sc.Tk) (x : Option Addr) (c bl' bs i : Nat) (w : World) (hx : TkI w x L) (ho : Ord s.size L) (hi : i < L.length) (hl : L.length ≤ 65536)
    (h1 : w.cell? ⟨bl', 0, none⟩ = some (.slice x L.length c)) (h2 : w.cell? ⟨bs, 0, none⟩ = some (.string s)) :
    Calls Tryz.prog 17 #[.int .i64 (i : Int), .pointer (some ⟨bl', 0, none⟩), .pointer (some ⟨bs, 0, none⟩)] w fun e w' => e = .returned (.bool (lineE s L i)) ∧ ∃ q, w' = w.drewN q := by
  by_cases hlast : i + 1 = L.length
  · have e : lineE s L i = true := by unfold lineE; rw [decide_eq_true hlast]; rfl
    rw [e]
    have d1 : ((i : Int) + 1 == (L.length : Int)) = true := by simp; omega
    have d2 : (i : Int) + 1 = (L.length : Int) := by omega
    clear e hlast
    go_enter Tryz.func17, Tryz.ntmps17
    go_wp2
    go_ret
    exact ⟨rfl, 0, rfl⟩
  · have d1 : ((i : Int) + 1 == (L.length : Int)) = false := beq_eq_false_iff_ne.2 (by omega)
    have e : lineE s L i = decide (0 ≤ Lib.indexByte (cutT s (nthT L i).t (nthT L (i + 1)).f) 10) := by unfold lineE; rw [decide_eq_false hlast]; rfl
    rw [e]
    have hn := ord_next ho (i := i) (by omega)
    have hn1 := ord_at ho (i := i + 1) (by omega)
    obtain ⟨g, rfl, hg, _, _, c2⟩ := hx.cells (i := i) hi
    obtain ⟨g', hx', _, _, c1, _⟩ := hx.cells (i := i + 1) (by omega)
    have hgg : g = g' := by
      have := Option.some.inj hx'
      injection this
    subst hgg
    clear hx'
    have HC := fun q => contains_one (s.extract (nthT L i).t (nthT L (i + 1)).f) 10 (w.drewN q)
    have he : (s.extract (nthT L i).t (nthT L (i + 1)).f).data.toList = cutT s (nthT L i).t (nthT L (i + 1)).f := cutT_ext _ _ _
    rw [he] at HC
    have b0 : (0 : Int) ≤ (i : Int) := by omega
    have b1 : (i : Int) < (L.length : Int) := by omega
    have b2 : (0 : Int) ≤ (i : Int) + 1 := by omega
    have b3 : (i : Int) + 1 < (L.length : Int) := by omega
    have b4 : (0 : Int) ≤ ((nthT L i).t : Int) := by omega
    have b5 : ((nthT L i).t : Int) ≤ ((nthT L (i + 1)).f : Int) := by omega
    have b6 : ((nthT L (i + 1)).f : Int) ≤ (s.size : Int) := by omega
    have hT : ((i : Int) + 1).toNat = i + 1 := by omega
    generalize decide (0 ≤ Lib.indexByte (cutT s (nthT L i).t (nthT L (i + 1)).f) 10) = D at HC ⊢
    generalize (nthT L i).t = F at c2 HC b4 b5 he
    generalize (nthT L (i + 1)).f = U at c1 HC b5 b6 he
    have HC' := Lib.hid HC
    clear HC hn hn1 e he hlast hx ho
    go_enter Tryz.func17, Tryz.ntmps17
    go_wp2
    go_quiet ((go_at_call 18; exact Calls.quiet_of_same (HC'.out _)))
    go_wp2
    go_ret
    exact ⟨rfl, _, rfl⟩

theorem below_draw' {B : Nat} {w wr : World} (h : Below B w wr) (n : Nat) : Below B w (wr.drewN n) := ⟨h.os, h.tape, h.output, h.size, fun i hi => h.block i hi⟩

def SemP (s : ByteArray) (w : World) (e : Ending) (w' : World) : Prop :=
  ∃ v, e = .returned (.tuple #[v, fauV (semA s).2.1 (semA s).2.2]) ∧ w'.ownsRow w.heap.size 41 3 v (semA s).1.length (tCells (semA s).1) ∧ Below w.heap.size w w'

set_option maxHeartbeats 8000000 in
theorem semi_any (s : ByteArray) (w : World) (hm : Mx w) : Calls Tryz.prog 10 #[.string s] w (SemP s w) := by
  have hB0 : Below w.heap.size w ((w.alloc (.cells #[.string s] 9)).alloc (.cells #[.int .i64 0, .int .i64 0] 27)) := ((Below.refl _ _).alloc (Nat.le_refl _) _).alloc (by simp) _
  have hS0 : ((w.alloc (.cells #[.string s] 9)).alloc (.cells #[.int .i64 0, .int .i64 0] 27)).cell? ⟨w.heap.size, 0, none⟩ = some (.string s) := by
    rw [cell_of_row _ w.heap.size 0 _ _ _ ((heap_alloc_old _ _ (show w.heap.size < _ by simp)).trans (heap_alloc_new w (.cells #[.string s] 9)))]; rfl
  have hF0 : FBox ((w.alloc (.cells #[.string s] 9)).alloc (.cells #[.int .i64 0, .int .i64 0] 27)) (w.heap.size + 1) 0 0 := by
    show ((w.alloc (.cells #[.string s] 9)).alloc (.cells #[.int .i64 0, .int .i64 0] 27)).heap[w.heap.size + 1]? = _
    have := heap_alloc_new (w.alloc (.cells #[.string s] 9)) (.cells #[.int .i64 0, .int .i64 0] 27)
    rw [show (w.alloc (.cells #[.string s] 9)).heap.size = w.heap.size + 1 by simp] at this
    exact this
  have hsz0 : ((w.alloc (.cells #[.string s] 9)).alloc (.cells #[.int .i64 0, .int .i64 0] 27)).heap.size = w.heap.size + 1 + 1 := by simp
  have HB0 := Lib.hid hB0
  have HS0 := Lib.hid hS0
  have HF0 := Lib.hid hF0
  have HA := Lib.hid (fun w hm => all_scan s w hm)
  have Hm := Lib.hid hm
  unfold AllP at HA
  dsimp only [fauV] at HA
  have hm2 := guard_fau
  rcases allA_fault s with ⟨e1, e2⟩ | ⟨e1, e2⟩
  · have hsem : semA s = (semis s (kept (allA s).1) (kept (allA s).1).length, 0, 0) := if_pos e1
    have hord := kept_ord (allA_ord s)
    have hmost := allA_most s
    have hkl := kept_len (allA s).1
    have hsize := allA_ok_size e1
    rw [e1, e2] at HA
    unfold SemP
    rw [hsem]
    have HD := Lib.hid (fun v B w h hB => delete_tk v (allA s).1 B w h hB hmost)
    generalize (allA s).1 = L0 at HA HD hord hkl hmost
    generalize kept L0 = L at HD hord hkl
    have hq := fun w => run_equal_fau w 0 0 0 0
    rw [faEq_self] at hq
    obtain ⟨i0, hi, hz0, hz1, hz2⟩ := info_parts info_tok
    have Hord := Lib.hid hord
    clear hsem hm hB0 hF0 hord e1 e2
    go_enter Tryz.func10, Tryz.ntmps10
    go_wp2_with fail
    refine (HA.out _ (Hm.out.keep HB0.out)).mono ?_
    rintro e w1 ⟨v, rfl, o1, b1⟩
    rw [hsz0] at o1
    have HS1 := Lib.hid (((b1.alloc b1.size (.cells #[.int .i64 0, .int .i64 0] 27)).cell (p := ⟨w.heap.size, 0, none⟩) (show w.heap.size < _ by rw [hsz0]; omega)).trans HS0.out)
    have HF1 := Lib.hid ((HF0.out.keep b1).alloc (.cells #[.int .i64 0, .int .i64 0] 27))
    have b1' := HB0.out.trans (b1.mono HB0.out.size)
    have HB1 := Lib.hid (b1'.alloc b1'.size (.cells #[.int .i64 0, .int .i64 0] 27))
    have HO1 := Lib.hid (o1.alloc (.cells #[.int .i64 0, .int .i64 0] 27))
    have hs1 := b1.size
    rw [hsz0] at hs1
    clear b1 b1' o1 hS0
    go_wp2_with fail
    refine (HD.out v (w.heap.size + 1 + 1) _ HO1.out (by simp; omega)).mono ?_
    rintro e w2 ⟨v2, rfl, o2, b2⟩
    have b2' := b2 (w.heap.size + 1 + 1) (Nat.le_refl _)
    obtain ⟨x, c, rfl, hT, hTb⟩ := tkI_of_owns o2
    have hs2 := (b2 0 (Nat.zero_le _)).size
    simp at hs2
    have HS2 := Lib.hid ((b2'.cell (p := ⟨w.heap.size, 0, none⟩) (show w.heap.size < _ by omega)).trans HS1.out)
    have HF2 : Hid (FBox w2 (w.heap.size + 1) 0 0) := Lib.hid ((b2'.block _ (by omega)).trans HF1.out)
    have HB2 := Lib.hid (HB1.out.trans (b2 w.heap.size (by omega)))
    have HT2 := Lib.hid hT
    clear b2 b2' o2 hT HD HA
    have hal := (Below.refl w2.heap.size w2).alloc (Nat.le_refl _) (.cells #[.slice x L.length c] 23)
    have HT3 := Lib.hid (HT2.out.keep hal)
    have HS3 := Lib.hid ((hal.cell (p := ⟨w.heap.size, 0, none⟩) (show w.heap.size < _ by omega)).trans HS2.out)
    have HF3 := Lib.hid (HF2.out.keep hal)
    have HB3 := Lib.hid (HB2.out.trans (hal.mono (by omega)))
    have hC3 : (w2.alloc (.cells #[.slice x L.length c] 23)).cell? ⟨w2.heap.size, 0, none⟩ = some (.slice x L.length c) := by
      rw [cell_of_row _ w2.heap.size 0 _ _ _ (heap_alloc_new w2 (.cells #[.slice x L.length c] 23))]; rfl
    have HC3 := Lib.hid hC3
    have hsz3 : (w2.alloc (.cells #[.slice x L.length c] 23)).heap.size = w2.heap.size + 1 := by simp
    clear hal hC3
    go_wp2
    generalize w2.alloc (.cells #[.slice x L.length c] 23) = w3 at HT3 HS3 HF3 HB3 HC3 hsz3 ⊢
    clear HT2 HS2 HF2 HB2 HS1 HF1 HB1 HO1 HB0 HS0 HF0
    go_loopw [8, 25] (fun v at' wr => ∃ i : Nat, i ≤ L.length ∧ at' = .int .i64 i ∧ wr.ownsRow (w2.heap.size + 1) 41 3 v (semis s L i).length (tCells (semis s L i)) ∧ Below (w2.heap.size + 1) w3 wr) (fun _ at' _ => L.length - (intOf at').toNat)
    case atStart => exact ⟨0, by omega, rfl, World.ownsRow_nil _ _ _ _, Below.refl _ _⟩
    case round =>
      obtain ⟨i, hil, rfl, hown, hb⟩ := hrel
      have hb' : Below w3.heap.size w3 wr := by rw [hsz3]; exact hb
      have HBr := Lib.hid hb
      have hgs := hb.size
      rw [hsz3] at hgs
      have hcs := (hb'.cell (p := ⟨w2.heap.size, 0, none⟩) (show w2.heap.size < _ by omega)).trans HC3.out
      have hss := (hb'.cell (p := ⟨w.heap.size, 0, none⟩) (show w.heap.size < _ by omega)).trans HS3.out
      by_cases hlt : i < L.length
      · have HTr := Lib.hid (HT3.out.keep hb')
        obtain ⟨g, rfl, hg, d0, d1, d2⟩ := HTr.out.cells (i := i) hlt
        have b0 : (0 : Int) ≤ (i : Int) := by omega
        have b1 : (i : Int) < (L.length : Int) := by omega
        have hsl := semis_len s L i
        have hlen65 : L.length ≤ 65536 := by omega
        have hat := ord_at Hord.out hlt
        have hme := HS3.out
        have HL := Lib.hid (fun (w' : World) (hx : TkI w' (some ⟨g, 0, none⟩) L) h1 h2 => line_any s L (some ⟨g, 0, none⟩) c w2.heap.size w.heap.size i w' hx Hord.out hlt hlen65 h1 h2)
        have HE := Lib.hid (fun w => ends_any (nthT L i).k (s.extract (nthT L i).f (nthT L i).t) w)
        rw [cutT_ext] at HE
        have Hyes := Lib.hid (fun h => semis_yes (s := s) (L := L) (i := i) h)
        have Hno := Lib.hid (fun h => semis_no (s := s) (L := L) (i := i) h)
        unfold putB at Hyes Hno
        generalize lineE s L i = D at HL Hyes Hno
        generalize nthT L i = T at d0 d1 d2 hat HE Hyes Hno
        obtain ⟨K, F, U⟩ := T
        dsimp only at d0 d1 d2 hat HE Hyes Hno
        generalize endB K (cutT s F U) = E at HE Hyes Hno
        have e0 : (0 : Int) ≤ (F : Int) := by omega
        have e1 : (F : Int) ≤ (U : Int) := by omega
        have e2 : (U : Int) ≤ (s.size : Int) := by omega
        obtain ⟨hat1, hat2⟩ := hat
        have hown3 := hown.alloc (.cells #[.int .u8 K, .int .i64 F, .int .i64 U] 41)
        have Hl3 := Lib.hid hown.lt
        have hb4 := hb.alloc (by omega) (.cells #[.int .u8 K, .int .i64 F, .int .i64 U] 41)
        have Hb4 := Lib.hid hb4
        have htb : TBox (wr.alloc (.cells #[.int .u8 K, .int .i64 F, .int .i64 U] 41)) wr.heap.size K F U := heap_alloc_new wr _
        have Htb := Lib.hid htb
        clear hb4 htb hown hb hb'
        go_wp2_with (at_builtin; refine wpList_append_own _ rfl _ _ 23 rfl (w2.heap.size + 1) 41 i0 _ 3 24 Tryz.underlying23 hi hz0 hz1 hz2 rfl (by decide) _ (semis s L i).length (tCells (semis s L i)) rfl (hown3.alloc _) ⟨wr.heap.size + 1, 0, none⟩ 1 1 [.int .u8 K, .int .i64 F, .int .i64 U] rfl rfl ?c1 ?c2 ?c3 ?c4 ?c5 ?_)
        case c1 =>
          have := World.news_of_block (cs := #[.int .u8 K, .int .i64 F, .int .i64 U]) (t := 41) (fr := (0, 0)) (heap_alloc_new (wr.alloc (.cells #[.int .u8 K, .int .i64 F, .int .i64 U] 41)) (.cells #[.int .u8 K, .int .i64 F, .int .i64 U] 41))
          simpa using this
        case c2 => simp [Value.oneCell']
        case c3 => unfold maxLen; omega
        case c4 => omega
        case c5 => simp; omega
        · intro v' w5 hown5 hgrow _
          have hb6 : Below (w2.heap.size + 1) w3 w5 := (Hb4.out.alloc (by simp; omega) _).grown hgrow (by simp; omega) (fun k e => by have := (Hl3.out k e).1; omega)
          have hb6' : Below w3.heap.size w3 w5 := by rw [hsz3]; exact hb6
          have htb6 := grown_tbox hgrow (Htb.out.alloc _) (fun e => by have := (Hl3.out _ e.symm).2; omega)
          have t0 := htb6.c0
          have t1 := htb6.c1
          have t2 := htb6.c2
          have hcs5 := (hb6'.cell (p := ⟨w2.heap.size, 0, none⟩) (show w2.heap.size < _ by omega)).trans HC3.out
          have hss5 := (hb6'.cell (p := ⟨w.heap.size, 0, none⟩) (show w.heap.size < _ by omega)).trans HS3.out
          have HT5 := Lib.hid (HT3.out.keep hb6')
          have HLq := Lib.hid (fun q => HL.out (w5.drewN q) HT5.out hcs5 hss5)
          have Hs5 := Lib.hid hb6.size
          clear htb6 hgrow hb6' hcs hss
          cases E with
          | false =>
            have hsem := Hno.out (by rfl)
            have Hrel := Lib.hid (show w5.ownsRow (w2.heap.size + 1) 41 3 v' (semis s L (i + 1)).length (tCells (semis s L (i + 1))) by
              rw [hsem, List.length_append, tCells_snoc]; exact hown5)
            have Hb6 := Lib.hid hb6
            clear hsem hown5 hb6
            go_wp2
            go_quiet ((go_at_call 19; exact Calls.quiet_of_same ((HE.out _).mono fun e w' h => ⟨h.1, h.2.symm⟩)))
            go_wp2
            go_roundw
            case rel => exact ⟨i + 1, by omega, by go_num, Hrel.out, below_draw' Hb6.out _⟩
            case measure => simp [intOf]; omega
          | true =>
            cases D with
            | false =>
              have hsem := Hno.out (by rfl)
              have Hrel := Lib.hid (show w5.ownsRow (w2.heap.size + 1) 41 3 v' (semis s L (i + 1)).length (tCells (semis s L (i + 1))) by
                rw [hsem, List.length_append, tCells_snoc]; exact hown5)
              have Hb6 := Lib.hid hb6
              clear hsem hown5 hb6
              go_wp2
              go_quiet ((first | (go_at_call 19; exact Calls.quiet_of_same ((HE.out _).mono fun e w' h => ⟨h.1, h.2.symm⟩)) | (go_at_call 17; exact Calls.quiet_of (HLq.out _))))
              go_wp2
              go_roundw
              case rel => exact ⟨i + 1, by omega, by go_num, Hrel.out, below_draw' Hb6.out _⟩
              case measure => simp [intOf]; omega
            | true =>
              have hsem := Hyes.out (by rfl)
              have hown5' : w5.ownsRow (w2.heap.size + 1) 41 3 v' ((semis s L i).length + 1) (tCells (semis s L i ++ [⟨K, F, U⟩])) := by
                rw [tCells_snoc]; exact hown5
              have Hsem := Lib.hid hsem
              have Hl5 := Lib.hid hown5'.lt
              have hs5 := Hs5.out
              have Hb6 := Lib.hid hb6
              clear hsem hown5 hb6
              go_wp2
              go_quiet ((first | (go_at_call 19; exact Calls.quiet_of_same ((HE.out _).mono fun e w' h => ⟨h.1, h.2.symm⟩)) | (go_at_call 17; exact Calls.quiet_of (HLq.out _))))
              go_wp2_with (at_builtin; refine wpList_append_own _ rfl _ _ 23 rfl (w2.heap.size + 1) 41 i0 _ 3 24 Tryz.underlying23 hi hz0 hz1 hz2 rfl (by decide) _ ((semis s L i).length + 1) (tCells (semis s L i ++ [⟨K, F, U⟩])) rfl (World.ownsRow.alloc (w := w5.drewN nq) hown5' _) ⟨w5.heap.size, 0, none⟩ 1 1 [.int .u8 9, .int .i64 U, .int .i64 U] rfl rfl ?d1 ?d2 ?d3 ?d4 ?d5 ?_)
              case d1 =>
                have := World.news_of_block (cs := #[.int .u8 9, .int .i64 U, .int .i64 U]) (t := 41) (fr := (0, 0)) (heap_alloc_new (w5.drewN nq) (.cells #[.int .u8 9, .int .i64 U, .int .i64 U] 41))
                simpa using this
              case d2 => simp [Value.oneCell']
              case d3 => unfold maxLen; omega
              case d4 => omega
              case d5 => simp; omega
              · intro v'' w7 hown7 hgrow7 _
                have hb8 : Below (w2.heap.size + 1) w3 w7 := ((below_draw' Hb6.out nq).alloc (by simp; omega) _).grown hgrow7 (by simp; omega) (fun k e => by have := (Hl5.out k e).1; omega)
                have Hrel := Lib.hid (show w7.ownsRow (w2.heap.size + 1) 41 3 v'' (semis s L (i + 1)).length (tCells (semis s L (i + 1))) by
                  rw [Hsem.out, List.length_append, List.length_append, tCells_snoc]; exact hown7)
                have Hb8 := Lib.hid hb8
                clear hgrow7 hown7 hb8
                go_wp2
                go_roundw
                case rel => exact ⟨i + 1, by omega, by go_num, Hrel.out, Hb8.out⟩
                case measure => simp [intOf]; omega
      · have hdone : i = L.length := by omega
        subst hdone
        have b1 : ¬ (L.length : Int) < (L.length : Int) := by omega
        have HBw : Below w.heap.size w wr := HB3.out.trans (hb.mono (by omega))
        have hfb := HF3.out.keep hb'
        have k0 := hfb.c0
        have k1 := hfb.c1
        have f0 := hfb.free 0
        have f1 := hfb.free 1
        have hbf := hfb.set 0 0
        have r0 := hbf.c0
        have r1 := hbf.c1
        have Hown := Lib.hid (owns_far2 hown (g := w.heap.size + 1) (by omega) (.int .i64 0) (.int .i64 0))
        have Hb2 := Lib.hid (bset2 HBw (g := w.heap.size + 1) (by omega) (.int .i64 0) (.int .i64 0))
        clear hbf hb hb' hfb hown HBw
        go_wp2
        refine bodyPost_ret (v := .tuple #[u8, fauV 0 0]) ?_ ?_ ?_
        · simp [fauV, results, Tryz.results10, go_sem, r0, r1]
        · rfl
        · exact ⟨_, rfl, own_weaken Hown.out (by omega), Hb2.out⟩
  · have hsem : semA s = ([], (allA s).2.1, (allA s).2.2) := if_neg e1
    rw [e2] at HA
    unfold SemP
    rw [hsem]
    have hne : faEq (allA s).2.1 (allA s).2.2 0 0 = false := by
      unfold faEq; rw [show ((allA s).2.1 == 0) = false from beq_eq_false_iff_ne.2 e1]; rfl
    generalize (allA s).2.1 = E at HA hne ⊢
    generalize (allA s).2.2 = A at HA hne ⊢
    have hq := fun w => run_equal_fau w E A 0 0
    rw [hne] at hq
    clear hsem hm hB0 hF0 e1 e2 hne
    go_enter Tryz.func10, Tryz.ntmps10
    go_wp2_with fail
    refine (HA.out _ (Hm.out.keep HB0.out)).mono ?_
    rintro e w1 ⟨v, rfl, o1, b1⟩
    rw [hsz0] at o1
    have HF1 := Lib.hid ((HF0.out.keep b1).alloc (.cells #[.int .i64 E, .int .i64 A] 27))
    have b1' := HB0.out.trans (b1.mono HB0.out.size)
    have HB1 := Lib.hid (b1'.alloc b1'.size (.cells #[.int .i64 E, .int .i64 A] 27))
    have hs1 := b1.size
    rw [hsz0] at hs1
    have k0 := HF1.out.c0
    have k1 := HF1.out.c1
    have f0 := HF1.out.free 0
    have f1 := HF1.out.free 1
    have hbf := HF1.out.set E A
    have r0 := hbf.c0
    have r1 := hbf.c1
    have Hb2 := Lib.hid (bset2 HB1.out (g := w.heap.size + 1) (by omega) (.int .i64 E) (.int .i64 A))
    clear b1 b1' o1 hS0 hbf
    go_wp2
    go_region
    go_wp2
    refine bodyPost_ret (v := .tuple #[.slice none 0 0, fauV E A]) ?_ ?_ ?_
    · simp [fauV, results, Tryz.results10, go_sem, r0, r1]
    · rfl
    · exact ⟨_, rfl, World.ownsRow_nil _ _ _ _, below_draw' Hb2.out _⟩
end Go.Proofs.YtnkgbmnjehpkgabGreat

/- The laws' helper 'fixed' of layer 8: the document's examples. -/
namespace Go.Proofs.YtnkgbmnjehpkgabGreat
open Go.RowKit Em
set_option maxRecDepth 100000
set_option linter.unusedVariables false

theorem fx8a : semA ⟨#[97, 10, 98]⟩ = ([⟨1, 0, 1⟩, ⟨9, 1, 1⟩, ⟨1, 2, 3⟩, ⟨9, 3, 3⟩], 0, 0) := by kernel_rfl
theorem fx8b : semA ⟨#[97, 32, 43, 10, 98, 59]⟩ = ([⟨1, 0, 1⟩, ⟨8, 2, 3⟩, ⟨1, 4, 5⟩, ⟨9, 5, 6⟩], 0, 0) := by kernel_rfl
theorem fx8c : endB 8 [125] = true := by decide
theorem fx8d : endB 2 [103, 111] = false := by decide

end Go.Proofs.YtnkgbmnjehpkgabGreat

/- The reference's Ends. -/
namespace Go.Proofs.YtnkgbmnjehpkgabGreat
open Go.RowKit Em
set_option maxRecDepth 100000
set_option linter.unusedVariables false

def nthS (L : List (List UInt8)) (i : Nat) : ByteArray := ⟨(L.getD i []).toArray⟩
theorem nthS_get (L : List (List UInt8)) (i : Nat) (h : i < L.length) : (nthS L i).toList = L[i] := by
  rw [Lib.toList_data]; simp [nthS, h]
theorem any_yes (L : List (List UInt8)) (x : ByteArray) (i : Nat) (h : i < L.length) (hd : ((nthS L i).toList == x.toList) = true) : (L.any fun v => bl x == v) = true := by
  rw [nthS_get L i h, Lib.toList_data] at hd
  exact List.any_eq_true.2 ⟨L[i], List.getElem_mem _, by rw [beq_iff_eq] at hd ⊢; exact hd.symm⟩
theorem any_step (L : List (List UInt8)) (x : ByteArray) (k : Nat) (h : ∀ j, j < k → ((nthS L j).toList == x.toList) = false) (hd : ((nthS L k).toList == x.toList) = false) :
    ∀ j, j < k + 1 → ((nthS L j).toList == x.toList) = false := fun j hj => by
  by_cases e : j = k
  · subst e; exact hd
  · exact h j (by omega)
theorem any_no (L : List (List UInt8)) (x : ByteArray) (h : ∀ j, j < L.length → ((nthS L j).toList == x.toList) = false) : (L.any fun v => bl x == v) = false := by
  rw [List.any_eq_false]
  intro v hv
  obtain ⟨j, hj, rfl⟩ := List.getElem_of_mem hv
  have := h j hj
  rw [nthS_get L j hj, Lib.toList_data] at this
  rw [beq_iff_eq]
  intro e
  rw [show x.data.toList = L[j] from e] at this
  simp at this

theorem rends_word (x : ByteArray) (w : World) :
    Calls Tryz.prog 22 #[.int .u8 2, .string x] w fun e w' => e = .returned (.bool (endW.any fun v => bl x == v)) ∧ Below w.heap.size w w' := by
  have Hc : Hid (∀ j, j < 4 → (w.alloc (.cells #[.string ⟨#[98, 114, 101, 97, 107]⟩, .string ⟨#[99, 111, 110, 116, 105, 110, 117, 101]⟩, .string ⟨#[102, 97, 108, 108, 116, 104, 114, 111, 117, 103, 104]⟩, .string ⟨#[114, 101, 116, 117, 114, 110]⟩] 9)).cell? ⟨w.heap.size, j, none⟩ = some (.string (nthS endW j))) := Lib.hid (by
    intro j hj
    rw [cell_of_row _ w.heap.size j _ _ _ (heap_alloc_new w (.cells #[.string ⟨#[98, 114, 101, 97, 107]⟩, .string ⟨#[99, 111, 110, 116, 105, 110, 117, 101]⟩, .string ⟨#[102, 97, 108, 108, 116, 104, 114, 111, 117, 103, 104]⟩, .string ⟨#[114, 101, 116, 117, 114, 110]⟩] 9))]
    match j, hj with
    | 0, _ => rfl
    | 1, _ => rfl
    | 2, _ => rfl
    | 3, _ => rfl)
  have Hb := Lib.hid ((Below.refl w.heap.size w).alloc (Nat.le_refl _) (.cells #[.string ⟨#[98, 114, 101, 97, 107]⟩, .string ⟨#[99, 111, 110, 116, 105, 110, 117, 101]⟩, .string ⟨#[102, 97, 108, 108, 116, 104, 114, 111, 117, 103, 104]⟩, .string ⟨#[114, 101, 116, 117, 114, 110]⟩] 9))
  go_enter Tryz.func22, Tryz.ntmps22
  go_wp2
  generalize w.alloc (.cells #[.string ⟨#[98, 114, 101, 97, 107]⟩, .string ⟨#[99, 111, 110, 116, 105, 110, 117, 101]⟩, .string ⟨#[102, 97, 108, 108, 116, 104, 114, 111, 117, 103, 104]⟩, .string ⟨#[114, 101, 116, 117, 114, 110]⟩] 9) = w1 at Hc Hb ⊢
  go_loopw [6] (fun i wr => ∃ k : Nat, k ≤ 4 ∧ i = .int .i64 k ∧ Hid (∀ j, j < k → ((nthS endW j).toList == x.toList) = false) ∧ wr = w1) (fun i _ => 4 - (intOf i).toNat)
  case atStart => exact ⟨0, by omega, rfl, Lib.hid fun j h => by omega, rfl⟩
  case round =>
    obtain ⟨k, hk, rfl, Hno, rfl⟩ := hrel
    by_cases hlt : k < 4
    · have hc := Hc.out k hlt
      have b0 : (0 : Int) ≤ (k : Int) := by omega
      have b1 : (k : Int) < 4 := by omega
      have Hyes := Lib.hid (fun h => any_yes endW x k (show k < endW.length from hlt) h)
      have Hnew := Lib.hid (fun (h : ((nthS endW k).toList == x.toList) = false) => any_step endW x k Hno.out h)
      generalize nthS endW k = y at hc Hyes Hnew
      cases hd : (y.toList == x.toList) with
      | true =>
        have Hf := Lib.hid (Hyes.out hd)
        go_wp2
        go_ret
        exact ⟨ret_bool Hf.out.symm, Hb.out⟩
      | false =>
        have Hn := Lib.hid (Hnew.out hd)
        go_wp2
        go_roundw
        case rel => exact ⟨k + 1, by omega, by go_num, Hn, by first | trivial | rfl⟩
        case measure => simp [intOf]; omega
    · have Hf := Lib.hid (any_no endW x (fun j hj => Hno.out j (by have : j < 4 := hj; omega)))
      have b1 : ¬ (k : Int) < 4 := by omega
      go_wp2
      go_ret
      exact ⟨ret_bool Hf.out.symm, Hb.out⟩

theorem rends_op (x : ByteArray) (w : World) :
    Calls Tryz.prog 22 #[.int .u8 8, .string x] w fun e w' => e = .returned (.bool (endS.any fun v => bl x == v)) ∧ Below w.heap.size w w' := by
  have Hc : Hid (∀ j, j < 5 → (w.alloc (.cells #[.string ⟨#[43, 43]⟩, .string ⟨#[45, 45]⟩, .string ⟨#[41]⟩, .string ⟨#[93]⟩, .string ⟨#[125]⟩] 9)).cell? ⟨w.heap.size, j, none⟩ = some (.string (nthS endS j))) := Lib.hid (by
    intro j hj
    rw [cell_of_row _ w.heap.size j _ _ _ (heap_alloc_new w (.cells #[.string ⟨#[43, 43]⟩, .string ⟨#[45, 45]⟩, .string ⟨#[41]⟩, .string ⟨#[93]⟩, .string ⟨#[125]⟩] 9))]
    match j, hj with
    | 0, _ => rfl
    | 1, _ => rfl
    | 2, _ => rfl
    | 3, _ => rfl
    | 4, _ => rfl)
  have Hb := Lib.hid ((Below.refl w.heap.size w).alloc (Nat.le_refl _) (.cells #[.string ⟨#[43, 43]⟩, .string ⟨#[45, 45]⟩, .string ⟨#[41]⟩, .string ⟨#[93]⟩, .string ⟨#[125]⟩] 9))
  go_enter Tryz.func22, Tryz.ntmps22
  go_wp2
  generalize w.alloc (.cells #[.string ⟨#[43, 43]⟩, .string ⟨#[45, 45]⟩, .string ⟨#[41]⟩, .string ⟨#[93]⟩, .string ⟨#[125]⟩] 9) = w1 at Hc Hb ⊢
  go_loopw [6] (fun i wr => ∃ k : Nat, k ≤ 5 ∧ i = .int .i64 k ∧ Hid (∀ j, j < k → ((nthS endS j).toList == x.toList) = false) ∧ wr = w1) (fun i _ => 5 - (intOf i).toNat)
  case atStart => exact ⟨0, by omega, rfl, Lib.hid fun j h => by omega, rfl⟩
  case round =>
    obtain ⟨k, hk, rfl, Hno, rfl⟩ := hrel
    by_cases hlt : k < 5
    · have hc := Hc.out k hlt
      have b0 : (0 : Int) ≤ (k : Int) := by omega
      have b1 : (k : Int) < 5 := by omega
      have Hyes := Lib.hid (fun h => any_yes endS x k (show k < endS.length from hlt) h)
      have Hnew := Lib.hid (fun (h : ((nthS endS k).toList == x.toList) = false) => any_step endS x k Hno.out h)
      generalize nthS endS k = y at hc Hyes Hnew
      cases hd : (y.toList == x.toList) with
      | true =>
        have Hf := Lib.hid (Hyes.out hd)
        go_wp2
        go_ret
        exact ⟨ret_bool Hf.out.symm, Hb.out⟩
      | false =>
        have Hn := Lib.hid (Hnew.out hd)
        go_wp2
        go_roundw
        case rel => exact ⟨k + 1, by omega, by go_num, Hn, by first | trivial | rfl⟩
        case measure => simp [intOf]; omega
    · have Hf := Lib.hid (any_no endS x (fun j hj => Hno.out j (by have : j < 5 := hj; omega)))
      have b1 : ¬ (k : Int) < 5 := by omega
      go_wp2
      go_ret
      exact ⟨ret_bool Hf.out.symm, Hb.out⟩

theorem rends_any (k : Nat) (x : ByteArray) (w : World) :
    Calls Tryz.prog 22 #[.int .u8 (k : Int), .string x] w fun e w' => e = .returned (.bool (endB k (bl x))) ∧ Below w.heap.size w w' := by
  by_cases h2 : k = 2
  · subst h2; rw [endB_word]; exact rends_word x w
  by_cases h8 : k = 8
  · subst h8; rw [endB_op]; exact rends_op x w
  by_cases h1 : k = 1
  · subst h1
    rw [endB_lit (.inl rfl)]
    go_enter Tryz.func22, Tryz.ntmps22
    go_wp2
    go_ret
    exact ⟨rfl, Below.refl _ _⟩
  by_cases h3 : 3 ≤ k ∧ k ≤ 7
  · rw [endB_lit (.inr h3)]
    have d1 : ((k : Int) == 1) = false := beq_eq_false_iff_ne.2 (by omega)
    have d3 : (3 : Int) ≤ (k : Int) := by omega
    have d7 : (k : Int) ≤ 7 := by omega
    clear h1 h2 h8 h3
    go_enter Tryz.func22, Tryz.ntmps22
    go_wp2
    go_ret
    exact ⟨rfl, Below.refl _ _⟩
  · rw [endB_no (by omega) h2 h8]
    have d1 : ((k : Int) == 1) = false := beq_eq_false_iff_ne.2 (by omega)
    have d2 : ((k : Int) == 2) = false := beq_eq_false_iff_ne.2 (by omega)
    have d8 : ((k : Int) == 8) = false := beq_eq_false_iff_ne.2 (by omega)
    by_cases g3 : 3 ≤ k
    · have d3 : (3 : Int) ≤ (k : Int) := by omega
      have d7 : ¬ (k : Int) ≤ 7 := by omega
      clear h1 h2 h8 h3 g3
      go_enter Tryz.func22, Tryz.ntmps22
      go_wp2
      go_loopw [6] (fun i wr => i = .int .i64 0 ∧ wr = w) (fun i _ => 0)
      case atStart => exact ⟨rfl, rfl⟩
      case round =>
        obtain ⟨rfl, rfl⟩ := hrel
        go_wp2
        go_ret
        exact ⟨rfl, Below.refl _ _⟩
    · have d3 : ¬ (3 : Int) ≤ (k : Int) := by omega
      clear h1 h2 h8 h3 g3
      go_enter Tryz.func22, Tryz.ntmps22
      go_wp2
      go_loopw [6] (fun i wr => i = .int .i64 0 ∧ wr = w) (fun i _ => 0)
      case atStart => exact ⟨rfl, rfl⟩
      case round =>
        obtain ⟨rfl, rfl⟩ := hrel
        go_wp2
        go_ret
        exact ⟨rfl, Below.refl _ _⟩
end Go.Proofs.YtnkgbmnjehpkgabGreat

