/- The walk of the law ScanSigns. -/
import Derived.Test.YtnkgbmnjehpkgaaGreatScLawB
import Derived.Deep.CutRange
import Derived.Deep.RegionWith
import Derived.Deep.RegionHeld3
namespace Go.Proofs.YtnkgbmnjehpkgaaGreat
open Go.RowKit Em
set_option maxRecDepth 100000
set_option linter.unusedVariables false

theorem signs_chk : ((List.range 47).all fun i => decide (Sc.clnI (sgnA i) = -1) && decide (Um.okAt (sgnA i) 0 = true) && decide (Sc.lex isW (bl (sgnA i)) = (8, (sgnA i).size)) && decide (0 < (sgnA i).size) && decide ((sgnA i).size ≤ 3)) = true := by kernel_rfl
theorem sign_one {i : Nat} (h : i < 47) : oneV (sgnA i) 0 = .tuple #[tokV 8 0 ((sgnA i).size : Int), .int .i64 0] ∧ 0 < (sgnA i).size ∧ (sgnA i).size ≤ 3 := by
  have hc := List.all_eq_true.1 signs_chk i (List.mem_range.2 h)
  simp only [Bool.and_eq_true, decide_eq_true_eq] at hc
  obtain ⟨⟨⟨⟨h1, h2⟩, h3⟩, h4⟩, h5⟩ := hc
  refine ⟨?_, h4, h5⟩
  unfold oneV
  rw [if_neg (by omega), if_neg (by rw [h1, show (0 : Int).toNat = 0 from rfl, h2]; simp), show (0 : Int).toNat = 0 from rfl, List.drop_zero, if_neg (by rw [h3]; dsimp only; omega), h3, Nat.zero_add]
  rfl

set_option maxHeartbeats 8000000 in
theorem walk_ScanSigns (w : World) (hm : Mx w) :
    Calls Tryz.prog 5 #[] w fun e w' => e = .returned (.bool true) ∧ Below w.heap.size w w' := by
  have Hm := Lib.hid hm
  have Hc0 : Hid (∀ i, i < 47 → (w.alloc (.cells sgnCells.toArray 9)).cell? ⟨w.heap.size, i, none⟩ = some (.string (sgnA i))) := Lib.hid (fun i hi => by
    rw [cell_of_row _ w.heap.size i _ _ _ (heap_alloc_new w (.cells sgnCells.toArray 9))]
    have := sgn_cell hi
    simpa using this)
  have Hb0 := Lib.hid ((Below.refl w.heap.size w).alloc (Nat.le_refl _) (.cells sgnCells.toArray 9))
  have hsz0 : (w.alloc (.cells sgnCells.toArray 9)).heap.size = w.heap.size + 1 := by simp
  have HR := Lib.hid (rsigns_any w)
  have m1 := guard_tok
  clear hm
  go_enter Tryz.func5, Tryz.ntmps5
  go_wp2_with fail
  refine HR.out.mono ?_
  rintro e w1 ⟨rfl, rfl⟩
  go_wp2
  generalize w.alloc (.cells sgnCells.toArray 9) = w0 at Hc0 Hb0 hsz0 ⊢
  go_loopw [2] (fun at' wr => ∃ i : Nat, i ≤ 47 ∧ at' = .int .i64 i ∧ Below w0.heap.size w0 wr) (fun at' _ => 47 - (intOf at').toNat)
  case atStart => exact ⟨0, by omega, rfl, Below.refl _ _⟩
  case round =>
    obtain ⟨i, hi, rfl, hb⟩ := hrel
    have HB := Lib.hid (Hb0.out.trans (hb.mono Hb0.out.size))
    by_cases hlt : i < 47
    · obtain ⟨hv, hz0, hz3⟩ := sign_one hlt
      have hc := (hb.cell (p := ⟨w.heap.size, i, none⟩) (show w.heap.size < _ by omega)).trans (Hc0.out i hlt)
      have H1 := Lib.hid (fun w hm => scone_any (sgnA i) 0 w (by omega) hm)
      rw [hv] at H1
      dsimp only [tokV] at H1
      have b0 : (0 : Int) ≤ (i : Int) := by omega
      have b1 : (i : Int) < 47 := by omega
      have hq := fun w => run_equal_tok w 8 0 ((sgnA i).size : Int) 8 0 ((sgnA i).size : Int)
      rw [tkEq_self] at hq
      have Hb := Lib.hid hb
      clear hv hb
      go_wp2_with fail
      refine (H1.out _ (Hm.out.keep HB.out)).mono ?_
      rintro e w2 ⟨rfl, b2⟩
      have hb2 := Hb.out.trans (b2.mono Hb.out.size)
      have Hb3 := Lib.hid (hb2.alloc hb2.size (.cells #[.int .u8 8, .int .i64 0, .int .i64 ((sgnA i).size : Int)] 24))
      have ht : TBox (w2.alloc (.cells #[.int .u8 8, .int .i64 0, .int .i64 ((sgnA i).size : Int)] 24)) w2.heap.size 8 0 ((sgnA i).size : Int) := heap_alloc_new w2 _
      have t0 := ht.c0
      have t1 := ht.c1
      have t2 := ht.c2
      have hc2 := (hb2.cell (p := ⟨w.heap.size, i, none⟩) (show w.heap.size < _ by omega)).trans (Hc0.out i hlt)
      have hc3 := (Hb3.out.cell (p := ⟨w.heap.size, i, none⟩) (show w.heap.size < _ by omega)).trans (Hc0.out i hlt)
      clear b2 hb2 ht
      go_wp2
      go_quiet (fail)
      go_wp2
      go_loopw [5] (fun at' wr => ∃ k : Nat, k ≤ 47 ∧ at' = .int .i64 k ∧ Below w0.heap.size w0 wr) (fun at' _ => 47 - (intOf at').toNat)
      case atStart => exact ⟨0, by omega, rfl, below_drw Hb3.out _⟩
      case round =>
        obtain ⟨k, hk, rfl, hb⟩ := hrel
        by_cases hlt2 : k < 47
        · obtain ⟨_, hy0, hy3⟩ := sign_one hlt2
          have x1 := (hb.cell (p := ⟨w.heap.size, i, none⟩) (show w.heap.size < _ by omega)).trans (Hc0.out i hlt)
          have x2 := (hb.cell (p := ⟨w.heap.size, k, none⟩) (show w.heap.size < _ by omega)).trans (Hc0.out k hlt2)
          have d0 : (0 : Int) ≤ (k : Int) := by omega
          have d1 : (k : Int) < 47 := by omega
          have hsY : (sgnA i ++ sgnA k ++ (⟨#[32]⟩ : ByteArray)).size ≤ 100 := by
            rw [ByteArray.size_append, ByteArray.size_append]
            show _ + _ + 1 ≤ 100
            omega
          have H2 := fun w hm => scone_any (sgnA i ++ sgnA k ++ (⟨#[32]⟩ : ByteArray)) 0 w (by omega) hm
          have H3 := fun w => rone_any (sgnA i ++ sgnA k ++ (⟨#[32]⟩ : ByteArray)) 0 w (by omega)
          obtain ⟨kk, f, t, x, hv2⟩ := oneV_form (sgnA i ++ sgnA k ++ (⟨#[32]⟩ : ByteArray)) 0
          rw [hv2] at H2 H3
          have H2 := Lib.hid H2
          have H3 := Lib.hid H3
          have hq2 := fun w => run_equal_tok w kk f t kk f t
          rw [tkEq_self] at hq2
          have HBr := Lib.hid hb
          have hltr : w.heap.size < wr.heap.size := by have := hb.size; omega
          have Mr := Lib.hid (Hm.out.keep (Hb0.out.trans (hb.mono Hb0.out.size)))
          have T7 : TBox (wr.alloc (.cells #[.int .u8 0, .int .i64 0, .int .i64 0] 24)).drew wr.heap.size 0 0 0 := one_box wr
          clear hv2 hq hb
          go_upto_region 11 with fail
          go_cut [6, 7] from 37 to 78 (fun v6 v7 wx => ∃ bt : Nat, v6 = .pointer (some ⟨bt, 0, none⟩) ∧ v7 = .int .i64 x ∧ TBox wx bt kk f t ∧ Below w0.heap.size w0 wx)
          case first =>
            go_region_with (go_at_call 8; refine (H2.out _ ?_).mono ?_; (first | exact Mr.out | exact Mr.out.keep (below_drw ((Below.refl _ _).alloc (Nat.le_refl _) _) 1)); rintro e w8 ⟨rfl, hb8⟩; (first | (have T8 := T7.keep hb8; have k0 := T8.c0; have k1 := T8.c1; have k2 := T8.c2; have f0 := T8.free 0; have f1 := T8.free 1; have f2 := T8.free 2) | skip))
            all_goals
              go_wp2_with fail
              go_meet
              first
                | exact ⟨wr.heap.size, rfl, rfl, T8.set kk f t, bset3 (HBr.out.trans (((below_drw ((Below.refl wr.heap.size wr).alloc (Nat.le_refl _) _) 1).trans (hb8.mono (by simp))).mono HBr.out.size)) HBr.out.size _ _ _⟩
                | exact ⟨w8.heap.size, rfl, rfl, heap_alloc_new w8 _, (HBr.out.trans (((below_drw (Below.refl wr.heap.size wr) 1).trans hb8).mono HBr.out.size)).alloc (by have := HBr.out.size; have := hb8.size; simp at this; omega) _⟩
          case rest =>
            obtain ⟨bt, rfl, rfl, T6, hb9⟩ := hcut
            have HB9 := Lib.hid hb9
            have x1 := (hb9.cell (p := ⟨w.heap.size, i, none⟩) (show w.heap.size < _ by omega)).trans (Hc0.out i hlt)
            have x2 := (hb9.cell (p := ⟨w.heap.size, k, none⟩) (show w.heap.size < _ by omega)).trans (Hc0.out k hlt2)
            have hltc : w.heap.size < wc.heap.size := by have := hb9.size; omega
            have T7' : TBox (wc.alloc (.cells #[.int .u8 0, .int .i64 0, .int .i64 0] 24)).drew wc.heap.size 0 0 0 := one_box wc
            have HT6 := Lib.hid T6
            clear hb9 T6 T7
            go_upto_region 12 with fail
            go_cut [8, 9] from 37 to 78 (fun v8 v9 wx => ∃ b8 : Nat, v8 = .pointer (some ⟨b8, 0, none⟩) ∧ v9 = .int .i64 x ∧ TBox wx b8 kk f t ∧ TBox wx bt kk f t ∧ Below w0.heap.size w0 wx)
            case first =>
              go_region_with (go_at_call 9; refine (H3.out _).mono ?_; rintro e w8 ⟨rfl, hb8⟩; (first | (have T8 := T7'.keep hb8; have k0 := T8.c0; have k1 := T8.c1; have k2 := T8.c2; have f0 := T8.free 0; have f1 := T8.free 1; have f2 := T8.free 2) | skip))
              all_goals
                go_wp2_with fail
                go_meet
                have hlb := HT6.out.lt
                first
                  | exact ⟨wc.heap.size, rfl, rfl, T8.set kk f t, ((((HT6.out.alloc (.cells #[.int .u8 0, .int .i64 0, .int .i64 0] 24)).draw 1).keep hb8).far (p := ⟨wc.heap.size, 0, none⟩) (Nat.ne_of_lt hlb) _).far (p := ⟨wc.heap.size, 1, none⟩) (Nat.ne_of_lt hlb) _ |>.far (p := ⟨wc.heap.size, 2, none⟩) (Nat.ne_of_lt hlb) _, bset3 (HB9.out.trans (((below_drw ((Below.refl wc.heap.size wc).alloc (Nat.le_refl _) _) 1).trans (hb8.mono (by simp))).mono HB9.out.size)) HB9.out.size _ _ _⟩
                  | exact ⟨w8.heap.size, rfl, rfl, heap_alloc_new w8 _, ((HT6.out.draw 1).keep hb8).alloc _, (HB9.out.trans (((below_drw (Below.refl wc.heap.size wc) 1).trans hb8).mono HB9.out.size)).alloc (by have := HB9.out.size; have := hb8.size; simp at this; omega) _⟩
            case rest =>
              obtain ⟨b8, rfl, rfl, T9, T6, hb10⟩ := hcut
              have y0 := T9.c0
              have y1 := T9.c1
              have y2 := T9.c2
              have z0 := T6.c0
              have z1 := T6.c1
              have z2 := T6.c2
              have Hb10 := Lib.hid hb10
              clear T9 T6 hb10
              go_wp2
              go_roundw
              case rel => exact ⟨k + 1, by omega, by go_num, Hb10.out⟩
              case measure => simp [intOf]; omega
        · have hke : k = 47 := by omega
          subst hke
          have HBr := Lib.hid hb
          clear hb
          go_wp2
          go_roundw
          case rel => exact ⟨i + 1, by omega, by go_num, HBr.out⟩
          case measure => simp [intOf]; omega
    · have hie : i = 47 := by omega
      subst hie
      clear hb
      go_wp2_with fail
      refine (fixed7_any _ (Hm.out.keep HB.out)).mono ?_
      rintro e w3 ⟨rfl, b3⟩
      have B3 := Lib.hid (HB.out.trans (b3.mono HB.out.size))
      clear b3
      go_wp2
      go_ret
      exact ⟨rfl, B3.out⟩
end Go.Proofs.YtnkgbmnjehpkgaaGreat

