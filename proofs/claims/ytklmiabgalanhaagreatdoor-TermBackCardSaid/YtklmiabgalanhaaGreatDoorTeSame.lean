/- Two parts compared; contracts of the two Sames at like lists; of the reference's Trees. -/
import Derived.Test.YtklmiabgalanhaaGreatDoorTeCopy
import Derived.Laws.StructEq
namespace Go.Proofs.YtklmiabgalanhaaGreatDoor
open Go.RowKit Km
set_option maxRecDepth 100000
set_option linter.unusedVariables false

def ptFields : Array Field := #[⟨"Kind", 5, 0, false, "", "", 0⟩, ⟨"Kids", 3, 1, false, "", "", 8⟩, ⟨"Word", 9, 2, false, "", "", 16⟩]
theorem fieldsOf_part : Tryz.prog.fieldsOf 28 = ptFields := by
  unfold Program.fieldsOf
  rw [Tryz.underlying28]
  rfl
theorem run_equal_part (w : World) (k c : Int) (x : ByteArray) :
    (Op.equalIn 10000 28 (.agg #[.int .u8 k, .int .i64 c, .string x]) (.agg #[.int .u8 k, .int .i64 c, .string x])).run Tryz.prog w = .ok true w := by
  have hp : Tryz.prog.stoodInHeld 28 = false := by kernel_rfl
  have ha : ∀ w, (isAgg 3).run Tryz.prog w = .ok false w := fun _ => by kernel_rfl
  have hc : ∀ w, (isAgg 5).run Tryz.prog w = .ok false w := fun _ => by kernel_rfl
  have hb : ∀ w, (isAgg 9).run Tryz.prog w = .ok false w := fun _ => by kernel_rfl
  rw [run_equalIn_agg (P := Tryz.prog) w 9999 28 _ _ (by rw [fieldsOf_part]; exact Tryz.underlying28) hp, fieldsOf_part]
  have u3 := Tryz.underlying3
  have u5 := Tryz.underlying5
  have u9 := Tryz.underlying9
  simp [ptFields, go_sem, u3, u5, u9, ha, hb, hc]
theorem guard_part : Tryz.prog.eqGuardType Tryz.prog.depth 28 = false := by kernel_rfl

set_option maxHeartbeats 2000000 in
theorem rsame_any (x y : Option Addr) (cx cy : Nat) (L : List Pt) (w : World) (hx : PtI w x L) (hy : PtI w y L) (hl : L.length ≤ 4611686018427387904) :
    Calls Tryz.prog 28 #[.slice x L.length cx, .slice y L.length cy] w fun e w' => e = .returned (.bool true) ∧ ∃ d, w' = w.drewN d := by
  have Hx := Lib.hid hx
  have Hy := Lib.hid hy
  have hm := guard_part
  clear hx hy
  go_enter Tryz.func28, Tryz.ntmps28
  go_wp2
  go_loopw [5] (fun i wr => ∃ (k d : Nat), k ≤ L.length ∧ i = .int .i64 k ∧ wr = w.drewN d) (fun i _ => L.length - (intOf i).toNat)
  case atStart => exact ⟨0, 0, by omega, rfl, rfl⟩
  case round =>
    obtain ⟨k, d, hk, rfl, rfl⟩ := hrel
    by_cases hlt : k < L.length
    · obtain ⟨g, o, rfl, hg, d0, d1, d2⟩ := Hx.out.at (Below.refl _ _) hlt
      obtain ⟨g', o', rfl, hg', d0', d1', d2'⟩ := Hy.out.at (Below.refl _ _) hlt
      have b0 : (0 : Int) ≤ (k : Int) := by omega
      have b1 : (k : Int) < (L.length : Int) := by omega
      have hq := fun w => run_equal_part w ((nthP L k).k : Int) (nthP L k).c (nthP L k).x
      generalize ((nthP L k).k : Int) = K1 at d0 d0' hq
      generalize (nthP L k).c = K2 at d1 d1' hq
      generalize (nthP L k).x = K3 at d2 d2' hq
      go_wp2
      go_quiet (fail)
      go_wp2
      go_roundw
      case rel => exact ⟨k + 1, _, by omega, by go_num, rfl⟩
      case measure => simp [intOf]; omega
    · have b1 : ¬ (k : Int) < (L.length : Int) := by omega
      go_wp2
      go_ret
      exact ⟨rfl, d, rfl⟩

set_option maxHeartbeats 2000000 in
theorem pequal_any (x y : Option Addr) (cx cy : Nat) (L : List Pt) (w : World) (hx : PtI w x L) (hy : PtI w y L) (hl : L.length ≤ 4611686018427387904) :
    Calls Tryz.prog 52 #[.slice x L.length cx, .slice y L.length cy] w fun e w' => e = .returned (.bool true) ∧ ∃ d, w' = w.drewN d := by
  have Hx := Lib.hid hx
  have Hy := Lib.hid hy
  have hm := guard_part
  clear hx hy
  go_enter Tryz.func52, Tryz.ntmps52
  go_wp2
  go_loopw [13] (fun i wr => ∃ (k d : Nat), k ≤ L.length ∧ i = .int .i64 k ∧ wr = w.drewN d) (fun i _ => L.length - (intOf i).toNat)
  case atStart => exact ⟨0, 0, by omega, rfl, rfl⟩
  case round =>
    obtain ⟨k, d, hk, rfl, rfl⟩ := hrel
    by_cases hlt : k < L.length
    · obtain ⟨g, o, rfl, hg, d0, d1, d2⟩ := Hx.out.at (Below.refl _ _) hlt
      obtain ⟨g', o', rfl, hg', d0', d1', d2'⟩ := Hy.out.at (Below.refl _ _) hlt
      have b0 : (0 : Int) ≤ (k : Int) := by omega
      have b1 : (k : Int) < (L.length : Int) := by omega
      have hq := fun w => run_equal_part w ((nthP L k).k : Int) (nthP L k).c (nthP L k).x
      generalize ((nthP L k).k : Int) = K1 at d0 d0' hq
      generalize (nthP L k).c = K2 at d1 d1' hq
      generalize (nthP L k).x = K3 at d2 d2' hq
      go_wp2
      go_quiet (fail)
      go_wp2
      go_roundw
      case rel => exact ⟨k + 1, _, by omega, by go_num, rfl⟩
      case measure => simp [intOf]; omega
    · have b1 : ¬ (k : Int) < (L.length : Int) := by omega
      go_wp2
      go_ret
      exact ⟨rfl, d, rfl⟩
theorem psame_any (x y : Option Addr) (cx cy : Nat) (L : List Pt) (w : World) (hx : PtI w x L) (hy : PtI w y L) (hl : L.length ≤ 4611686018427387904) :
    Calls Tryz.prog 29 #[.slice x L.length cx, .slice y L.length cy] w fun e w' => e = .returned (.bool true) ∧ ∃ d, w' = w.drewN d := by
  have HC := Lib.hid (pequal_any x y cx cy L w hx hy hl)
  clear hx hy
  go_enter Tryz.func29, Tryz.ntmps29
  go_wp2_with fail
  refine HC.out.mono ?_
  rintro e w1 ⟨rfl, d, rfl⟩
  go_wp2
  go_ret
  exact ⟨rfl, d, rfl⟩

theorem rtrees_some (m : Nat) (x : Option Addr) (c : Nat) (L : List Pt) (w : World) (hr : Pw w x L) (h : Rw L m) :
    Calls Tryz.prog 55 #[.slice x L.length c] w fun e w' => e = .returned (.int .i64 (m : Int)) ∧ w' = w := by
  have HB := Lib.hid (fun i hi => pend_any i x c L w hr hi)
  have hlb := hr.2
  have Hm := Lib.hid h
  clear hr h
  go_enter Tryz.func55, Tryz.ntmps55
  go_wp2
  go_loopw [3, 4] (fun tv iv wr => ∃ t p : Nat, p ≤ L.length ∧ t ≤ p ∧ tv = .int .i64 (t : Int) ∧ iv = .int .i64 (p : Int) ∧ Hid (W L.length (Kp L) 0 t = some p) ∧ wr = w) (fun _ iv _ => L.length - (intOf iv).toNat)
  case atStart => exact ⟨0, 0, by omega, by omega, rfl, rfl, Lib.hid (W_zero _), rfl⟩
  case round =>
    obtain ⟨t, p, hp, htp, rfl, rfl, HW, rfl⟩ := hrel
    have htm : t ≤ m := by
      by_cases e : t ≤ m
      · exact e
      · exfalso
        have hw := HW.out
        obtain ⟨q, rfl⟩ : ∃ q, t = m + (q + 1) := ⟨t - m - 1, by omega⟩
        rw [W_cat Hm.out, W_no (by omega)] at hw
        cases hw
    have hs := W_cat (b := m - t) HW.out
    rw [show t + (m - t) = m by omega, show W L.length (Kp L) 0 m = some L.length from Hm.out] at hs
    by_cases hlt : p < L.length
    · have b0 : (p : Int) < (L.length : Int) := by omega
      have htm2 : t ≠ m := by
        intro e
        rw [show m - t = 0 by omega, W_zero] at hs
        injection hs with hs
        omega
      rw [show m - t = (m - t - 1) + 1 by omega] at hs
      obtain ⟨e, h1, h2, h3⟩ := W_first hs.symm
      have hge := W_ge h1
      have hb := HB.out p hp
      rw [h1] at hb
      have HB2 := Lib.hid hb
      have hW2 : W L.length (Kp L) 0 (t + 1) = some e := by rw [W_cat HW.out]; exact h1
      have HW2 := Lib.hid hW2
      have e0 : ¬ (e : Int) < 0 := by omega
      clear hs h1 h2 hb hW2 HW
      go_wp2_with fail
      refine HB2.out.mono ?_
      rintro e2 w2 ⟨rfl, rfl⟩
      unfold endV
      dsimp only
      go_wp2
      go_roundw
      case rel => exact ⟨t + 1, e, h3, by omega, by go_num, rfl, HW2, by first | rfl | trivial⟩
      case measure => simp [intOf]; omega
    · have hpl : p = L.length := by omega
      have b0 : ¬ (p : Int) < (L.length : Int) := by omega
      have htm2 : t = m := by
        by_cases e : t = m
        · exact e
        · rw [show m - t = (m - t - 1) + 1 by omega, W_no (by omega)] at hs; cases hs
      subst htm2
      clear hs
      go_wp2
      go_ret
      exact ⟨rfl, rfl⟩
theorem rtrees_none (x : Option Addr) (c : Nat) (L : List Pt) (w : World) (hr : Pw w x L) (h : ∀ m, ¬ Rw L m) :
    Calls Tryz.prog 55 #[.slice x L.length c] w fun e w' => e = .returned (.int .i64 (-1)) ∧ w' = w := by
  have HB := Lib.hid (fun i hi => pend_any i x c L w hr hi)
  have hlb := hr.2
  have Hm := Lib.hid h
  clear hr h
  go_enter Tryz.func55, Tryz.ntmps55
  go_wp2
  go_loopw [3, 4] (fun tv iv wr => ∃ t p : Nat, p ≤ L.length ∧ t ≤ p ∧ tv = .int .i64 (t : Int) ∧ iv = .int .i64 (p : Int) ∧ Hid (W L.length (Kp L) 0 t = some p) ∧ wr = w) (fun _ iv _ => L.length - (intOf iv).toNat)
  case atStart => exact ⟨0, 0, by omega, by omega, rfl, rfl, Lib.hid (W_zero _), rfl⟩
  case round =>
    obtain ⟨t, p, hp, htp, rfl, rfl, HW, rfl⟩ := hrel
    by_cases hlt : p < L.length
    · have b0 : (p : Int) < (L.length : Int) := by omega
      have hb := HB.out p hp
      cases h1 : W L.length (Kp L) p 1 with
      | none =>
        rw [h1] at hb
        have HB2 := Lib.hid hb
        clear hb h1 HW
        go_wp2_with fail
        refine HB2.out.mono ?_
        rintro e2 w2 ⟨rfl, rfl⟩
        unfold endV
        dsimp only
        go_wp2
        go_ret
        exact ⟨rfl, rfl⟩
      | some e =>
        have hge := W_ge h1
        have hin := W_in h1 (by omega)
        rw [h1] at hb
        have HB2 := Lib.hid hb
        have hW2 : W L.length (Kp L) 0 (t + 1) = some e := by rw [W_cat HW.out]; exact h1
        have HW2 := Lib.hid hW2
        have e0 : ¬ (e : Int) < 0 := by omega
        clear h1 hb hW2 HW
        go_wp2_with fail
        refine HB2.out.mono ?_
        rintro e2 w2 ⟨rfl, rfl⟩
        unfold endV
        dsimp only
        go_wp2
        go_roundw
        case rel => exact ⟨t + 1, e, hin, by omega, by go_num, rfl, HW2, by first | rfl | trivial⟩
        case measure => simp [intOf]; omega
    · have hpl : p = L.length := by omega
      subst hpl
      exact absurd HW.out (Hm.out t)
end Go.Proofs.YtklmiabgalanhaaGreatDoor
