/- The walks of the laws SpanChecks, SpanApplies, SpanMoves. -/
import Derived.Test.YtckioinjgdjohaaEdFixed
import Derived.Test.YtckioinjgdjohaaEdArg
namespace Go.Proofs.Ytckioinjgdjohaa
open Go.RowKit Em

theorem sizes_take {Z : List Ed} {n M : Nat} (h : ∀ i, i < Z.length → (nthE Z i).x.size ≤ M) (hM : M ≤ 4611686018427387904) : Sizes (Z.take n) := by
  intro i hi
  rw [List.length_take] at hi
  rw [nthE_take (by omega)]
  exact Nat.le_trans (h i (by omega)) hM

set_option maxHeartbeats 2000000 in
theorem walk_SpanChecks (n : Int) (a : Option Addr) (len cap : Nat) (Z : List Ed) (w : World) (_ : (Lit.int .i64 n).wf = true) (h : EdArg w a len cap Z) (hz : cap * 32 ≤ 140737488351232 ∧ ∀ i, i < Z.length → (nthE Z i).x.size ≤ 140737488351232) :
    Calls Try.prog 3 #[.int .i64 n, .slice a len cap] w fun e w' => e = .returned (.bool true) ∧ Below w.heap.size w w' := by
  have hl := h.len_eq
  have hr := h.read
  have hlc := h.2.1
  generalize Z.take len = L at hl hr
  subst hl
  have hll : L.length ≤ 4611686018427387904 := by omega
  have Hr := Lib.hid hr
  clear h hr hz
  go_enter Try.func3, Try.ntmps3
  go_wp2_with fail
  refine (fixed_any w).mono ?_
  rintro e w1 ⟨rfl, b1⟩
  have s1 := b1.size
  have R1 := Lib.hid (Hr.out.keep b1)
  go_wp2_with fail
  refine (check_any n a cap L w1 R1.out hll).mono ?_
  rintro e w2 ⟨rfl, b2⟩
  have s2 := b2.size
  have R2 := Lib.hid (R1.out.keep b2)
  have B2 := Lib.hid (b1.trans (b2.mono s1))
  clear b1 b2
  go_wp2_with fail
  refine (rcheck_any n a cap L w2 R2.out hll).mono ?_
  rintro e w3 ⟨rfl, b3⟩
  have B3 := Lib.hid (B2.out.trans (b3.mono B2.out.size))
  clear b3
  generalize errC n L = E
  go_wp2
  go_ret
  exact ⟨rfl, B3.out⟩

set_option maxHeartbeats 2000000 in
theorem walk_SpanApplies (s : ByteArray) (a : Option Addr) (len cap : Nat) (Z : List Ed) (w : World) (_ : s.size ≤ 1048576) (h : EdArg w a len cap Z) (hz : cap + put Z ≤ 1048576) :
    Calls Try.prog 4 #[.string s, .slice a len cap] w fun e w' => e = .returned (.bool true) ∧ Below w.heap.size w w' := by
  have hl := h.len_eq
  have hr := h.read
  have hlc := h.2.1
  have hp := put_take Z len
  generalize Z.take len = L at hl hr hp
  subst hl
  have hll : L.length * 32 ≤ 140737488355328 := by omega
  have hpp : put L ≤ 1152921504606846976 := by omega
  have Hr := Lib.hid hr
  clear h hr hz hp
  go_enter Try.func4, Try.ntmps4
  go_wp2_with fail
  refine (apply_any s a cap L w Hr.out hll hpp).mono ?_
  rintro e w1 ⟨rfl, b1⟩
  have s1 := b1.size
  have R1 := Lib.hid (Hr.out.keep b1)
  go_wp2_with fail
  refine (rapply_any s a cap L w1 R1.out hll hpp).mono ?_
  rintro e w2 ⟨rfl, b2⟩
  have s2 := b2.size
  have B2 := Lib.hid (b1.trans (b2.mono s1))
  clear b1 b2
  go_wp2_with fail
  refine (fixed_any w2).mono ?_
  rintro e w3 ⟨rfl, b3⟩
  have B3 := Lib.hid (B2.out.trans (b3.mono B2.out.size))
  clear b3
  generalize appE s L = E
  generalize appR s L = R
  go_wp2
  go_ret
  exact ⟨rfl, B3.out⟩

set_option maxHeartbeats 2000000 in
theorem walk_SpanMoves (n : Int) (a : Option Addr) (len cap : Nat) (Z : List Ed) (p : Int) (w : World) (_ : (Lit.int .i64 n).wf = true) (h : EdArg w a len cap Z) (hz : cap * 32 ≤ 140737488351232 ∧ ∀ i, i < Z.length → (nthE Z i).x.size ≤ 140737488351232) (_ : (Lit.int .i64 p).wf = true) :
    Calls Try.prog 5 #[.int .i64 n, .slice a len cap, .int .i64 p] w fun e w' => e = .returned (.bool true) ∧ Below w.heap.size w w' := by
  have hl := h.len_eq
  have hr := h.read
  have hlc := h.2.1
  have hs := sizes_take (n := len) hz.2 (by omega)
  generalize Z.take len = L at hl hr hs
  subst hl
  have hll : L.length ≤ 4611686018427387904 := by omega
  have Hr := Lib.hid hr
  have Hs := Lib.hid hs
  have H1 := Lib.hid (fun w1 h1 => move_any n a cap L p w1 h1 hll Hs.out)
  have H2 := Lib.hid (fun w1 h1 => rmove_any n a cap L p w1 h1 hll Hs.out)
  unfold movV at H1 H2
  generalize (movO n L p).getD 0 = X at H1 H2
  generalize (movO n L p).isSome = Y at H1 H2
  clear h hr hz hs
  go_enter Try.func5, Try.ntmps5
  go_wp2_with fail
  refine (H1.out w Hr.out).mono ?_
  rintro e w1 ⟨rfl, b1⟩
  have s1 := b1.size
  have R1 := Lib.hid (Hr.out.keep b1)
  go_wp2_with fail
  refine (H2.out w1 R1.out).mono ?_
  rintro e w2 ⟨rfl, b2⟩
  have s2 := b2.size
  have B2 := Lib.hid (b1.trans (b2.mono s1))
  clear b1 b2
  go_wp2_with fail
  refine (fixed_any w2).mono ?_
  rintro e w3 ⟨rfl, b3⟩
  have B3 := Lib.hid (B2.out.trans (b3.mono B2.out.size))
  clear b3
  go_wp2
  go_ret
  exact ⟨rfl, B3.out⟩
end Go.Proofs.Ytckioinjgdjohaa
