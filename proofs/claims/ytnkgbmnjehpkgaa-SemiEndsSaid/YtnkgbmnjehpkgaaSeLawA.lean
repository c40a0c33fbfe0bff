/- The walk of the law SemiEnds. -/
import Derived.Test.YtnkgbmnjehpkgaaGZ
namespace Go.Proofs.Ytnkgbmnjehpkgaa
open Go.RowKit Em
set_option maxRecDepth 100000
set_option linter.unusedVariables false

theorem walk_SemiEnds (k : Int) (x : ByteArray) (w : World) (hk : (Lit.int .u8 k).wf = true) (hs : x.size ≤ 140737488351232) (hm : Mx w) :
    Calls Try.prog 7 #[.int .u8 k, .string x] w fun e w' => e = .returned (.bool true) ∧ Below w.heap.size w w' := by
  obtain ⟨n, rfl⟩ : ∃ n : Nat, k = n := ⟨k.toNat, by
    have := hk
    simp [Lit.wf, IntKind.min, IntKind.max, IntKind.signed, IntKind.bits] at this
    omega⟩
  have H0 := Lib.hid (fixed8_any w hm)
  have H1 := Lib.hid (fun w => ends_any n x w)
  have H2 := Lib.hid (fun w => rends_any n x w)
  clear hm hk
  generalize endB n (bl x) = b at H1 H2
  go_enter Try.func7, Try.ntmps7
  go_wp2_with fail
  refine H0.out.mono ?_
  rintro e w1 ⟨rfl, b1⟩
  have B1 := Lib.hid b1
  clear b1
  go_wp2_with fail
  refine (H1.out _).mono ?_
  rintro e w2 ⟨rfl, rfl⟩
  go_wp2_with fail
  refine (H2.out _).mono ?_
  rintro e w3 ⟨rfl, b3⟩
  have B3 := Lib.hid (B1.out.trans (b3.mono B1.out.size))
  clear b3
  go_wp2
  go_ret
  exact ⟨by simp, B3.out⟩
end Go.Proofs.Ytnkgbmnjehpkgaa

