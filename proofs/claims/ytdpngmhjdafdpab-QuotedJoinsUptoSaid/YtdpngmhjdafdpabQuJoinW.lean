/- The last way through the law QuotedJoins: both are strings. -/
import Derived.Test.YtdpngmhjdafdpabQuLawA
namespace Go.Proofs.Ytdpngmhjdafdpab
open Go.Shelf Go.RowKit Em
set_option linter.unusedVariables false
set_option linter.unusedSimpArgs false

set_option maxHeartbeats 1000000 in
theorem joins_walk (a b A1 B1 : ByteArray) (w : World) (m : Nat)
    (VA : ∀ w : World, Calls Try.prog 9 #[.string a] w fun e w' => e = .returned (.tuple #[.string A1, .int .i64 (0 : Nat)]) ∧ Below w.heap.size w w')
    (VB : ∀ w : World, Calls Try.prog 9 #[.string b] w fun e w' => e = .returned (.tuple #[.string B1, .int .i64 (0 : Nat)]) ∧ Below w.heap.size w w')
    (VX : ∀ w : World, Calls Try.prog 9 #[.string (a.extract 0 m ++ b.extract 1 b.size)] w fun e w' => e = .returned (.tuple #[.string (A1 ++ B1), .int .i64 (0 : Nat)]) ∧ Below w.heap.size w w')
    (pa : 0 < a.size) (pb : 0 < b.size) (pa' : (0 : Int) < (a.size : Int)) (pb' : (0 : Int) < (b.size : Int))
    (ea : (a[0]'pa).toNat = 34) (eb : (b[0]'pb).toNat = 34) (ea2 : (((a[0]'pa).toNat : Int) != 34) = false) (eb2 : (((b[0]'pb).toNat : Int) != 34) = false)
    (w0 : a.size ≤ 1048576) (w1 : b.size ≤ 1048576)
    (s1 : (a.extract 0 m).size = m) (s2 : (b.extract 1 b.size).size = b.size - 1) (cl : (a.size : Int) - 1 = (m : Int)) (m0 : (0 : Int) ≤ (m : Int)) (hmx : m ≤ 4611686018427387000)
    (hw1 : wrap64 ((a.size : Int) - 1) = (m : Int)) (hw2 : IntKind.i64.wrap (m : Int) = (m : Int)) (m3 : ¬ (a.size : Int) < (m : Int)) (m4 : ¬ (m : Int) < 0) (m5 : (m : Int).toNat = m)
    (m1 : (m : Int) ≤ (a.size : Int)) (m2 : (1 : Int) ≤ (b.size : Int)) (f1 : ¬ 9223372036854775807 < m + (b.size - 1)) (f2 : ¬ 9223372036854775807 < A1.size + B1.size)
    (sa : A1.size ≤ 1048576) (sb : B1.size ≤ 1048576) :
    Calls Try.prog 4 #[.string a, .string b] w fun e w' => e = .returned (.bool true) ∧ Below w.heap.size w w' := by
  go_enter Try.func4, Try.ntmps4
  go_wp2_with fail
  refine (VA _).mono ?_
  rintro e w1 ⟨rfl, c1⟩
  go_wp2_with fail
  refine (VB _).mono ?_
  rintro e w2 ⟨rfl, d2⟩
  have c2 := c1.trans (d2.mono c1.size)
  clear c1 d2
  go_wp2_with fail
  refine (fixed6_any _).mono ?_
  rintro e w3 ⟨rfl, d3⟩
  have c3 := c2.trans (d3.mono c2.size)
  clear c2 d3 VA VB
  go_wp2
  go_region_with (go_at_call 9; refine (VX _).mono ?_; rintro e w4 ⟨rfl, d4⟩)
  all_goals (
    have c4 := (below_drw c3 1).trans (d4.mono c3.size)
    go_wp2
    go_ret
    exact ⟨rfl, c4⟩)

end Go.Proofs.Ytdpngmhjdafdpab
