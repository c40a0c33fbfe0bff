/- The walks of the laws NumberKinds, NumberImag. -/
import Derived.Test.YtdpngmhjdafdpaaNuScan
import Derived.Test.YtdpngmhjdafdpaaBulk
namespace Go.Proofs.Ytdpngmhjdafdpaa
open Go.RowKit Em
set_option linter.unusedVariables false
set_option linter.unusedSimpArgs false

theorem ex_one : scanK ⟨#[97, 43, 49, 46, 53, 101, 43, 51, 59]⟩ 2 = 4 ∧ scanT ⟨#[97, 43, 49, 46, 53, 101, 43, 51, 59]⟩ 2 = 8 ∧ scanE ⟨#[97, 43, 49, 46, 53, 101, 43, 51, 59]⟩ 2 = 0 := by decide +kernel
theorem ex_two : scanK ⟨#[48, 120, 49, 101, 43, 51]⟩ 0 = 3 ∧ scanT ⟨#[48, 120, 49, 101, 43, 51]⟩ 0 = 4 ∧ scanE ⟨#[48, 120, 49, 101, 43, 51]⟩ 0 = 0 := by decide +kernel
theorem ex_three : Nm.kind (bl ⟨#[48, 56, 105]⟩) = 5 ∧ Nm.kind (bl ⟨#[48, 56]⟩) = 0 := by decide +kernel

set_option maxHeartbeats 2000000 in
theorem fixed5_any (w : World) :
    Calls Try.prog 11 #[] w fun e w' => e = .returned (.bool true) ∧ Below w.heap.size w w' := by
  have S1 := fun w => scan_any ⟨#[97, 43, 49, 46, 53, 101, 43, 51, 59]⟩ 2 w (by decide)
  have S2 := fun w => scan_any ⟨#[48, 120, 49, 101, 43, 51]⟩ 0 w (by decide)
  have S3 := fun w => kind_any ⟨#[48, 56, 105]⟩ w (by decide)
  have S4 := fun w => kind_any ⟨#[48, 56]⟩ w (by decide)
  rw [ex_one.1, ex_one.2.1, ex_one.2.2] at S1
  rw [ex_two.1, ex_two.2.1, ex_two.2.2] at S2
  rw [ex_three.1] at S3
  rw [ex_three.2] at S4
  go_enter Try.func11, Try.ntmps11
  go_wp2_with fail
  refine (S1 _).mono ?_
  rintro e w1 ⟨rfl, b1⟩
  go_wp2_with fail
  refine (S2 _).mono ?_
  rintro e w2 ⟨rfl, b2⟩
  have c2 := b1.trans (b2.mono b1.size)
  clear b1 b2
  go_wp2_with fail
  refine (S3 _).mono ?_
  rintro e w3 ⟨rfl, b3⟩
  have c3 := c2.trans (b3.mono c2.size)
  clear c2 b3
  go_wp2_with fail
  refine (S4 _).mono ?_
  rintro e w4 ⟨rfl, b4⟩
  have c4 := c3.trans (b4.mono c3.size)
  clear c3 b4
  go_wp2
  go_ret
  exact ⟨rfl, c4⟩

theorem walk_NumberKinds (s : ByteArray) (w : World) (w0 : s.size ≤ maxLen) :
    Calls Try.prog 3 #[.string s] w fun e w' => e = .returned (.bool true) ∧ Below w.heap.size w w' := by
  by_cases h : s.size ≤ 400
  · have h4 : ¬ (400 : Int) < (s.size : Int) := by omega
    have hk := kind_small (bl s)
    have HK := fun w => kind_any s w (by omega)
    have HR := fun w => rkind_any s w (by omega)
    generalize Nm.kind (bl s) = K at HK HR hk
    go_enter Try.func3, Try.ntmps3
    go_wp2_with fail
    refine (fixed5_any w).mono ?_
    rintro e w1 ⟨rfl, b1⟩
    go_wp2_with fail
    refine (HK _).mono ?_
    rintro e w2 ⟨rfl, b2⟩
    have c2 := b1.trans (b2.mono b1.size)
    clear b1 b2
    go_wp2_with fail
    refine (HR _).mono ?_
    rintro e w3 ⟨rfl, rfl⟩
    go_wp2
    go_ret
    exact ⟨rfl, c2⟩
  · have h4 : (400 : Int) < (s.size : Int) := by omega
    go_enter Try.func3, Try.ntmps3
    go_wp2_with fail
    refine (fixed5_any w).mono ?_
    rintro e w1 ⟨rfl, b1⟩
    go_wp2
    go_ret
    exact ⟨rfl, b1⟩

theorem snoc_i (s : ByteArray) : bl (s ++ ⟨#[105]⟩) = bl s ++ [105] := by rw [bl_append]; rfl

set_option maxHeartbeats 2000000 in
theorem walk_NumberImag (s : ByteArray) (w : World) (w0 : s.size ≤ 140737488351232) :
    Calls Try.prog 6 #[.string s] w fun e w' => e = .returned (.bool true) ∧ Below w.heap.size w w' := by
  have HK := fun w => kind_any s w (by omega)
  have HI := fun w => kind_any (s ++ ⟨#[105]⟩) w (by rw [ByteArray.size_append]; show s.size + 1 ≤ _; omega)
  rw [snoc_i] at HI
  obtain ⟨m1, m2, m3, m4⟩ := Nm.kind_imag (bl s)
  have hcat : ¬ 9223372036854775807 < s.size + 1 := by omega
  generalize Nm.kind (bl s ++ [105]) = L at HI m1 m2 m3
  generalize Nm.kind (bl s) = K at HK m1 m2 m4
  have main : ∀ (k l : Nat), K = k → L = l → ((k = 3 ∨ k = 4) ∧ l = 5 ∨ k = 5 ∧ l = 0 ∨ k = 0 ∧ (l = 0 ∨ l = 5)) := by
    rintro k l rfl rfl
    rcases m4 with h | h | h | h
    · exact .inr (.inr ⟨h, m3⟩)
    · exact .inl ⟨.inl h, m1 (.inl h)⟩
    · exact .inl ⟨.inr h, m1 (.inr h)⟩
    · exact .inr (.inl ⟨h, m2 h⟩)
  have way := main K L rfl rfl
  clear main m1 m2 m3 m4
  rcases way with ⟨rfl | rfl, rfl⟩ | ⟨rfl, rfl⟩ | ⟨rfl, rfl | rfl⟩
  all_goals (
    go_enter Try.func6, Try.ntmps6
    go_wp2_with fail
    refine (HK _).mono ?_
    rintro e w1 ⟨rfl, b1⟩
    go_wp2_with fail
    refine (HI _).mono ?_
    rintro e w2 ⟨rfl, b2⟩
    have c2 := b1.trans (b2.mono b1.size)
    clear b1 b2
    go_wp2_with fail
    refine (fixed5_any _).mono ?_
    rintro e w3 ⟨rfl, b3⟩
    go_wp2
    go_ret
    exact ⟨rfl, c2.trans (b3.mono c2.size)⟩)
end Go.Proofs.Ytdpngmhjdafdpaa
