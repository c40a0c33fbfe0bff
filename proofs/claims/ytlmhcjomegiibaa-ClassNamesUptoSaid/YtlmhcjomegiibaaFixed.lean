/- The laws' helper 'fixed' of layer 1: the document's examples. -/
import Derived.Test.YtlmhcjomegiibaaRAll
namespace Go.Proofs.Ytlmhcjomegiibaa
open Go.RowKit

theorem formOf_eq (r : Int) : formOf r = Um.form r := rfl

theorem fx1 (w : World) : Calls Try.prog 15 #[.string ⟨#[97, 195, 169]⟩, .int .i64 1] w fun e w' => e = .returned (.tuple #[.int .i32 233, .int .i64 2]) ∧ Below w.heap.size w w' := by
  have h := read_at ⟨#[97, 195, 169]⟩ 1 w (by decide)
  have e1 : rdC ⟨#[97, 195, 169]⟩ 1 = 233 := by decide +kernel
  have e2 : rdN ⟨#[97, 195, 169]⟩ 1 = 2 := by decide +kernel
  rw [e1, e2] at h
  exact h
theorem fx2 (w : World) : Calls Try.prog 15 #[.string ⟨#[97, 195, 169]⟩, .int .i64 2] w fun e w' => e = .returned (.tuple #[.int .i32 0, .int .i64 0]) ∧ Below w.heap.size w w' := by
  have h := read_at ⟨#[97, 195, 169]⟩ 2 w (by decide)
  have e1 : rdC ⟨#[97, 195, 169]⟩ 2 = 0 := by decide +kernel
  have e2 : rdN ⟨#[97, 195, 169]⟩ 2 = 0 := by decide +kernel
  rw [e1, e2] at h
  exact h
theorem fx3 (w : World) : Calls Try.prog 18 #[.int .i32 8364] w fun e w' => e = .returned (.string ⟨#[226, 130, 172]⟩) ∧ w = w' := by
  have h := form_any 8364 w
  have e1 : formOf 8364 = ⟨#[226, 130, 172]⟩ := by decide +kernel
  rw [e1] at h
  exact h
theorem fx4 (w : World) : Calls Try.prog 23 #[.string ⟨#[97, 255]⟩] w fun e w' => e = .returned (.int .i64 1) ∧ Below w.heap.size w w' := by
  have h := bad_any ⟨#[97, 255]⟩ w
  have e1 : Um.badI ⟨#[97, 255]⟩ = 1 := by decide +kernel
  rw [e1] at h
  exact h

theorem fixed_any (w : World) : Calls Try.prog 17 #[] w fun e w' => e = .returned (.bool true) ∧ Below w.heap.size w w' := by
  go_enter Try.func17, Try.ntmps17
  go_wp2_with fail
  refine (fx1 w).mono ?_
  rintro e w1 ⟨rfl, h1⟩
  go_wp2_with fail
  refine (fx2 w1).mono ?_
  rintro e w2 ⟨rfl, h2⟩
  go_wp2_with fail
  refine (fx3 w2).mono ?_
  rintro e w3 ⟨rfl, rfl⟩
  go_wp2_with fail
  refine (fx4 w2).mono ?_
  rintro e w3 ⟨rfl, h3⟩
  go_wp2
  go_ret
  exact ⟨rfl, (h1.trans (h2.mono h1.size)).trans (h3.mono (Nat.le_trans h1.size h2.size))⟩
end Go.Proofs.Ytlmhcjomegiibaa
