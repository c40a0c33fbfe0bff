/- The reference's Ends and Silent. -/
import Derived.Test.YtnkgbmnjehpkgabGreatGZ
namespace Go.Proofs.YtnkgbmnjehpkgabGreat
open Go.RowKit Em
set_option maxRecDepth 100000
set_option linter.unusedVariables false

theorem rsilent_any (k : Nat) (w : World) : Calls Tryz.prog 21 #[.int .u8 (k : Int)] w fun e w' => e = .returned (.bool (silent k)) ∧ w' = w := by
  unfold silent
  by_cases h1 : 10 ≤ k
  · by_cases h2 : k ≤ 12
    · rw [decide_eq_true (show k = 10 ∨ k = 11 ∨ k = 12 by omega)]
      have d1 : (10 : Int) ≤ (k : Int) := by omega
      have d2 : (k : Int) ≤ 12 := by omega
      clear h1 h2
      go_enter Tryz.func21, Tryz.ntmps21
      go_wp2
      go_ret
      exact ⟨rfl, rfl⟩
    · rw [decide_eq_false (show ¬ (k = 10 ∨ k = 11 ∨ k = 12) by omega)]
      have d1 : (10 : Int) ≤ (k : Int) := by omega
      have d2 : ¬ (k : Int) ≤ 12 := by omega
      clear h1 h2
      go_enter Tryz.func21, Tryz.ntmps21
      go_wp2
      go_ret
      exact ⟨rfl, rfl⟩
  · rw [decide_eq_false (show ¬ (k = 10 ∨ k = 11 ∨ k = 12) by omega)]
    have d1 : ¬ (10 : Int) ≤ (k : Int) := by omega
    clear h1
    go_enter Tryz.func21, Tryz.ntmps21
    go_wp2
    go_ret
    exact ⟨rfl, rfl⟩
end Go.Proofs.YtnkgbmnjehpkgabGreat

