/- Contract of term.kidsFit, kind by kind. -/
import Derived.Test.YtklmiabgalanhaaGreatDoorGO
import Derived.Test.YtklmiabgalanhaaGreatDoorTeCore
namespace Go.Proofs.YtklmiabgalanhaaGreatDoor
open Go.Shelf Go.RowKit Em
set_option maxRecDepth 100000
set_option linter.unusedVariables false
set_option linter.unusedSimpArgs false

/-- The table: how many kids at least; whether more may be. -/
def kRow : List (Nat × Bool) := [(0, false), (3, false), (0, true), (1, false), (0, true), (2, false), (3, false), (3, false), (5, false), (2, false), (1, true), (0, true), (0, true), (0, true), (0, true), (2, false), (1, true), (2, false), (1, true), (1, false), (0, true), (3, false), (2, false), (0, true), (2, false), (0, true), (0, false), (0, false), (1, false), (2, false), (2, false), (4, false), (2, false), (1, false), (2, false), (1, false), (1, false), (2, false), (2, false), (2, false), (2, false), (2, false), (1, false), (1, false), (2, false), (1, false), (1, false), (1, false), (1, false), (0, false), (1, false), (2, false), (1, false), (2, false), (1, false), (1, false), (1, false), (1, false), (1, false), (4, false), (3, false), (4, false), (2, false), (1, false), (2, false), (4, false), (3, false), (2, false), (1, false)]
/-- May a kind have so many kids? -/
def kf (k : Nat) (n : Int) : Bool := match kRow[k]? with
  | none => false
  | some (l, m) => if m = true then decide ((l : Int) ≤ n) else decide (n = (l : Int))
theorem kids_0 (n : Int) (w : World) : Calls Tryz.prog 35 #[.int .u8 0, .int .i64 n] w fun e w' => e = .returned (.bool (decide (n = 0))) ∧ w' = w := by
  go_enter Tryz.func35, Tryz.ntmps35
  go_wp2
  go_ret
  exact ⟨rfl, rfl⟩
theorem kids_1 (n : Int) (w : World) : Calls Tryz.prog 35 #[.int .u8 1, .int .i64 n] w fun e w' => e = .returned (.bool (decide (n = 3))) ∧ w' = w := by
  go_enter Tryz.func35, Tryz.ntmps35
  go_wp2
  go_ret
  exact ⟨rfl, rfl⟩
theorem kids_2 (n : Int) (w : World) : Calls Tryz.prog 35 #[.int .u8 2, .int .i64 n] w fun e w' => e = .returned (.bool (true)) ∧ w' = w := by
  go_enter Tryz.func35, Tryz.ntmps35
  go_wp2
  go_ret
  exact ⟨rfl, rfl⟩
theorem kids_3 (n : Int) (w : World) : Calls Tryz.prog 35 #[.int .u8 3, .int .i64 n] w fun e w' => e = .returned (.bool (decide (n = 1))) ∧ w' = w := by
  go_enter Tryz.func35, Tryz.ntmps35
  go_wp2
  go_ret
  exact ⟨rfl, rfl⟩
theorem kids_4 (n : Int) (w : World) : Calls Tryz.prog 35 #[.int .u8 4, .int .i64 n] w fun e w' => e = .returned (.bool (true)) ∧ w' = w := by
  go_enter Tryz.func35, Tryz.ntmps35
  go_wp2
  go_ret
  exact ⟨rfl, rfl⟩
theorem kids_5 (n : Int) (w : World) : Calls Tryz.prog 35 #[.int .u8 5, .int .i64 n] w fun e w' => e = .returned (.bool (decide (n = 2))) ∧ w' = w := by
  go_enter Tryz.func35, Tryz.ntmps35
  go_wp2
  go_ret
  exact ⟨rfl, rfl⟩
theorem kids_6 (n : Int) (w : World) : Calls Tryz.prog 35 #[.int .u8 6, .int .i64 n] w fun e w' => e = .returned (.bool (decide (n = 3))) ∧ w' = w := by
  go_enter Tryz.func35, Tryz.ntmps35
  go_wp2
  go_ret
  exact ⟨rfl, rfl⟩
theorem kids_7 (n : Int) (w : World) : Calls Tryz.prog 35 #[.int .u8 7, .int .i64 n] w fun e w' => e = .returned (.bool (decide (n = 3))) ∧ w' = w := by
  go_enter Tryz.func35, Tryz.ntmps35
  go_wp2
  go_ret
  exact ⟨rfl, rfl⟩
theorem kids_8 (n : Int) (w : World) : Calls Tryz.prog 35 #[.int .u8 8, .int .i64 n] w fun e w' => e = .returned (.bool (decide (n = 5))) ∧ w' = w := by
  go_enter Tryz.func35, Tryz.ntmps35
  go_wp2
  go_ret
  exact ⟨rfl, rfl⟩
theorem kids_9 (n : Int) (w : World) : Calls Tryz.prog 35 #[.int .u8 9, .int .i64 n] w fun e w' => e = .returned (.bool (decide (n = 2))) ∧ w' = w := by
  go_enter Tryz.func35, Tryz.ntmps35
  go_wp2
  go_ret
  exact ⟨rfl, rfl⟩
theorem kids_10 (n : Int) (w : World) : Calls Tryz.prog 35 #[.int .u8 10, .int .i64 n] w fun e w' => e = .returned (.bool (decide ((1 : Int) ≤ n))) ∧ w' = w := by
  go_enter Tryz.func35, Tryz.ntmps35
  go_wp2
  go_ret
  exact ⟨rfl, rfl⟩
theorem kids_11 (n : Int) (w : World) : Calls Tryz.prog 35 #[.int .u8 11, .int .i64 n] w fun e w' => e = .returned (.bool (true)) ∧ w' = w := by
  go_enter Tryz.func35, Tryz.ntmps35
  go_wp2
  go_ret
  exact ⟨rfl, rfl⟩
theorem kids_12 (n : Int) (w : World) : Calls Tryz.prog 35 #[.int .u8 12, .int .i64 n] w fun e w' => e = .returned (.bool (true)) ∧ w' = w := by
  go_enter Tryz.func35, Tryz.ntmps35
  go_wp2
  go_ret
  exact ⟨rfl, rfl⟩
theorem kids_13 (n : Int) (w : World) : Calls Tryz.prog 35 #[.int .u8 13, .int .i64 n] w fun e w' => e = .returned (.bool (true)) ∧ w' = w := by
  go_enter Tryz.func35, Tryz.ntmps35
  go_wp2
  go_ret
  exact ⟨rfl, rfl⟩
theorem kids_14 (n : Int) (w : World) : Calls Tryz.prog 35 #[.int .u8 14, .int .i64 n] w fun e w' => e = .returned (.bool (true)) ∧ w' = w := by
  go_enter Tryz.func35, Tryz.ntmps35
  go_wp2
  go_ret
  exact ⟨rfl, rfl⟩
theorem kids_15 (n : Int) (w : World) : Calls Tryz.prog 35 #[.int .u8 15, .int .i64 n] w fun e w' => e = .returned (.bool (decide (n = 2))) ∧ w' = w := by
  go_enter Tryz.func35, Tryz.ntmps35
  go_wp2
  go_ret
  exact ⟨rfl, rfl⟩
theorem kids_16 (n : Int) (w : World) : Calls Tryz.prog 35 #[.int .u8 16, .int .i64 n] w fun e w' => e = .returned (.bool (decide ((1 : Int) ≤ n))) ∧ w' = w := by
  go_enter Tryz.func35, Tryz.ntmps35
  go_wp2
  go_ret
  exact ⟨rfl, rfl⟩
theorem kids_17 (n : Int) (w : World) : Calls Tryz.prog 35 #[.int .u8 17, .int .i64 n] w fun e w' => e = .returned (.bool (decide (n = 2))) ∧ w' = w := by
  go_enter Tryz.func35, Tryz.ntmps35
  go_wp2
  go_ret
  exact ⟨rfl, rfl⟩
theorem kids_18 (n : Int) (w : World) : Calls Tryz.prog 35 #[.int .u8 18, .int .i64 n] w fun e w' => e = .returned (.bool (decide ((1 : Int) ≤ n))) ∧ w' = w := by
  go_enter Tryz.func35, Tryz.ntmps35
  go_wp2
  go_ret
  exact ⟨rfl, rfl⟩
theorem kids_19 (n : Int) (w : World) : Calls Tryz.prog 35 #[.int .u8 19, .int .i64 n] w fun e w' => e = .returned (.bool (decide (n = 1))) ∧ w' = w := by
  go_enter Tryz.func35, Tryz.ntmps35
  go_wp2
  go_ret
  exact ⟨rfl, rfl⟩
theorem kids_20 (n : Int) (w : World) : Calls Tryz.prog 35 #[.int .u8 20, .int .i64 n] w fun e w' => e = .returned (.bool (true)) ∧ w' = w := by
  go_enter Tryz.func35, Tryz.ntmps35
  go_wp2
  go_ret
  exact ⟨rfl, rfl⟩
theorem kids_21 (n : Int) (w : World) : Calls Tryz.prog 35 #[.int .u8 21, .int .i64 n] w fun e w' => e = .returned (.bool (decide (n = 3))) ∧ w' = w := by
  go_enter Tryz.func35, Tryz.ntmps35
  go_wp2
  go_ret
  exact ⟨rfl, rfl⟩
theorem kids_22 (n : Int) (w : World) : Calls Tryz.prog 35 #[.int .u8 22, .int .i64 n] w fun e w' => e = .returned (.bool (decide (n = 2))) ∧ w' = w := by
  go_enter Tryz.func35, Tryz.ntmps35
  go_wp2
  go_ret
  exact ⟨rfl, rfl⟩
theorem kids_23 (n : Int) (w : World) : Calls Tryz.prog 35 #[.int .u8 23, .int .i64 n] w fun e w' => e = .returned (.bool (true)) ∧ w' = w := by
  go_enter Tryz.func35, Tryz.ntmps35
  go_wp2
  go_ret
  exact ⟨rfl, rfl⟩
theorem kids_24 (n : Int) (w : World) : Calls Tryz.prog 35 #[.int .u8 24, .int .i64 n] w fun e w' => e = .returned (.bool (decide (n = 2))) ∧ w' = w := by
  go_enter Tryz.func35, Tryz.ntmps35
  go_wp2
  go_ret
  exact ⟨rfl, rfl⟩
theorem kids_25 (n : Int) (w : World) : Calls Tryz.prog 35 #[.int .u8 25, .int .i64 n] w fun e w' => e = .returned (.bool (true)) ∧ w' = w := by
  go_enter Tryz.func35, Tryz.ntmps35
  go_wp2
  go_ret
  exact ⟨rfl, rfl⟩
theorem kids_26 (n : Int) (w : World) : Calls Tryz.prog 35 #[.int .u8 26, .int .i64 n] w fun e w' => e = .returned (.bool (decide (n = 0))) ∧ w' = w := by
  go_enter Tryz.func35, Tryz.ntmps35
  go_wp2
  go_ret
  exact ⟨rfl, rfl⟩
theorem kids_27 (n : Int) (w : World) : Calls Tryz.prog 35 #[.int .u8 27, .int .i64 n] w fun e w' => e = .returned (.bool (decide (n = 0))) ∧ w' = w := by
  go_enter Tryz.func35, Tryz.ntmps35
  go_wp2
  go_ret
  exact ⟨rfl, rfl⟩
theorem kids_28 (n : Int) (w : World) : Calls Tryz.prog 35 #[.int .u8 28, .int .i64 n] w fun e w' => e = .returned (.bool (decide (n = 1))) ∧ w' = w := by
  go_enter Tryz.func35, Tryz.ntmps35
  go_wp2
  go_ret
  exact ⟨rfl, rfl⟩
theorem kids_29 (n : Int) (w : World) : Calls Tryz.prog 35 #[.int .u8 29, .int .i64 n] w fun e w' => e = .returned (.bool (decide (n = 2))) ∧ w' = w := by
  go_enter Tryz.func35, Tryz.ntmps35
  go_wp2
  go_ret
  exact ⟨rfl, rfl⟩
theorem kids_30 (n : Int) (w : World) : Calls Tryz.prog 35 #[.int .u8 30, .int .i64 n] w fun e w' => e = .returned (.bool (decide (n = 2))) ∧ w' = w := by
  go_enter Tryz.func35, Tryz.ntmps35
  go_wp2
  go_ret
  exact ⟨rfl, rfl⟩
theorem kids_31 (n : Int) (w : World) : Calls Tryz.prog 35 #[.int .u8 31, .int .i64 n] w fun e w' => e = .returned (.bool (decide (n = 4))) ∧ w' = w := by
  go_enter Tryz.func35, Tryz.ntmps35
  go_wp2
  go_ret
  exact ⟨rfl, rfl⟩
theorem kids_32 (n : Int) (w : World) : Calls Tryz.prog 35 #[.int .u8 32, .int .i64 n] w fun e w' => e = .returned (.bool (decide (n = 2))) ∧ w' = w := by
  go_enter Tryz.func35, Tryz.ntmps35
  go_wp2
  go_ret
  exact ⟨rfl, rfl⟩
theorem kids_33 (n : Int) (w : World) : Calls Tryz.prog 35 #[.int .u8 33, .int .i64 n] w fun e w' => e = .returned (.bool (decide (n = 1))) ∧ w' = w := by
  go_enter Tryz.func35, Tryz.ntmps35
  go_wp2
  go_ret
  exact ⟨rfl, rfl⟩
theorem kids_34 (n : Int) (w : World) : Calls Tryz.prog 35 #[.int .u8 34, .int .i64 n] w fun e w' => e = .returned (.bool (decide (n = 2))) ∧ w' = w := by
  go_enter Tryz.func35, Tryz.ntmps35
  go_wp2
  go_ret
  exact ⟨rfl, rfl⟩
theorem kids_35 (n : Int) (w : World) : Calls Tryz.prog 35 #[.int .u8 35, .int .i64 n] w fun e w' => e = .returned (.bool (decide (n = 1))) ∧ w' = w := by
  go_enter Tryz.func35, Tryz.ntmps35
  go_wp2
  go_ret
  exact ⟨rfl, rfl⟩
theorem kids_36 (n : Int) (w : World) : Calls Tryz.prog 35 #[.int .u8 36, .int .i64 n] w fun e w' => e = .returned (.bool (decide (n = 1))) ∧ w' = w := by
  go_enter Tryz.func35, Tryz.ntmps35
  go_wp2
  go_ret
  exact ⟨rfl, rfl⟩
theorem kids_37 (n : Int) (w : World) : Calls Tryz.prog 35 #[.int .u8 37, .int .i64 n] w fun e w' => e = .returned (.bool (decide (n = 2))) ∧ w' = w := by
  go_enter Tryz.func35, Tryz.ntmps35
  go_wp2
  go_ret
  exact ⟨rfl, rfl⟩
theorem kids_38 (n : Int) (w : World) : Calls Tryz.prog 35 #[.int .u8 38, .int .i64 n] w fun e w' => e = .returned (.bool (decide (n = 2))) ∧ w' = w := by
  go_enter Tryz.func35, Tryz.ntmps35
  go_wp2
  go_ret
  exact ⟨rfl, rfl⟩
theorem kids_39 (n : Int) (w : World) : Calls Tryz.prog 35 #[.int .u8 39, .int .i64 n] w fun e w' => e = .returned (.bool (decide (n = 2))) ∧ w' = w := by
  go_enter Tryz.func35, Tryz.ntmps35
  go_wp2
  go_ret
  exact ⟨rfl, rfl⟩
theorem kids_40 (n : Int) (w : World) : Calls Tryz.prog 35 #[.int .u8 40, .int .i64 n] w fun e w' => e = .returned (.bool (decide (n = 2))) ∧ w' = w := by
  go_enter Tryz.func35, Tryz.ntmps35
  go_wp2
  go_ret
  exact ⟨rfl, rfl⟩
theorem kids_41 (n : Int) (w : World) : Calls Tryz.prog 35 #[.int .u8 41, .int .i64 n] w fun e w' => e = .returned (.bool (decide (n = 2))) ∧ w' = w := by
  go_enter Tryz.func35, Tryz.ntmps35
  go_wp2
  go_ret
  exact ⟨rfl, rfl⟩
theorem kids_42 (n : Int) (w : World) : Calls Tryz.prog 35 #[.int .u8 42, .int .i64 n] w fun e w' => e = .returned (.bool (decide (n = 1))) ∧ w' = w := by
  go_enter Tryz.func35, Tryz.ntmps35
  go_wp2
  go_ret
  exact ⟨rfl, rfl⟩
theorem kids_43 (n : Int) (w : World) : Calls Tryz.prog 35 #[.int .u8 43, .int .i64 n] w fun e w' => e = .returned (.bool (decide (n = 1))) ∧ w' = w := by
  go_enter Tryz.func35, Tryz.ntmps35
  go_wp2
  go_ret
  exact ⟨rfl, rfl⟩
theorem kids_44 (n : Int) (w : World) : Calls Tryz.prog 35 #[.int .u8 44, .int .i64 n] w fun e w' => e = .returned (.bool (decide (n = 2))) ∧ w' = w := by
  go_enter Tryz.func35, Tryz.ntmps35
  go_wp2
  go_ret
  exact ⟨rfl, rfl⟩
theorem kids_45 (n : Int) (w : World) : Calls Tryz.prog 35 #[.int .u8 45, .int .i64 n] w fun e w' => e = .returned (.bool (decide (n = 1))) ∧ w' = w := by
  go_enter Tryz.func35, Tryz.ntmps35
  go_wp2
  go_ret
  exact ⟨rfl, rfl⟩
theorem kids_46 (n : Int) (w : World) : Calls Tryz.prog 35 #[.int .u8 46, .int .i64 n] w fun e w' => e = .returned (.bool (decide (n = 1))) ∧ w' = w := by
  go_enter Tryz.func35, Tryz.ntmps35
  go_wp2
  go_ret
  exact ⟨rfl, rfl⟩
theorem kids_47 (n : Int) (w : World) : Calls Tryz.prog 35 #[.int .u8 47, .int .i64 n] w fun e w' => e = .returned (.bool (decide (n = 1))) ∧ w' = w := by
  go_enter Tryz.func35, Tryz.ntmps35
  go_wp2
  go_ret
  exact ⟨rfl, rfl⟩
theorem kids_48 (n : Int) (w : World) : Calls Tryz.prog 35 #[.int .u8 48, .int .i64 n] w fun e w' => e = .returned (.bool (decide (n = 1))) ∧ w' = w := by
  go_enter Tryz.func35, Tryz.ntmps35
  go_wp2
  go_ret
  exact ⟨rfl, rfl⟩
theorem kids_49 (n : Int) (w : World) : Calls Tryz.prog 35 #[.int .u8 49, .int .i64 n] w fun e w' => e = .returned (.bool (decide (n = 0))) ∧ w' = w := by
  go_enter Tryz.func35, Tryz.ntmps35
  go_wp2
  go_ret
  exact ⟨rfl, rfl⟩
theorem kids_50 (n : Int) (w : World) : Calls Tryz.prog 35 #[.int .u8 50, .int .i64 n] w fun e w' => e = .returned (.bool (decide (n = 1))) ∧ w' = w := by
  go_enter Tryz.func35, Tryz.ntmps35
  go_wp2
  go_ret
  exact ⟨rfl, rfl⟩
theorem kids_51 (n : Int) (w : World) : Calls Tryz.prog 35 #[.int .u8 51, .int .i64 n] w fun e w' => e = .returned (.bool (decide (n = 2))) ∧ w' = w := by
  go_enter Tryz.func35, Tryz.ntmps35
  go_wp2
  go_ret
  exact ⟨rfl, rfl⟩
theorem kids_52 (n : Int) (w : World) : Calls Tryz.prog 35 #[.int .u8 52, .int .i64 n] w fun e w' => e = .returned (.bool (decide (n = 1))) ∧ w' = w := by
  go_enter Tryz.func35, Tryz.ntmps35
  go_wp2
  go_ret
  exact ⟨rfl, rfl⟩
theorem kids_53 (n : Int) (w : World) : Calls Tryz.prog 35 #[.int .u8 53, .int .i64 n] w fun e w' => e = .returned (.bool (decide (n = 2))) ∧ w' = w := by
  go_enter Tryz.func35, Tryz.ntmps35
  go_wp2
  go_ret
  exact ⟨rfl, rfl⟩
theorem kids_54 (n : Int) (w : World) : Calls Tryz.prog 35 #[.int .u8 54, .int .i64 n] w fun e w' => e = .returned (.bool (decide (n = 1))) ∧ w' = w := by
  go_enter Tryz.func35, Tryz.ntmps35
  go_wp2
  go_ret
  exact ⟨rfl, rfl⟩
theorem kids_55 (n : Int) (w : World) : Calls Tryz.prog 35 #[.int .u8 55, .int .i64 n] w fun e w' => e = .returned (.bool (decide (n = 1))) ∧ w' = w := by
  go_enter Tryz.func35, Tryz.ntmps35
  go_wp2
  go_ret
  exact ⟨rfl, rfl⟩
theorem kids_56 (n : Int) (w : World) : Calls Tryz.prog 35 #[.int .u8 56, .int .i64 n] w fun e w' => e = .returned (.bool (decide (n = 1))) ∧ w' = w := by
  go_enter Tryz.func35, Tryz.ntmps35
  go_wp2
  go_ret
  exact ⟨rfl, rfl⟩
theorem kids_57 (n : Int) (w : World) : Calls Tryz.prog 35 #[.int .u8 57, .int .i64 n] w fun e w' => e = .returned (.bool (decide (n = 1))) ∧ w' = w := by
  go_enter Tryz.func35, Tryz.ntmps35
  go_wp2
  go_ret
  exact ⟨rfl, rfl⟩
theorem kids_58 (n : Int) (w : World) : Calls Tryz.prog 35 #[.int .u8 58, .int .i64 n] w fun e w' => e = .returned (.bool (decide (n = 1))) ∧ w' = w := by
  go_enter Tryz.func35, Tryz.ntmps35
  go_wp2
  go_ret
  exact ⟨rfl, rfl⟩
theorem kids_59 (n : Int) (w : World) : Calls Tryz.prog 35 #[.int .u8 59, .int .i64 n] w fun e w' => e = .returned (.bool (decide (n = 4))) ∧ w' = w := by
  go_enter Tryz.func35, Tryz.ntmps35
  go_wp2
  go_ret
  exact ⟨rfl, rfl⟩
theorem kids_60 (n : Int) (w : World) : Calls Tryz.prog 35 #[.int .u8 60, .int .i64 n] w fun e w' => e = .returned (.bool (decide (n = 3))) ∧ w' = w := by
  go_enter Tryz.func35, Tryz.ntmps35
  go_wp2
  go_ret
  exact ⟨rfl, rfl⟩
theorem kids_61 (n : Int) (w : World) : Calls Tryz.prog 35 #[.int .u8 61, .int .i64 n] w fun e w' => e = .returned (.bool (decide (n = 4))) ∧ w' = w := by
  go_enter Tryz.func35, Tryz.ntmps35
  go_wp2
  go_ret
  exact ⟨rfl, rfl⟩
theorem kids_62 (n : Int) (w : World) : Calls Tryz.prog 35 #[.int .u8 62, .int .i64 n] w fun e w' => e = .returned (.bool (decide (n = 2))) ∧ w' = w := by
  go_enter Tryz.func35, Tryz.ntmps35
  go_wp2
  go_ret
  exact ⟨rfl, rfl⟩
theorem kids_63 (n : Int) (w : World) : Calls Tryz.prog 35 #[.int .u8 63, .int .i64 n] w fun e w' => e = .returned (.bool (decide (n = 1))) ∧ w' = w := by
  go_enter Tryz.func35, Tryz.ntmps35
  go_wp2
  go_ret
  exact ⟨rfl, rfl⟩
theorem kids_64 (n : Int) (w : World) : Calls Tryz.prog 35 #[.int .u8 64, .int .i64 n] w fun e w' => e = .returned (.bool (decide (n = 2))) ∧ w' = w := by
  go_enter Tryz.func35, Tryz.ntmps35
  go_wp2
  go_ret
  exact ⟨rfl, rfl⟩
theorem kids_65 (n : Int) (w : World) : Calls Tryz.prog 35 #[.int .u8 65, .int .i64 n] w fun e w' => e = .returned (.bool (decide (n = 4))) ∧ w' = w := by
  go_enter Tryz.func35, Tryz.ntmps35
  go_wp2
  go_ret
  exact ⟨rfl, rfl⟩
theorem kids_66 (n : Int) (w : World) : Calls Tryz.prog 35 #[.int .u8 66, .int .i64 n] w fun e w' => e = .returned (.bool (decide (n = 3))) ∧ w' = w := by
  go_enter Tryz.func35, Tryz.ntmps35
  go_wp2
  go_ret
  exact ⟨rfl, rfl⟩
theorem kids_67 (n : Int) (w : World) : Calls Tryz.prog 35 #[.int .u8 67, .int .i64 n] w fun e w' => e = .returned (.bool (decide (n = 2))) ∧ w' = w := by
  go_enter Tryz.func35, Tryz.ntmps35
  go_wp2
  go_ret
  exact ⟨rfl, rfl⟩
theorem kids_68 (n : Int) (w : World) : Calls Tryz.prog 35 #[.int .u8 68, .int .i64 n] w fun e w' => e = .returned (.bool (decide (n = 1))) ∧ w' = w := by
  go_enter Tryz.func35, Tryz.ntmps35
  go_wp2
  go_ret
  exact ⟨rfl, rfl⟩
theorem kids_big (k : Nat) (n : Int) (w : World) (h : 69 ≤ k) : Calls Tryz.prog 35 #[.int .u8 (k : Int), .int .i64 n] w fun e w' => e = .returned (.bool false) ∧ w' = w := by
  have e0 : ((k : Int) == 0) = false := beq_eq_false_iff_ne.2 (by omega)
  have e1 : ((k : Int) == 1) = false := beq_eq_false_iff_ne.2 (by omega)
  have e2 : ((k : Int) == 2) = false := beq_eq_false_iff_ne.2 (by omega)
  have e3 : ((k : Int) == 3) = false := beq_eq_false_iff_ne.2 (by omega)
  have e4 : ((k : Int) == 4) = false := beq_eq_false_iff_ne.2 (by omega)
  have e5 : ((k : Int) == 5) = false := beq_eq_false_iff_ne.2 (by omega)
  have e6 : ((k : Int) == 6) = false := beq_eq_false_iff_ne.2 (by omega)
  have e7 : ((k : Int) == 7) = false := beq_eq_false_iff_ne.2 (by omega)
  have e8 : ((k : Int) == 8) = false := beq_eq_false_iff_ne.2 (by omega)
  have e9 : ((k : Int) == 9) = false := beq_eq_false_iff_ne.2 (by omega)
  have e10 : ((k : Int) == 10) = false := beq_eq_false_iff_ne.2 (by omega)
  have e11 : ((k : Int) == 11) = false := beq_eq_false_iff_ne.2 (by omega)
  have e12 : ((k : Int) == 12) = false := beq_eq_false_iff_ne.2 (by omega)
  have e13 : ((k : Int) == 13) = false := beq_eq_false_iff_ne.2 (by omega)
  have e14 : ((k : Int) == 14) = false := beq_eq_false_iff_ne.2 (by omega)
  have e15 : ((k : Int) == 15) = false := beq_eq_false_iff_ne.2 (by omega)
  have e16 : ((k : Int) == 16) = false := beq_eq_false_iff_ne.2 (by omega)
  have e17 : ((k : Int) == 17) = false := beq_eq_false_iff_ne.2 (by omega)
  have e18 : ((k : Int) == 18) = false := beq_eq_false_iff_ne.2 (by omega)
  have e19 : ((k : Int) == 19) = false := beq_eq_false_iff_ne.2 (by omega)
  have e20 : ((k : Int) == 20) = false := beq_eq_false_iff_ne.2 (by omega)
  have e21 : ((k : Int) == 21) = false := beq_eq_false_iff_ne.2 (by omega)
  have e22 : ((k : Int) == 22) = false := beq_eq_false_iff_ne.2 (by omega)
  have e23 : ((k : Int) == 23) = false := beq_eq_false_iff_ne.2 (by omega)
  have e24 : ((k : Int) == 24) = false := beq_eq_false_iff_ne.2 (by omega)
  have e25 : ((k : Int) == 25) = false := beq_eq_false_iff_ne.2 (by omega)
  have e26 : ((k : Int) == 26) = false := beq_eq_false_iff_ne.2 (by omega)
  have e27 : ((k : Int) == 27) = false := beq_eq_false_iff_ne.2 (by omega)
  have e28 : ((k : Int) == 28) = false := beq_eq_false_iff_ne.2 (by omega)
  have e29 : ((k : Int) == 29) = false := beq_eq_false_iff_ne.2 (by omega)
  have e30 : ((k : Int) == 30) = false := beq_eq_false_iff_ne.2 (by omega)
  have e31 : ((k : Int) == 31) = false := beq_eq_false_iff_ne.2 (by omega)
  have e32 : ((k : Int) == 32) = false := beq_eq_false_iff_ne.2 (by omega)
  have e33 : ((k : Int) == 33) = false := beq_eq_false_iff_ne.2 (by omega)
  have e34 : ((k : Int) == 34) = false := beq_eq_false_iff_ne.2 (by omega)
  have e35 : ((k : Int) == 35) = false := beq_eq_false_iff_ne.2 (by omega)
  have e36 : ((k : Int) == 36) = false := beq_eq_false_iff_ne.2 (by omega)
  have e37 : ((k : Int) == 37) = false := beq_eq_false_iff_ne.2 (by omega)
  have e38 : ((k : Int) == 38) = false := beq_eq_false_iff_ne.2 (by omega)
  have e39 : ((k : Int) == 39) = false := beq_eq_false_iff_ne.2 (by omega)
  have e40 : ((k : Int) == 40) = false := beq_eq_false_iff_ne.2 (by omega)
  have e41 : ((k : Int) == 41) = false := beq_eq_false_iff_ne.2 (by omega)
  have e42 : ((k : Int) == 42) = false := beq_eq_false_iff_ne.2 (by omega)
  have e43 : ((k : Int) == 43) = false := beq_eq_false_iff_ne.2 (by omega)
  have e44 : ((k : Int) == 44) = false := beq_eq_false_iff_ne.2 (by omega)
  have e45 : ((k : Int) == 45) = false := beq_eq_false_iff_ne.2 (by omega)
  have e46 : ((k : Int) == 46) = false := beq_eq_false_iff_ne.2 (by omega)
  have e47 : ((k : Int) == 47) = false := beq_eq_false_iff_ne.2 (by omega)
  have e48 : ((k : Int) == 48) = false := beq_eq_false_iff_ne.2 (by omega)
  have e49 : ((k : Int) == 49) = false := beq_eq_false_iff_ne.2 (by omega)
  have e50 : ((k : Int) == 50) = false := beq_eq_false_iff_ne.2 (by omega)
  have e51 : ((k : Int) == 51) = false := beq_eq_false_iff_ne.2 (by omega)
  have e52 : ((k : Int) == 52) = false := beq_eq_false_iff_ne.2 (by omega)
  have e53 : ((k : Int) == 53) = false := beq_eq_false_iff_ne.2 (by omega)
  have e54 : ((k : Int) == 54) = false := beq_eq_false_iff_ne.2 (by omega)
  have e55 : ((k : Int) == 55) = false := beq_eq_false_iff_ne.2 (by omega)
  have e56 : ((k : Int) == 56) = false := beq_eq_false_iff_ne.2 (by omega)
  have e57 : ((k : Int) == 57) = false := beq_eq_false_iff_ne.2 (by omega)
  have e58 : ((k : Int) == 58) = false := beq_eq_false_iff_ne.2 (by omega)
  have e59 : ((k : Int) == 59) = false := beq_eq_false_iff_ne.2 (by omega)
  have e60 : ((k : Int) == 60) = false := beq_eq_false_iff_ne.2 (by omega)
  have e61 : ((k : Int) == 61) = false := beq_eq_false_iff_ne.2 (by omega)
  have e62 : ((k : Int) == 62) = false := beq_eq_false_iff_ne.2 (by omega)
  have e63 : ((k : Int) == 63) = false := beq_eq_false_iff_ne.2 (by omega)
  have e64 : ((k : Int) == 64) = false := beq_eq_false_iff_ne.2 (by omega)
  have e65 : ((k : Int) == 65) = false := beq_eq_false_iff_ne.2 (by omega)
  have e66 : ((k : Int) == 66) = false := beq_eq_false_iff_ne.2 (by omega)
  have e67 : ((k : Int) == 67) = false := beq_eq_false_iff_ne.2 (by omega)
  have e68 : ((k : Int) == 68) = false := beq_eq_false_iff_ne.2 (by omega)
  clear h
  go_enter Tryz.func35, Tryz.ntmps35
  go_wp2
  go_ret
  exact ⟨rfl, rfl⟩
theorem kids_any (k : Nat) (n : Int) (w : World) (hn : 0 ≤ n) : Calls Tryz.prog 35 #[.int .u8 (k : Int), .int .i64 n] w fun e w' => e = .returned (.bool (kf k n)) ∧ w' = w := by
  by_cases h : 69 ≤ k
  · have e : kf k n = false := by
      unfold kf
      rw [List.getElem?_eq_none (by show kRow.length ≤ k; have : kRow.length = 69 := rfl; omega)]
    rw [e]
    exact kids_big k n w h
  · have hk : k = 0 ∨ k = 1 ∨ k = 2 ∨ k = 3 ∨ k = 4 ∨ k = 5 ∨ k = 6 ∨ k = 7 ∨ k = 8 ∨ k = 9 ∨ k = 10 ∨ k = 11 ∨ k = 12 ∨ k = 13 ∨ k = 14 ∨ k = 15 ∨ k = 16 ∨ k = 17 ∨ k = 18 ∨ k = 19 ∨ k = 20 ∨ k = 21 ∨ k = 22 ∨ k = 23 ∨ k = 24 ∨ k = 25 ∨ k = 26 ∨ k = 27 ∨ k = 28 ∨ k = 29 ∨ k = 30 ∨ k = 31 ∨ k = 32 ∨ k = 33 ∨ k = 34 ∨ k = 35 ∨ k = 36 ∨ k = 37 ∨ k = 38 ∨ k = 39 ∨ k = 40 ∨ k = 41 ∨ k = 42 ∨ k = 43 ∨ k = 44 ∨ k = 45 ∨ k = 46 ∨ k = 47 ∨ k = 48 ∨ k = 49 ∨ k = 50 ∨ k = 51 ∨ k = 52 ∨ k = 53 ∨ k = 54 ∨ k = 55 ∨ k = 56 ∨ k = 57 ∨ k = 58 ∨ k = 59 ∨ k = 60 ∨ k = 61 ∨ k = 62 ∨ k = 63 ∨ k = 64 ∨ k = 65 ∨ k = 66 ∨ k = 67 ∨ k = 68 := by omega
    rcases hk with rfl | rfl | rfl | rfl | rfl | rfl | rfl | rfl | rfl | rfl | rfl | rfl | rfl | rfl | rfl | rfl | rfl | rfl | rfl | rfl | rfl | rfl | rfl | rfl | rfl | rfl | rfl | rfl | rfl | rfl | rfl | rfl | rfl | rfl | rfl | rfl | rfl | rfl | rfl | rfl | rfl | rfl | rfl | rfl | rfl | rfl | rfl | rfl | rfl | rfl | rfl | rfl | rfl | rfl | rfl | rfl | rfl | rfl | rfl | rfl | rfl | rfl | rfl | rfl | rfl | rfl | rfl | rfl | rfl
    · exact kids_0 n w
    · exact kids_1 n w
    · rw [show kf 2 n = true from decide_eq_true hn]; exact kids_2 n w
    · exact kids_3 n w
    · rw [show kf 4 n = true from decide_eq_true hn]; exact kids_4 n w
    · exact kids_5 n w
    · exact kids_6 n w
    · exact kids_7 n w
    · exact kids_8 n w
    · exact kids_9 n w
    · exact kids_10 n w
    · rw [show kf 11 n = true from decide_eq_true hn]; exact kids_11 n w
    · rw [show kf 12 n = true from decide_eq_true hn]; exact kids_12 n w
    · rw [show kf 13 n = true from decide_eq_true hn]; exact kids_13 n w
    · rw [show kf 14 n = true from decide_eq_true hn]; exact kids_14 n w
    · exact kids_15 n w
    · exact kids_16 n w
    · exact kids_17 n w
    · exact kids_18 n w
    · exact kids_19 n w
    · rw [show kf 20 n = true from decide_eq_true hn]; exact kids_20 n w
    · exact kids_21 n w
    · exact kids_22 n w
    · rw [show kf 23 n = true from decide_eq_true hn]; exact kids_23 n w
    · exact kids_24 n w
    · rw [show kf 25 n = true from decide_eq_true hn]; exact kids_25 n w
    · exact kids_26 n w
    · exact kids_27 n w
    · exact kids_28 n w
    · exact kids_29 n w
    · exact kids_30 n w
    · exact kids_31 n w
    · exact kids_32 n w
    · exact kids_33 n w
    · exact kids_34 n w
    · exact kids_35 n w
    · exact kids_36 n w
    · exact kids_37 n w
    · exact kids_38 n w
    · exact kids_39 n w
    · exact kids_40 n w
    · exact kids_41 n w
    · exact kids_42 n w
    · exact kids_43 n w
    · exact kids_44 n w
    · exact kids_45 n w
    · exact kids_46 n w
    · exact kids_47 n w
    · exact kids_48 n w
    · exact kids_49 n w
    · exact kids_50 n w
    · exact kids_51 n w
    · exact kids_52 n w
    · exact kids_53 n w
    · exact kids_54 n w
    · exact kids_55 n w
    · exact kids_56 n w
    · exact kids_57 n w
    · exact kids_58 n w
    · exact kids_59 n w
    · exact kids_60 n w
    · exact kids_61 n w
    · exact kids_62 n w
    · exact kids_63 n w
    · exact kids_64 n w
    · exact kids_65 n w
    · exact kids_66 n w
    · exact kids_67 n w
    · exact kids_68 n w
end Go.Proofs.YtklmiabgalanhaaGreatDoor
