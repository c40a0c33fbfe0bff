/- Contracts of the small functions of number (layer 5): digit, inner, prefix; strings.IndexByte and strings.CutSuffix. -/
import Derived.Test.YtdpngmhjdafdpaaRows
import Derived.Test.YtdpngmhjdafdpaaNuMath
import Derived.WalkKit
import Derived.WalkSpells
import Derived.WalkLawsBesides
import Derived.Outline
import Derived.Lib.Hide
import Derived.Lib.Strings
import Derived.Lib.Bytealg
import Derived.Deep.Draws
import Derived.BigCall
import Derived.BigGuard
import Derived.RegionTactic
namespace Go.Proofs.Ytdpngmhjdafdpaa
open Go.RowKit Em

theorem ret_bool {a b : Bool} (h : a = b) : Ending.returned (.bool a) = .returned (.bool b) := by rw [h]
theorem ret_int {k : IntKind} {a b : Int} (h : a = b) : Ending.returned (.int k a) = .returned (.int k b) := by rw [h]

/-- digit of a number below 256. -/
def dgN (n : Nat) : Nat := if 48 ≤ n ∧ n ≤ 57 then n - 48 else if 97 ≤ n ∧ n ≤ 102 then n - 97 + 10 else if 65 ≤ n ∧ n ≤ 70 then n - 65 + 10 else 16
theorem dgN_eq (c : UInt8) : dgN c.toNat = Nm.dg c := rfl
theorem dgN_le (n : Nat) : dgN n ≤ 16 := by unfold dgN; repeat' split
                                            all_goals omega

/-- number.digit -/
theorem digit_any (n : Nat) (hn : n < 256) (w : World) :
    Calls Try.prog 45 #[.int .u8 n] w fun e w' => e = .returned (.int .i64 (dgN n : Nat)) ∧ w = w' := by
  by_cases h1 : 48 ≤ n ∧ n ≤ 57
  · have e : ((dgN n : Nat) : Int) = (n : Int) - 48 := by unfold dgN; rw [if_pos h1]; omega
    rw [e]
    have a : (48 : Int) ≤ n := by omega
    have b : (n : Int) ≤ 57 := by omega
    have v1 : IntKind.u8.wrap ((n : Int) - 48) = (n : Int) - 48 := by rw [IntKind.wrap_u8]; omega
    have v2 : IntKind.i64.wrap ((n : Int) - 48) = (n : Int) - 48 := by rw [IntKind.wrap_i64]; omega
    clear h1 e
    go_enter Try.func45, Try.ntmps45
    go_wp2
    go_ret
    exact ⟨rfl, rfl⟩
  · have g1 : ¬ ((48 : Int) ≤ n ∧ (n : Int) ≤ 57) := by omega
    by_cases h2 : 97 ≤ n ∧ n ≤ 102
    · have e : ((dgN n : Nat) : Int) = (n : Int) - 97 + 10 := by unfold dgN; rw [if_neg h1, if_pos h2]; omega
      rw [e]
      have a : (97 : Int) ≤ n := by omega
      have b : (n : Int) ≤ 102 := by omega
      have c : ¬ (n : Int) ≤ 57 := by omega
      have c2 : (48 : Int) ≤ n := by omega
      clear h1 e g1
      go_enter Try.func45, Try.ntmps45
      go_wp2
      go_ret
      exact ⟨ret_int (by omega), rfl⟩
    · by_cases h3 : 65 ≤ n ∧ n ≤ 70
      · have e : ((dgN n : Nat) : Int) = (n : Int) - 65 + 10 := by unfold dgN; rw [if_neg h1, if_neg h2, if_pos h3]; omega
        rw [e]
        have a : (65 : Int) ≤ n := by omega
        have b : (n : Int) ≤ 70 := by omega
        have c : ¬ (n : Int) ≤ 57 := by omega
        have c2 : (48 : Int) ≤ n := by omega
        have c3 : ¬ (97 : Int) ≤ n := by omega
        clear h1 h2 e g1
        go_enter Try.func45, Try.ntmps45
        go_wp2
        go_ret
        exact ⟨ret_int (by omega), rfl⟩
      · have e : ((dgN n : Nat) : Int) = 16 := by unfold dgN; rw [if_neg h1, if_neg h2, if_neg h3]; rfl
        rw [e]
        clear e
        go_enter Try.func45, Try.ntmps45
        go_wp2
        all_goals first | (exfalso; omega) | (go_ret; exact ⟨rfl, rfl⟩)

/-- strings.IndexByte -/
theorem index_any (s : ByteArray) (c : Int) (w : World) :
    Calls Try.prog 46 #[.string s, .int .u8 c] w fun e w' => e = .returned (.int .i64 (Lib.indexByte (bl s) c.toNat.toUInt8)) ∧ w = w' := by
  have h1 : Calls Try.prog 62 #[.string s, .int .u8 c] w fun e w' => e = .returned (.int .i64 (Lib.indexByte (bl s) c.toNat.toUInt8)) ∧ w = w' := by
    go_enter Try.func62, Try.ntmps62
    go_wp2_with fail
    rw [run_callFunc_extern Try.func70 (by kernel_rfl) (by kernel_rfl) (by kernel_rfl) (e := Extern.BytealgIndexByte.indexByte) (by kernel_rfl), Lib.run_indexByteString]
    simp only [Result.andThen]
    rw [Oper.upon_value]
    go_wp2
    go_ret
    exact ⟨rfl, rfl⟩
  go_enter Try.func46, Try.ntmps46
  go_wp2_with fail
  refine h1.mono ?_
  rintro e w' ⟨rfl, rfl⟩
  go_wp2
  go_ret
  exact ⟨rfl, rfl⟩
end Go.Proofs.Ytdpngmhjdafdpaa
