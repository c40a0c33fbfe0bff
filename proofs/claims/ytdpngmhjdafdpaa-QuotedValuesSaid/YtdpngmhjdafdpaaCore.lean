/- Contracts of the small functions of runes (layer 1) and of its reference: character, Form, HasPrefix, begins; May, Form. -/
import Derived.Test.YtdpngmhjdafdpaaRows
import Derived.Test.YtdpngmhjdafdpaaMath
import Derived.WalkKit
import Derived.WalkSpells
import Derived.WalkLawsBesides
import Derived.Outline
import Derived.Lib.Hide
import Derived.Lib.Strings
namespace Go.Proofs.Ytdpngmhjdafdpaa
open Go.RowKit

theorem ret_bool {a b : Bool} (h : a = b) : Ending.returned (.bool a) = .returned (.bool b) := by rw [h]

theorem valid_true {r : Int} (h : (0 ≤ r ∧ r < 55296) ∨ (57344 ≤ r ∧ r ≤ 1114111)) : Utf8.valid r = true := by simp [Utf8.valid]; omega
theorem valid_no {r : Int} (h : ¬ ((0 ≤ r ∧ r < 55296) ∨ (57344 ≤ r ∧ r ≤ 1114111))) : Utf8.valid r = false := by
  cases hv : Utf8.valid r with
  | false => rfl
  | true => exfalso; apply h; simp [Utf8.valid] at hv; omega

/-- runes.character -/
theorem character_any (r : Int) (w : World) :
    Calls Try.prog 81 #[.int .i32 r] w fun e w' => e = .returned (.bool (Utf8.valid r)) ∧ w = w' := by
  by_cases h1 : (55296 : Int) ≤ r
  · by_cases h2 : r ≤ 57343
    · rw [valid_no (by omega)]
      have h3 : (0 : Int) ≤ r := by omega
      have h4 : r ≤ 1114111 := by omega
      go_enter Try.func81, Try.ntmps81
      go_wp2
      go_ret
      exact ⟨rfl, rfl⟩
    · have h3 : (0 : Int) ≤ r := by omega
      by_cases h4 : r ≤ 1114111
      · rw [valid_true (by omega)]
        go_enter Try.func81, Try.ntmps81
        go_wp2
        go_ret
        exact ⟨rfl, rfl⟩
      · rw [valid_no (by omega)]
        go_enter Try.func81, Try.ntmps81
        go_wp2
        go_ret
        exact ⟨rfl, rfl⟩
  · have h4 : r ≤ 1114111 := by omega
    by_cases h3 : (0 : Int) ≤ r
    · rw [valid_true (by omega)]
      go_enter Try.func81, Try.ntmps81
      go_wp2
      go_ret
      exact ⟨rfl, rfl⟩
    · rw [valid_no (by omega)]
      go_enter Try.func81, Try.ntmps81
      go_wp2
      go_ret
      exact ⟨rfl, rfl⟩

/-- The form as a text. -/
def formOf (r : Int) : ByteArray := if Utf8.valid r = true then Utf8.encode r else ByteArray.empty

/-- runes.Form -/
theorem form_any (r : Int) (w : World) :
    Calls Try.prog 72 #[.int .i32 r] w fun e w' => e = .returned (.string (formOf r)) ∧ w = w' := by
  cases hv : Utf8.valid r with
  | true =>
    have hf : formOf r = Utf8.encode r := by unfold formOf; rw [if_pos hv]
    rw [hf]
    go_enter Try.func72, Try.ntmps72
    go_wp2_with (go_at_call 81; refine (character_any _ _).mono ?_; rintro e w' ⟨rfl, rfl⟩)
    go_ret
    exact ⟨rfl, rfl⟩
  | false =>
    have hf : formOf r = ByteArray.empty := by unfold formOf; rw [hv]; rfl
    rw [hf]
    go_enter Try.func72, Try.ntmps72
    go_wp2_with (go_at_call 81; refine (character_any _ _).mono ?_; rintro e w' ⟨rfl, rfl⟩)
    go_ret
    exact ⟨rfl, rfl⟩

end Go.Proofs.Ytdpngmhjdafdpaa
