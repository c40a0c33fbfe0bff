/- Contract of runes.begins: it tells whether what is read at the beginning is a character of its own form. -/
import Derived.Test.YtdpngmhjdafdpaaCore
import Derived.Test.YtdpngmhjdafdpaaBytes
namespace Go.Proofs.Ytdpngmhjdafdpaa
open Go.RowKit

theorem form_sub : formOf 65533 = ⟨#[239, 191, 189]⟩ := by decide +kernel

theorem inner_prefix (s : ByteArray) (b : Bool) (w : World) (hb : (decide (3 ≤ s.size) && ((s.extract 0 3).toList == [239, 191, 189])) = b) :
    Calls Try.prog 84 #[.string s, .string ⟨#[239, 191, 189]⟩] w fun e w' => e = .returned (.bool b) ∧ w = w' := by
  subst hb
  by_cases h1 : 3 ≤ s.size
  · rw [decide_eq_true h1, Bool.true_and]
    go_enter Try.func84, Try.ntmps84
    go_wp2
    go_ret
    exact ⟨rfl, rfl⟩
  · rw [decide_eq_false h1, Bool.false_and]
    go_enter Try.func84, Try.ntmps84
    go_wp2
    go_ret
    exact ⟨rfl, rfl⟩

theorem prefix_any (s : ByteArray) (b : Bool) (w : World) (hb : (decide (3 ≤ s.size) && ((s.extract 0 3).toList == [239, 191, 189])) = b) :
    Calls Try.prog 82 #[.string s, .string ⟨#[239, 191, 189]⟩] w fun e w' => e = .returned (.bool b) ∧ w = w' := by
  go_enter Try.func82, Try.ntmps82
  go_wp2_with (go_at_call 84; refine (inner_prefix _ _ _ hb).mono ?_; rintro e w' ⟨rfl, rfl⟩)
  go_ret
  exact ⟨rfl, rfl⟩

theorem prefix_says {s : ByteArray} (hi : 0 < s.size) (h : (Utf8.decode s 0).1 = 65533) :
    (decide (3 ≤ s.size) && ((s.extract 0 3).toList == [239, 191, 189])) = Um.okAt s 0 := by
  rw [Bool.eq_iff_iff, Um.ok_of_sub hi h, Bool.and_eq_true, decide_eq_true_eq]
  constructor
  · rintro ⟨h1, h2⟩
    have := Um.sub_at s 0 (by omega)
    simp only [Nat.zero_add] at this
    rw [this, decide_eq_true_eq] at h2
    exact h2
  · intro k
    have h1 := Um.at_fits k
    have h3 : Um.len 65533 = 3 := by decide
    rw [h3] at h1
    have := Um.sub_at s 0 (by omega)
    simp only [Nat.zero_add] at this
    exact ⟨by omega, by rw [this, decide_eq_true_eq]; exact k⟩

/-- runes.begins, asked of what a range hands out at the beginning. -/
theorem begins_any (s : ByteArray) (r : Int) (w : World) (hi : 0 < s.size) (hr : r = ((Utf8.decode s 0).1 : Nat)) :
    Calls Try.prog 74 #[.string s, .int .i32 r] w fun e w' => e = .returned (.bool (Um.okAt s 0)) ∧ w = w' := by
  by_cases h : (Utf8.decode s 0).1 = 65533
  · have hp := prefix_says hi h
    have hr2 : r = 65533 := by rw [hr, h]; rfl
    clear hr
    subst hr2
    have hf := form_sub
    have Hf := Lib.hid hf
    have Hp := Lib.hid hp
    clear hf hp h
    go_enter Try.func74, Try.ntmps74
    go_wp2_with (first | (go_at_call 72; refine (form_any _ _).mono ?_; rw [Hf.out]; rintro e w' ⟨rfl, rfl⟩) | (go_at_call 82; refine (prefix_any _ _ _ Hp.out).mono ?_; rintro e w' ⟨rfl, rfl⟩))
    go_ret
    exact ⟨rfl, rfl⟩
  · have hk := Um.ok_of_other h
    rw [hk]
    have hne : (r == 65533) = false := by
      cases hh : r == 65533 with
      | false => rfl
      | true => rw [beq_iff_eq] at hh; omega
    have hne2 : (r != 65533) = true := by unfold bne; rw [hne]; rfl
    clear h hk hr
    go_enter Try.func74, Try.ntmps74
    go_wp2
    go_ret
    exact ⟨rfl, rfl⟩

/-- runes.begins of the rest of a text, from a place on. -/
theorem begins_at (s : ByteArray) (n : Nat) (r : Int) (w : World) (hi : n < s.size) (hr : r = ((Utf8.decode s n).1 : Nat)) :
    Calls Try.prog 74 #[.string (s.extract n s.size), .int .i32 r] w fun e w' => e = .returned (.bool (Um.okAt s n)) ∧ w = w' := by
  have h := begins_any (s.extract n s.size) r w (by rw [Lib.tail_size]; omega) (by rw [Lib.tail_decode]; exact hr)
  rw [Um.okAt_tail] at h
  exact h
end Go.Proofs.Ytdpngmhjdafdpaa
