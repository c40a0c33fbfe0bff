/- Contracts of the reference's tables of layer 2, and of its 'in'. -/
import Derived.Test.YtnkgbmnjehpkgabGD
import Derived.Test.YtnkgbmnjehpkgabGA
namespace Go.Proofs.Ytnkgbmnjehpkgab
open Go.RowKit
set_option maxRecDepth 100000



end Go.Proofs.Ytnkgbmnjehpkgab

/- The words of the language: class.Word and the reference's Word. -/
namespace Go.Proofs.Ytnkgbmnjehpkgab
open Go.RowKit
set_option maxRecDepth 100000

def words : List (List UInt8) := [[98, 114, 101, 97, 107], [99, 97, 115, 101], [99, 104, 97, 110], [99, 111, 110, 115, 116], [99, 111, 110, 116, 105, 110, 117, 101], [100, 101, 102, 97, 117, 108, 116], [100, 101, 102, 101, 114], [101, 108, 115, 101], [102, 97, 108, 108, 116, 104, 114, 111, 117, 103, 104], [102, 111, 114], [102, 117, 110, 99], [103, 111], [103, 111, 116, 111], [105, 102], [105, 109, 112, 111, 114, 116], [105, 110, 116, 101, 114, 102, 97, 99, 101], [109, 97, 112], [112, 97, 99, 107, 97, 103, 101], [114, 97, 110, 103, 101], [114, 101, 116, 117, 114, 110], [115, 101, 108, 101, 99, 116], [115, 116, 114, 117, 99, 116], [115, 119, 105, 116, 99, 104], [116, 121, 112, 101], [118, 97, 114]]
def isWord (s : ByteArray) : Bool := words.any fun v => s.toList == v

theorem word_no (s : ByteArray) (w : World) (h : isWord s = false) :
    Calls Try.prog 48 #[.string s] w fun e w' => e = .returned (.bool false) ∧ w = w' := by
  unfold isWord at h
  have h0 := List.any_eq_false.1 h
  clear h
  have e0 : (s.toList == [98, 114, 101, 97, 107]) = false := by simpa using h0 [98, 114, 101, 97, 107] (by simp [words])
  have e1 : (s.toList == [99, 97, 115, 101]) = false := by simpa using h0 [99, 97, 115, 101] (by simp [words])
  have e2 : (s.toList == [99, 104, 97, 110]) = false := by simpa using h0 [99, 104, 97, 110] (by simp [words])
  have e3 : (s.toList == [99, 111, 110, 115, 116]) = false := by simpa using h0 [99, 111, 110, 115, 116] (by simp [words])
  have e4 : (s.toList == [99, 111, 110, 116, 105, 110, 117, 101]) = false := by simpa using h0 [99, 111, 110, 116, 105, 110, 117, 101] (by simp [words])
  have e5 : (s.toList == [100, 101, 102, 97, 117, 108, 116]) = false := by simpa using h0 [100, 101, 102, 97, 117, 108, 116] (by simp [words])
  have e6 : (s.toList == [100, 101, 102, 101, 114]) = false := by simpa using h0 [100, 101, 102, 101, 114] (by simp [words])
  have e7 : (s.toList == [101, 108, 115, 101]) = false := by simpa using h0 [101, 108, 115, 101] (by simp [words])
  have e8 : (s.toList == [102, 97, 108, 108, 116, 104, 114, 111, 117, 103, 104]) = false := by simpa using h0 [102, 97, 108, 108, 116, 104, 114, 111, 117, 103, 104] (by simp [words])
  have e9 : (s.toList == [102, 111, 114]) = false := by simpa using h0 [102, 111, 114] (by simp [words])
  have e10 : (s.toList == [102, 117, 110, 99]) = false := by simpa using h0 [102, 117, 110, 99] (by simp [words])
  have e11 : (s.toList == [103, 111]) = false := by simpa using h0 [103, 111] (by simp [words])
  have e12 : (s.toList == [103, 111, 116, 111]) = false := by simpa using h0 [103, 111, 116, 111] (by simp [words])
  have e13 : (s.toList == [105, 102]) = false := by simpa using h0 [105, 102] (by simp [words])
  have e14 : (s.toList == [105, 109, 112, 111, 114, 116]) = false := by simpa using h0 [105, 109, 112, 111, 114, 116] (by simp [words])
  have e15 : (s.toList == [105, 110, 116, 101, 114, 102, 97, 99, 101]) = false := by simpa using h0 [105, 110, 116, 101, 114, 102, 97, 99, 101] (by simp [words])
  have e16 : (s.toList == [109, 97, 112]) = false := by simpa using h0 [109, 97, 112] (by simp [words])
  have e17 : (s.toList == [112, 97, 99, 107, 97, 103, 101]) = false := by simpa using h0 [112, 97, 99, 107, 97, 103, 101] (by simp [words])
  have e18 : (s.toList == [114, 97, 110, 103, 101]) = false := by simpa using h0 [114, 97, 110, 103, 101] (by simp [words])
  have e19 : (s.toList == [114, 101, 116, 117, 114, 110]) = false := by simpa using h0 [114, 101, 116, 117, 114, 110] (by simp [words])
  have e20 : (s.toList == [115, 101, 108, 101, 99, 116]) = false := by simpa using h0 [115, 101, 108, 101, 99, 116] (by simp [words])
  have e21 : (s.toList == [115, 116, 114, 117, 99, 116]) = false := by simpa using h0 [115, 116, 114, 117, 99, 116] (by simp [words])
  have e22 : (s.toList == [115, 119, 105, 116, 99, 104]) = false := by simpa using h0 [115, 119, 105, 116, 99, 104] (by simp [words])
  have e23 : (s.toList == [116, 121, 112, 101]) = false := by simpa using h0 [116, 121, 112, 101] (by simp [words])
  have e24 : (s.toList == [118, 97, 114]) = false := by simpa using h0 [118, 97, 114] (by simp [words])
  clear h0
  go_enter Try.func48, Try.ntmps48
  go_wp2
  go_ret
  exact ⟨rfl, rfl⟩

theorem word_break (w : World) : Calls Try.prog 48 #[.string ⟨#[98, 114, 101, 97, 107]⟩] w fun e w' => e = .returned (.bool true) ∧ w = w' := by
  go_enter Try.func48, Try.ntmps48
  go_wp2
  go_ret
  exact ⟨rfl, rfl⟩
theorem word_case (w : World) : Calls Try.prog 48 #[.string ⟨#[99, 97, 115, 101]⟩] w fun e w' => e = .returned (.bool true) ∧ w = w' := by
  go_enter Try.func48, Try.ntmps48
  go_wp2
  go_ret
  exact ⟨rfl, rfl⟩
theorem word_chan (w : World) : Calls Try.prog 48 #[.string ⟨#[99, 104, 97, 110]⟩] w fun e w' => e = .returned (.bool true) ∧ w = w' := by
  go_enter Try.func48, Try.ntmps48
  go_wp2
  go_ret
  exact ⟨rfl, rfl⟩
theorem word_const (w : World) : Calls Try.prog 48 #[.string ⟨#[99, 111, 110, 115, 116]⟩] w fun e w' => e = .returned (.bool true) ∧ w = w' := by
  go_enter Try.func48, Try.ntmps48
  go_wp2
  go_ret
  exact ⟨rfl, rfl⟩
theorem word_continue (w : World) : Calls Try.prog 48 #[.string ⟨#[99, 111, 110, 116, 105, 110, 117, 101]⟩] w fun e w' => e = .returned (.bool true) ∧ w = w' := by
  go_enter Try.func48, Try.ntmps48
  go_wp2
  go_ret
  exact ⟨rfl, rfl⟩
theorem word_default (w : World) : Calls Try.prog 48 #[.string ⟨#[100, 101, 102, 97, 117, 108, 116]⟩] w fun e w' => e = .returned (.bool true) ∧ w = w' := by
  go_enter Try.func48, Try.ntmps48
  go_wp2
  go_ret
  exact ⟨rfl, rfl⟩
theorem word_defer (w : World) : Calls Try.prog 48 #[.string ⟨#[100, 101, 102, 101, 114]⟩] w fun e w' => e = .returned (.bool true) ∧ w = w' := by
  go_enter Try.func48, Try.ntmps48
  go_wp2
  go_ret
  exact ⟨rfl, rfl⟩
theorem word_else (w : World) : Calls Try.prog 48 #[.string ⟨#[101, 108, 115, 101]⟩] w fun e w' => e = .returned (.bool true) ∧ w = w' := by
  go_enter Try.func48, Try.ntmps48
  go_wp2
  go_ret
  exact ⟨rfl, rfl⟩
theorem word_fallthrough (w : World) : Calls Try.prog 48 #[.string ⟨#[102, 97, 108, 108, 116, 104, 114, 111, 117, 103, 104]⟩] w fun e w' => e = .returned (.bool true) ∧ w = w' := by
  go_enter Try.func48, Try.ntmps48
  go_wp2
  go_ret
  exact ⟨rfl, rfl⟩
theorem word_for (w : World) : Calls Try.prog 48 #[.string ⟨#[102, 111, 114]⟩] w fun e w' => e = .returned (.bool true) ∧ w = w' := by
  go_enter Try.func48, Try.ntmps48
  go_wp2
  go_ret
  exact ⟨rfl, rfl⟩
theorem word_func (w : World) : Calls Try.prog 48 #[.string ⟨#[102, 117, 110, 99]⟩] w fun e w' => e = .returned (.bool true) ∧ w = w' := by
  go_enter Try.func48, Try.ntmps48
  go_wp2
  go_ret
  exact ⟨rfl, rfl⟩
theorem word_go (w : World) : Calls Try.prog 48 #[.string ⟨#[103, 111]⟩] w fun e w' => e = .returned (.bool true) ∧ w = w' := by
  go_enter Try.func48, Try.ntmps48
  go_wp2
  go_ret
  exact ⟨rfl, rfl⟩
theorem word_goto (w : World) : Calls Try.prog 48 #[.string ⟨#[103, 111, 116, 111]⟩] w fun e w' => e = .returned (.bool true) ∧ w = w' := by
  go_enter Try.func48, Try.ntmps48
  go_wp2
  go_ret
  exact ⟨rfl, rfl⟩
theorem word_if (w : World) : Calls Try.prog 48 #[.string ⟨#[105, 102]⟩] w fun e w' => e = .returned (.bool true) ∧ w = w' := by
  go_enter Try.func48, Try.ntmps48
  go_wp2
  go_ret
  exact ⟨rfl, rfl⟩
theorem word_import (w : World) : Calls Try.prog 48 #[.string ⟨#[105, 109, 112, 111, 114, 116]⟩] w fun e w' => e = .returned (.bool true) ∧ w = w' := by
  go_enter Try.func48, Try.ntmps48
  go_wp2
  go_ret
  exact ⟨rfl, rfl⟩
theorem word_interface (w : World) : Calls Try.prog 48 #[.string ⟨#[105, 110, 116, 101, 114, 102, 97, 99, 101]⟩] w fun e w' => e = .returned (.bool true) ∧ w = w' := by
  go_enter Try.func48, Try.ntmps48
  go_wp2
  go_ret
  exact ⟨rfl, rfl⟩
theorem word_map (w : World) : Calls Try.prog 48 #[.string ⟨#[109, 97, 112]⟩] w fun e w' => e = .returned (.bool true) ∧ w = w' := by
  go_enter Try.func48, Try.ntmps48
  go_wp2
  go_ret
  exact ⟨rfl, rfl⟩
theorem word_package (w : World) : Calls Try.prog 48 #[.string ⟨#[112, 97, 99, 107, 97, 103, 101]⟩] w fun e w' => e = .returned (.bool true) ∧ w = w' := by
  go_enter Try.func48, Try.ntmps48
  go_wp2
  go_ret
  exact ⟨rfl, rfl⟩
theorem word_range (w : World) : Calls Try.prog 48 #[.string ⟨#[114, 97, 110, 103, 101]⟩] w fun e w' => e = .returned (.bool true) ∧ w = w' := by
  go_enter Try.func48, Try.ntmps48
  go_wp2
  go_ret
  exact ⟨rfl, rfl⟩
theorem word_return (w : World) : Calls Try.prog 48 #[.string ⟨#[114, 101, 116, 117, 114, 110]⟩] w fun e w' => e = .returned (.bool true) ∧ w = w' := by
  go_enter Try.func48, Try.ntmps48
  go_wp2
  go_ret
  exact ⟨rfl, rfl⟩
theorem word_select (w : World) : Calls Try.prog 48 #[.string ⟨#[115, 101, 108, 101, 99, 116]⟩] w fun e w' => e = .returned (.bool true) ∧ w = w' := by
  go_enter Try.func48, Try.ntmps48
  go_wp2
  go_ret
  exact ⟨rfl, rfl⟩
theorem word_struct (w : World) : Calls Try.prog 48 #[.string ⟨#[115, 116, 114, 117, 99, 116]⟩] w fun e w' => e = .returned (.bool true) ∧ w = w' := by
  go_enter Try.func48, Try.ntmps48
  go_wp2
  go_ret
  exact ⟨rfl, rfl⟩
theorem word_switch (w : World) : Calls Try.prog 48 #[.string ⟨#[115, 119, 105, 116, 99, 104]⟩] w fun e w' => e = .returned (.bool true) ∧ w = w' := by
  go_enter Try.func48, Try.ntmps48
  go_wp2
  go_ret
  exact ⟨rfl, rfl⟩
theorem word_type (w : World) : Calls Try.prog 48 #[.string ⟨#[116, 121, 112, 101]⟩] w fun e w' => e = .returned (.bool true) ∧ w = w' := by
  go_enter Try.func48, Try.ntmps48
  go_wp2
  go_ret
  exact ⟨rfl, rfl⟩
theorem word_var (w : World) : Calls Try.prog 48 #[.string ⟨#[118, 97, 114]⟩] w fun e w' => e = .returned (.bool true) ∧ w = w' := by
  go_enter Try.func48, Try.ntmps48
  go_wp2
  go_ret
  exact ⟨rfl, rfl⟩

theorem word_yes (s : ByteArray) (w : World) (h : isWord s = true) :
    Calls Try.prog 48 #[.string s] w fun e w' => e = .returned (.bool true) ∧ w = w' := by
  unfold isWord at h
  obtain ⟨v, hv, he⟩ := List.any_eq_true.1 h
  rw [beq_iff_eq, Um.toList_eq] at he
  have hs : s = ⟨v.toArray⟩ := Um.bytes_ext he
  subst hs
  clear he h
  simp only [words, List.mem_cons, List.not_mem_nil, or_false] at hv
  rcases hv with rfl | rfl | rfl | rfl | rfl | rfl | rfl | rfl | rfl | rfl | rfl | rfl | rfl | rfl | rfl | rfl | rfl | rfl | rfl | rfl | rfl | rfl | rfl | rfl | rfl

  · exact word_break w
  · exact word_case w
  · exact word_chan w
  · exact word_const w
  · exact word_continue w
  · exact word_default w
  · exact word_defer w
  · exact word_else w
  · exact word_fallthrough w
  · exact word_for w
  · exact word_func w
  · exact word_go w
  · exact word_goto w
  · exact word_if w
  · exact word_import w
  · exact word_interface w
  · exact word_map w
  · exact word_package w
  · exact word_range w
  · exact word_return w
  · exact word_select w
  · exact word_struct w
  · exact word_switch w
  · exact word_type w
  · exact word_var w

theorem word_any (s : ByteArray) (w : World) :
    Calls Try.prog 48 #[.string s] w fun e w' => e = .returned (.bool (isWord s)) ∧ w = w' := by
  cases h : isWord s with
  | true => exact word_yes s w h
  | false => exact word_no s w h
end Go.Proofs.Ytnkgbmnjehpkgab

/- The reference's Words, Word, Letter, Digit, Blank, Base; class.Base. -/
namespace Go.Proofs.Ytnkgbmnjehpkgab
open Go.RowKit
set_option maxRecDepth 100000

/-- The word at a place of the list. -/
def wordAt (i : Nat) : ByteArray := ⟨(words.getD i []).toArray⟩
def wordCells : List Value := words.map fun v => .string ⟨v.toArray⟩

theorem word_cell {i : Nat} (h : i < 25) : wordCells[i]? = some (.string (wordAt i)) := by
  unfold wordCells wordAt
  have e : words.length = 25 := by decide
  simp [e, h]


theorem isWord_at {s : ByteArray} {i : Nat} (h : i < 25) (he : ((wordAt i).toList == s.toList) = true) : isWord s = true := by
  unfold isWord
  rw [List.any_eq_true]
  have e : words.length = 25 := by decide
  refine ⟨words.getD i [], ?_, ?_⟩
  · rw [show words.getD i [] = words[i]'(by omega) by simp [e, h]]; exact List.getElem_mem _
  · rw [beq_iff_eq, Um.toList_eq] at he
    rw [beq_iff_eq, ← he]
    rfl

theorem isWord_none {s : ByteArray} (h : ∀ j, j < 25 → ((wordAt j).toList == s.toList) = false) : isWord s = false := by
  cases hw : isWord s with
  | false => rfl
  | true =>
    unfold isWord at hw
    obtain ⟨v, hv, he⟩ := List.any_eq_true.1 hw
    obtain ⟨i, hi, rfl⟩ := List.getElem_of_mem hv
    have e : words.length = 25 := by decide
    have := h i (by omega)
    rw [Um.toList_eq (wordAt i)] at this
    have e2 : (wordAt i).data.toList = words[i] := by unfold wordAt; simp [hi]
    rw [e2] at this
    rw [beq_iff_eq] at he
    rw [he] at this
    simp at this




end Go.Proofs.Ytnkgbmnjehpkgab

