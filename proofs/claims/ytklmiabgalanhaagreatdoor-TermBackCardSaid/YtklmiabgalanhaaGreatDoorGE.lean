/- Contracts of the reference's tables of layer 2, and of its 'in'. -/
import Derived.Test.YtklmiabgalanhaaGreatDoorGD
import Derived.Test.YtklmiabgalanhaaGreatDoorGA
namespace Go.Proofs.YtklmiabgalanhaaGreatDoor
open Go.RowKit
set_option maxRecDepth 100000

theorem in_any (g c : Nat) (l : List (Int × Int)) (r : Int) (w : World) (hmax : l.length ≤ 1000000) (ht : Cm.Tab w .i64 g l) :
    Calls Tryz.prog 101 #[.int .i64 r, .slice (some ⟨g, 0, none⟩) l.length c] w fun e w' => e = .returned (.bool (Cm.inB l r)) ∧ w = w' := by
  obtain ⟨hg, ht⟩ := ht
  have Ht := Lib.hid ht
  clear ht
  go_enter Tryz.func101, Tryz.ntmps101
  go_wp2
  go_loop [5] (fun i => ∃ k : Nat, k ≤ l.length ∧ i = .int .i64 k ∧ Cm.inB (l.drop k) r = Cm.inB l r) (fun i => l.length - (intOf i).toNat)
  case atStart => exact ⟨0, by omega, rfl, rfl⟩
  case round =>
    obtain ⟨k, hk, rfl, hd⟩ := hrel
    have Hd := Lib.hid hd
    clear hd
    by_cases hlt : k < l.length
    · obtain ⟨c1, c2⟩ := Ht.out k hlt
      have b0 : (0 : Int) ≤ (k : Int) := by omega
      have b1 : (k : Int) < (l.length : Int) := by omega
      have e1 := Cm.drop_at hlt
      have hs : Cm.inB (l.drop k) r = if Cm.lo l k ≤ r ∧ r ≤ Cm.hi l k then true else Cm.inB (l.drop (k + 1)) r := by rw [e1]; rfl
      have Hs := Lib.hid hs
      clear hs e1
      by_cases h1 : Cm.lo l k ≤ r
      · by_cases h2 : r ≤ Cm.hi l k
        · have hfin : Cm.inB l r = true := by rw [← Hd.out, Hs.out, if_pos ⟨h1, h2⟩]
          have Hfin := Lib.hid hfin
          clear hfin
          go_wp2
          go_ret
          exact ⟨ret_bool Hfin.out.symm, rfl⟩
        · go_wp2
          go_round
          case rel => exact ⟨k + 1, by omega, by go_num, by rw [← Hd.out, Hs.out, if_neg (fun h => h2 h.2)]⟩
          case measure => simp [intOf]; omega
      · go_wp2
        go_round
        case rel => exact ⟨k + 1, by omega, by go_num, by rw [← Hd.out, Hs.out, if_neg (fun h => h1 h.1)]⟩
        case measure => simp [intOf]; omega
    · have hfin : Cm.inB l r = false := by rw [← Hd.out, List.drop_of_length_le (by omega)]; rfl
      have Hfin := Lib.hid hfin
      clear hfin
      go_wp2
      go_ret
      exact ⟨ret_bool Hfin.out.symm, rfl⟩

set_option maxRecDepth 100000 in
set_option maxHeartbeats 4000000 in
theorem digits_any (w : World) :
    Calls Tryz.prog 103 #[] w fun e w' => e = .returned (.slice (some ⟨w.heap.size, 0, none⟩) 5 5) ∧ w' = w.alloc (.cells (Cm.flat .i64 Cm.digits).toArray 148) := by
  go_enter Tryz.func103, Tryz.ntmps103
  go_wp2
  go_ret
  exact ⟨rfl, rfl⟩

set_option maxRecDepth 100000 in
set_option maxHeartbeats 4000000 in
theorem letters_any (w : World) :
    Calls Tryz.prog 102 #[] w fun e w' => e = .returned (.slice (some ⟨w.heap.size, 0, none⟩) 33 33) ∧ w' = w.alloc (.cells (Cm.flat .i64 Cm.letters).toArray 148) := by
  go_enter Tryz.func102, Tryz.ntmps102
  go_wp2
  go_ret
  exact ⟨rfl, rfl⟩
end Go.Proofs.YtklmiabgalanhaaGreatDoor

/- The words of the language: class.Word and the reference's Word. -/
namespace Go.Proofs.YtklmiabgalanhaaGreatDoor
open Go.RowKit
set_option maxRecDepth 100000

def words : List (List UInt8) := [[98, 114, 101, 97, 107], [99, 97, 115, 101], [99, 104, 97, 110], [99, 111, 110, 115, 116], [99, 111, 110, 116, 105, 110, 117, 101], [100, 101, 102, 97, 117, 108, 116], [100, 101, 102, 101, 114], [101, 108, 115, 101], [102, 97, 108, 108, 116, 104, 114, 111, 117, 103, 104], [102, 111, 114], [102, 117, 110, 99], [103, 111], [103, 111, 116, 111], [105, 102], [105, 109, 112, 111, 114, 116], [105, 110, 116, 101, 114, 102, 97, 99, 101], [109, 97, 112], [112, 97, 99, 107, 97, 103, 101], [114, 97, 110, 103, 101], [114, 101, 116, 117, 114, 110], [115, 101, 108, 101, 99, 116], [115, 116, 114, 117, 99, 116], [115, 119, 105, 116, 99, 104], [116, 121, 112, 101], [118, 97, 114]]
def isWord (s : ByteArray) : Bool := words.any fun v => s.toList == v

theorem word_no (s : ByteArray) (w : World) (h : isWord s = false) :
    Calls Tryz.prog 75 #[.string s] w fun e w' => e = .returned (.bool false) ∧ w = w' := by
  unfold isWord at h
  have h0 := List.any_eq_false.1 h
  clear h
  have e0 : (s.toList == [98, 114, 101, 97, 107]) = false := by simpa using h0 [98, 114, 101, 97, 107] (by simp [words])
  have e1 : (s.toList == [99, 97, 115, 101]) = false := by simpa using h0 [99, 97, 115, 101] (by simp [words])
  have e2 : (s.toList == [99, 104, 97, 110]) = false := by simpa using h0 [99, 104, 97, 110] (by simp [words])
  have e3 : (s.toList == [99, 111, 110, 115, 116]) = false := by simpa using h0 [99, 111, 110, 115, 116] (by simp [words])
  have e4 : (s.toList == [99, 111, 110, 116, 105, 110, 117, 101]) = false := by simpa using h0 [99, 111, 110, 116, 105, 110, 117, 101] (by simp [words])
  have e5 : (s.toList == [100, 101, 102, 97, 117, 108, 116]) = false := by simpa using h0 [100, 101, 102, 97, 117, 108, 116] (by simp [words])
  have e6 : (s.toList == [100, 101, 102, 101, 114]) = false := by simpa using h0 [100, 101, 102, 101, 114] (by simp [words])
  have e7 : (s.toList == [101, 108, 115, 101]) = false := by simpa using h0 [101, 108, 115, 101] (by simp [words])
  have e8 : (s.toList == [102, 97, 108, 108, 116, 104, 114, 111, 117, 103, 104]) = false := by simpa using h0 [102, 97, 108, 108, 116, 104, 114, 111, 117, 103, 104] (by simp [words])
  have e9 : (s.toList == [102, 111, 114]) = false := by simpa using h0 [102, 111, 114] (by simp [words])
  have e10 : (s.toList == [102, 117, 110, 99]) = false := by simpa using h0 [102, 117, 110, 99] (by simp [words])
  have e11 : (s.toList == [103, 111]) = false := by simpa using h0 [103, 111] (by simp [words])
  have e12 : (s.toList == [103, 111, 116, 111]) = false := by simpa using h0 [103, 111, 116, 111] (by simp [words])
  have e13 : (s.toList == [105, 102]) = false := by simpa using h0 [105, 102] (by simp [words])
  have e14 : (s.toList == [105, 109, 112, 111, 114, 116]) = false := by simpa using h0 [105, 109, 112, 111, 114, 116] (by simp [words])
  have e15 : (s.toList == [105, 110, 116, 101, 114, 102, 97, 99, 101]) = false := by simpa using h0 [105, 110, 116, 101, 114, 102, 97, 99, 101] (by simp [words])
  have e16 : (s.toList == [109, 97, 112]) = false := by simpa using h0 [109, 97, 112] (by simp [words])
  have e17 : (s.toList == [112, 97, 99, 107, 97, 103, 101]) = false := by simpa using h0 [112, 97, 99, 107, 97, 103, 101] (by simp [words])
  have e18 : (s.toList == [114, 97, 110, 103, 101]) = false := by simpa using h0 [114, 97, 110, 103, 101] (by simp [words])
  have e19 : (s.toList == [114, 101, 116, 117, 114, 110]) = false := by simpa using h0 [114, 101, 116, 117, 114, 110] (by simp [words])
  have e20 : (s.toList == [115, 101, 108, 101, 99, 116]) = false := by simpa using h0 [115, 101, 108, 101, 99, 116] (by simp [words])
  have e21 : (s.toList == [115, 116, 114, 117, 99, 116]) = false := by simpa using h0 [115, 116, 114, 117, 99, 116] (by simp [words])
  have e22 : (s.toList == [115, 119, 105, 116, 99, 104]) = false := by simpa using h0 [115, 119, 105, 116, 99, 104] (by simp [words])
  have e23 : (s.toList == [116, 121, 112, 101]) = false := by simpa using h0 [116, 121, 112, 101] (by simp [words])
  have e24 : (s.toList == [118, 97, 114]) = false := by simpa using h0 [118, 97, 114] (by simp [words])
  clear h0
  go_enter Tryz.func75, Tryz.ntmps75
  go_wp2
  go_ret
  exact ⟨rfl, rfl⟩

theorem word_break (w : World) : Calls Tryz.prog 75 #[.string ⟨#[98, 114, 101, 97, 107]⟩] w fun e w' => e = .returned (.bool true) ∧ w = w' := by
  go_enter Tryz.func75, Tryz.ntmps75
  go_wp2
  go_ret
  exact ⟨rfl, rfl⟩
theorem word_case (w : World) : Calls Tryz.prog 75 #[.string ⟨#[99, 97, 115, 101]⟩] w fun e w' => e = .returned (.bool true) ∧ w = w' := by
  go_enter Tryz.func75, Tryz.ntmps75
  go_wp2
  go_ret
  exact ⟨rfl, rfl⟩
theorem word_chan (w : World) : Calls Tryz.prog 75 #[.string ⟨#[99, 104, 97, 110]⟩] w fun e w' => e = .returned (.bool true) ∧ w = w' := by
  go_enter Tryz.func75, Tryz.ntmps75
  go_wp2
  go_ret
  exact ⟨rfl, rfl⟩
theorem word_const (w : World) : Calls Tryz.prog 75 #[.string ⟨#[99, 111, 110, 115, 116]⟩] w fun e w' => e = .returned (.bool true) ∧ w = w' := by
  go_enter Tryz.func75, Tryz.ntmps75
  go_wp2
  go_ret
  exact ⟨rfl, rfl⟩
theorem word_continue (w : World) : Calls Tryz.prog 75 #[.string ⟨#[99, 111, 110, 116, 105, 110, 117, 101]⟩] w fun e w' => e = .returned (.bool true) ∧ w = w' := by
  go_enter Tryz.func75, Tryz.ntmps75
  go_wp2
  go_ret
  exact ⟨rfl, rfl⟩
theorem word_default (w : World) : Calls Tryz.prog 75 #[.string ⟨#[100, 101, 102, 97, 117, 108, 116]⟩] w fun e w' => e = .returned (.bool true) ∧ w = w' := by
  go_enter Tryz.func75, Tryz.ntmps75
  go_wp2
  go_ret
  exact ⟨rfl, rfl⟩
theorem word_defer (w : World) : Calls Tryz.prog 75 #[.string ⟨#[100, 101, 102, 101, 114]⟩] w fun e w' => e = .returned (.bool true) ∧ w = w' := by
  go_enter Tryz.func75, Tryz.ntmps75
  go_wp2
  go_ret
  exact ⟨rfl, rfl⟩
theorem word_else (w : World) : Calls Tryz.prog 75 #[.string ⟨#[101, 108, 115, 101]⟩] w fun e w' => e = .returned (.bool true) ∧ w = w' := by
  go_enter Tryz.func75, Tryz.ntmps75
  go_wp2
  go_ret
  exact ⟨rfl, rfl⟩
theorem word_fallthrough (w : World) : Calls Tryz.prog 75 #[.string ⟨#[102, 97, 108, 108, 116, 104, 114, 111, 117, 103, 104]⟩] w fun e w' => e = .returned (.bool true) ∧ w = w' := by
  go_enter Tryz.func75, Tryz.ntmps75
  go_wp2
  go_ret
  exact ⟨rfl, rfl⟩
theorem word_for (w : World) : Calls Tryz.prog 75 #[.string ⟨#[102, 111, 114]⟩] w fun e w' => e = .returned (.bool true) ∧ w = w' := by
  go_enter Tryz.func75, Tryz.ntmps75
  go_wp2
  go_ret
  exact ⟨rfl, rfl⟩
theorem word_func (w : World) : Calls Tryz.prog 75 #[.string ⟨#[102, 117, 110, 99]⟩] w fun e w' => e = .returned (.bool true) ∧ w = w' := by
  go_enter Tryz.func75, Tryz.ntmps75
  go_wp2
  go_ret
  exact ⟨rfl, rfl⟩
theorem word_go (w : World) : Calls Tryz.prog 75 #[.string ⟨#[103, 111]⟩] w fun e w' => e = .returned (.bool true) ∧ w = w' := by
  go_enter Tryz.func75, Tryz.ntmps75
  go_wp2
  go_ret
  exact ⟨rfl, rfl⟩
theorem word_goto (w : World) : Calls Tryz.prog 75 #[.string ⟨#[103, 111, 116, 111]⟩] w fun e w' => e = .returned (.bool true) ∧ w = w' := by
  go_enter Tryz.func75, Tryz.ntmps75
  go_wp2
  go_ret
  exact ⟨rfl, rfl⟩
theorem word_if (w : World) : Calls Tryz.prog 75 #[.string ⟨#[105, 102]⟩] w fun e w' => e = .returned (.bool true) ∧ w = w' := by
  go_enter Tryz.func75, Tryz.ntmps75
  go_wp2
  go_ret
  exact ⟨rfl, rfl⟩
theorem word_import (w : World) : Calls Tryz.prog 75 #[.string ⟨#[105, 109, 112, 111, 114, 116]⟩] w fun e w' => e = .returned (.bool true) ∧ w = w' := by
  go_enter Tryz.func75, Tryz.ntmps75
  go_wp2
  go_ret
  exact ⟨rfl, rfl⟩
theorem word_interface (w : World) : Calls Tryz.prog 75 #[.string ⟨#[105, 110, 116, 101, 114, 102, 97, 99, 101]⟩] w fun e w' => e = .returned (.bool true) ∧ w = w' := by
  go_enter Tryz.func75, Tryz.ntmps75
  go_wp2
  go_ret
  exact ⟨rfl, rfl⟩
theorem word_map (w : World) : Calls Tryz.prog 75 #[.string ⟨#[109, 97, 112]⟩] w fun e w' => e = .returned (.bool true) ∧ w = w' := by
  go_enter Tryz.func75, Tryz.ntmps75
  go_wp2
  go_ret
  exact ⟨rfl, rfl⟩
theorem word_package (w : World) : Calls Tryz.prog 75 #[.string ⟨#[112, 97, 99, 107, 97, 103, 101]⟩] w fun e w' => e = .returned (.bool true) ∧ w = w' := by
  go_enter Tryz.func75, Tryz.ntmps75
  go_wp2
  go_ret
  exact ⟨rfl, rfl⟩
theorem word_range (w : World) : Calls Tryz.prog 75 #[.string ⟨#[114, 97, 110, 103, 101]⟩] w fun e w' => e = .returned (.bool true) ∧ w = w' := by
  go_enter Tryz.func75, Tryz.ntmps75
  go_wp2
  go_ret
  exact ⟨rfl, rfl⟩
theorem word_return (w : World) : Calls Tryz.prog 75 #[.string ⟨#[114, 101, 116, 117, 114, 110]⟩] w fun e w' => e = .returned (.bool true) ∧ w = w' := by
  go_enter Tryz.func75, Tryz.ntmps75
  go_wp2
  go_ret
  exact ⟨rfl, rfl⟩
theorem word_select (w : World) : Calls Tryz.prog 75 #[.string ⟨#[115, 101, 108, 101, 99, 116]⟩] w fun e w' => e = .returned (.bool true) ∧ w = w' := by
  go_enter Tryz.func75, Tryz.ntmps75
  go_wp2
  go_ret
  exact ⟨rfl, rfl⟩
theorem word_struct (w : World) : Calls Tryz.prog 75 #[.string ⟨#[115, 116, 114, 117, 99, 116]⟩] w fun e w' => e = .returned (.bool true) ∧ w = w' := by
  go_enter Tryz.func75, Tryz.ntmps75
  go_wp2
  go_ret
  exact ⟨rfl, rfl⟩
theorem word_switch (w : World) : Calls Tryz.prog 75 #[.string ⟨#[115, 119, 105, 116, 99, 104]⟩] w fun e w' => e = .returned (.bool true) ∧ w = w' := by
  go_enter Tryz.func75, Tryz.ntmps75
  go_wp2
  go_ret
  exact ⟨rfl, rfl⟩
theorem word_type (w : World) : Calls Tryz.prog 75 #[.string ⟨#[116, 121, 112, 101]⟩] w fun e w' => e = .returned (.bool true) ∧ w = w' := by
  go_enter Tryz.func75, Tryz.ntmps75
  go_wp2
  go_ret
  exact ⟨rfl, rfl⟩
theorem word_var (w : World) : Calls Tryz.prog 75 #[.string ⟨#[118, 97, 114]⟩] w fun e w' => e = .returned (.bool true) ∧ w = w' := by
  go_enter Tryz.func75, Tryz.ntmps75
  go_wp2
  go_ret
  exact ⟨rfl, rfl⟩

theorem word_yes (s : ByteArray) (w : World) (h : isWord s = true) :
    Calls Tryz.prog 75 #[.string s] w fun e w' => e = .returned (.bool true) ∧ w = w' := by
  unfold isWord at h
  obtain ⟨v, hv, he⟩ := List.any_eq_true.1 h
  rw [beq_iff_eq, Um.toList_eq] at he
  have hs : s = ⟨v.toArray⟩ := Um.bytes_ext he
  subst hs
  clear he h
  simp only [words, List.mem_cons, List.not_mem_nil, or_false] at hv
  rcases hv with rfl | rfl | rfl | rfl | rfl | rfl | rfl | rfl | rfl | rfl | rfl | rfl | rfl | rfl | rfl | rfl | rfl | rfl | rfl | rfl | rfl | rfl | rfl | rfl | rfl

  · exact word_break w
  · exact word_case w
  · exact word_chan w
  · exact word_const w
  · exact word_continue w
  · exact word_default w
  · exact word_defer w
  · exact word_else w
  · exact word_fallthrough w
  · exact word_for w
  · exact word_func w
  · exact word_go w
  · exact word_goto w
  · exact word_if w
  · exact word_import w
  · exact word_interface w
  · exact word_map w
  · exact word_package w
  · exact word_range w
  · exact word_return w
  · exact word_select w
  · exact word_struct w
  · exact word_switch w
  · exact word_type w
  · exact word_var w

theorem word_any (s : ByteArray) (w : World) :
    Calls Tryz.prog 75 #[.string s] w fun e w' => e = .returned (.bool (isWord s)) ∧ w = w' := by
  cases h : isWord s with
  | true => exact word_yes s w h
  | false => exact word_no s w h
end Go.Proofs.YtklmiabgalanhaaGreatDoor

/- The reference's Words, Word, Letter, Digit, Blank, Base; class.Base. -/
namespace Go.Proofs.YtklmiabgalanhaaGreatDoor
open Go.RowKit
set_option maxRecDepth 100000

/-- The word at a place of the list. -/
def wordAt (i : Nat) : ByteArray := ⟨(words.getD i []).toArray⟩
def wordCells : List Value := words.map fun v => .string ⟨v.toArray⟩

theorem word_cell {i : Nat} (h : i < 25) : wordCells[i]? = some (.string (wordAt i)) := by
  unfold wordCells wordAt
  have e : words.length = 25 := by decide
  simp [e, h]

set_option maxRecDepth 100000 in
set_option maxHeartbeats 4000000 in
theorem words_any (w : World) :
    Calls Tryz.prog 100 #[] w fun e w' => e = .returned (.slice (some ⟨w.heap.size, 0, none⟩) 25 25) ∧ w' = w.alloc (.cells wordCells.toArray 9) := by
  go_enter Tryz.func100, Tryz.ntmps100
  go_wp2
  go_ret
  exact ⟨rfl, rfl⟩

theorem isWord_at {s : ByteArray} {i : Nat} (h : i < 25) (he : ((wordAt i).toList == s.toList) = true) : isWord s = true := by
  unfold isWord
  rw [List.any_eq_true]
  have e : words.length = 25 := by decide
  refine ⟨words.getD i [], ?_, ?_⟩
  · rw [show words.getD i [] = words[i]'(by omega) by simp [e, h]]; exact List.getElem_mem _
  · rw [beq_iff_eq, Um.toList_eq] at he
    rw [beq_iff_eq, ← he]
    rfl

theorem isWord_none {s : ByteArray} (h : ∀ j, j < 25 → ((wordAt j).toList == s.toList) = false) : isWord s = false := by
  cases hw : isWord s with
  | false => rfl
  | true =>
    unfold isWord at hw
    obtain ⟨v, hv, he⟩ := List.any_eq_true.1 hw
    obtain ⟨i, hi, rfl⟩ := List.getElem_of_mem hv
    have e : words.length = 25 := by decide
    have := h i (by omega)
    rw [Um.toList_eq (wordAt i)] at this
    have e2 : (wordAt i).data.toList = words[i] := by unfold wordAt; simp [hi]
    rw [e2] at this
    rw [beq_iff_eq] at he
    rw [he] at this
    simp at this

theorem rword_any (s : ByteArray) (w : World) :
    Calls Tryz.prog 81 #[.string s] w fun e w' => e = .returned (.bool (isWord s)) ∧ Below w.heap.size w w' := by
  have hb : Below w.heap.size w (w.alloc (.cells wordCells.toArray 9)) := (Below.refl _ _).alloc (Nat.le_refl _) _
  have hc : ∀ i, i < 25 → (w.alloc (.cells wordCells.toArray 9)).cell? ⟨w.heap.size, i, none⟩ = some (.string (wordAt i)) := fun i hi => by
    rw [cell_of_row _ _ i _ _ _ (heap_alloc_new w _)]
    have := word_cell hi
    simpa using this
  have Hc := Lib.hid hc
  clear hc
  go_enter Tryz.func81, Tryz.ntmps81
  go_wp2_with fail
  refine (words_any w).mono ?_
  rintro e w1 ⟨rfl, rfl⟩
  generalize w.alloc (.cells wordCells.toArray 9) = w1 at hb Hc
  go_wp2
  go_loop [4] (fun i => ∃ k : Nat, k ≤ 25 ∧ i = .int .i64 k ∧ ∀ j, j < k → ((wordAt j).toList == s.toList) = false) (fun i => 25 - (intOf i).toNat)
  case atStart => exact ⟨0, by omega, rfl, fun j hj => by omega⟩
  case round =>
    obtain ⟨k, hk, rfl, hno⟩ := hrel
    have Hno := Lib.hid hno
    clear hno
    by_cases hlt : k < 25
    · have c1 := Hc.out k hlt
      have b0 : (0 : Int) ≤ (k : Int) := by omega
      have b1 : (k : Int) < 25 := by omega
      have d1 : decide ((k : Int) < 25) = true := by simp; omega
      cases hm : ((wordAt k).toList == s.toList) with
      | true =>
        have hfin := isWord_at hlt hm
        have Hfin := Lib.hid hfin
        clear hfin
        go_wp2
        go_ret
        exact ⟨ret_bool Hfin.out.symm, hb⟩
      | false =>
        have Hm := Lib.hid hm
        go_wp2
        go_round
        case rel =>
          refine ⟨k + 1, by omega, by go_num, fun j hj => ?_⟩
          by_cases e : j = k
          · subst e; exact Hm.out
          · exact Hno.out j (by omega)
        case measure => simp [intOf]; omega
    · have hfin := isWord_none (s := s) (fun j hj => Hno.out j (by omega))
      have Hfin := Lib.hid hfin
      clear hfin
      go_wp2
      go_ret
      exact ⟨ret_bool Hfin.out.symm, hb⟩

theorem rletter_any (r : Int) (w : World) :
    Calls Tryz.prog 82 #[.int .i64 r] w fun e w' => e = .returned (.bool (Cm.inB Cm.letters r)) ∧ Below w.heap.size w w' := by
  have hb : Below w.heap.size w (w.alloc (.cells (Cm.flat .i64 Cm.letters).toArray 148)) := (Below.refl _ _).alloc (Nat.le_refl _) _
  have ht : Cm.Tab (w.alloc (.cells (Cm.flat .i64 Cm.letters).toArray 148)) .i64 w.heap.size Cm.letters := Cm.tab_of (heap_alloc_new w _)
  have H := in_any w.heap.size 33 Cm.letters r _ (by decide) ht
  have HH := Lib.hid H
  clear H ht
  go_enter Tryz.func82, Tryz.ntmps82
  go_wp2_with fail
  refine (letters_any w).mono ?_
  rintro e w1 ⟨rfl, rfl⟩
  generalize w.alloc (.cells (Cm.flat .i64 Cm.letters).toArray 148) = w1 at hb HH
  go_wp2_with fail
  refine HH.out.mono ?_
  rintro e w2 ⟨rfl, rfl⟩
  go_wp2
  go_ret
  exact ⟨rfl, hb⟩

theorem rdigit_any (r : Int) (w : World) :
    Calls Tryz.prog 83 #[.int .i64 r] w fun e w' => e = .returned (.bool (Cm.inB Cm.digits r)) ∧ Below w.heap.size w w' := by
  have hb : Below w.heap.size w (w.alloc (.cells (Cm.flat .i64 Cm.digits).toArray 148)) := (Below.refl _ _).alloc (Nat.le_refl _) _
  have ht : Cm.Tab (w.alloc (.cells (Cm.flat .i64 Cm.digits).toArray 148)) .i64 w.heap.size Cm.digits := Cm.tab_of (heap_alloc_new w _)
  have H := in_any w.heap.size 5 Cm.digits r _ (by decide) ht
  have HH := Lib.hid H
  clear H ht
  go_enter Tryz.func83, Tryz.ntmps83
  go_wp2_with fail
  refine (digits_any w).mono ?_
  rintro e w1 ⟨rfl, rfl⟩
  generalize w.alloc (.cells (Cm.flat .i64 Cm.digits).toArray 148) = w1 at hb HH
  go_wp2_with fail
  refine HH.out.mono ?_
  rintro e w2 ⟨rfl, rfl⟩
  go_wp2
  go_ret
  exact ⟨rfl, hb⟩

end Go.Proofs.YtklmiabgalanhaaGreatDoor

