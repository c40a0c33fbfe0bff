/- The reference's Words, Word, Letter, Digit, Blank, Base; class.Base. -/
import Derived.Test.YtlmhcjomegiibaaWord
namespace Go.Proofs.Ytlmhcjomegiibaa
open Go.RowKit

/-- The word at a place of the list. -/
def wordAt (i : Nat) : ByteArray := ⟨(words.getD i []).toArray⟩
def wordCells : List Value := words.map fun v => .string ⟨v.toArray⟩

theorem word_cell {i : Nat} (h : i < 25) : wordCells[i]? = some (.string (wordAt i)) := by
  unfold wordCells wordAt
  have e : words.length = 25 := by decide
  simp [e, h]

set_option maxRecDepth 100000 in
set_option maxHeartbeats 4000000 in
theorem words_any (w : World) :
    Calls Try.prog 42 #[] w fun e w' => e = .returned (.slice (some ⟨w.heap.size, 0, none⟩) 25 25) ∧ w' = w.alloc (.cells wordCells.toArray 9) := by
  go_enter Try.func42, Try.ntmps42
  go_wp2
  go_ret
  exact ⟨rfl, rfl⟩

theorem isWord_at {s : ByteArray} {i : Nat} (h : i < 25) (he : ((wordAt i).toList == s.toList) = true) : isWord s = true := by
  unfold isWord
  rw [List.any_eq_true]
  have e : words.length = 25 := by decide
  refine ⟨words.getD i [], ?_, ?_⟩
  · rw [show words.getD i [] = words[i]'(by omega) by simp [e, h]]; exact List.getElem_mem _
  · rw [beq_iff_eq, Um.toList_eq] at he
    rw [beq_iff_eq, ← he]
    rfl

theorem isWord_none {s : ByteArray} (h : ∀ j, j < 25 → ((wordAt j).toList == s.toList) = false) : isWord s = false := by
  cases hw : isWord s with
  | false => rfl
  | true =>
    unfold isWord at hw
    obtain ⟨v, hv, he⟩ := List.any_eq_true.1 hw
    obtain ⟨i, hi, rfl⟩ := List.getElem_of_mem hv
    have e : words.length = 25 := by decide
    have := h i (by omega)
    rw [Um.toList_eq (wordAt i)] at this
    have e2 : (wordAt i).data.toList = words[i] := by unfold wordAt; simp [hi]
    rw [e2] at this
    rw [beq_iff_eq] at he
    rw [he] at this
    simp at this

theorem rword_any (s : ByteArray) (w : World) :
    Calls Try.prog 39 #[.string s] w fun e w' => e = .returned (.bool (isWord s)) ∧ Below w.heap.size w w' := by
  have hb : Below w.heap.size w (w.alloc (.cells wordCells.toArray 9)) := (Below.refl _ _).alloc (Nat.le_refl _) _
  have hc : ∀ i, i < 25 → (w.alloc (.cells wordCells.toArray 9)).cell? ⟨w.heap.size, i, none⟩ = some (.string (wordAt i)) := fun i hi => by
    rw [cell_of_row _ _ i _ _ _ (heap_alloc_new w _)]
    have := word_cell hi
    simpa using this
  have Hc := Lib.hid hc
  clear hc
  go_enter Try.func39, Try.ntmps39
  go_wp2_with fail
  refine (words_any w).mono ?_
  rintro e w1 ⟨rfl, rfl⟩
  generalize w.alloc (.cells wordCells.toArray 9) = w1 at hb Hc
  go_wp2
  go_loop [4] (fun i => ∃ k : Nat, k ≤ 25 ∧ i = .int .i64 k ∧ ∀ j, j < k → ((wordAt j).toList == s.toList) = false) (fun i => 25 - (intOf i).toNat)
  case atStart => exact ⟨0, by omega, rfl, fun j hj => by omega⟩
  case round =>
    obtain ⟨k, hk, rfl, hno⟩ := hrel
    have Hno := Lib.hid hno
    clear hno
    by_cases hlt : k < 25
    · have c1 := Hc.out k hlt
      have b0 : (0 : Int) ≤ (k : Int) := by omega
      have b1 : (k : Int) < 25 := by omega
      have d1 : decide ((k : Int) < 25) = true := by simp; omega
      cases hm : ((wordAt k).toList == s.toList) with
      | true =>
        have hfin := isWord_at hlt hm
        have Hfin := Lib.hid hfin
        clear hfin
        go_wp2
        go_ret
        exact ⟨ret_bool Hfin.out.symm, hb⟩
      | false =>
        have Hm := Lib.hid hm
        go_wp2
        go_round
        case rel =>
          refine ⟨k + 1, by omega, by go_num, fun j hj => ?_⟩
          by_cases e : j = k
          · subst e; exact Hm.out
          · exact Hno.out j (by omega)
        case measure => simp [intOf]; omega
    · have hfin := isWord_none (s := s) (fun j hj => Hno.out j (by omega))
      have Hfin := Lib.hid hfin
      clear hfin
      go_wp2
      go_ret
      exact ⟨ret_bool Hfin.out.symm, hb⟩

theorem rletter_any (r : Int) (w : World) :
    Calls Try.prog 29 #[.int .i64 r] w fun e w' => e = .returned (.bool (Cm.inB Cm.letters r)) ∧ Below w.heap.size w w' := by
  have hb : Below w.heap.size w (w.alloc (.cells (Cm.flat .i64 Cm.letters).toArray 53)) := (Below.refl _ _).alloc (Nat.le_refl _) _
  have ht : Cm.Tab (w.alloc (.cells (Cm.flat .i64 Cm.letters).toArray 53)) .i64 w.heap.size Cm.letters := Cm.tab_of (heap_alloc_new w _)
  have H := in_any w.heap.size 33 Cm.letters r _ (by decide) ht
  have HH := Lib.hid H
  clear H ht
  go_enter Try.func29, Try.ntmps29
  go_wp2_with fail
  refine (letters_any w).mono ?_
  rintro e w1 ⟨rfl, rfl⟩
  generalize w.alloc (.cells (Cm.flat .i64 Cm.letters).toArray 53) = w1 at hb HH
  go_wp2_with fail
  refine HH.out.mono ?_
  rintro e w2 ⟨rfl, rfl⟩
  go_wp2
  go_ret
  exact ⟨rfl, hb⟩

theorem rdigit_any (r : Int) (w : World) :
    Calls Try.prog 31 #[.int .i64 r] w fun e w' => e = .returned (.bool (Cm.inB Cm.digits r)) ∧ Below w.heap.size w w' := by
  have hb : Below w.heap.size w (w.alloc (.cells (Cm.flat .i64 Cm.digits).toArray 53)) := (Below.refl _ _).alloc (Nat.le_refl _) _
  have ht : Cm.Tab (w.alloc (.cells (Cm.flat .i64 Cm.digits).toArray 53)) .i64 w.heap.size Cm.digits := Cm.tab_of (heap_alloc_new w _)
  have H := in_any w.heap.size 5 Cm.digits r _ (by decide) ht
  have HH := Lib.hid H
  clear H ht
  go_enter Try.func31, Try.ntmps31
  go_wp2_with fail
  refine (digits_any w).mono ?_
  rintro e w1 ⟨rfl, rfl⟩
  generalize w.alloc (.cells (Cm.flat .i64 Cm.digits).toArray 53) = w1 at hb HH
  go_wp2_with fail
  refine HH.out.mono ?_
  rintro e w2 ⟨rfl, rfl⟩
  go_wp2
  go_ret
  exact ⟨rfl, hb⟩

theorem rblank_any (r : Int) (w : World) :
    Calls Try.prog 33 #[.int .i64 r] w fun e w' => e = .returned (.bool (Cm.inB Cm.blanks r)) ∧ w = w' := by
  rw [Cm.blank_iff]
  by_cases h1 : r = 9
  · subst h1
    go_enter Try.func33, Try.ntmps33
    go_wp2
    go_ret
    exact ⟨rfl, rfl⟩
  · by_cases h2 : r = 10
    · subst h2
      go_enter Try.func33, Try.ntmps33
      go_wp2
      go_ret
      exact ⟨rfl, rfl⟩
    · by_cases h3 : r = 13
      · subst h3
        go_enter Try.func33, Try.ntmps33
        go_wp2
        go_ret
        exact ⟨rfl, rfl⟩
      · by_cases h4 : r = 32
        · subst h4
          go_enter Try.func33, Try.ntmps33
          go_wp2
          go_ret
          exact ⟨rfl, rfl⟩
        · rw [decide_eq_false (by omega)]
          have e1 : (r == 9) = false := beq_eq_false_iff_ne.2 h1
          have e2 : (r == 10) = false := beq_eq_false_iff_ne.2 h2
          have e3 : (r == 13) = false := beq_eq_false_iff_ne.2 h3
          have e4 : (r == 32) = false := beq_eq_false_iff_ne.2 h4
          clear h1 h2 h3 h4
          go_enter Try.func33, Try.ntmps33
          go_wp2
          go_ret
          exact ⟨rfl, rfl⟩
end Go.Proofs.Ytlmhcjomegiibaa
