/- Plain mathematics of lines: where lines begin and end, lines and columns of places. Nothing of the program is named here. -/
import Derived.Test.YtckioinjgdjohabEdTrimMath
namespace Go.Proofs.Ytckioinjgdjohab.Em

/-- Where lines begin behind the first one: a text of which k bytes stand ahead. -/
def nl : Nat → List UInt8 → List Nat
  | _, [] => []
  | k, c :: l => if c = 10 then (k + 1) :: nl (k + 1) l else nl (k + 1) l
/-- Where the lines of a text begin. -/
def starts (l : List UInt8) : List Nat := 0 :: nl 0 l
def nthN (S : List Nat) (i : Nat) : Nat := S.getD i 0

theorem nl_append : ∀ (a b : List UInt8) (k : Nat), nl k (a ++ b) = nl k a ++ nl (k + a.length) b
  | [], b, k => rfl
  | c :: a, b, k => by
    have ih := nl_append a b (k + 1)
    rw [List.cons_append, nl, nl, ih, List.length_cons, show k + 1 + a.length = k + (a.length + 1) by omega]
    split <;> rfl
theorem nl_range : ∀ (l : List UInt8) (k : Nat), ∀ x ∈ nl k l, k < x ∧ x ≤ k + l.length
  | [], _, x, h => by simp [nl] at h
  | c :: l, k, x, h => by
    rw [nl] at h
    split at h
    · rcases List.mem_cons.1 h with rfl | h
      · rw [List.length_cons]; omega
      · have := nl_range l (k + 1) x h; rw [List.length_cons]; omega
    · have := nl_range l (k + 1) x h; rw [List.length_cons]; omega
theorem nl_count : ∀ (l : List UInt8) (k : Nat), (nl k l).length = l.count 10
  | [], _ => rfl
  | c :: l, k => by
    have ih := nl_count l (k + 1)
    rw [nl, List.count_cons]
    split
    · rename_i h; rw [List.length_cons, ih, if_pos (by rw [h]; rfl)]
    · rename_i h; rw [ih, if_neg (by simpa using h)]; rfl

/-- How many lines begin up to a place. -/
def ln (l : List UInt8) (off : Nat) : Nat := 1 + (nl 0 (l.take off)).length
/-- Where the line of a place begins. -/
def bg (l : List UInt8) : Nat → Nat
  | 0 => 0
  | i + 1 => if l[i]? = some 10 then i + 1 else bg l i

theorem ln_zero (l : List UInt8) : ln l 0 = 1 := by unfold ln; rw [List.take_zero]; rfl
theorem take_step {l : List UInt8} {i : Nat} {c : UInt8} (h : l[i]? = some c) : l.take (i + 1) = l.take i ++ [c] := by
  obtain ⟨hi, he⟩ := List.getElem?_eq_some_iff.1 h
  rw [List.take_succ_eq_append_getElem hi, he]
theorem ln_hit {l : List UInt8} {i : Nat} (h : l[i]? = some 10) : ln l (i + 1) = ln l i + 1 ∧ bg l (i + 1) = i + 1 := by
  refine ⟨?_, by rw [bg, if_pos h]⟩
  unfold ln
  rw [take_step h, nl_append, List.length_append]
  rfl
theorem ln_miss {l : List UInt8} {i : Nat} {c : UInt8} (h : l[i]? = some c) (hc : c ≠ 10) : ln l (i + 1) = ln l i ∧ bg l (i + 1) = bg l i := by
  refine ⟨?_, by rw [bg, if_neg (by rw [h]; intro e; exact hc (Option.some.inj e))]⟩
  unfold ln
  rw [take_step h, nl_append, List.length_append]
  simp [nl, hc]
theorem bg_le (l : List UInt8) : ∀ i, bg l i ≤ i
  | 0 => Nat.le_refl _
  | i + 1 => by
    rw [bg]; split
    · exact Nat.le_refl _
    · have := bg_le l i; omega

theorem last_bg (l : List UInt8) : ∀ i, i ≤ l.length → (0 :: nl 0 (l.take i)).getLast? = some (bg l i)
  | 0, _ => by rw [List.take_zero]; rfl
  | i + 1, h => by
    have hi : i < l.length := by omega
    have e : l[i]? = some l[i] := List.getElem?_eq_getElem hi
    have hl : (l.take i).length = i := by rw [List.length_take]; omega
    rw [take_step e, nl_append, hl]
    by_cases hc : l[i] = 10
    · rw [(ln_hit (by rw [e, hc])).2, hc]
      have : (0 :: (nl 0 (l.take i) ++ nl (0 + i) [10])) = (0 :: nl 0 (l.take i)) ++ [i + 1] := by simp [nl]
      rw [this, List.getLast?_append]; rfl
    · rw [(ln_miss e hc).2]
      have : nl (0 + i) [l[i]] = [] := by simp [nl, hc]
      rw [this, List.append_nil]
      exact last_bg l i (by omega)

theorem starts_split (l : List UInt8) (off : Nat) (h : off ≤ l.length) : starts l = (0 :: nl 0 (l.take off)) ++ nl off (l.drop off) := by
  have hl : (l.take off).length = off := by rw [List.length_take]; omega
  unfold starts
  rw [List.cons_append]
  congr 1
  have := nl_append (l.take off) (l.drop off) 0
  rw [List.take_append_drop, hl, Nat.zero_add] at this
  exact this

theorem starts_len (l : List UInt8) : (starts l).length = 1 + l.count 10 := by
  unfold starts; rw [List.length_cons, nl_count]; omega
theorem ln_le (l : List UInt8) (off : Nat) (h : off ≤ l.length) : ln l off ≤ (starts l).length := by
  rw [starts_split l off h, List.length_append, List.length_cons]; unfold ln; omega
theorem ln_pos (l : List UInt8) (off : Nat) : 1 ≤ ln l off := by unfold ln; omega

/-- The line's beginning, among all. -/
theorem starts_bg (l : List UInt8) (off : Nat) (h : off ≤ l.length) : nthN (starts l) (ln l off - 1) = bg l off := by
  have hb := last_bg l off h
  rw [List.getLast?_eq_getElem?] at hb
  unfold nthN ln
  rw [starts_split l off h, List.getD_eq_getElem?_getD, List.getElem?_append_left (by simp)]
  rw [List.length_cons] at hb
  rw [show 1 + (nl 0 (l.take off)).length - 1 = (nl 0 (l.take off)).length + 1 - 1 by omega, hb]; rfl

/-- Which beginnings lie up to a place. -/
theorem starts_side (l : List UInt8) (off : Nat) (h : off ≤ l.length) (i : Nat) (hi : i < (starts l).length) : nthN (starts l) i ≤ off ↔ i < ln l off := by
  have hl : (l.take off).length = off := by rw [List.length_take]; omega
  have hlen : (0 :: nl 0 (l.take off)).length = ln l off := by rw [List.length_cons]; unfold ln; omega
  unfold nthN
  rw [starts_split l off h] at hi ⊢
  rw [List.getD_eq_getElem?_getD, List.getElem?_eq_getElem hi, Option.getD_some]
  rw [List.length_append, hlen] at hi
  by_cases hc : i < ln l off
  · rw [List.getElem_append_left (by omega)]
    refine ⟨fun _ => hc, fun _ => ?_⟩
    rcases List.mem_cons.1 (List.getElem_mem (l := 0 :: nl 0 (l.take off)) (n := i) (by omega)) with h0 | h0
    · rw [h0]; exact Nat.zero_le _
    · have := nl_range _ _ _ h0; omega
  · rw [List.getElem_append_right (by omega)]
    refine ⟨fun hle => ?_, fun h2 => absurd h2 hc⟩
    have := nl_range _ _ _ (List.getElem_mem (l := nl off (l.drop off)) (n := i - (0 :: nl 0 (l.take off)).length) (by rw [hlen]; omega))
    omega

/-- The ends of lines. -/
def fin (S : List Nat) (n len : Nat) : Nat := if n < S.length then nthN S n - 1 else len

theorem fin_spec : ∀ (l : List UInt8) (k : Nat) (i : Nat), i < (k :: nl k l).length →
    k ≤ nthN (k :: nl k l) i ∧ nthN (k :: nl k l) i ≤ fin (k :: nl k l) (i + 1) (k + l.length) ∧ fin (k :: nl k l) (i + 1) (k + l.length) ≤ k + l.length ∧
    (∀ j, nthN (k :: nl k l) i ≤ j → j < fin (k :: nl k l) (i + 1) (k + l.length) → l[j - k]? ≠ some 10) ∧
    (fin (k :: nl k l) (i + 1) (k + l.length) < k + l.length → l[fin (k :: nl k l) (i + 1) (k + l.length) - k]? = some 10) ∧
    (i + 1 < (k :: nl k l).length → nthN (k :: nl k l) (i + 1) = fin (k :: nl k l) (i + 1) (k + l.length) + 1)
  | [], k, i, hi => by
    have h0 : i = 0 := by simp [nl] at hi; exact hi
    subst h0
    have e : fin (k :: nl k []) (0 + 1) (k + ([] : List UInt8).length) = k := by simp [fin, nl]
    rw [e]
    refine ⟨Nat.le_refl _, Nat.le_refl _, Nat.le_refl _, fun j h1 h2 => ?_, fun h => by simp at h, fun h => by simp [nl] at h⟩
    have : nthN (k :: nl k []) 0 = k := rfl
    omega
  | c :: l, k, i, hi => by
    have ih := fin_spec l (k + 1)
    have el : k + (c :: l).length = k + 1 + l.length := by rw [List.length_cons]; omega
    rw [el]
    by_cases hc : c = 10
    · have e : nl k (c :: l) = (k + 1) :: nl (k + 1) l := by rw [nl, if_pos hc]
      rw [e] at hi ⊢
      cases i with
      | zero =>
        have e0 : nthN (k :: (k + 1) :: nl (k + 1) l) 0 = k := rfl
        have e1 : fin (k :: (k + 1) :: nl (k + 1) l) (0 + 1) (k + 1 + l.length) = k := by unfold fin; rw [if_pos (by simp)]; rfl
        rw [e0, e1]
        refine ⟨Nat.le_refl _, Nat.le_refl _, by omega, fun j h1 h2 => by omega, fun _ => ?_, fun _ => rfl⟩
        rw [Nat.sub_self, hc]; rfl
      | succ i =>
        have hi2 : i < ((k + 1) :: nl (k + 1) l).length := by simpa using hi
        obtain ⟨a1, a2, a3, a4, a5, a6⟩ := ih i hi2
        have e0 : nthN (k :: (k + 1) :: nl (k + 1) l) (i + 1) = nthN ((k + 1) :: nl (k + 1) l) i := rfl
        have e1 : fin (k :: (k + 1) :: nl (k + 1) l) (i + 1 + 1) (k + 1 + l.length) = fin ((k + 1) :: nl (k + 1) l) (i + 1) (k + 1 + l.length) := by
          unfold fin
          have : nthN (k :: (k + 1) :: nl (k + 1) l) (i + 1 + 1) = nthN ((k + 1) :: nl (k + 1) l) (i + 1) := rfl
          rw [this]
          by_cases hh : i + 1 < ((k + 1) :: nl (k + 1) l).length
          · rw [if_pos hh, if_pos (by rw [List.length_cons]; omega)]
          · rw [if_neg hh, if_neg (by rw [List.length_cons]; omega)]
        have e2 : nthN (k :: (k + 1) :: nl (k + 1) l) (i + 1 + 1) = nthN ((k + 1) :: nl (k + 1) l) (i + 1) := rfl
        rw [e0, e1, e2]
        have sh : ∀ j, k + 1 ≤ j → (c :: l)[j - k]? = l[j - (k + 1)]? := fun j hj => by rw [show j - k = (j - (k + 1)) + 1 by omega]; rfl
        refine ⟨by omega, a2, a3, fun j h1 h2 => ?_, fun h => ?_, fun h => a6 (by simpa using h)⟩
        · rw [sh j (by omega)]; exact a4 j h1 h2
        · rw [sh _ (by omega)]; exact a5 h
    · have e : nl k (c :: l) = nl (k + 1) l := by rw [nl, if_neg hc]
      rw [e] at hi ⊢
      have hi2 : i < ((k + 1) :: nl (k + 1) l).length := by simpa using hi
      obtain ⟨a1, a2, a3, a4, a5, a6⟩ := ih i hi2
      have e1 : fin (k :: nl (k + 1) l) (i + 1) (k + 1 + l.length) = fin ((k + 1) :: nl (k + 1) l) (i + 1) (k + 1 + l.length) := rfl
      have e2 : nthN (k :: nl (k + 1) l) (i + 1) = nthN ((k + 1) :: nl (k + 1) l) (i + 1) := rfl
      have sh : ∀ j, k + 1 ≤ j → (c :: l)[j - k]? = l[j - (k + 1)]? := fun j hj => by rw [show j - k = (j - (k + 1)) + 1 by omega]; rfl
      rw [e1, e2]
      cases i with
      | zero =>
        have b0 : nthN (k :: nl (k + 1) l) 0 = k := rfl
        have b1 : nthN ((k + 1) :: nl (k + 1) l) 0 = k + 1 := rfl
        rw [b0]
        rw [b1] at a1 a2 a4
        refine ⟨Nat.le_refl _, by omega, a3, fun j h1 h2 => ?_, fun h => ?_, fun h => a6 (by simpa using h)⟩
        · by_cases hj : j = k
          · subst hj; rw [Nat.sub_self]; intro h; exact hc (Option.some.inj h)
          · rw [sh j (by omega)]; exact a4 j (by omega) h2
        · rw [sh _ (by omega)]; exact a5 h
      | succ i =>
        have b0 : nthN (k :: nl (k + 1) l) (i + 1) = nthN ((k + 1) :: nl (k + 1) l) (i + 1) := rfl
        rw [b0]
        refine ⟨by omega, a2, a3, fun j h1 h2 => ?_, fun h => ?_, fun h => a6 (by simpa using h)⟩
        · rw [sh j (by omega)]; exact a4 j h1 h2
        · rw [sh _ (by omega)]; exact a5 h
end Go.Proofs.Ytckioinjgdjohab.Em
