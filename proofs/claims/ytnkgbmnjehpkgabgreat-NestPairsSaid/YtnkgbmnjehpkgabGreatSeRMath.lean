/- Plain mathematics of tokens: the reference's way to put semicolons (lexeme by lexeme) is the program's way (token by token). -/
import Derived.Test.YtnkgbmnjehpkgabGreatGY
import Derived.Lib.IndexAny
namespace Go.Proofs.YtnkgbmnjehpkgabGreat
open Go.RowKit Em
set_option maxRecDepth 100000
set_option linter.unusedVariables false

/-- Lexemes that follow one another from a place on. -/
def Chn : Nat → List Sc.Tk → Prop
  | _, [] => True
  | p, t :: l => t.f = p ∧ Chn t.t l
theorem lexs_chn : ∀ (f p : Nat) (l : List UInt8), Chn p (Sc.lexs isW f p l).1
  | 0, p, l => by simp [Sc.lexs, Chn]
  | f + 1, p, l => by
    by_cases hl : l = []
    · subst hl; rw [Sc.lexs_nil]; trivial
    · by_cases hn : (Sc.lex isW l).2 = 0
      · rw [Sc.lexs_no isW hl hn]; trivial
      · rw [Sc.lexs_yes isW hl hn]
        exact ⟨rfl, lexs_chn f _ _⟩
theorem allA_chn (s : ByteArray) : Chn 0 (allA s).1 := by
  unfold allA
  split
  · trivial
  · split
    · trivial
    · split
      · exact lexs_chn _ _ _
      · trivial
theorem chn_drop : ∀ (L : List Sc.Tk) (p i : Nat), Chn p L → i < L.length → Chn (nthT L i).t (L.drop (i + 1))
  | [], p, i, _, hi => by simp at hi
  | t :: l, p, 0, h, _ => h.2
  | t :: l, p, i + 1, h, hi => chn_drop l t.t i h.2 (by simpa using hi)

def hasNL (l : List UInt8) : Bool := l.contains 10
theorem hasNL_idx (l : List UInt8) : hasNL l = decide (0 ≤ Lib.indexByte l 10) := Lib.contains_iff_indexByte l 10
theorem hasNL_append (a b : List UInt8) : hasNL (a ++ b) = (hasNL a || hasNL b) := by unfold hasNL; rw [List.contains_eq_any_beq, List.contains_eq_any_beq, List.contains_eq_any_beq, List.any_append]
theorem cutT_same (s : ByteArray) (p : Nat) : hasNL (cutT s p p) = false := by
  have : cutT s p p = [] := by unfold cutT; exact List.drop_of_length_le (by rw [List.length_take]; omega)
  rw [this]; rfl
theorem cutT_join (s : ByteArray) {a b c : Nat} (h1 : a ≤ b) (h2 : b ≤ c) : cutT s a c = cutT s a b ++ cutT s b c := by
  unfold cutT
  have : (bl s).take c = (bl s).take b ++ ((bl s).take c).drop b := by
    have h := (List.take_append_drop b ((bl s).take c)).symm
    rw [List.take_take, Nat.min_eq_left h2] at h
    exact h
  rw [this]
  by_cases hb : b ≤ (bl s).length
  · rw [List.drop_append_of_le_length (by rw [List.length_take]; omega), List.drop_append_of_le_length (by rw [List.length_take]; omega), List.drop_of_length_le (l := (bl s).take b) (i := b) (by rw [List.length_take]; omega), List.nil_append]
  · have e1 : ((bl s).take c).drop b = [] := List.drop_of_length_le (by rw [List.length_take]; omega)
    rw [e1, List.append_nil, List.drop_of_length_le (l := (bl s).take b) (i := b) (by rw [List.length_take]; omega), List.append_nil]

/-- Does a line end in front of the next that is left? -/
def endedL (s : ByteArray) : List Sc.Tk → Bool
  | [] => true
  | t :: l => if silent t.k = true then hasNL (cutT s t.f t.t) || endedL s l else false
theorem endedL_cons (s : ByteArray) (t : Sc.Tk) (l : List Sc.Tk) : endedL s (t :: l) = if silent t.k = true then hasNL (cutT s t.f t.t) || endedL s l else false := rfl
theorem kept_cons_yes {L : List Sc.Tk} {x : Sc.Tk} (h : silent x.k = false) : kept (x :: L) = x :: kept L := by simp [kept, h]
theorem kept_cons_no {L : List Sc.Tk} {x : Sc.Tk} (h : silent x.k = true) : kept (x :: L) = kept L := by simp [kept, h]
theorem endedL_kept (s : ByteArray) : ∀ (L : List Sc.Tk) (p : Nat), Chn p L → (∀ t ∈ L, t.f < t.t) → (kept L = [] ∧ endedL s L = true) ∨ ∃ u r, kept L = u :: r ∧ p ≤ u.f ∧ endedL s L = hasNL (cutT s p u.f)
  | [], p, _, _ => .inl ⟨rfl, rfl⟩
  | t :: l, p, h, ho => by
    obtain ⟨rfl, hc⟩ := h
    rw [endedL_cons]
    have hlt := ho t (by simp)
    cases hs : silent t.k with
    | false =>
      refine .inr ⟨t, kept l, kept_cons_yes hs, Nat.le_refl _, ?_⟩
      rw [if_neg (by simp), cutT_same]
    | true =>
      rw [if_pos rfl, kept_cons_no hs]
      rcases endedL_kept s l t.t hc (fun x hx => ho x (by simp [hx])) with ⟨h1, h2⟩ | ⟨u, r, h1, h2, h3⟩
      · exact .inl ⟨h1, by rw [h2]; simp⟩
      · exact .inr ⟨u, r, h1, by omega, by rw [h3, cutT_join s (Nat.le_of_lt hlt) h2, hasNL_append]⟩

def refS (s : ByteArray) (L : List Sc.Tk) : Nat → List Sc.Tk
  | 0 => []
  | i + 1 => refS s L i ++ (if silent (nthT L i).k = true then [] else if (endB (nthT L i).k (cutT s (nthT L i).f (nthT L i).t) && endedL s (L.drop (i + 1))) = true then [nthT L i, ⟨9, (nthT L i).t, (nthT L i).t⟩] else [nthT L i])
theorem refS_silent {s : ByteArray} {L : List Sc.Tk} {i : Nat} (h : silent (nthT L i).k = true) : refS s L (i + 1) = refS s L i := by
  rw [refS, if_pos h, List.append_nil]
theorem refS_yes {s : ByteArray} {L : List Sc.Tk} {i : Nat} (h0 : silent (nthT L i).k = false) (h : (endB (nthT L i).k (cutT s (nthT L i).f (nthT L i).t) && endedL s (L.drop (i + 1))) = true) : refS s L (i + 1) = refS s L i ++ [nthT L i] ++ [⟨9, (nthT L i).t, (nthT L i).t⟩] := by
  rw [refS, if_neg (by rw [h0]; simp), if_pos h, List.append_assoc]; rfl
theorem refS_no {s : ByteArray} {L : List Sc.Tk} {i : Nat} (h0 : silent (nthT L i).k = false) (h : (endB (nthT L i).k (cutT s (nthT L i).f (nthT L i).t) && endedL s (L.drop (i + 1))) = false) : refS s L (i + 1) = refS s L i ++ [nthT L i] := by
  rw [refS, if_neg (by rw [h0]; simp), if_neg (by rw [h]; simp)]
theorem refS_len (s : ByteArray) (L : List Sc.Tk) : ∀ i, (refS s L i).length ≤ 2 * i
  | 0 => by simp [refS]
  | i + 1 => by
    have := refS_len s L i
    rw [refS, List.length_append]
    split
    · simp; omega
    · split <;> simp <;> omega

theorem kept_split (L : List Sc.Tk) (i : Nat) (hi : i < L.length) (hs : silent (nthT L i).k = false) : kept L = kept (L.take i) ++ nthT L i :: kept (L.drop (i + 1)) := by
  have h : L = L.take i ++ (nthT L i :: L.drop (i + 1)) := by
    rw [nthT_get hi, ← List.drop_eq_getElem_cons hi, List.take_append_drop]
  have h2 : kept L = kept (L.take i ++ (nthT L i :: L.drop (i + 1))) := congrArg kept h
  rw [h2]
  unfold kept
  rw [List.filter_append, List.filter_cons_of_pos (by rw [hs]; rfl)]
theorem take_succ (L : List Sc.Tk) (i : Nat) (hi : i < L.length) : L.take (i + 1) = L.take i ++ [nthT L i] := by
  rw [nthT_get hi]; simp
theorem refS_eq (s : ByteArray) (L : List Sc.Tk) (hc : Chn 0 L) (ho : ∀ t ∈ L, t.f < t.t) : ∀ i, i ≤ L.length → refS s L i = semis s (kept L) (kept (L.take i)).length
  | 0, _ => rfl
  | i + 1, hi => by
    have hi' : i < L.length := by omega
    have ih := refS_eq s L hc ho i (by omega)
    rw [take_succ L i hi']
    cases hs : silent (nthT L i).k with
    | true => rw [refS_silent hs, ih, kept_snoc_no hs]
    | false =>
      rw [kept_snoc_yes hs, List.length_append]
      have hk := kept_split L i hi' hs
      have hn : nthT (kept L) (kept (L.take i)).length = nthT L i := by rw [hk]; simp [nthT]
      have hl : lineE s (kept L) (kept (L.take i)).length = endedL s (L.drop (i + 1)) := by
        unfold lineE
        rw [hn]
        rcases endedL_kept s (L.drop (i + 1)) _ (chn_drop L 0 i hc hi') (fun t ht => ho t (List.mem_of_mem_drop ht)) with ⟨h1, h2⟩ | ⟨u, r, h1, h2, h3⟩
        · rw [h2, decide_eq_true (by rw [hk, h1]; simp)]; rfl
        · rw [h3, decide_eq_false (by rw [hk, h1]; simp), Bool.false_or, hasNL_idx]
          have : nthT (kept L) ((kept (L.take i)).length + 1) = u := by rw [hk, h1]; simp [nthT]
          rw [this]
      show refS s L (i + 1) = semis s (kept L) ((kept (L.take i)).length + 1)
      have hp : putB s (kept L) (kept (L.take i)).length = (endB (nthT L i).k (cutT s (nthT L i).f (nthT L i).t) && endedL s (L.drop (i + 1))) := by
        unfold putB; rw [hn, hl]
      cases hb : (endB (nthT L i).k (cutT s (nthT L i).f (nthT L i).t) && endedL s (L.drop (i + 1))) with
      | true => rw [refS_yes hs hb, semis_yes (by rw [hp, hb]), hn, ih]
      | false => rw [refS_no hs hb, semis_no (by rw [hp, hb]), hn, ih]
theorem refS_all (s : ByteArray) (h : (allA s).2.1 = 0) : refS s (allA s).1 (allA s).1.length = (semA s).1 := by
  rw [refS_eq s _ (allA_chn s) (fun t ht => ((allA_ord s).2 t ht).1) _ (Nat.le_refl _), List.take_length]
  unfold semA
  rw [if_pos h]
end Go.Proofs.YtnkgbmnjehpkgabGreat

