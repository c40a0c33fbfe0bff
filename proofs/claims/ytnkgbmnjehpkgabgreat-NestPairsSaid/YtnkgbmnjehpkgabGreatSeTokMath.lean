/- Plain mathematics: how the tokens of a text lie. -/
import Derived.Test.YtnkgbmnjehpkgabGreatSeRMath
namespace Go.Proofs.YtnkgbmnjehpkgabGreat
open Go.RowKit Em
set_option maxRecDepth 100000
set_option linter.unusedVariables false

/-- Tokens in order, within so many bytes; a token may have no bytes. -/
def InO (n : Nat) (L : List Sc.Tk) : Prop := L.Pairwise (fun a b => a.t ≤ b.f) ∧ ∀ t ∈ L, t.f ≤ t.t ∧ t.t ≤ n
theorem ino_of {n : Nat} {L : List Sc.Tk} (h : Ord n L) : InO n L := ⟨h.1, fun t ht => ⟨Nat.le_of_lt (h.2 t ht).1, (h.2 t ht).2⟩⟩
theorem ino_at {n : Nat} {L : List Sc.Tk} (h : InO n L) {i : Nat} (hi : i < L.length) : (nthT L i).f ≤ (nthT L i).t ∧ (nthT L i).t ≤ n := by
  rw [nthT_get hi]; exact h.2 _ (List.getElem_mem _)
theorem ino_next {n : Nat} {L : List Sc.Tk} (h : InO n L) {i : Nat} (hi : i + 1 < L.length) : (nthT L i).t ≤ (nthT L (i + 1)).f := by
  rw [nthT_get hi, nthT_get (show i < L.length by omega)]
  exact List.pairwise_iff_getElem.1 h.1 i (i + 1) _ _ (by omega)
theorem ord_lt {n : Nat} {L : List Sc.Tk} (h : Ord n L) {i j : Nat} (hij : i < j) (hj : j < L.length) : (nthT L i).t ≤ (nthT L j).f := by
  rw [nthT_get hj, nthT_get (show i < L.length by omega)]
  exact List.pairwise_iff_getElem.1 h.1 i j _ _ hij
theorem refS_ino (s : ByteArray) (L : List Sc.Tk) (n : Nat) (ho : Ord n L) : ∀ i, i ≤ L.length → InO n (refS s L i) ∧ ∀ x ∈ refS s L i, ∀ j, i ≤ j → j < L.length → x.t ≤ (nthT L j).f
  | 0, _ => ⟨⟨.nil, by simp [refS]⟩, by simp [refS]⟩
  | i + 1, hi => by
    obtain ⟨⟨h1, h2⟩, h3⟩ := refS_ino s L n ho i (by omega)
    have hat := ord_at ho (i := i) (by omega)
    have key : ∀ X : List Sc.Tk, X.Pairwise (fun a b => a.t ≤ b.f) → (∀ x ∈ X, (nthT L i).f ≤ x.f ∧ x.f ≤ x.t ∧ x.t ≤ (nthT L i).t) → InO n (refS s L i ++ X) ∧ ∀ x ∈ refS s L i ++ X, ∀ j, i + 1 ≤ j → j < L.length → x.t ≤ (nthT L j).f := by
      intro X hX hm
      refine ⟨⟨List.pairwise_append.2 ⟨h1, hX, fun a ha b hb => Nat.le_trans (h3 a ha i (Nat.le_refl _) (by omega)) (hm b hb).1⟩, fun t ht => ?_⟩, fun x hx j hj hl => ?_⟩
      · rcases List.mem_append.1 ht with ht | ht
        · exact h2 t ht
        · have := hm t ht; omega
      · rcases List.mem_append.1 hx with hx | hx
        · exact h3 x hx j (by omega) hl
        · have := hm x hx
          have := ord_lt ho (i := i) (j := j) (by omega) hl
          omega
    rw [refS]
    split
    · exact key [] .nil (by simp)
    · split
      · refine key _ ?_ ?_
        · simp
        · intro x hx
          simp only [List.mem_cons, List.not_mem_nil, or_false] at hx
          rcases hx with rfl | rfl
          · omega
          · dsimp only; omega
      · refine key _ (by simp) ?_
        intro x hx
        simp only [List.mem_cons, List.not_mem_nil, or_false] at hx
        subst hx
        omega
theorem refS_more (s : ByteArray) (L : List Sc.Tk) (n : Nat) (ho : Ord n L) (i : Nat) : ∀ m, i + m ≤ L.length → ∃ r, refS s L (i + m) = refS s L i ++ r ∧ (r = [] ∨ ∃ x r', r = x :: r' ∧ x.f < x.t)
  | 0, _ => ⟨[], by simp, .inl rfl⟩
  | m + 1, hm => by
    obtain ⟨r, h1, h2⟩ := refS_more s L n ho i m (by omega)
    have hat := ord_at ho (i := i + m) (by omega)
    have key : ∀ X : List Sc.Tk, (X = [] ∨ ∃ x r', X = x :: r' ∧ x.f < x.t) → refS s L (i + m + 1) = refS s L (i + m) ++ X → ∃ r, refS s L (i + m + 1) = refS s L i ++ r ∧ (r = [] ∨ ∃ x r', r = x :: r' ∧ x.f < x.t) := by
      intro X hX he
      refine ⟨r ++ X, by rw [he, h1, List.append_assoc], ?_⟩
      rcases h2 with rfl | ⟨x, r', rfl, hx⟩
      · exact hX
      · exact .inr ⟨x, r' ++ X, rfl, hx⟩
    cases hs : silent (nthT L (i + m)).k with
    | true => exact key [] (.inl rfl) (by rw [refS_silent hs, List.append_nil])
    | false =>
      cases hb : (endB (nthT L (i + m)).k (cutT s (nthT L (i + m)).f (nthT L (i + m)).t) && endedL s (L.drop (i + m + 1))) with
      | true => exact key _ (.inr ⟨_, _, rfl, hat.1⟩) (by rw [refS_yes hs hb, List.append_assoc]; rfl)
      | false => exact key _ (.inr ⟨_, _, rfl, hat.1⟩) (refS_no hs hb)

/-- At a lexeme that is left: where it stands among the tokens, and what stands behind it. -/
theorem tok_here (s : ByteArray) (L T : List Sc.Tk) (n : Nat) (ho : Ord n L) (hT : refS s L L.length = T) (i : Nat) (hi : i < L.length) (hs : silent (nthT L i).k = false) :
    (refS s L i).length < T.length ∧ nthT T (refS s L i).length = nthT L i ∧
    ((refS s L (i + 1)).length = (refS s L i).length + 2 ∧ (refS s L i).length + 1 < T.length ∧ nthT T ((refS s L i).length + 1) = ⟨9, (nthT L i).t, (nthT L i).t⟩ ∧ endB (nthT L i).k (cutT s (nthT L i).f (nthT L i).t) = true ∨
     (refS s L (i + 1)).length = (refS s L i).length + 1 ∧ ((refS s L i).length + 1 = T.length ∨ (refS s L i).length + 1 < T.length ∧ (nthT T ((refS s L i).length + 1)).f < (nthT T ((refS s L i).length + 1)).t)) := by
  obtain ⟨r, h1, h2⟩ := refS_more s L n ho (i + 1) (L.length - (i + 1)) (by omega)
  rw [show i + 1 + (L.length - (i + 1)) = L.length by omega, hT] at h1
  subst h1
  cases hb : (endB (nthT L i).k (cutT s (nthT L i).f (nthT L i).t) && endedL s (L.drop (i + 1))) with
  | true =>
    have e := refS_yes hs hb
    rw [e]
    refine ⟨by simp, by simp [nthT], .inl ⟨by simp, by simp, by simp [nthT], ?_⟩⟩
    rw [Bool.and_eq_true] at hb
    exact hb.1
  | false =>
    have e := refS_no hs hb
    rw [e]
    refine ⟨by simp, by simp [nthT], .inr ⟨by simp, ?_⟩⟩
    rcases h2 with rfl | ⟨x, r', rfl, hx⟩
    · exact .inl (by simp)
    · exact .inr ⟨by simp, by simpa [nthT] using hx⟩
end Go.Proofs.YtnkgbmnjehpkgabGreat

