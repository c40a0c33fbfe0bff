/- Plain mathematics for ScanApart: with a line's end behind each lexeme, those that are no blanks stay the same. -/
import Derived.Test.YtnkgbmnjehpkgabGreatScSim
namespace Go.Proofs.YtnkgbmnjehpkgabGreat
open Go.RowKit Em
set_option maxRecDepth 100000
set_option linter.unusedVariables false

/-- The lexemes of a text, with their bytes; is it cut to its end? -/
def lexL : Nat → List UInt8 → List (Nat × List UInt8) × Bool
  | 0, _ => ([], true)
  | f + 1, l => if l = [] then ([], true) else if (Sc.lex isW l).2 = 0 then ([], false) else
      (((Sc.lex isW l).1, l.take (Sc.lex isW l).2) :: (lexL f (l.drop (Sc.lex isW l).2)).1, (lexL f (l.drop (Sc.lex isW l).2)).2)
theorem lexL_nil (f : Nat) : lexL f [] = ([], true) := by
  cases f with
  | zero => rfl
  | succ f => rw [lexL, if_pos rfl]
theorem lexL_yes {f k : Nat} {x r : List UInt8} (hx : x ≠ []) (h : Sc.lex isW (x ++ r) = (k, x.length)) : lexL (f + 1) (x ++ r) = ((k, x) :: (lexL f r).1, (lexL f r).2) := by
  have hp := List.length_pos_iff.2 hx
  rw [lexL, if_neg (by simp [hx]), if_neg (by rw [h]; dsimp only; omega), h]
  dsimp only
  rw [List.take_left' rfl, List.drop_left' rfl]
def joinN (xs : List (Nat × List UInt8)) : List UInt8 := xs.flatMap fun x => x.2 ++ [10]
theorem joinN_cons (k : Nat) (x : List UInt8) (r : List (Nat × List UInt8)) : joinN ((k, x) :: r) = x ++ 10 :: joinN r := by
  simp [joinN]
def noBlank (xs : List (Nat × List UInt8)) : List (Nat × List UInt8) := xs.filter fun x => decide (x.1 ≠ 10)
theorem blanks_first {B : List UInt8} (hB : B ≠ []) (hl : Sc.left Sc.blank B = []) : ∃ c r, Qm.rd B = some (c, r) ∧ Sc.blank c = true ∧ c ≠ 65279 := by
  cases hr : Qm.rd B with
  | none => rw [Sc.left_none hr] at hl; exact absurd hl hB
  | some z =>
    obtain ⟨c, r⟩ := z
    cases hc : Sc.blank c with
    | false => rw [Sc.left_no hr hc] at hl; exact absurd hl hB
    | true => exact ⟨c, r, rfl, hc, fun e => by rw [e] at hc; exact absurd hc (by decide)⟩
theorem rd_app {x : List UInt8} {c : Nat} {r : List UInt8} (h : Qm.rd x = some (c, r)) (y : List UInt8) : Qm.rd (x ++ y) = some (c, r ++ y) := by
  obtain ⟨h1, h2⟩ := Qm.rd_some h
  rw [h2, List.append_assoc]
  exact Qm.rd_form h1 _
theorem lex_blank_run {B y : List UInt8} (hB : B ≠ []) (hl : Sc.left Sc.blank B = []) (hy : Sc.left Sc.blank y = y) : Sc.lex isW (B ++ y) = (10, B.length) := by
  obtain ⟨c, r, hr, hc, hn⟩ := blanks_first hB hl
  have hcnt : Sc.cnt Sc.blank (B ++ y) = B.length := cnt_sim (a := []) (by unfold Sc.cnt; rw [List.append_nil, hl]; rfl) hy
  unfold Sc.lex
  rw [rd_app hr]
  dsimp only
  rw [if_neg hn, if_pos hc, hcnt]
theorem left_append {B y : List UInt8} (hl : Sc.left Sc.blank B = []) : Sc.left Sc.blank (B ++ y) = Sc.left Sc.blank y := by
  obtain ⟨x0, e, hy, _⟩ := Sc.left_split Sc.blank B.length B (Nat.le_refl _)
  rw [hl, List.append_nil] at e
  subst e
  exact hy y
theorem left_nl : Sc.left Sc.blank [10] = [] := by
  rw [Sc.left_yes (rd_line []) (by decide)]; exact left_empty _

/-- A lexeme that stands by itself. -/
structure Alone (k : Nat) (x : List UInt8) : Prop where
  ne : x ≠ []
  wf : Sc.Wf x
  lex : Sc.lex isW x = (k, x.length)
theorem Alone.before {k : Nat} {x : List UInt8} (h : Alone k x) (hk : k ≠ 10) (t : List UInt8) : Sc.lex isW (x ++ 10 :: t) = (k, x.length) :=
  lex_sim (a := []) (by rw [List.append_nil]; exact h.wf) h.ne (by rw [List.append_nil]; exact h.lex) (.inr ⟨10, t, rfl, .inl rfl, hk, fun _ => rfl⟩)
theorem Alone.kind {k : Nat} {x : List UInt8} (h : Alone k x) : (∃ c r, Qm.rd x = some (c, r) ∧ Sc.blank c = false) ∨ (k = 10 ∧ Sc.left Sc.blank x = []) := by
  obtain ⟨c, r, hr, _, hok, he⟩ := h.wf.rd h.ne
  cases hc : Sc.blank c with
  | false => exact .inl ⟨c, r, hr, hc⟩
  | true =>
    have hl := h.lex
    unfold Sc.lex at hl
    rw [hr] at hl
    dsimp only at hl
    have hn : c ≠ 65279 := fun e => by rw [e] at hc; exact absurd hc (by decide)
    rw [if_neg hn, if_pos hc] at hl
    obtain ⟨h1, h2⟩ := Prod.mk.inj hl
    refine .inr ⟨h1.symm, ?_⟩
    rw [Sc.left_drop, h2, List.drop_of_length_le (Nat.le_refl _)]
theorem bom_lex {x : List UInt8} (h : Alone 10 x) {c : Nat} {r : List UInt8} (hr : Qm.rd x = some (c, r)) (hc : Sc.blank c = false) (t : List UInt8) : Sc.lex isW (x ++ t) = (10, x.length) := by
  have hl := h.lex
  by_cases hn : c = 65279
  · unfold Sc.lex at hl ⊢
    rw [hr] at hl
    rw [rd_app hr]
    dsimp only at hl ⊢
    rw [if_pos hn] at hl ⊢
    exact hl
  · exfalso
    unfold Sc.lex at hl
    rw [hr] at hl
    dsimp only at hl
    rw [if_neg hn, if_neg (by rw [hc]; simp)] at hl
    have key : ∀ z : Nat × Nat, z.1 ≠ 10 → z ≠ (10, x.length) := fun z hz e => hz (by rw [e])
    revert hl
    split
    · exact key _ (by simp)
    · split
      · exact key _ (by simp)
      · split
        · exact key _ (by dsimp only; split <;> decide)
        · split
          · exact key _ (by simp)
          · split
            · split
              · rename_i k v q hq
                exact key _ (by have := Sc.whole_kind hq; dsimp only; omega)
              · exact key _ (by simp)
            · split
              · split
                · exact key _ (by simp)
                · exact key _ (by
                    dsimp only
                    have := (Nm.kind_imag (x.take (Nm.runOf x))).2.2.2
                    omega)
              · exact key _ (by simp)
theorem apart : ∀ (rest : List (Nat × List UInt8)) (B : List UInt8) (f : Nat), (∀ x ∈ rest, Alone x.1 x.2) → Sc.left Sc.blank B = [] → (B ++ joinN rest).length < f →
    (lexL f (B ++ joinN rest)).2 = true ∧ noBlank (lexL f (B ++ joinN rest)).1 = noBlank rest
  | [], B, f, _, hl, hf => by
    rw [show joinN [] = [] from rfl]
    by_cases hB : B = []
    · subst hB; rw [List.append_nil, lexL_nil]; exact ⟨rfl, rfl⟩
    · obtain ⟨g, rfl⟩ : ∃ g, f = g + 1 := ⟨f - 1, by omega⟩
      rw [lexL_yes hB (lex_blank_run hB hl (left_empty _)), lexL_nil]
      exact ⟨rfl, rfl⟩
  | (k, x) :: rest, B, f, ha, hl, hf => by
    have hax : Alone k x := ha (k, x) (by simp)
    have har : ∀ y ∈ rest, Alone y.1 y.2 := fun y hy => ha y (by simp [hy])
    rw [joinN_cons] at hf ⊢
    -- in front of a lexeme that does not begin with a blank
    have main : (∃ c r, Qm.rd x = some (c, r) ∧ Sc.blank c = false) → ∀ g, (x ++ 10 :: joinN rest).length < g → (lexL g (x ++ 10 :: joinN rest)).2 = true ∧ noBlank (lexL g (x ++ 10 :: joinN rest)).1 = noBlank ((k, x) :: rest) := by
      rintro ⟨c, r, hr, hc⟩ g hg
      have hxl : Sc.lex isW (x ++ 10 :: joinN rest) = (k, x.length) := by
        by_cases hk : k = 10
        · subst hk; exact bom_lex hax hr hc _
        · exact hax.before hk _
      obtain ⟨g', rfl⟩ : ∃ g', g = g' + 1 := ⟨g - 1, by omega⟩
      have ih := apart rest [10] g' har left_nl (by
        rw [List.length_append] at hg ⊢
        have := List.length_pos_iff.2 hax.ne
        simp only [List.length_cons, List.length_nil] at hg ⊢
        omega)
      rw [List.singleton_append] at ih
      rw [lexL_yes hax.ne hxl]
      refine ⟨ih.1, ?_⟩
      unfold noBlank at ih ⊢
      rw [List.filter_cons, List.filter_cons, ih.2]
    rcases hax.kind with ⟨c, r, hr, hc⟩ | ⟨hk, hlx⟩
    · by_cases hB : B = []
      · subst hB
        rw [List.nil_append] at hf ⊢
        exact main ⟨c, r, hr, hc⟩ f hf
      · obtain ⟨g, rfl⟩ : ∃ g, f = g + 1 := ⟨f - 1, by omega⟩
        have hy : Sc.left Sc.blank (x ++ 10 :: joinN rest) = x ++ 10 :: joinN rest := Sc.left_no (rd_app hr _) hc
        have m := main ⟨c, r, hr, hc⟩ g (by
          rw [List.length_append] at hf
          have := List.length_pos_iff.2 hB
          omega)
        rw [lexL_yes hB (lex_blank_run hB hl hy)]
        refine ⟨m.1, ?_⟩
        rw [← m.2]
        rfl
    · subst hk
      have ih := apart rest (B ++ (x ++ [10])) f har (by rw [left_append hl, left_append hlx, left_nl]) (by simpa using hf)
      have e : B ++ (x ++ [10]) ++ joinN rest = B ++ (x ++ 10 :: joinN rest) := by simp
      rw [e] at ih
      refine ⟨ih.1, ?_⟩
      rw [ih.2]
      rfl
end Go.Proofs.YtnkgbmnjehpkgabGreat

