/- Plain mathematics: the tokens of a text, as kinds and bytes, out of its lexemes' kinds and bytes. -/
import Derived.Test.YtnkgbmnjehpkgabGreatSeRMath
import Derived.Test.YtnkgbmnjehpkgabGreatScApMathB
namespace Go.Proofs.YtnkgbmnjehpkgabGreat
open Go.RowKit Em
set_option maxRecDepth 100000
set_option linter.unusedVariables false

/-- Does a line end in front of the next token? -/
def endT : List (Nat × List UInt8) → Bool
  | [] => true
  | (k, x) :: l => if silent k = true then hasNL x || endT l else false
/-- The tokens. -/
def semL : List (Nat × List UInt8) → List (Nat × List UInt8)
  | [] => []
  | (k, x) :: l => if silent k = true then semL l else if (endB k x && endT l) = true then (k, x) :: (9, [59]) :: semL l else (k, x) :: semL l
/-- Is a semicolon put in? -/
def putL : List (Nat × List UInt8) → Bool
  | [] => false
  | (k, x) :: l => if silent k = true then putL l else (endB k x && endT l) || putL l
/-- The tokens, from the front. -/
def semF (s : ByteArray) : List Sc.Tk → List Sc.Tk
  | [] => []
  | t :: l => if silent t.k = true then semF s l else if (endB t.k (cutT s t.f t.t) && endedL s l) = true then t :: ⟨9, t.t, t.t⟩ :: semF s l else t :: semF s l

theorem semL_silent {k : Nat} {x : List UInt8} {l : List (Nat × List UInt8)} (h : silent k = true) : semL ((k, x) :: l) = semL l := if_pos h
theorem semL_yes {k : Nat} {x : List UInt8} {l : List (Nat × List UInt8)} (h : silent k = false) (hb : (endB k x && endT l) = true) : semL ((k, x) :: l) = (k, x) :: (9, [59]) :: semL l := by
  rw [semL, if_neg (by rw [h]; simp), if_pos hb]
theorem semL_no {k : Nat} {x : List UInt8} {l : List (Nat × List UInt8)} (h : silent k = false) (hb : (endB k x && endT l) = false) : semL ((k, x) :: l) = (k, x) :: semL l := by
  rw [semL, if_neg (by rw [h]; simp), if_neg (by rw [hb]; simp)]
theorem endT_silent {k : Nat} {x : List UInt8} {l : List (Nat × List UInt8)} (h : silent k = true) : endT ((k, x) :: l) = (hasNL x || endT l) := if_pos h
theorem endT_tok {k : Nat} {x : List UInt8} {l : List (Nat × List UInt8)} (h : silent k = false) : endT ((k, x) :: l) = false := by
  rw [endT, if_neg (by rw [h]; simp)]

theorem endT_tks (s : ByteArray) : ∀ L, endT (tksOf s L) = endedL s L
  | [] => rfl
  | t :: l => by
    show endT ((t.k, cutT s t.f t.t) :: tksOf s l) = _
    rw [endT, endedL_cons, endT_tks s l]
theorem semF_at (s : ByteArray) (L : List Sc.Tk) : ∀ i, i ≤ L.length → refS s L i ++ semF s (L.drop i) = semF s L
  | 0, _ => by rw [refS, List.nil_append, List.drop_zero]
  | i + 1, hi => by
    have ih := semF_at s L i (by omega)
    rw [List.drop_eq_getElem_cons (show i < L.length by omega), ← nthT_get (show i < L.length by omega)] at ih
    rw [← ih]
    cases hs : silent (nthT L i).k with
    | true => rw [refS_silent hs, semF, if_pos hs]
    | false =>
      cases hb : (endB (nthT L i).k (cutT s (nthT L i).f (nthT L i).t) && endedL s (L.drop (i + 1))) with
      | true =>
        rw [refS_yes hs hb, semF, if_neg (by rw [hs]; simp), if_pos hb]
        simp
      | false =>
        rw [refS_no hs hb, semF, if_neg (by rw [hs]; simp), if_neg (by rw [hb]; simp)]
        simp
theorem semF_all (s : ByteArray) (h : (allA s).2.1 = 0) : semF s (allA s).1 = (semA s).1 := by
  rw [← refS_all s h, ← semF_at s _ _ (Nat.le_refl _), List.drop_length, semF, List.append_nil]

/-- A token's kind and bytes: of a semicolon its sign, also if it was put in. -/
def tokX (s : ByteArray) (t : Sc.Tk) : Nat × List UInt8 := (t.k, if t.k = 9 then [59] else cutT s t.f t.t)
def toksOf (s : ByteArray) (T : List Sc.Tk) : List (Nat × List UInt8) := T.map (tokX s)
theorem toks_semF (s : ByteArray) : ∀ L : List Sc.Tk, (∀ t ∈ L, t.k = 9 → cutT s t.f t.t = [59]) → toksOf s (semF s L) = semL (tksOf s L)
  | [], _ => rfl
  | t :: l, h => by
    have ih := toks_semF s l (fun u hu => h u (by simp [hu]))
    have ht : tokX s t = (t.k, cutT s t.f t.t) := by
      unfold tokX
      by_cases h9 : t.k = 9
      · rw [if_pos h9, h t (by simp) h9]
      · rw [if_neg h9]
    show _ = semL ((t.k, cutT s t.f t.t) :: tksOf s l)
    cases hs : silent t.k with
    | true => rw [semF, if_pos hs, semL_silent hs, ih]
    | false =>
      cases hb : (endB t.k (cutT s t.f t.t) && endedL s l) with
      | true =>
        rw [semF, if_neg (by rw [hs]; simp), if_pos hb, semL_yes hs (by rw [endT_tks]; exact hb), ← ih, ← ht]
        rfl
      | false =>
        rw [semF, if_neg (by rw [hs]; simp), if_neg (by rw [hb]; simp), semL_no hs (by rw [endT_tks]; exact hb), ← ih, ← ht]
        rfl
theorem put_none (s : ByteArray) : ∀ L : List Sc.Tk, putL (tksOf s L) = false → semF s L = kept L
  | [], _ => rfl
  | t :: l, h => by
    have h : putL ((t.k, cutT s t.f t.t) :: tksOf s l) = false := h
    rw [putL] at h
    cases hs : silent t.k with
    | true =>
      rw [if_pos hs] at h
      rw [semF, if_pos hs, kept_cons_no hs, put_none s l h]
    | false =>
      rw [if_neg (by rw [hs]; simp), Bool.or_eq_false_iff] at h
      have hb : (endB t.k (cutT s t.f t.t) && endedL s l) = false := by rw [← endT_tks]; exact h.1
      rw [semF, if_neg (by rw [hs]; simp), if_neg (by rw [hb]; simp), kept_cons_yes hs, put_none s l h.2]

/-! ### The last token ends no line -/
theorem semL_nil : ∀ X : List (Nat × List UInt8), semL X = [] → endT X = true
  | [], _ => rfl
  | (k, x) :: l, h => by
    cases hs : silent k with
    | true =>
      rw [semL_silent hs] at h
      rw [endT_silent hs, semL_nil l h, Bool.or_true]
    | false =>
      cases hb : (endB k x && endT l) with
      | true => rw [semL_yes hs hb] at h; cases h
      | false => rw [semL_no hs hb] at h; cases h
theorem endB_nine (x : List UInt8) : endB 9 x = false := endB_no (by omega) (by omega) (by omega) x
theorem semL_last : ∀ (X : List (Nat × List UInt8)) (y : Nat × List UInt8), (semL X).getLast? = some y → endB y.1 y.2 = false
  | [], y, h => by cases h
  | (k, x) :: l, y, h => by
    cases hs : silent k with
    | true => rw [semL_silent hs] at h; exact semL_last l y h
    | false =>
      by_cases hn : semL l = []
      · have he := semL_nil l hn
        cases hb : endB k x with
        | true =>
          rw [semL_yes hs (by rw [hb, he]; rfl), hn] at h
          have := Option.some.inj h
          subst this
          exact endB_nine _
        | false =>
          rw [semL_no hs (by rw [hb]; rfl), hn] at h
          have := Option.some.inj h
          subst this
          exact hb
      · obtain ⟨z, r, hz⟩ := List.exists_cons_of_ne_nil hn
        cases hb : (endB k x && endT l) with
        | true =>
          rw [semL_yes hs hb, hz, List.getLast?_cons_cons, List.getLast?_cons_cons, ← hz] at h
          exact semL_last l y h
        | false =>
          rw [semL_no hs hb, hz, List.getLast?_cons_cons, ← hz] at h
          exact semL_last l y h
theorem semL_mem : ∀ (X : List (Nat × List UInt8)) (y : Nat × List UInt8), y ∈ semL X → (y ∈ X ∧ silent y.1 = false) ∨ y = (9, [59])
  | [], y, h => by cases h
  | (k, x) :: l, y, h => by
    cases hs : silent k with
    | true =>
      rw [semL_silent hs] at h
      rcases semL_mem l y h with h | h
      · exact .inl ⟨List.mem_cons_of_mem _ h.1, h.2⟩
      · exact .inr h
    | false =>
      have key : ∀ l', y ∈ (k, x) :: l' → (y ∈ l' → (y ∈ l ∧ silent y.1 = false) ∨ y = (9, [59])) → (y ∈ (k, x) :: l ∧ silent y.1 = false) ∨ y = (9, [59]) := by
        intro l' h1 h2
        rcases List.mem_cons.1 h1 with rfl | h1
        · exact .inl ⟨List.mem_cons_self .., hs⟩
        · rcases h2 h1 with h | h
          · exact .inl ⟨List.mem_cons_of_mem _ h.1, h.2⟩
          · exact .inr h
      cases hb : (endB k x && endT l) with
      | true =>
        rw [semL_yes hs hb] at h
        refine key _ h fun h => ?_
        rcases List.mem_cons.1 h with h | h
        · exact .inr h
        · exact semL_mem l y h
      | false =>
        rw [semL_no hs hb] at h
        exact key _ h (semL_mem l y)

/-! ### A semicolon by itself -/
theorem alone_nine {x : List UInt8} (h : Alone 9 x) : x = [59] := by
  obtain ⟨c, r, hr, _, hok, he⟩ := h.wf.rd h.ne
  have hl := h.lex
  unfold Sc.lex at hl
  rw [hr] at hl
  dsimp only at hl
  have key : ∀ z : Nat × Nat, z.1 ≠ 9 → z ≠ (9, x.length) := fun z hz e => hz (by rw [e])
  by_cases h1 : c = 65279
  · rw [if_pos h1] at hl; exact absurd hl (key _ (by simp))
  rw [if_neg h1] at hl
  by_cases h2 : Sc.blank c = true
  · rw [if_pos h2] at hl; exact absurd hl (key _ (by simp))
  rw [if_neg h2] at hl
  by_cases h3 : [47, 47].isPrefixOf x = true
  · rw [if_pos h3] at hl; exact absurd hl (key _ (by simp))
  rw [if_neg h3] at hl
  by_cases h4 : [47, 42].isPrefixOf x = true
  · rw [if_pos h4] at hl; exact absurd hl (key _ (by simp))
  rw [if_neg h4] at hl
  by_cases h5 : Sc.letter c = true
  · rw [if_pos h5] at hl; exact absurd hl (key _ (by dsimp only; split <;> decide))
  rw [if_neg h5] at hl
  by_cases h6 : c = 59
  · rw [if_pos h6] at hl
    have h7 := (Prod.mk.inj hl).2
    subst h6
    rw [show Qm.fm 59 = [59] by decide] at he
    rw [he] at h7
    simp only [List.length_append, List.length_singleton] at h7
    have : r = [] := List.eq_nil_of_length_eq_zero (by omega)
    rw [he, this]; rfl
  rw [if_neg h6] at hl
  exfalso
  revert hl
  split
  · split
    · rename_i k v q hq
      exact key _ (by have := Sc.whole_kind hq; dsimp only; omega)
    · exact key _ (by simp)
  · split
    · split
      · exact key _ (by simp)
      · exact key _ (by
          dsimp only
          have := (Nm.kind_imag (x.take (Nm.runOf x))).2.2.2
          omega)
    · exact key _ (by simp)
theorem rd_semi : Qm.rd [59] = some (59, []) := by
  have := Qm.rd_form (c := 59) (by decide) []
  rw [show Qm.fm 59 = [59] by decide] at this
  exact this
theorem semi_alone : Alone 9 [59] := by
  refine ⟨by simp, ?_, ?_⟩
  · have := Sc.Wf.cons (c := 59) (by decide) Sc.Wf.nil
    rwa [show Qm.fm 59 = [59] by decide, List.append_nil] at this
  · unfold Sc.lex
    rw [rd_semi]
    dsimp only
    rw [if_neg (by decide), if_neg (by decide), if_neg (by decide), if_neg (by decide), if_neg (by decide), if_pos rfl]
    rfl
theorem tks_nine {s : ByteArray} (h : (allA s).2.1 = 0) : ∀ t ∈ (allA s).1, t.k = 9 → cutT s t.f t.t = [59] := by
  intro t ht h9
  have := alone_all h (t.k, cutT s t.f t.t) (List.mem_map.2 ⟨t, ht, rfl⟩)
  dsimp only at this
  rw [h9] at this
  exact alone_nine this
/-- The tokens of a text, as kinds and bytes. -/
theorem toks_all {s : ByteArray} (h : (allA s).2.1 = 0) : toksOf s (semA s).1 = semL (tksOf s (allA s).1) := by
  rw [← semF_all s h, toks_semF s _ (tks_nine h)]

/-! ### The lexemes are the whole text -/
def cat (X : List (Nat × List UInt8)) : List UInt8 := X.flatMap fun x => x.2
theorem cat_cons (k : Nat) (x : List UInt8) (r : List (Nat × List UInt8)) : cat ((k, x) :: r) = x ++ cat r := by simp [cat]
/-- Lexemes that follow one another, each as long as it can be. -/
def Ch : List (Nat × List UInt8) → Prop
  | [] => True
  | (k, x) :: r => x ≠ [] ∧ Sc.lex isW (x ++ cat r) = (k, x.length) ∧ Ch r
theorem lexL_ch : ∀ (f : Nat) (l : List UInt8), l.length ≤ f → Sc.Wf l → (lexL f l).2 = true → Ch (lexL f l).1 ∧ cat (lexL f l).1 = l
  | 0, l, hf, _, _ => by
    have : l = [] := List.eq_nil_of_length_eq_zero (by omega)
    subst this; exact ⟨trivial, rfl⟩
  | f + 1, l, hf, hw, h => by
    by_cases hl : l = []
    · subst hl; rw [lexL_nil]; exact ⟨trivial, rfl⟩
    · by_cases hn : (Sc.lex isW l).2 = 0
      · rw [lexL, if_neg hl, if_pos hn] at h; cases h
      · rw [lexL, if_neg hl, if_neg hn] at h ⊢
        obtain ⟨h1, _, h3⟩ := Sc.lex_cut isW hw hn
        dsimp only at h ⊢
        obtain ⟨i1, i2⟩ := lexL_ch f (l.drop (Sc.lex isW l).2) (by rw [List.length_drop]; omega) h3 h
        have hlen : (l.take (Sc.lex isW l).2).length = (Sc.lex isW l).2 := by rw [List.length_take]; omega
        refine ⟨⟨fun e => by rw [e] at hlen; simp at hlen; omega, ?_, i1⟩, ?_⟩
        · rw [i2, List.take_append_drop, hlen]
        · rw [cat_cons, i2, List.take_append_drop]
theorem lexL_fuel : ∀ (f g : Nat) (l : List UInt8), l.length ≤ f → l.length ≤ g → lexL f l = lexL g l := by
  intro f
  induction f with
  | zero => intro g l h1 h2; obtain rfl := List.eq_nil_of_length_eq_zero (by omega : l.length = 0); rw [lexL_nil, lexL_nil]
  | succ f ih =>
    intro g l h1 h2
    by_cases hl : l = []
    · subst hl; rw [lexL_nil, lexL_nil]
    · have := List.length_pos_iff.2 hl
      obtain ⟨g', rfl⟩ : ∃ g', g = g' + 1 := ⟨g - 1, by omega⟩
      rw [lexL, lexL, if_neg hl, if_neg hl]
      by_cases hn : (Sc.lex isW l).2 = 0
      · rw [if_pos hn, if_pos hn]
      · rw [if_neg hn, if_neg hn, ih g' (l.drop (Sc.lex isW l).2) (by rw [List.length_drop]; omega) (by rw [List.length_drop]; omega)]
/-- Of a text without a fault. -/
theorem lexs_none : ∀ (f p : Nat) (l : List UInt8), (Sc.lexs isW f p l).2 = none → (lexL f l).2 = true
  | 0, p, l, _ => rfl
  | f + 1, p, l, h => by
    by_cases hl : l = []
    · subst hl; rw [lexL_nil]
    · by_cases hn : (Sc.lex isW l).2 = 0
      · rw [Sc.lexs_no isW hl hn] at h; cases h
      · rw [Sc.lexs_yes isW hl hn] at h
        rw [lexL, if_neg hl, if_neg hn]
        exact lexs_none f _ _ h
theorem ch_all {s : ByteArray} (h : (allA s).2.1 = 0) : Ch (tksOf s (allA s).1) ∧ cat (tksOf s (allA s).1) = bl s := by
  obtain ⟨h1, h2, h3⟩ := allA_ok h
  have hw := clean_wf h1
  obtain ⟨r1, _⟩ := lexs_lexL s s.size 0 (by rw [List.drop_zero]; exact hw)
  rw [List.drop_zero] at r1
  rw [h3, r1]
  exact lexL_ch s.size (bl s) (by rw [bl_size]; omega) hw (lexs_none _ _ _ h2)
/-- A clean text that is cut to its end. -/
theorem all_of_lexL {t : ByteArray} (hcl : Cl true (bl t)) (hsz : t.size ≤ 65536) {f : Nat} (hf : t.size ≤ f) (hl : (lexL f (bl t)).2 = true) : (allA t).2.1 = 0 ∧ tksOf t (allA t).1 = (lexL f (bl t)).1 := by
  have hcn := clnI_iff hcl
  have hwf := clean_wf (s := t) (by omega)
  have hb : (bl t).length = t.size := bl_size t
  rw [lexL_fuel f t.size (bl t) (by omega) (by omega)] at hl ⊢
  obtain ⟨r1, r2⟩ := lexs_lexL t t.size 0 (by rw [List.drop_zero]; exact hwf)
  rw [List.drop_zero] at r1 r2
  have hnone := r2 hl
  have hA : allA t = ((Sc.lexs isW t.size 0 (bl t)).1, 0, 0) := by
    unfold allA
    rw [if_neg (by omega), if_neg (by omega), hnone]
  rw [hA]
  exact ⟨rfl, r1⟩
end Go.Proofs.YtnkgbmnjehpkgabGreat

