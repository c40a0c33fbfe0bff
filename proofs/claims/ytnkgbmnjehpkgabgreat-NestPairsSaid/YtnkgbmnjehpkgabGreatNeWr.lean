/- Plain mathematics for NestWrapped: a text in brackets has its tokens between two brackets more, and the partners are one further. -/
import Derived.Test.YtnkgbmnjehpkgabGreatNeMath
import Derived.Test.YtnkgbmnjehpkgabGreatSwWr
import Derived.Test.YtnkgbmnjehpkgabGreatSwSame
namespace Go.Proofs.YtnkgbmnjehpkgabGreat
open Go.RowKit Em
set_option maxRecDepth 100000
set_option linter.unusedVariables false

/-! ### A bracket is a lexeme -/
theorem one_sign (c : UInt8) (h : (Sc.signs.all fun x => decide (x.head? = some c → x.length = 1)) = true) (hc : [c] ∈ Sc.signs) (l : List UInt8) : Sc.sgn (c :: l) = 1 := by
  have no : ∀ n, n ≠ 1 → 0 < n → Sc.sgnB n (c :: l) = false := by
    intro n hn h0
    cases hx : Sc.sgnB n (c :: l) with
    | false => rfl
    | true =>
      obtain ⟨x, hx1, hx2, r, hx3⟩ := Sc.sgnB_some hx
      have h2 := of_decide_eq_true (List.all_eq_true.1 h x hx1)
      exfalso
      match x, hx2, hx3 with
      | [], e, _ => simp at e; omega
      | y :: x', e, e2 =>
        have : y = c := (List.cons.inj e2).1.symm
        have := h2 (by rw [this]; rfl)
        omega
  have yes : Sc.sgnB 1 (c :: l) = true := by
    unfold Sc.sgnB
    exact List.any_eq_true.2 ⟨[c], hc, by simp [List.isPrefixOf]⟩
  unfold Sc.sgn
  rw [no 3 (by omega) (by omega), no 2 (by omega) (by omega), yes]
  rfl
theorem rd_small (c : Nat) (h : c < 128) (l : List UInt8) : Qm.rd (UInt8.ofNat c :: l) = some (c, l) := by
  have hok : Um.okN c := by unfold Um.okN; omega
  have := Qm.rd_form hok l
  rw [Qm.fm_small h] at this
  exact this
theorem brk_lex (c : Nat) (hc : c = 40 ∨ c = 41 ∨ c = 91 ∨ c = 93 ∨ c = 123 ∨ c = 125) (l : List UInt8) : Sc.lex isW ([UInt8.ofNat c] ++ l) = (8, 1) := by
  have hr : Qm.rd (UInt8.ofNat c :: l) = some (c, l) := rd_small c (by omega) l
  unfold Sc.lex
  rw [List.singleton_append, hr]
  dsimp only
  have h1 : c ≠ 65279 := by omega
  have h2 : Sc.blank c = false := by rcases hc with rfl | rfl | rfl | rfl | rfl | rfl <;> decide
  have h3 : ∀ d, [47, d].isPrefixOf (UInt8.ofNat c :: l) = false := by intro d; rcases hc with rfl | rfl | rfl | rfl | rfl | rfl <;> simp [List.isPrefixOf]
  have h5 : Sc.letter c = false := by rcases hc with rfl | rfl | rfl | rfl | rfl | rfl <;> decide
  have h6 : c ≠ 59 := by omega
  have h7 : Sc.mark c = false := by rcases hc with rfl | rfl | rfl | rfl | rfl | rfl <;> decide
  have h8 : Nm.begins (UInt8.ofNat c :: l) = false := by rcases hc with rfl | rfl | rfl | rfl | rfl | rfl <;> rfl
  have h9 : Sc.sgn (UInt8.ofNat c :: l) = 1 := by
    rcases hc with rfl | rfl | rfl | rfl | rfl | rfl <;> exact one_sign _ (by decide) (by decide) l
  rw [if_neg h1, if_neg (by rw [h2]; simp), if_neg (by rw [h3]; simp), if_neg (by rw [h3]; simp), if_neg (by rw [h5]; simp), if_neg h6, if_neg (by rw [h7]; simp), if_neg (by rw [h8]; simp), h9]

/-! ### The lexemes of a text in brackets -/
theorem blank_run {x : List UInt8} (h : Alone 10 x) (hc : Cl false x) : Sc.left Sc.blank x = [] := by
  rcases h.kind with ⟨c, r, hr, hb⟩ | h2
  · exfalso
    have hn : c ≠ 65279 := by
      cases hc with
      | nil => exact absurd rfl h.ne
      | cons h1 h2 h3 h4 h5 =>
        rw [h5, Qm.rd_form h1] at hr
        obtain ⟨rfl, _⟩ := Prod.mk.inj (Option.some.inj hr)
        intro e
        exact absurd (h3 e) (by simp)
    have hl := h.lex
    unfold Sc.lex at hl
    rw [hr] at hl
    dsimp only at hl
    rw [if_neg hn, if_neg (by rw [hb]; simp)] at hl
    have key : ∀ z : Nat × Nat, z.1 ≠ 10 → z ≠ (10, x.length) := fun z hz e => hz (by rw [e])
    revert hl
    split
    · exact key _ (by simp)
    · split
      · exact key _ (by simp)
      · split
        · exact key _ (by dsimp only; split <;> decide)
        · split
          · exact key _ (by simp)
          · split
            · split
              · rename_i k v q hq
                exact key _ (by have := Sc.whole_kind hq; dsimp only; omega)
              · exact key _ (by simp)
            · split
              · split
                · exact key _ (by simp)
                · exact key _ (by
                    dsimp only
                    have := (Nm.kind_imag (x.take (Nm.runOf x))).2.2.2
                    omega)
              · exact key _ (by simp)
  · exact h2.2
theorem rd_shut : Qm.rd [41] = some (41, []) := rd_small 41 (by omega) []
theorem wrap_lex : ∀ (X : List (Nat × List UInt8)) (f : Nat), (∀ x ∈ X, Alone x.1 x.2 ∧ Cl false x.2) → Ch X → Sc.Wf (cat X) → (cat X ++ [10, 41]).length ≤ f →
    (lexL f (cat X ++ [10, 41])).2 = true ∧ semL (lexL f (cat X ++ [10, 41])).1 = semL X ++ [(8, [41]), (9, [59])] ∧ endT (lexL f (cat X ++ [10, 41])).1 = endT X := by
  have hlast : ∀ f, lexL (f + 1) [41] = ([(8, [41])], true) := by
    intro f
    have h := lexL_yes (f := f) (k := 8) (x := [41]) (r := []) (by simp) (brk_lex 41 (by omega) [])
    rw [lexL_nil] at h
    exact h
  have hsem : semL [(8, [41])] = [(8, [41]), (9, [59])] := by
    rw [semL_yes (by decide) (by decide)]; rfl
  intro X
  induction X with
  | nil =>
    intro f _ _ _ hf
    rw [show cat [] = [] from rfl, List.nil_append] at hf ⊢
    simp only [List.length_cons, List.length_nil] at hf
    obtain ⟨g, rfl⟩ : ∃ g, f = g + 2 := ⟨f - 2, by omega⟩
    have h1 : Sc.lex isW ([10] ++ [41]) = (10, [(10 : UInt8)].length) := lex_blank_run (by simp) left_nl (Sc.left_no rd_shut (by decide))
    have h2 := lexL_yes (f := g + 1) (by simp) h1
    rw [hlast] at h2
    rw [show ([10, 41] : List UInt8) = [10] ++ [41] from rfl, h2]
    refine ⟨rfl, ?_, rfl⟩
    rw [semL_silent (by decide), hsem]
    rfl
  | cons kx r ih =>
    obtain ⟨k, x⟩ := kx
    intro f ha hch hw hf
    obtain ⟨hax, hclx⟩ := ha (k, x) (by simp)
    have har : ∀ y ∈ r, Alone y.1 y.2 ∧ Cl false y.2 := fun y hy => ha y (by simp [hy])
    obtain ⟨hx, hlx, hcr⟩ := hch
    dsimp only at hax hclx
    rw [cat_cons] at hw hf ⊢
    have hp := List.length_pos_iff.2 hx
    have hwr : Sc.Wf (cat r) := by
      have h0 := (Sc.lex_cut isW hw (by rw [hlx]; dsimp only; omega)).2.2
      rw [hlx] at h0
      rwa [List.drop_left' rfl] at h0
    rw [List.append_assoc, List.length_append] at hf
    rw [List.append_assoc]
    by_cases hk : k = 10 ∧ r = []
    · obtain ⟨rfl, rfl⟩ := hk
      have hbl := blank_run hax hclx
      rw [show cat [] = [] from rfl, List.nil_append] at hf ⊢
      simp only [List.length_cons, List.length_nil] at hf
      obtain ⟨g, rfl⟩ : ∃ g, f = g + 2 := ⟨f - 2, by omega⟩
      have h1 : Sc.lex isW ((x ++ [10]) ++ [41]) = (10, (x ++ [10]).length) := lex_blank_run (by simp) (by rw [left_append hbl, left_nl]) (Sc.left_no rd_shut (by decide))
      have h2 := lexL_yes (f := g + 1) (by simp) h1
      rw [hlast, List.append_assoc, List.singleton_append] at h2
      rw [h2]
      refine ⟨rfl, ?_, ?_⟩
      · have q1 : semL ((10, x ++ [10]) :: [(8, [41])]) = semL [(8, [41])] := semL_silent (by decide)
        have q2 : semL [(10, x)] = semL [] := semL_silent (by decide)
        show semL ((10, x ++ [10]) :: [(8, [41])]) = _
        rw [q1, q2, hsem]; rfl
      · have q1 : endT ((10, x ++ [10]) :: [(8, [41])]) = (hasNL (x ++ [10]) || endT [(8, [41])]) := endT_silent (by decide)
        have q2 : endT [(10, x)] = (hasNL x || endT []) := endT_silent (by decide)
        show endT ((10, x ++ [10]) :: [(8, [41])]) = _
        rw [q1, q2, hasNL_append, show hasNL [10] = true by decide, show endT [] = true from rfl]
        simp
    · have hl : Sc.lex isW (x ++ (cat r ++ [10, 41])) = (k, x.length) := by
        cases r with
        | nil =>
          have hk' : k ≠ 10 := fun e => hk ⟨e, rfl⟩
          exact lex_sim hw hx hlx (.inr ⟨10, [41], rfl, .inl rfl, hk', fun _ => rfl⟩)
        | cons y r =>
          obtain ⟨k2, y⟩ := y
          obtain ⟨hay, _⟩ := har (k2, y) (by simp)
          dsimp only at hay
          obtain ⟨c, q, hr, _⟩ := hay.wf.rd hay.ne
          rw [cat_cons] at hw hlx ⊢
          have r1 := rd_app hr (cat r)
          have r2 := rd_app hr (cat r ++ [10, 41])
          have hne := hay.ne
          clear hr hay
          obtain ⟨u, y', rfl⟩ := List.exists_cons_of_ne_nil hne
          rw [List.append_assoc]
          rw [List.cons_append] at hw hlx r1 r2 ⊢
          refine lex_same (a := y' ++ cat r) (b := y' ++ (cat r ++ [10, 41])) hw hx hlx r1 r2 ?_
          rw [← List.append_assoc]
          cases y' ++ cat r with
          | nil => exact .inr (.inr ⟨10, [41], rfl, .inl rfl⟩)
          | cons v z => exact .inl (by simp)
      obtain ⟨g, rfl⟩ : ∃ g, f = g + 1 := ⟨f - 1, by omega⟩
      obtain ⟨i1, i2, i3⟩ := ih g har hcr hwr (by omega)
      rw [lexL_yes hx hl]
      refine ⟨i1, ?_, ?_⟩
      · cases hs : silent k with
        | true => rw [semL_silent hs, semL_silent hs, i2]
        | false =>
          cases hb : (endB k x && endT r) with
          | true => rw [semL_yes hs (by rw [i3]; exact hb), semL_yes hs hb, i2]; rfl
          | false => rw [semL_no hs (by rw [i3]; exact hb), semL_no hs hb, i2]; rfl
      · rw [endT, endT, i3]
theorem cl_each : ∀ (X : List (Nat × List UInt8)), (∀ x ∈ X, Alone x.1 x.2) → Cl false (cat X) → ∀ x ∈ X, Cl false x.2
  | [], _, _ => by simp
  | (k, x) :: X, ha, h => by
    have hax := ha (k, x) (by simp)
    rw [cat_cons] at h
    obtain ⟨h1, h2⟩ := cl_split hax.wf h
    intro y hy
    rcases List.mem_cons.1 hy with rfl | hy
    · exact h1
    · exact cl_each X (fun z hz => ha z (by simp [hz])) (h2 hax.ne) y hy
theorem Cl.weak {l : List UInt8} (h : Cl true l) (hb : ∀ r, Qm.rd l ≠ some (65279, r)) : Cl false l := by
  cases h with
  | nil => exact .nil _
  | cons h1 h2 h3 h4 h5 =>
    rename_i c r
    refine .cons h1 h2 (fun e => ?_) h4 h5
    exfalso
    refine hb r ?_
    rw [h5, Qm.rd_form h1, e]
theorem cl_byte {c : Nat} (h : c < 128) (h0 : c ≠ 0) {l : List UInt8} (hl : Cl false l) (b : Bool) : Cl b (UInt8.ofNat c :: l) := by
  have hok : Um.okN c := by unfold Um.okN; omega
  exact .cons (c := c) hok h0 (fun e => by omega) hl (by rw [Qm.fm_small h]; rfl)
/-- The tokens of a text in brackets. -/
theorem wrap_all {s t : ByteArray} (h : (allA s).2.1 = 0) (hb : ∀ r, Qm.rd (bl s) ≠ some (65279, r)) (ht : bl t = 40 :: (bl s ++ [10, 41])) (hsz : t.size ≤ 65536) :
    (allA t).2.1 = 0 ∧ toksOf t (semA t).1 = (8, [40]) :: (toksOf s (semA s).1 ++ [(8, [41]), (9, [59])]) := by
  obtain ⟨h1, h2, h3⟩ := allA_ok h
  obtain ⟨hch, hcat⟩ := ch_all h
  have hal := alone_all h
  have hcs : Cl false (bl s) := (cl_of_ok h1).weak hb
  have hcl : Cl true (bl t) := by
    rw [ht]
    refine cl_byte (c := 40) (by omega) (by omega) (hcs.append (fun _ => ?_) ?_) true
    · exact cl_byte (c := 10) (by omega) (by omega) (cl_byte (c := 41) (by omega) (by omega) (.nil _) _) _
    · exact cl_byte (c := 10) (by omega) (by omega) (cl_byte (c := 41) (by omega) (by omega) (.nil _) _) _
  have hlen : (bl s ++ [10, 41]).length + 1 = t.size := by rw [← bl_size t, ht, List.length_cons]
  have hw := wrap_lex (tksOf s (allA s).1) (bl s ++ [10, 41]).length (fun x hx => ⟨hal x hx, cl_each _ hal (by rw [hcat]; exact hcs) x hx⟩) hch (by rw [hcat]; exact clean_wf h1) (by rw [hcat]; omega)
  rw [hcat] at hw
  have hy := lexL_yes (f := (bl s ++ [10, 41]).length) (k := 8) (x := [40]) (r := bl s ++ [10, 41]) (by simp) (brk_lex 40 (by omega) _)
  rw [show ([40] : List UInt8) ++ (bl s ++ [10, 41]) = bl t from ht.symm] at hy
  obtain ⟨h4, h5⟩ := all_of_lexL hcl hsz (f := (bl s ++ [10, 41]).length + 1) (by omega) (by rw [hy]; exact hw.1)
  refine ⟨h4, ?_⟩
  rw [toks_all h4, h5, hy, toks_all h]
  dsimp only
  rw [semL_no (by decide) (by rw [show endB 8 [40] = false by decide]; rfl), hw.2.1]

/-! ### The brackets of tokens -/
theorem semF_mem (s : ByteArray) : ∀ (L : List Sc.Tk) (t : Sc.Tk), t ∈ semF s L → t ∈ L ∨ t.f = t.t
  | [], t, h => by cases h
  | u :: l, t, h => by
    rw [semF] at h
    split at h
    · rcases semF_mem s l t h with h | h
      · exact .inl (List.mem_cons_of_mem _ h)
      · exact .inr h
    · split at h
      · rcases List.mem_cons.1 h with rfl | h
        · exact .inl (List.mem_cons_self ..)
        · rcases List.mem_cons.1 h with rfl | h
          · exact .inr rfl
          · rcases semF_mem s l t h with h | h
            · exact .inl (List.mem_cons_of_mem _ h)
            · exact .inr h
      · rcases List.mem_cons.1 h with rfl | h
        · exact .inl (List.mem_cons_self ..)
        · rcases semF_mem s l t h with h | h
          · exact .inl (List.mem_cons_of_mem _ h)
          · exact .inr h
def bX (X : List (Nat × List UInt8)) (i : Nat) : Int := brk (X.getD i (0, [])).2
theorem nb_tok {s : ByteArray} (h : (allA s).2.1 = 0) {i : Nat} (hi : i < (semA s).1.length) : nb s (semA s).1 i = bX (toksOf s (semA s).1) i := by
  have e : (toksOf s (semA s).1).getD i (0, []) = tokX s (nthT (semA s).1 i) := by
    unfold toksOf
    rw [nthT_get hi]
    simp [hi]
  unfold nb bX
  rw [e]
  unfold tokX
  by_cases h9 : (nthT (semA s).1 i).k = 9
  · rw [if_pos h9]
    have hm : nthT (semA s).1 i ∈ semF s (allA s).1 := by rw [semF_all s h, nthT_get hi]; exact List.getElem_mem _
    rcases semF_mem s _ _ hm with h1 | h1
    · rw [tks_nine h _ h1 h9]
    · rw [h1]
      have : cutT s (nthT (semA s).1 i).t (nthT (semA s).1 i).t = [] := by unfold cutT; exact List.drop_of_length_le (by rw [List.length_take]; omega)
      rw [this]; rfl
  · rw [if_neg h9]
theorem nAt_cong {b b' : Nat → Int} {n : Nat} (h : ∀ i, i < n → b i = b' i) : ∀ i, i ≤ n → nAt b i = nAt b' i
  | 0, _ => rfl
  | i + 1, hi => by
    have ih := nAt_cong h i (by omega)
    cases hx : nAt b i with
    | bad c k => rw [nAt, nAt, ← ih, hx]
    | ok st p m =>
      rw [nAt_ok hx, nAt_ok (ih ▸ hx)]
      have hNI := ni_at b i st p m hx
      have hi' := h i (by omega)
      unfold nStep
      rw [hi']
      cases st with
      | nil => rfl
      | cons j r =>
        have := h j (by have := (hNI.s1 j (by simp)).1; omega)
        dsimp only
        rw [this]

/-! ### The partners are one further -/
def shf (p : Nat → Int) : Nat → Int
  | 0 => -1
  | k + 1 => if p k = -1 then -1 else p k + 1
theorem shf_upd (p : Nat → Int) (k : Nat) (v : Nat) : shf (upd p k v) = upd (shf p) (k + 1) ((v + 1 : Nat) : Int) := by
  funext i
  cases i with
  | zero => rw [upd_far _ _ (by omega)]; rfl
  | succ i =>
    by_cases e : i = k
    · subst e
      rw [upd_same]
      show (if upd p i v i = -1 then -1 else upd p i v i + 1) = _
      rw [upd_same, if_neg (by omega)]; rfl
    · rw [upd_far _ _ (by omega)]
      show (if upd p k v i = -1 then -1 else upd p k v i + 1) = _
      rw [upd_far _ _ e]; rfl
theorem shf_start : shf (fun _ => -1) = fun _ => -1 := by
  funext i
  cases i <;> rfl
theorem shift {b b' : Nat → Int} {n : Nat} (h0 : 0 < b' 0) (h : ∀ i, i < n → b' (i + 1) = b i) : ∀ i, i ≤ n → ∀ st p m, nAt b i = .ok st p m →
    (m ≤ 99 ∧ nAt b' (i + 1) = .ok (st.map (· + 1) ++ [0]) (shf p) (m + 1)) ∨ (m = 100 ∧ ∃ k, nAt b' (i + 1) = .bad 6 k)
  | 0, _, st, p, m, hx => by
    rw [nAt] at hx
    injection hx with e1 e2 e3
    subst e1; subst e2; subst e3
    left
    have : nAt b' 0 = .ok [] (fun _ => -1) 0 := rfl
    rw [nAt_ok this, step_open h0 (by simp), shf_start]
    exact ⟨by omega, rfl⟩
  | i + 1, hi, st, p, m, hx => by
    cases hy : nAt b i with
    | bad c k => rw [nAt, hy] at hx; cases hx
    | ok st0 p0 m0 =>
      have ih := shift h0 h i (by omega) st0 p0 m0 hy
      have hNI := ni_at b _ _ _ _ hx
      have hN0 := ni_at b _ _ _ _ hy
      rw [nAt_ok hy] at hx
      have hbi := h i (by omega)
      have mono : m0 ≤ m := by
        unfold nStep at hx
        split at hx
        · split at hx
          · cases hx
          · injection hx with _ _ e3; omega
        · split at hx
          · split at hx
            · cases hx
            · split at hx
              · injection hx with _ _ e3; omega
              · cases hx
          · injection hx with _ _ e3; omega
      rcases ih with ⟨hm, ha⟩ | ⟨hm, k, hk⟩
      · rcases Int.lt_trichotomy (b i) 0 with hb | hb | hb
        · cases st0 with
          | nil => rw [step_none hb] at hx; cases hx
          | cons j r =>
            by_cases hz : b j + b i = 0
            · rw [step_shut hb hz] at hx
              injection hx with e1 e2 e3
              subst e1; subst e2; subst e3
              left
              have hj := h j (by have := (hN0.s1 j (by simp)).1; omega)
              refine ⟨hm, ?_⟩
              rw [nAt_ok ha]
              show nStep b' (i + 1) ((j + 1) :: (r.map (· + 1) ++ [0])) _ _ = _
              rw [step_shut (by rw [hbi]; exact hb) (by rw [hbi, hj]; exact hz), shf_upd, shf_upd]
            · rw [step_wrong hb hz] at hx; cases hx
        · rw [step_rest hb] at hx
          injection hx with e1 e2 e3
          subst e1; subst e2; subst e3
          exact .inl ⟨hm, by rw [nAt_ok ha, step_rest (by rw [hbi]; exact hb)]⟩
        · by_cases hl : st0.length = 100
          · rw [step_deep hb hl] at hx; cases hx
          · rw [step_open hb hl] at hx
            injection hx with e1 e2 e3
            subst e1; subst e2; subst e3
            have hhm := hNI.hm
            simp only [List.length_cons] at hhm
            by_cases h99 : st0.length = 99
            · right
              refine ⟨by omega, i + 1, ?_⟩
              rw [nAt_ok ha]
              exact step_deep (by rw [hbi]; exact hb) (by simp; omega)
            · left
              refine ⟨by omega, ?_⟩
              rw [nAt_ok ha, step_open (by rw [hbi]; exact hb) (by simp; omega)]
              have e : max (m0 + 1) ((st0.map (· + 1) ++ [0]).length + 1) = max m0 (st0.length + 1) + 1 := by
                simp only [List.length_append, List.length_map, List.length_singleton]; omega
              rw [e]; rfl
      · right
        refine ⟨by have := hNI.hm; omega, k, nAt_bad hk _ (by omega)⟩

theorem semA_all {s : ByteArray} (h : (semA s).2.1 = 0) : (allA s).2.1 = 0 := by
  unfold semA at h
  split at h
  · assumption
  · exact h
theorem all_semA {s : ByteArray} (h : (allA s).2.1 = 0) : (semA s).2.1 = 0 := by unfold semA; rw [if_pos h]
theorem bom_no {s : ByteArray} (h : ¬ (2 < s.size ∧ bl (s.extract 0 3) = [239, 187, 191])) : ∀ r, Qm.rd (bl s) ≠ some (65279, r) := by
  intro r hr
  obtain ⟨_, h2⟩ := Qm.rd_some hr
  rw [show Qm.fm 65279 = [239, 187, 191] by decide] at h2
  refine h ⟨?_, ?_⟩
  · have := congrArg List.length h2
    rw [bl_size, List.length_append] at this
    simp at this; omega
  · rw [cutT_ext]
    unfold cutT
    rw [h2]; rfl
/-- Brackets around a text. -/
theorem wrapped_nest {s t : ByteArray} {p : Nat → Int} {m : Nat} (hs0 : (semA s).2.1 = 0) (hn : nAt (nb s (semA s).1) (semA s).1.length = .ok [] p m)
    (hb : ¬ (2 < s.size ∧ bl (s.extract 0 3) = [239, 187, 191])) (ht : bl t = 40 :: (bl s ++ [10, 41])) (hsz : t.size ≤ 65536) :
    (m = 100 ∧ nestE t = 6 ∧ nestT t = []) ∨ (m ≤ 99 ∧ (nestT t).length = (semA s).1.length + 3 ∧ nestE t = 0 ∧ nestF t = 0 ∧ nestM t = m + 1 ∧ nestP t 0 = ((semA s).1.length : Int) + 1 ∧
      ∀ i, i < (semA s).1.length → nestP t (i + 1) = (if p i = -1 then -1 else p i + 1) ∧ (nthT (nestT t) (i + 1)).k = (nthT (semA s).1 i).k) := by
  have hA := semA_all hs0
  obtain ⟨h1, h2⟩ := wrap_all hA (bom_no hb) ht hsz
  have ht0 := all_semA h1
  have hlen : (semA t).1.length = (semA s).1.length + 3 := by
    have := congrArg List.length h2
    unfold toksOf at this
    rw [List.length_map, List.length_cons, List.length_append, List.length_map] at this
    simp at this; omega
  have hX : (toksOf s (semA s).1).length = (semA s).1.length := by unfold toksOf; rw [List.length_map]
  have b0 : nb t (semA t).1 0 = 1 := by rw [nb_tok h1 (by omega), h2]; rfl
  have bi : ∀ i, i < (semA s).1.length → nb t (semA t).1 (i + 1) = nb s (semA s).1 i := by
    intro i hi
    rw [nb_tok h1 (by omega), nb_tok hA hi, h2]
    unfold bX
    rw [List.getD_cons_succ]
    congr 2
    rw [List.getD_eq_getElem?_getD, List.getD_eq_getElem?_getD, List.getElem?_append_left (by omega)]
  have bn : nb t (semA t).1 ((semA s).1.length + 1) = -1 := by
    rw [nb_tok h1 (by omega), h2]
    unfold bX
    rw [List.getD_cons_succ, List.getD_eq_getElem?_getD, List.getElem?_append_right (by omega), hX, Nat.sub_self]
    rfl
  have bz : nb t (semA t).1 ((semA s).1.length + 2) = 0 := by
    rw [nb_tok h1 (by omega), h2]
    unfold bX
    rw [show (semA s).1.length + 2 = ((semA s).1.length + 1) + 1 from rfl, List.getD_cons_succ, List.getD_eq_getElem?_getD, List.getElem?_append_right (by omega), hX, show (semA s).1.length + 1 - (semA s).1.length = 1 by omega]
    rfl
  have hkind : ∀ i, i < (semA s).1.length → (nthT (semA t).1 (i + 1)).k = (nthT (semA s).1 i).k := by
    intro i hi
    have e1 : (toksOf t (semA t).1)[i + 1]? = some (tokX t (nthT (semA t).1 (i + 1))) := by
      unfold toksOf; rw [List.getElem?_map, List.getElem?_eq_getElem (by omega), nthT_get (by omega)]; rfl
    have e2 : (toksOf s (semA s).1)[i]? = some (tokX s (nthT (semA s).1 i)) := by
      unfold toksOf; rw [List.getElem?_map, List.getElem?_eq_getElem hi, nthT_get hi]; rfl
    rw [h2, List.getElem?_cons_succ, List.getElem?_append_left (by omega), e2] at e1
    exact (congrArg Prod.fst (Option.some.inj e1)).symm
  rcases shift (b := nb s (semA s).1) (b' := nb t (semA t).1) (n := (semA s).1.length) (by omega) bi _ (Nat.le_refl _) [] p m hn with ⟨hm, ha⟩ | ⟨hm, k, hk⟩
  · right
    have h3 : nAt (nb t (semA t).1) ((semA s).1.length + 1 + 1) = .ok [] (upd (upd (shf p) ((semA s).1.length + 1) (0 : Nat)) 0 ((semA s).1.length + 1 : Nat)) (m + 1) := by
      rw [nAt_ok ha]
      exact step_shut (by omega) (by omega)
    have h4 : nAt (nb t (semA t).1) ((semA s).1.length + 3) = .ok [] (upd (upd (shf p) ((semA s).1.length + 1) (0 : Nat)) 0 ((semA s).1.length + 1 : Nat)) (m + 1) := by
      rw [nAt_ok h3]
      exact step_rest bz
    have hf : nFin (nb t (semA t).1) (semA t).1.length = .ok [] (upd (upd (shf p) ((semA s).1.length + 1) (0 : Nat)) 0 ((semA s).1.length + 1 : Nat)) (m + 1) := by
      unfold nFin; rw [hlen, h4]
    obtain ⟨a1, a2, a3, a4, a5⟩ := nest_ok ht0 hf
    refine ⟨hm, by rw [a1, hlen], a4, a5, a3, by rw [a2, upd_same]; omega, fun i hi => ⟨?_, by rw [a1]; exact hkind i hi⟩⟩
    rw [a2, upd_far _ _ (by omega), upd_far _ _ (by omega)]
    rfl
  · left
    have hf : nFin (nb t (semA t).1) (semA t).1.length = .bad 6 k := by
      unfold nFin; rw [nAt_bad hk _ (by omega)]
    obtain ⟨a1, a2, a3, a4⟩ := nest_bad ht0 hf
    exact ⟨hm, a3, a1⟩
end Go.Proofs.YtnkgbmnjehpkgabGreat

