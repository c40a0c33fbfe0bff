/- Plain mathematics for SemiComments: a comment is as good as a blank, or as a line's end. -/
import Derived.Test.YtnkgbmnjehpkgaaSwWr
import Derived.Test.YtnkgbmnjehpkgaaSwSame
namespace Go.Proofs.Ytnkgbmnjehpkgaa
open Go.RowKit Em
set_option maxRecDepth 100000
set_option linter.unusedVariables false

/-! ### The comments turned -/
def cvD (k : Nat) (x : List UInt8) : UInt8 := if k = 11 then 10 else if hasNL x = true then 10 else 32
def cvT (k : Nat) (x : List UInt8) : List UInt8 := if k = 11 ∨ k = 12 then [cvD k x] else x
def cv (X : List (Nat × List UInt8)) : List UInt8 := X.flatMap fun x => cvT x.1 x.2
theorem cv_cons (k : Nat) (x : List UInt8) (r : List (Nat × List UInt8)) : cv ((k, x) :: r) = cvT k x ++ cv r := by simp [cv]
theorem cvT_yes {k : Nat} (h : k = 11 ∨ k = 12) (x : List UInt8) : cvT k x = [cvD k x] := if_pos h
theorem cvT_no {k : Nat} (h : ¬ (k = 11 ∨ k = 12)) (x : List UInt8) : cvT k x = x := if_neg h
theorem cvD_or (k : Nat) (x : List UInt8) : cvD k x = 10 ∨ cvD k x = 32 := by
  unfold cvD; split
  · exact .inl rfl
  · split
    · exact .inl rfl
    · exact .inr rfl
theorem cv_tl (r : List (Nat × List UInt8)) (hne : ∀ y ∈ r, y.2 ≠ []) : Tl (cat r) (cv r) := by
  cases r with
  | nil => exact .inr (.inl rfl)
  | cons y r =>
    obtain ⟨k, x⟩ := y
    rw [cat_cons, cv_cons]
    by_cases h : k = 11 ∨ k = 12
    · rw [cvT_yes h]
      exact .inr (.inr ⟨_, _, rfl, cvD_or k x⟩)
    · rw [cvT_no h]
      have := hne (k, x) (by simp)
      match x, this with
      | u :: x', _ => exact .inl (by simp)
/-- A token stays the lexeme that it is when the comments behind it are turned. -/
theorem lex_turned {k : Nat} {x : List UInt8} {r : List (Nat × List UInt8)} (hw : Sc.Wf (x ++ cat r)) (hx : x ≠ []) (h : Sc.lex isW (x ++ cat r) = (k, x.length)) (hs : silent k = false)
    (ha : ∀ y ∈ r, Alone y.1 y.2) : Sc.lex isW (x ++ cv r) = (k, x.length) := by
  obtain ⟨n1, n2, n3⟩ := silent_no hs
  cases r with
  | nil => exact h
  | cons y r =>
    obtain ⟨k2, y⟩ := y
    rw [cat_cons] at hw h
    rw [cv_cons]
    by_cases hc : k2 = 11 ∨ k2 = 12
    · rw [cvT_yes hc]
      exact lex_sim hw hx h (.inr ⟨_, _, rfl, cvD_or k2 y, n1, fun e => absurd e n2⟩)
    · rw [cvT_no hc]
      have hy := ha (k2, y) (by simp)
      obtain ⟨c, q, hr, _⟩ := hy.wf.rd hy.ne
      have hne := hy.ne
      have r1 := rd_app hr (cat r)
      have r2 := rd_app hr (cv r)
      have htl := cv_tl r (fun z hz => (ha z (by simp [hz])).ne)
      clear hr
      obtain ⟨u, y', rfl⟩ := List.exists_cons_of_ne_nil hne
      rw [List.cons_append] at hw h r1 r2 ⊢
      refine lex_same (a := y' ++ cat r) (b := y' ++ cv r) hw hx h r1 r2 ?_
      cases y' with
      | nil => exact htl
      | cons v y2 => exact .inl (by simp)
theorem hasNL_cons (d : UInt8) (l : List UInt8) : hasNL (d :: l) = (decide (d = 10) || hasNL l) := by
  unfold hasNL
  rw [List.contains_cons]
  congr 1
  by_cases h : d = 10
  · subst h; rfl
  · rw [decide_eq_false h]; exact beq_eq_false_iff_ne.2 (fun e => h e.symm)
theorem no_line {x : List UInt8} (hw : Sc.Wf x) : Sc.left Sc.lineC x = [] → hasNL x = false := by
  induction hw with
  | nil => exact fun _ => rfl
  | @cons c r hc hr ih =>
    intro hl
    have hrd : Qm.rd (Qm.fm c ++ r) = some (c, r) := Qm.rd_form hc r
    cases hp : Sc.lineC c with
    | false =>
      rw [Sc.left_no hrd hp] at hl
      exact absurd (List.append_eq_nil_iff.1 hl).1 (Qm.fm_ne hc)
    | true =>
      rw [Sc.left_yes hrd hp] at hl
      have hn : c ≠ 10 := of_decide_eq_true hp
      rw [hasNL_append, ih hl, Bool.or_false]
      unfold hasNL
      rw [List.contains_eq_any_beq, List.any_eq_false]
      intro y hy
      rw [beq_iff_eq]
      rintro rfl
      rcases Sc.fm_shape hc with ⟨h1, h2⟩ | ⟨_, a, t, h2, h3, h4⟩
      · rw [h2] at hy
        have := List.mem_singleton.1 hy
        have h5 := congrArg UInt8.toNat this
        rw [UInt8.toNat_ofNat_of_lt' (by show c < 256; omega)] at h5
        exact hn h5.symm
      · rw [h2] at hy
        rcases List.mem_cons.1 hy with rfl | hy
        · revert h3; decide
        · have := (h4 _ hy).1
          revert this; decide
theorem lex_line {x a : List UInt8} (hx : x ≠ []) (hxw : Sc.Wf x) (h : Sc.lex isW (x ++ a) = (11, x.length)) : Sc.cnt Sc.lineC (x ++ a) = x.length := by
  obtain ⟨c, r, hr, _, hok, he⟩ := hxw.rd hx
  have hrd := rd_app hr a
  have key : ∀ z : Nat × Nat, z.1 ≠ 11 → z ≠ (11, x.length) := fun z hz e => hz (by rw [e])
  unfold Sc.lex at h
  rw [hrd] at h
  dsimp only at h
  by_cases h1 : c = 65279
  · rw [if_pos h1] at h; exact absurd h (key _ (by simp))
  rw [if_neg h1] at h
  by_cases h2 : Sc.blank c = true
  · rw [if_pos h2] at h; exact absurd h (key _ (by simp))
  rw [if_neg h2] at h
  by_cases h3 : [47, 47].isPrefixOf (x ++ a) = true
  · rw [if_pos h3] at h; exact (Prod.mk.inj h).2
  rw [if_neg h3] at h
  exfalso
  revert h
  split
  · exact key _ (by simp)
  · split
    · exact key _ (by dsimp only; split <;> decide)
    · split
      · exact key _ (by simp)
      · split
        · split
          · rename_i k v q hq
            exact key _ (by have := Sc.whole_kind hq; dsimp only; omega)
          · exact key _ (by simp)
        · split
          · split
            · exact key _ (by simp)
            · exact key _ (by
                dsimp only
                have := (Nm.kind_imag ((x ++ a).take (Nm.runOf (x ++ a)))).2.2.2
                omega)
          · exact key _ (by simp)
/-- Behind a comment of a line a line ends. -/
theorem line_end {x : List UInt8} {r : List (Nat × List UInt8)} (hx : x ≠ []) (hxw : Sc.Wf x) (h : Sc.lex isW (x ++ cat r) = (11, x.length)) (hch : Ch r) (ha : ∀ y ∈ r, Alone y.1 y.2) : hasNL x = false ∧ endT r = true := by
  have hc := lex_line hx hxw h
  obtain ⟨x0, e, hy, hno⟩ := Sc.left_split Sc.lineC (x ++ cat r).length (x ++ cat r) (Nat.le_refl _)
  have hl : Sc.left Sc.lineC (x ++ cat r) = cat r := by rw [Sc.left_drop, hc, List.drop_left' rfl]
  have e2 : x = x0 := List.append_cancel_right (by rw [hl] at e; exact e)
  subst e2
  refine ⟨no_line hxw ?_, ?_⟩
  · have := hy []
    rw [List.append_nil, left_empty] at this
    exact this
  · cases r with
    | nil => rfl
    | cons y r =>
      obtain ⟨k, y⟩ := y
      obtain ⟨h1, h2, h3⟩ := hch
      have hal := ha (k, y) (by simp)
      obtain ⟨c, q, hr, _, hok, he⟩ := hal.wf.rd hal.ne
      dsimp only at hr he h2
      have hrd := rd_app hr (cat r)
      have hca : cat ((k, y) :: r) = y ++ cat r := cat_cons k y r
      rw [hl, hca] at hno
      have hc10 : c = 10 := by
        have := of_decide_eq_false (hno c _ hrd)
        omega
      subst hc10
      rw [show Qm.fm 10 = [10] by decide] at he
      have hk : k = 10 := by
        unfold Sc.lex at h2
        rw [hrd] at h2
        dsimp only at h2
        rw [if_neg (by decide), if_pos (by decide)] at h2
        exact (Prod.mk.inj h2).1.symm
      subst hk
      rw [endT_silent (by decide), he]
      show (hasNL (10 :: q) || _) = true
      rw [hasNL_cons]; rfl

theorem left_blanks {B x : List UInt8} (h1 : Sc.left Sc.blank B = []) (h2 : Sc.left Sc.blank x = []) : Sc.left Sc.blank (B ++ x) = [] := by rw [left_append h1, h2]
theorem cvD_blank (k : Nat) (x : List UInt8) : Sc.left Sc.blank [cvD k x] = [] := by
  rcases cvD_or k x with h | h <;> rw [h]
  · exact left_nl
  · exact left_sp
theorem comm : ∀ (rest : List (Nat × List UInt8)) (B : List UInt8) (f : Nat), (∀ x ∈ rest, Alone x.1 x.2) → Ch rest → Sc.Wf (cat rest) → Sc.left Sc.blank B = [] → (B ++ cv rest).length ≤ f →
    (lexL f (B ++ cv rest)).2 = true ∧ semL (lexL f (B ++ cv rest)).1 = semL rest ∧ endT (lexL f (B ++ cv rest)).1 = (hasNL B || endT rest)
  | [], B, f, _, _, _, hl, hf => by
    rw [show cv [] = [] from rfl] at hf ⊢
    by_cases hB : B = []
    · subst hB; rw [List.append_nil, lexL_nil]; exact ⟨rfl, rfl, rfl⟩
    · have := List.length_pos_iff.2 hB
      rw [List.append_nil] at hf
      obtain ⟨g, rfl⟩ : ∃ g, f = g + 1 := ⟨f - 1, by omega⟩
      rw [lexL_yes hB (lex_blank_run hB hl (left_empty _)), lexL_nil]
      exact ⟨rfl, rfl, by rw [endT_silent (by decide)]⟩
  | (k, x) :: rest, B, f, ha, hch, hw, hl, hf => by
    have hax : Alone k x := ha (k, x) (by simp)
    have har : ∀ y ∈ rest, Alone y.1 y.2 := fun y hy => ha y (by simp [hy])
    obtain ⟨hx, hlx, hcr⟩ := hch
    rw [cat_cons] at hw
    have hwr : Sc.Wf (cat rest) := by
      have h0 := (Sc.lex_cut isW hw (by rw [hlx]; have := List.length_pos_iff.2 hx; dsimp only; omega)).2.2
      rw [hlx] at h0
      rwa [List.drop_left' rfl] at h0
    rw [cv_cons] at hf ⊢
    by_cases hc : k = 11 ∨ k = 12
    · rw [cvT_yes hc] at hf ⊢
      have ih := comm rest (B ++ [cvD k x]) f har hcr hwr (left_blanks hl (cvD_blank k x)) (by rw [List.append_assoc]; exact hf)
      rw [List.append_assoc] at ih
      have hs : silent k = true := by rcases hc with rfl | rfl <;> decide
      rw [semL_silent hs, endT_silent hs]
      refine ⟨ih.1, ih.2.1, ?_⟩
      rw [ih.2.2, hasNL_append, Bool.or_assoc]
      congr 1
      rcases hc with rfl | rfl
      · obtain ⟨e1, e2⟩ := line_end hx hax.wf hlx hcr har
        rw [e2, Bool.or_true, Bool.or_true]
      · congr 1
        unfold cvD
        rw [if_neg (by decide)]
        cases hasNL x <;> rfl
    · rw [cvT_no hc] at hf ⊢
      -- a lexeme that does not begin with a blank
      have main : (∃ c r, Qm.rd x = some (c, r) ∧ Sc.blank c = false) → ∀ g, (x ++ cv rest).length ≤ g → (lexL g (x ++ cv rest)).2 = true ∧ semL (lexL g (x ++ cv rest)).1 = semL ((k, x) :: rest) ∧ endT (lexL g (x ++ cv rest)).1 = endT ((k, x) :: rest) := by
        rintro ⟨c, r, hr, hcb⟩ g hg
        have hxl : Sc.lex isW (x ++ cv rest) = (k, x.length) := by
          by_cases hk : k = 10
          · subst hk; exact bom_lex hax hr hcb _
          · refine lex_turned hw hx hlx ?_ har
            refine decide_eq_false ?_
            omega
        have hp := List.length_pos_iff.2 hx
        rw [List.length_append] at hg
        obtain ⟨g', rfl⟩ : ∃ g', g = g' + 1 := ⟨g - 1, by omega⟩
        have ih := comm rest [] g' har hcr hwr (left_empty _) (by rw [List.nil_append]; omega)
        rw [List.nil_append] at ih
        rw [lexL_yes hx hxl]
        have he : endT (lexL g' (cv rest)).1 = endT rest := by rw [ih.2.2]; rfl
        refine ⟨ih.1, ?_, ?_⟩
        · rw [semL, semL, ih.2.1, he]
        · rw [endT, endT, he]
      rcases hax.kind with ⟨c, r, hr, hcb⟩ | ⟨hk, hlb⟩
      · by_cases hB : B = []
        · subst hB
          rw [List.nil_append] at hf ⊢
          exact main ⟨c, r, hr, hcb⟩ f hf
        · have hp := List.length_pos_iff.2 hB
          rw [List.length_append] at hf
          obtain ⟨g, rfl⟩ : ∃ g, f = g + 1 := ⟨f - 1, by omega⟩
          have hy : Sc.left Sc.blank (x ++ cv rest) = x ++ cv rest := Sc.left_no (rd_app hr _) hcb
          have m := main ⟨c, r, hr, hcb⟩ g (by omega)
          rw [lexL_yes hB (lex_blank_run hB hl hy)]
          refine ⟨m.1, ?_, ?_⟩
          · rw [semL_silent (by decide), m.2.1]
          · rw [endT_silent (by decide), m.2.2]
      · subst hk
        have ih := comm rest (B ++ x) f har hcr hwr (left_blanks hl hlb) (by rw [List.append_assoc]; exact hf)
        rw [List.append_assoc] at ih
        refine ⟨ih.1, ?_, ?_⟩
        · rw [ih.2.1, semL_silent (by decide)]
        · rw [ih.2.2, endT_silent (by decide), hasNL_append, Bool.or_assoc]
theorem cl_d {d : UInt8} (h : d = 10 ∨ d = 32) {l : List UInt8} (hl : Cl false l) (b : Bool) : Cl b (d :: l) := by
  rcases h with rfl | rfl
  · exact (cl_line b).append (fun e => by cases e) hl
  · exact hl.sp b
theorem cv_cl : ∀ (X : List (Nat × List UInt8)) (b : Bool), (∀ x ∈ X, Alone x.1 x.2) → Cl b (cat X) → Cl b (cv X)
  | [], b, _, _ => .nil b
  | (k, x) :: X, b, ha, h => by
    have hax := ha (k, x) (by simp)
    rw [cat_cons] at h
    obtain ⟨h1, h2⟩ := cl_split hax.wf h
    have ih := cv_cl X false (fun y hy => ha y (by simp [hy])) (h2 hax.ne)
    rw [cv_cons]
    by_cases hc : k = 11 ∨ k = 12
    · rw [cvT_yes hc]; exact cl_d (cvD_or k x) ih b
    · rw [cvT_no hc]; exact h1.append (fun e => absurd e hax.ne) ih
/-- The text that is put together has the same tokens. -/
theorem comments_all {s t : ByteArray} (h : (allA s).2.1 = 0) (ht : bl t = cv (tksOf s (allA s).1)) (hsz : t.size ≤ 65536) :
    (allA t).2.1 = 0 ∧ toksOf t (semA t).1 = toksOf s (semA s).1 := by
  obtain ⟨h1, h2, h3⟩ := allA_ok h
  obtain ⟨hch, hcat⟩ := ch_all h
  have hal := alone_all h
  have hcl : Cl true (bl t) := by rw [ht]; exact cv_cl _ true hal (by rw [hcat]; exact cl_of_ok h1)
  have hc := comm (tksOf s (allA s).1) [] t.size hal hch (by rw [hcat]; exact clean_wf h1) (left_empty _) (by rw [List.nil_append, ← ht, bl_size]; omega)
  rw [List.nil_append, ← ht] at hc
  obtain ⟨h4, h5⟩ := all_of_lexL hcl hsz (Nat.le_refl _) hc.1
  exact ⟨h4, by rw [toks_all h4, toks_all h, h5, hc.2.1]⟩
end Go.Proofs.Ytnkgbmnjehpkgaa

