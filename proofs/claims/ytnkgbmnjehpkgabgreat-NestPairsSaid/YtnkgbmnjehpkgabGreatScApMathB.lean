/- Plain mathematics for ScanApart: the text that is put together is clean and is cut. -/
import Derived.Test.YtnkgbmnjehpkgabGreatScApMath
import Derived.Test.YtnkgbmnjehpkgabGreatScWhMath
namespace Go.Proofs.YtnkgbmnjehpkgabGreat
open Go.RowKit Em
set_option maxRecDepth 100000
set_option linter.unusedVariables false

theorem Cl.append {b : Bool} {x y : List UInt8} (h : Cl b x) : (x = [] → Cl b y) → Cl false y → Cl b (x ++ y) := by
  induction h with
  | nil b => intro h1 _; exact h1 rfl
  | cons h1 h2 h3 h4 h5 ih =>
    intro _ hy
    rw [h5, List.append_assoc]
    exact .cons h1 h2 h3 (ih (fun _ => hy) hy) rfl
theorem cl_line (b : Bool) : Cl b [10] := .cons (c := 10) (r := []) (by decide) (by decide) (fun e => absurd e (by decide)) (.nil false) (by decide)
/-- Only the first lexeme may begin with the mark of the byte order. -/
theorem lexs_clean (s : ByteArray) : ∀ (f p : Nat) (b : Bool), Sc.Wf ((bl s).drop p) → Cl b ((bl s).drop p) →
    (Sc.lexs isW f p ((bl s).drop p)).1 = [] ∨ ∃ t L, (Sc.lexs isW f p ((bl s).drop p)).1 = t :: L ∧ Cl b (cutT s t.f t.t) ∧ ∀ u ∈ L, Cl false (cutT s u.f u.t)
  | 0, p, b, _, _ => .inl rfl
  | f + 1, p, b, hw, hcl => by
    by_cases hl : (bl s).drop p = []
    · rw [hl, Sc.lexs_nil]; exact .inl rfl
    · by_cases hn : (Sc.lex isW ((bl s).drop p)).2 = 0
      · rw [Sc.lexs_no isW hl hn]; exact .inl rfl
      · rw [Sc.lexs_yes isW hl hn]
        obtain ⟨h1, h2, h3⟩ := Sc.lex_cut isW hw hn
        have hcl2 := hcl
        rw [← List.take_append_drop (Sc.lex isW ((bl s).drop p)).2 ((bl s).drop p)] at hcl2
        obtain ⟨c1, c2⟩ := cl_split h2 hcl2
        have hne : ((bl s).drop p).take (Sc.lex isW ((bl s).drop p)).2 ≠ [] := fun e => by
          have := congrArg List.length e
          rw [List.length_take] at this
          simp only [List.length_nil] at this
          omega
        have c3 := c2 hne
        refine .inr ⟨_, _, rfl, by dsimp only; rw [cut_first]; exact c1, ?_⟩
        rw [List.drop_drop] at h3 c3 ⊢
        rcases lexs_clean s f _ false h3 c3 with e | ⟨t, L, e, e1, e2⟩
        · rw [e]; simp
        · rw [e]
          intro u hu
          rcases List.mem_cons.1 hu with rfl | hu
          · exact e1
          · exact e2 u hu
/-- The lexemes' kinds and bytes. -/
def tksOf (s : ByteArray) (L : List Sc.Tk) : List (Nat × List UInt8) := L.map fun t => (t.k, cutT s t.f t.t)
theorem lexs_lexL (s : ByteArray) : ∀ (f p : Nat), Sc.Wf ((bl s).drop p) → tksOf s (Sc.lexs isW f p ((bl s).drop p)).1 = (lexL f ((bl s).drop p)).1 ∧ ((lexL f ((bl s).drop p)).2 = true → (Sc.lexs isW f p ((bl s).drop p)).2 = none)
  | 0, p, _ => ⟨rfl, fun _ => rfl⟩
  | f + 1, p, hw => by
    by_cases hl : (bl s).drop p = []
    · rw [hl, Sc.lexs_nil, lexL_nil]; exact ⟨rfl, fun _ => rfl⟩
    · rw [lexL, if_neg hl]
      by_cases hn : (Sc.lex isW ((bl s).drop p)).2 = 0
      · rw [Sc.lexs_no isW hl hn, if_pos hn]; exact ⟨rfl, fun h => by cases h⟩
      · rw [Sc.lexs_yes isW hl hn, if_neg hn]
        have h3 := (Sc.lex_cut isW hw hn).2.2
        rw [List.drop_drop] at h3 ⊢
        obtain ⟨i1, i2⟩ := lexs_lexL s f _ h3
        refine ⟨?_, i2⟩
        unfold tksOf at i1 ⊢
        rw [List.map_cons, i1]
        dsimp only
        rw [cut_first]
/-- Each lexeme stands by itself. -/
theorem alone_all {s : ByteArray} (h : (allA s).2.1 = 0) : ∀ x ∈ tksOf s (allA s).1, Alone x.1 x.2 := by
  obtain ⟨h1, h2, h3⟩ := allA_ok h
  intro x hx
  obtain ⟨t, ht, rfl⟩ := List.mem_map.1 hx
  have hord := (allA_ord s).2 t ht
  rw [h3] at ht
  have hs := lexs_self s s.size 0 true (by rw [List.drop_zero]; exact clean_wf h1) (by rw [List.drop_zero]; exact cl_of_ok h1)
  rw [List.drop_zero] at hs
  obtain ⟨c1, c2⟩ := hs t ht
  have hlen : (cutT s t.f t.t).length = t.t - t.f := by
    unfold cutT
    rw [List.length_drop, List.length_take, bl_size]
    omega
  refine ⟨fun e => ?_, ?_, by dsimp only; rw [c2, hlen]⟩
  · dsimp only at e
    rw [e] at hlen
    simp at hlen
    omega
  · have hcl := clnI_iff (s := s.extract t.f t.t) (by rw [show bl (s.extract t.f t.t) = cutT s t.f t.t from cutT_ext s t.f t.t]; exact c1)
    have := clean_wf (s := s.extract t.f t.t) (by omega)
    rwa [show bl (s.extract t.f t.t) = cutT s t.f t.t from cutT_ext s t.f t.t] at this
theorem joinN_cl : ∀ (X : List (Nat × List UInt8)), (∀ x ∈ X, Cl false x.2) → Cl false (joinN X)
  | [], _ => .nil _
  | (k, x) :: X, h => by
    rw [joinN_cons]
    have h1 := joinN_cl X (fun y hy => h y (by simp [hy]))
    have h2 : Cl false (10 :: joinN X) := (cl_line false).append (fun e => by cases e) h1
    exact (h (k, x) (by simp)).append (fun _ => h2) h2
/-- The text that is put together is clean, and is cut into the same lexemes, blanks aside. -/
theorem apart_all {s t : ByteArray} (h : (allA s).2.1 = 0) (ht : bl t = joinN (tksOf s (allA s).1)) (hsz : t.size ≤ 65536) : (allA t).2.1 = 0 ∧ noBlank (tksOf t (allA t).1) = noBlank (tksOf s (allA s).1) := by
  obtain ⟨h1, h2, h3⟩ := allA_ok h
  have hal := alone_all h
  have hcl : Cl true (bl t) := by
    have hc := lexs_clean s s.size 0 true (by rw [List.drop_zero]; exact clean_wf h1) (by rw [List.drop_zero]; exact cl_of_ok h1)
    rw [List.drop_zero, ← h3] at hc
    rw [ht]
    rcases hc with e | ⟨u, L, e, e1, e2⟩
    · rw [e]; exact .nil _
    · rw [e]
      show Cl true (joinN ((u.k, cutT s u.f u.t) :: tksOf s L))
      rw [joinN_cons]
      have h4 := joinN_cl (tksOf s L) (fun y hy => by
        obtain ⟨v, hv, rfl⟩ := List.mem_map.1 hy
        exact e2 v hv)
      have h5 : Cl false (10 :: joinN (tksOf s L)) := (cl_line false).append (fun e => by cases e) h4
      exact e1.append (fun _ => h5.any true) h5
  have hcn := clnI_iff hcl
  have hwf := clean_wf (s := t) (by omega)
  have key : ∀ f, t.size ≤ f → lexL f (bl t) = lexL (t.size + 1) (bl t) := by
    have gen : ∀ (f g : Nat) (l : List UInt8), l.length ≤ f → l.length ≤ g → lexL f l = lexL g l := by
      intro f
      induction f with
      | zero => intro g l h1 h2; obtain rfl := List.eq_nil_of_length_eq_zero (by omega : l.length = 0); rw [lexL_nil, lexL_nil]
      | succ f ih =>
        intro g l h1 h2
        by_cases hl : l = []
        · subst hl; rw [lexL_nil, lexL_nil]
        · have := List.length_pos_iff.2 hl
          obtain ⟨g', rfl⟩ : ∃ g', g = g' + 1 := ⟨g - 1, by omega⟩
          rw [lexL, lexL, if_neg hl, if_neg hl]
          by_cases hn : (Sc.lex isW l).2 = 0
          · rw [if_pos hn, if_pos hn]
          · rw [if_neg hn, if_neg hn, ih g' (l.drop (Sc.lex isW l).2) (by rw [List.length_drop]; omega) (by rw [List.length_drop]; omega)]
    intro f hf
    exact gen f _ _ (by rw [bl_size]; omega) (by rw [bl_size]; omega)
  have hap := apart (tksOf s (allA s).1) [] (t.size + 1) hal (left_empty _) (by rw [List.nil_append, ← ht, bl_size]; omega)
  rw [List.nil_append, ← ht, ← key t.size (Nat.le_refl _)] at hap
  obtain ⟨r1, r2⟩ := lexs_lexL t t.size 0 (by rw [List.drop_zero]; exact hwf)
  rw [List.drop_zero] at r1 r2
  have hnone := r2 hap.1
  have hA : allA t = ((Sc.lexs isW t.size 0 (bl t)).1, 0, 0) := by
    unfold allA
    rw [if_neg (by omega), if_neg (by omega), hnone]
  rw [hA]
  refine ⟨rfl, ?_⟩
  dsimp only
  rw [r1, hap.2]
end Go.Proofs.YtnkgbmnjehpkgabGreat

