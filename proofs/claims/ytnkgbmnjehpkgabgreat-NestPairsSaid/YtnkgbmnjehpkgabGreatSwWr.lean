/- Plain mathematics for SemiWritten: the tokens with a blank in front of each. -/
import Derived.Test.YtnkgbmnjehpkgabGreatSwMath
namespace Go.Proofs.YtnkgbmnjehpkgabGreat
open Go.RowKit Em
set_option maxRecDepth 100000
set_option linter.unusedVariables false

def wr (Y : List (Nat × List UInt8)) : List UInt8 := Y.flatMap fun y => 32 :: y.2
theorem wr_cons (k : Nat) (x : List UInt8) (r : List (Nat × List UInt8)) : wr ((k, x) :: r) = 32 :: (x ++ wr r) := by simp [wr]
theorem wr_append (a b : List (Nat × List UInt8)) : wr (a ++ b) = wr a ++ wr b := by simp [wr]
def wrX (Y : List (Nat × List UInt8)) : List (Nat × List UInt8) := Y.flatMap fun y => [(10, [32]), y]
theorem wrX_cons (y : Nat × List UInt8) (r : List (Nat × List UInt8)) : wrX (y :: r) = (10, [32]) :: y :: wrX r := by simp [wrX]
theorem left_sp : Sc.left Sc.blank [32] = [] := by
  rw [Sc.left_yes (rd_space []) (by decide)]; exact left_empty _
theorem silent_no {k : Nat} (h : silent k = false) : k ≠ 10 ∧ k ≠ 11 ∧ k ≠ 12 := by
  have := of_decide_eq_false h
  omega
theorem Alone.first {k : Nat} {x : List UInt8} (h : Alone k x) (hk : k ≠ 10) : ∃ c r, Qm.rd x = some (c, r) ∧ Sc.blank c = false := by
  rcases h.kind with h | h
  · exact h
  · exact absurd h.1 hk
theorem written : ∀ (Y : List (Nat × List UInt8)) (f : Nat), (∀ y ∈ Y, Alone y.1 y.2 ∧ silent y.1 = false) → (wr Y).length ≤ f → lexL f (wr Y) = (wrX Y, true)
  | [], f, _, _ => lexL_nil f
  | (k, x) :: Y, f, h, hf => by
    obtain ⟨ha, hs⟩ := h (k, x) (by simp)
    dsimp only at ha hs
    obtain ⟨n1, n2, _⟩ := silent_no hs
    have hp := List.length_pos_iff.2 ha.ne
    rw [wr_cons] at hf ⊢
    simp only [List.length_cons, List.length_append] at hf
    obtain ⟨g, rfl⟩ : ∃ g, f = g + 2 := ⟨f - 2, by omega⟩
    have ih := written Y g (fun y hy => h y (by simp [hy])) (by omega)
    obtain ⟨c, r, hr, hc⟩ := ha.first n1
    have h1 : Sc.lex isW ([32] ++ (x ++ wr Y)) = (10, [(32 : UInt8)].length) := lex_blank_run (by simp) left_sp (Sc.left_no (rd_app hr _) hc)
    have h2 : Sc.lex isW (x ++ wr Y) = (k, x.length) := by
      refine lex_sim (a := []) (by rw [List.append_nil]; exact ha.wf) ha.ne (by rw [List.append_nil]; exact ha.lex) ?_
      cases Y with
      | nil => exact .inl rfl
      | cons y Y => exact .inr ⟨32, y.2 ++ wr Y, wr_cons y.1 y.2 Y, .inr rfl, n1, fun e => absurd e n2⟩
    show lexL (g + 1 + 1) ([32] ++ (x ++ wr Y)) = _
    rw [lexL_yes (by simp) h1, lexL_yes ha.ne h2, ih, wrX_cons]
theorem semL_wrX : ∀ Y : List (Nat × List UInt8), (∀ y ∈ Y, silent y.1 = false) → (∀ y, Y.getLast? = some y → endB y.1 y.2 = false) → semL (wrX Y) = Y ∧ putL (wrX Y) = false
  | [], _, _ => ⟨rfl, rfl⟩
  | (k, x) :: Y, h, hl => by
    have hs : silent k = false := h (k, x) (by simp)
    have ih := semL_wrX Y (fun y hy => h y (by simp [hy])) (fun y hy => hl y (by
      cases Y with
      | nil => cases hy
      | cons z Y => rw [List.getLast?_cons_cons]; exact hy))
    have hb : (endB k x && endT (wrX Y)) = false := by
      cases Y with
      | nil =>
        have := hl (k, x) rfl
        dsimp only at this
        rw [this]; rfl
      | cons z Y =>
        have hz : silent z.1 = false := h z (by simp)
        have : endT (wrX (z :: Y)) = false := by
          rw [wrX_cons, endT_silent (by decide), endT_tok (k := z.1) (x := z.2) hz]; decide
        rw [this, Bool.and_false]
    have h10 : silent 10 = true := by decide
    rw [wrX_cons, semL_silent h10, semL_no hs hb, ih.1, putL, if_pos h10, putL, if_neg (by rw [hs]; simp), hb, ih.2]
    exact ⟨rfl, rfl⟩
theorem cl_sp (b : Bool) : Cl b [32] := .cons (c := 32) (r := []) (by decide) (by decide) (fun e => absurd e (by decide)) (.nil false) (by decide)
theorem Cl.sp {l : List UInt8} (h : Cl false l) (b : Bool) : Cl b (32 :: l) := (cl_sp b).append (fun e => by cases e) h
theorem wr_cl : ∀ Y : List (Nat × List UInt8), (∀ y ∈ Y, Cl false y.2) → Cl false (wr Y)
  | [], _ => .nil _
  | (k, x) :: Y, h => by
    rw [wr_cons]
    have h1 := wr_cl Y (fun y hy => h y (by simp [hy]))
    exact ((h (k, x) (by simp)).append (fun _ => h1) h1).sp false
/-- A clean lexeme that is no blank has no mark of the byte order. -/
theorem Cl.strong {b : Bool} {x : List UInt8} (h : Cl b x) {k : Nat} (ha : Alone k x) (hk : k ≠ 10) : Cl false x := by
  cases h with
  | nil => exact .nil _
  | cons h1 h2 h3 h4 h5 =>
    rename_i c r
    refine .cons h1 h2 (fun e => ?_) h4 h5
    exfalso
    have hl := ha.lex
    unfold Sc.lex at hl
    rw [h5, Qm.rd_form h1] at hl
    dsimp only at hl
    rw [if_pos e] at hl
    exact hk (Prod.mk.inj hl).1.symm
theorem alone_cl {s : ByteArray} (h : (allA s).2.1 = 0) : ∀ x ∈ tksOf s (allA s).1, silent x.1 = false → Cl false x.2 := by
  obtain ⟨h1, h2, h3⟩ := allA_ok h
  have hal := alone_all h
  intro x hx hs
  have ha := hal x hx
  obtain ⟨t, ht, rfl⟩ := List.mem_map.1 hx
  rw [h3] at ht
  have hss := lexs_self s s.size 0 true (by rw [List.drop_zero]; exact clean_wf h1) (by rw [List.drop_zero]; exact cl_of_ok h1)
  rw [List.drop_zero] at hss
  exact (hss t ht).1.strong ha (silent_no hs).1
theorem tok_alone {s : ByteArray} (h : (allA s).2.1 = 0) : ∀ y ∈ semL (tksOf s (allA s).1), Alone y.1 y.2 ∧ silent y.1 = false ∧ Cl false y.2 := by
  intro y hy
  rcases semL_mem _ y hy with ⟨h1, h2⟩ | rfl
  · exact ⟨alone_all h y h1, h2, alone_cl h y h1 h2⟩
  · exact ⟨semi_alone, by decide, .cons (c := 59) (r := []) (by decide) (by decide) (fun e => absurd e (by decide)) (.nil false) (by decide)⟩
theorem wr_len : ∀ X : List (Nat × List UInt8), (∀ x ∈ X, x.2 ≠ []) → (wr (semL X)).length ≤ 4 * (cat X).length
  | [], _ => by simp [semL, wr, cat]
  | (k, x) :: X, h => by
    have ih := wr_len X (fun y hy => h y (by simp [hy]))
    have hp := List.length_pos_iff.2 (h (k, x) (by simp))
    dsimp only at hp
    rw [cat_cons, List.length_append]
    cases hs : silent k with
    | true => rw [semL_silent hs]; omega
    | false =>
      cases hb : (endB k x && endT X) with
      | true =>
        rw [semL_yes hs hb, wr_cons, wr_cons]
        simp only [List.length_cons, List.length_append, List.length_nil]
        omega
      | false =>
        rw [semL_no hs hb, wr_cons]
        simp only [List.length_cons, List.length_append]
        omega
theorem wr_take (Y : List (Nat × List UInt8)) (i : Nat) : (wr (Y.take i)).length ≤ (wr Y).length := by
  have : Y = Y.take i ++ Y.drop i := (List.take_append_drop i Y).symm
  have h2 : (wr Y).length = (wr (Y.take i)).length + (wr (Y.drop i)).length := by
    conv => lhs; rw [this]
    rw [wr_append, List.length_append]
  omega
/-- The text that is put together has the same tokens, and none is put in. -/
theorem written_all {s t : ByteArray} (h : (allA s).2.1 = 0) (ht : bl t = wr (toksOf s (semA s).1)) (hsz : t.size ≤ 65536) :
    (allA t).2.1 = 0 ∧ toksOf t (semA t).1 = toksOf s (semA s).1 ∧ ∀ m ∈ (semA t).1, m.f < m.t := by
  rw [toks_all h] at ht ⊢
  have hta := tok_alone h
  have hcl : Cl true (bl t) := by rw [ht]; exact (wr_cl _ (fun y hy => (hta y hy).2.2)).any true
  have hw := written (semL (tksOf s (allA s).1)) t.size (fun y hy => ⟨(hta y hy).1, (hta y hy).2.1⟩) (by rw [← ht, bl_size]; omega)
  rw [← ht] at hw
  obtain ⟨h1, h2⟩ := all_of_lexL hcl hsz (Nat.le_refl _) (by rw [hw])
  rw [hw] at h2
  obtain ⟨h3, h4⟩ := semL_wrX (semL (tksOf s (allA s).1)) (fun y hy => (hta y hy).2.1) (semL_last _)
  refine ⟨h1, by rw [toks_all h1, h2, h3], fun m hm => ?_⟩
  rw [← semF_all t h1, put_none t _ (by rw [h2]; exact h4)] at hm
  exact ((allA_ord t).2 m (List.mem_filter.1 hm).1).1
end Go.Proofs.YtnkgbmnjehpkgabGreat

