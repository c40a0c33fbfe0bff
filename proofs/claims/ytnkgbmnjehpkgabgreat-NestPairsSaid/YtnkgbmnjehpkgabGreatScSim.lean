/- Plain mathematics: a lexeme stays the lexeme that it is, whatever stands behind, if that is nothing, or a line's end, or a blank. -/
import Derived.Test.YtnkgbmnjehpkgabGreatGV
namespace Go.Proofs.YtnkgbmnjehpkgabGreat
open Go.RowKit Em
set_option maxRecDepth 100000
set_option linter.unusedVariables false

theorem rd_line (y : List UInt8) : Qm.rd (10 :: y) = some (10, y) := by
  have := Qm.rd_form (c := 10) (by decide) y
  rw [show Qm.fm 10 = [10] by decide] at this
  exact this
theorem rd_space (y : List UInt8) : Qm.rd (32 :: y) = some (32, y) := by
  have := Qm.rd_form (c := 32) (by decide) y
  rw [show Qm.fm 32 = [32] by decide] at this
  exact this
theorem left_empty (P : Nat → Bool) : Sc.left P [] = [] := Sc.left_none Sc.rd_nil
theorem cnt_sim {P : Nat → Bool} {x a b : List UInt8} (h : Sc.cnt P (x ++ a) = x.length) (hb : Sc.left P b = b) : Sc.cnt P (x ++ b) = x.length := by
  obtain ⟨x0, e, hy, _⟩ := Sc.left_split P (x ++ a).length (x ++ a) (Nat.le_refl _)
  have hl : Sc.left P (x ++ a) = a := by rw [Sc.left_drop, h, List.drop_left' rfl]
  rw [hl] at e
  have hx : x = x0 := List.append_cancel_right e
  subst hx
  unfold Sc.cnt
  rw [hy b, hb, List.length_append]
  omega
theorem pre2_no {u v : UInt8} {x a b : List UInt8} (hx : x ≠ []) (h : [u, v].isPrefixOf (x ++ a) = false) (hb : ∀ d t, b = d :: t → d ≠ v) : [u, v].isPrefixOf (x ++ b) = false := by
  match x, hx with
  | [x0], _ =>
    match b, hb with
    | [], _ => simp [List.isPrefixOf]
    | d :: t, hb =>
      have := hb d t rfl
      simp [List.isPrefixOf]
      intro _ e
      exact this e.symm
  | x0 :: x1 :: x', _ => exact h
theorem pre2_yes {u v : UInt8} {x a b : List UInt8} (hx : 2 ≤ x.length) (h : [u, v].isPrefixOf (x ++ a) = true) : [u, v].isPrefixOf (x ++ b) = true := by
  match x, hx with
  | x0 :: x1 :: x', _ => exact h
theorem begins_no {x a b : List UInt8} (hx : x ≠ []) (h : Nm.begins (x ++ a) = false) (hb : b = [] ∨ ∃ d t, b = d :: t ∧ (d = 10 ∨ d = 32)) : Nm.begins (x ++ b) = false := by
  match x, hx with
  | [x0], _ =>
    rcases hb with rfl | ⟨d, t, rfl, rfl | rfl⟩
    all_goals
      simp only [List.cons_append, List.nil_append, Nm.begins] at h ⊢
      split
      · rfl
      · rename_i hne
        rw [if_neg hne] at h
        exact h
  | x0 :: x1 :: x', _ => exact h
theorem signs_alone : (Sc.signs.all fun x => decide (Sc.sgn x = x.length)) = true := by decide
theorem sgn_line (t : List UInt8) : ∀ x ∈ Sc.signs, Sc.sgn (x ++ 10 :: t) = x.length := by
  intro x hx
  simp only [Sc.signs, List.mem_cons, List.not_mem_nil, or_false] at hx
  rcases hx with rfl | rfl | rfl | rfl | rfl | rfl | rfl | rfl | rfl | rfl | rfl | rfl | rfl | rfl | rfl | rfl | rfl | rfl | rfl | rfl | rfl | rfl | rfl | rfl | rfl | rfl | rfl | rfl | rfl | rfl | rfl | rfl | rfl | rfl | rfl | rfl | rfl | rfl | rfl | rfl | rfl | rfl | rfl | rfl | rfl | rfl | rfl <;> rfl
theorem sgn_space (t : List UInt8) : ∀ x ∈ Sc.signs, Sc.sgn (x ++ 32 :: t) = x.length := by
  intro x hx
  simp only [Sc.signs, List.mem_cons, List.not_mem_nil, or_false] at hx
  rcases hx with rfl | rfl | rfl | rfl | rfl | rfl | rfl | rfl | rfl | rfl | rfl | rfl | rfl | rfl | rfl | rfl | rfl | rfl | rfl | rfl | rfl | rfl | rfl | rfl | rfl | rfl | rfl | rfl | rfl | rfl | rfl | rfl | rfl | rfl | rfl | rfl | rfl | rfl | rfl | rfl | rfl | rfl | rfl | rfl | rfl | rfl | rfl <;> rfl
theorem sgn_sim {x a b : List UInt8} (hx : x ≠ []) (h : Sc.sgn (x ++ a) = x.length) (hb : b = [] ∨ ∃ d t, b = d :: t ∧ (d = 10 ∨ d = 32)) : Sc.sgn (x ++ b) = x.length := by
  have hp := List.length_pos_iff.2 hx
  obtain ⟨y, hy, h1, r, h2⟩ := Sc.sgn_some (l := x ++ a) (by rw [h]; omega)
  rw [h] at h1
  have e : x = y := (List.append_inj h2 h1.symm).1
  subst e
  rcases hb with rfl | ⟨d, t, rfl, rfl | rfl⟩
  · rw [List.append_nil]
    exact of_decide_eq_true (List.all_eq_true.1 signs_alone x hy)
  · exact sgn_line t x hy
  · exact sgn_space t x hy
theorem whole_rest {l t r : List UInt8} {k : Nat} (h : Qm.whole l = some (k, t, r)) : ∃ x, l = x ++ r ∧ ∀ b, Qm.whole (x ++ b) = some (k, t, b) := by
  match l, h with
  | c :: l, h =>
    rw [Qm.whole_eq] at h
    by_cases h1 : c.toNat = 39
    · obtain rfl := Qm.u8 (d := 39) h1
      rw [if_pos h1] at h
      cases hx : Qm.rune l with
      | none => rw [hx] at h; cases h
      | some z =>
        obtain ⟨t', r'⟩ := z
        rw [hx] at h
        obtain ⟨rfl, h2⟩ := Prod.mk.inj (Option.some.inj h)
        obtain ⟨rfl, rfl⟩ := Prod.mk.inj h2
        obtain ⟨x, e1, e2, _⟩ := Qm.rune_split hx
        refine ⟨39 :: (x ++ [39]), by rw [e1]; simp, fun b => ?_⟩
        rw [List.cons_append, Qm.whole39, List.append_assoc, List.singleton_append, e2]; rfl
    · rw [if_neg h1] at h
      by_cases h2 : c.toNat = 34
      · obtain rfl := Qm.u8 (d := 34) h2
        rw [if_pos h2] at h
        cases hx : Qm.strF (l.length + 1) l with
        | none => rw [hx] at h; cases h
        | some z =>
          obtain ⟨t', r'⟩ := z
          rw [hx] at h
          obtain ⟨rfl, h3⟩ := Prod.mk.inj (Option.some.inj h)
          obtain ⟨rfl, rfl⟩ := Prod.mk.inj h3
          obtain ⟨x, e1, e2, _⟩ := Qm.strF_split _ _ _ _ hx
          refine ⟨34 :: (x ++ [34]), by rw [e1]; simp, fun b => ?_⟩
          have e4 := Qm.strF_enough (e2 1 (34 :: b) ([], b) rfl)
          rw [List.cons_append, Qm.whole34, List.append_assoc, List.singleton_append, e4]; simp
      · rw [if_neg h2] at h
        by_cases h3 : c.toNat = 96
        · obtain rfl := Qm.u8 (d := 96) h3
          rw [if_pos h3] at h
          cases hx : Qm.raw l with
          | none => rw [hx] at h; cases h
          | some z =>
            obtain ⟨t', r'⟩ := z
            rw [hx] at h
            obtain ⟨rfl, h4⟩ := Prod.mk.inj (Option.some.inj h)
            obtain ⟨rfl, rfl⟩ := Prod.mk.inj h4
            obtain ⟨x, e1, e2, _⟩ := Qm.raw_split _ _ _ hx
            refine ⟨96 :: (x ++ [96]), by rw [e1]; simp, fun b => ?_⟩
            have e4 := e2 (96 :: b) ([], b) rfl
            rw [List.cons_append, Qm.whole96, List.append_assoc, List.singleton_append, e4]; simp
        · rw [if_neg h3] at h; cases h

theorem runLen_all {hex : Bool} : ∀ (p : UInt8) (t : List UInt8), Nm.okRun hex p t = true → Nm.runLen hex p t = t.length
  | p, [], _ => rfl
  | p, c :: t, h => by
    rw [Nm.okRun, Bool.and_eq_true] at h
    rw [Nm.runLen, if_pos h.1, runLen_all c t h.2, List.length_cons]
    omega
theorem run_alone {l : List UInt8} (h : Nm.kind l ≠ 0) : Nm.begins l = true ∧ Nm.runOf l = l.length := by
  obtain ⟨h1, h2, _⟩ := Nm.kind_good h
  refine ⟨h1, ?_⟩
  match l, h1, h2 with
  | a :: t, h1, h2 =>
    simp only [Nm.runOf]
    rw [runLen_all a t (Nm.sh_ok h2), List.length_cons]
    omega
theorem run_sim {x b : List UInt8} (h : Nm.kind x ≠ 0) (hb : b = [] ∨ ∃ d t, b = d :: t ∧ (d = 10 ∨ d = 32)) : Nm.begins (x ++ b) = true ∧ Nm.runOf (x ++ b) = x.length := by
  rcases hb with rfl | ⟨d, t, rfl, rfl | rfl⟩
  · rw [List.append_nil]; exact run_alone h
  · exact Nm.run_signs h (by decide) t
  · exact Nm.run_signs h (by decide) t

set_option maxHeartbeats 1000000 in
/-- A LEXEME BY ITSELF, OR WITH A LINE'S END OR A BLANK BEHIND (a blank stands by itself; behind a line's comment a line's end alone may stand). -/
theorem lex_sim {x a b : List UInt8} {k : Nat} (hw : Sc.Wf (x ++ a)) (hx : x ≠ []) (h : Sc.lex isW (x ++ a) = (k, x.length)) (hb : b = [] ∨ ∃ d t, b = d :: t ∧ (d = 10 ∨ d = 32) ∧ k ≠ 10 ∧ (k = 11 → d = 10)) :
    Sc.lex isW (x ++ b) = (k, x.length) := by
  have hp := List.length_pos_iff.2 hx
  have hb' : b = [] ∨ ∃ d t, b = d :: t ∧ (d = 10 ∨ d = 32) := by
    rcases hb with h | ⟨d, t, h1, h2, _⟩
    · exact .inl h
    · exact .inr ⟨d, t, h1, h2⟩
  have hwx : Sc.Wf x := by
    have := (Sc.lex_cut isW hw (by rw [h]; omega)).2.1
    rw [h] at this
    rwa [List.take_left' rfl] at this
  obtain ⟨c, r, hr, _, hok, he⟩ := hwx.rd hx
  have hrd : ∀ y, Qm.rd (x ++ y) = some (c, r ++ y) := fun y => by
    conv => lhs; rw [he, List.append_assoc]
    exact Qm.rd_form hok _
  have nl : ∀ P : Nat → Bool, P 10 = false → P 32 = false → Sc.left P b = b := fun P h1 h2 => by
    rcases hb' with rfl | ⟨d, t, rfl, rfl | rfl⟩
    · exact left_empty P
    · exact Sc.left_no (rd_line t) h1
    · exact Sc.left_no (rd_space t) h2
  unfold Sc.lex at h ⊢
  rw [hrd] at h ⊢
  dsimp only at h ⊢
  by_cases h1 : c = 65279
  · rw [if_pos h1] at h ⊢; exact h
  rw [if_neg h1] at h ⊢
  by_cases h2 : Sc.blank c = true
  · rw [if_pos h2] at h ⊢
    obtain ⟨rfl, h4⟩ := Prod.mk.inj h
    rcases hb with rfl | ⟨d, t, _, _, h3, _⟩
    · rw [cnt_sim h4 (left_empty _)]
    · exact absurd rfl h3
  rw [if_neg h2] at h ⊢
  have n47 : ∀ v d t, (v = 47 ∨ v = 42) → b = d :: t → d ≠ v := fun v d t hv hbt => by
    rcases hb' with rfl | ⟨d', t', rfl, hd⟩
    · cases hbt
    · obtain ⟨rfl, rfl⟩ := List.cons.inj hbt
      rcases hv with rfl | rfl <;> rcases hd with rfl | rfl <;> decide
  by_cases h3 : [47, 47].isPrefixOf (x ++ a) = true
  · rw [if_pos h3] at h
    obtain ⟨rfl, h4⟩ := Prod.mk.inj h
    have h5 : 2 ≤ x.length := by
      rw [← h4]
      match hxa : x ++ a, h3 with
      | u :: v :: m, h3 =>
        simp only [List.isPrefixOf, Bool.and_eq_true, beq_iff_eq] at h3
        obtain ⟨rfl, rfl, _⟩ := h3
        have f1 : Qm.rd (47 :: 47 :: m) = some (47, 47 :: m) := by
          have := Qm.rd_form (c := 47) (by decide) (47 :: m)
          rwa [show Qm.fm 47 = [47] by decide] at this
        have f2 : Qm.rd (47 :: m) = some (47, m) := by
          have := Qm.rd_form (c := 47) (by decide) m
          rwa [show Qm.fm 47 = [47] by decide] at this
        unfold Sc.cnt
        rw [Sc.left_yes f1 (by decide), Sc.left_yes f2 (by decide)]
        have := Sc.left_le Sc.lineC m
        simp only [List.length_cons]
        omega
      | [u], h3 => simp [List.isPrefixOf] at h3
      | [], h3 => simp [List.isPrefixOf] at h3
    rw [if_pos (pre2_yes h5 h3)]
    have hlb : Sc.left Sc.lineC b = b := by
      rcases hb with rfl | ⟨d, t, rfl, _, _, h6⟩
      · exact left_empty _
      · obtain rfl := h6 rfl
        exact Sc.left_no (rd_line t) (by decide)
    rw [cnt_sim h4 hlb]
  rw [if_neg h3] at h
  rw [if_neg (by rw [pre2_no (a := a) hx (Bool.eq_false_iff.mpr h3) (fun d t e => n47 47 d t (.inl rfl) e)]; simp)]
  by_cases h4 : [47, 42].isPrefixOf (x ++ a) = true
  · rw [if_pos h4] at h
    obtain ⟨rfl, h5⟩ := Prod.mk.inj h
    rw [Sc.blk_star] at h5
    cases hs : Sc.star ((x ++ a).drop 2) with
    | none => rw [hs] at h5; dsimp only at h5; omega
    | some i =>
      rw [hs] at h5
      dsimp only at h5
      obtain ⟨p, q, e1, e2, e3⟩ := Sc.star_some hs
      match x, h5, hx with
      | x0 :: x1 :: x', h5, _ =>
        have e4 : x' ++ a = p ++ 42 :: 47 :: q := e1
        have e5 : x' = p ++ [42, 47] := by
          have : x' ++ a = (p ++ [42, 47]) ++ q := by rw [e4, List.append_assoc]; rfl
          exact (List.append_inj this (by simp at h5 ⊢; omega)).1
        rw [if_pos (pre2_yes (a := a) (by simp) h4), Sc.blk_star]
        have e6 : ((x0 :: x1 :: x') ++ b).drop 2 = p ++ 42 :: 47 :: b := by
          show x' ++ b = _
          rw [e5, List.append_assoc]; rfl
        rw [e6, e3 b]
        dsimp only
        rw [h5]
      | [x0], h5, _ => simp at h5
  rw [if_neg h4] at h
  rw [if_neg (by rw [pre2_no (a := a) hx (Bool.eq_false_iff.mpr h4) (fun d t e => n47 42 d t (.inr rfl) e)]; simp)]
  by_cases h5 : Sc.letter c = true
  · rw [if_pos h5] at h ⊢
    obtain ⟨h6, h7⟩ := Prod.mk.inj h
    rw [h7] at h6
    rw [cnt_sim h7 (nl _ (by decide) (by decide)), ← h6, List.take_left' rfl, List.take_left' rfl]
  rw [if_neg h5] at h ⊢
  by_cases h6 : c = 59
  · rw [if_pos h6] at h ⊢; exact h
  rw [if_neg h6] at h ⊢
  by_cases h7 : Sc.mark c = true
  · rw [if_pos h7] at h ⊢
    cases hq : Qm.whole (x ++ a) with
    | none => rw [hq] at h; have := (Prod.mk.inj h).2; omega
    | some z =>
      obtain ⟨k', v, q⟩ := z
      rw [hq] at h
      obtain ⟨rfl, h8⟩ := Prod.mk.inj h
      obtain ⟨y, e1, e2⟩ := whole_rest hq
      have hlen := congrArg List.length e1
      rw [List.length_append, List.length_append] at hlen
      rw [List.length_append] at h8
      have e3 : x = y := (List.append_inj e1 (by omega)).1
      subst e3
      rw [e2 b]
      dsimp only
      rw [List.length_append]
      simp
  rw [if_neg h7] at h ⊢
  by_cases h8 : Nm.begins (x ++ a) = true
  · rw [if_pos h8] at h
    by_cases h9 : Nm.kind ((x ++ a).take (Nm.runOf (x ++ a))) = 0
    · rw [if_pos h9] at h; have := (Prod.mk.inj h).2; omega
    · rw [if_neg h9] at h
      obtain ⟨h10, h11⟩ := Prod.mk.inj h
      rw [h11, List.take_left' rfl] at h9 h10
      obtain ⟨f1, f2⟩ := run_sim h9 hb'
      rw [if_pos f1, f2, List.take_left' rfl, if_neg h9, h10]
  · rw [if_neg h8] at h
    obtain ⟨rfl, h10⟩ := Prod.mk.inj h
    rw [if_neg (by rw [begins_no (a := a) hx (Bool.eq_false_iff.mpr h8) hb']; simp), sgn_sim hx h10 hb']
/-- A lexeme by itself. -/
theorem lex_self {l : List UInt8} (hw : Sc.Wf l) (hn : (Sc.lex isW l).2 ≠ 0) : Sc.lex isW (l.take (Sc.lex isW l).2) = Sc.lex isW l := by
  obtain ⟨h1, h2, h3⟩ := Sc.lex_cut isW hw hn
  have hlen : (l.take (Sc.lex isW l).2).length = (Sc.lex isW l).2 := by rw [List.length_take]; omega
  have := lex_sim (x := l.take (Sc.lex isW l).2) (a := l.drop (Sc.lex isW l).2) (b := []) (k := (Sc.lex isW l).1) (by rw [List.take_append_drop]; exact hw) (fun e => by rw [e] at hlen; simp at hlen; omega)
    (by rw [List.take_append_drop, hlen]) (.inl rfl)
  rw [List.append_nil, hlen] at this
  exact this
end Go.Proofs.YtnkgbmnjehpkgabGreat

