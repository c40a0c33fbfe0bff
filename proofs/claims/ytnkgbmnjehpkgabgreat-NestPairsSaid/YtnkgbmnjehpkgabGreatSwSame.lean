/- Plain mathematics: a lexeme stays the lexeme that it is when what stands behind it is changed behind its first byte. -/
import Derived.Test.YtnkgbmnjehpkgabGreatSwMath
namespace Go.Proofs.YtnkgbmnjehpkgabGreat
open Go.RowKit Em
set_option maxRecDepth 100000
set_option linter.unusedVariables false

/-! ### What stands behind a lexeme, changed behind its first byte -/
theorem cnt_same {P : Nat → Bool} {x a b : List UInt8} (h : Sc.cnt P (x ++ a) = x.length) {c : Nat} {r r' : List UInt8} (ha : Qm.rd a = some (c, r)) (hb : Qm.rd b = some (c, r')) : Sc.cnt P (x ++ b) = x.length := by
  obtain ⟨x0, e, hy, _⟩ := Sc.left_split P (x ++ a).length (x ++ a) (Nat.le_refl _)
  have hl : Sc.left P (x ++ a) = a := by rw [Sc.left_drop, h, List.drop_left' rfl]
  have e2 : x = x0 := List.append_cancel_right (by rw [hl] at e; exact e)
  have hla : Sc.left P a = a := by
    have := hy a
    rw [← e2, hl] at this
    exact this.symm
  have hp : P c = false := by
    cases hp : P c with
    | false => rfl
    | true =>
      rw [Sc.left_yes ha hp] at hla
      have h1 := Sc.rd_less ha
      have h2 := Sc.left_le P r
      rw [hla] at h2
      omega
  exact cnt_sim h (Sc.left_no hb hp)
theorem pre2_same {u v d : UInt8} {x a b : List UInt8} (hx : x ≠ []) (h : [u, v].isPrefixOf (x ++ d :: a) = false) : [u, v].isPrefixOf (x ++ d :: b) = false := by
  match x, hx with
  | [x0], _ => simpa [List.isPrefixOf] using h
  | x0 :: x1 :: x', _ => exact h
theorem begins_same {d : UInt8} {x a b : List UInt8} (hx : x ≠ []) : Nm.begins (x ++ d :: b) = Nm.begins (x ++ d :: a) := by
  match x, hx with
  | [x0], _ => rfl
  | x0 :: x1 :: x', _ => rfl
theorem pfx_same {d : UInt8} {x a b : List UInt8} (hx : x ≠ []) : Nm.pfx (x ++ d :: b) = Nm.pfx (x ++ d :: a) := by
  match x, hx with
  | [x0], _ => rfl
  | x0 :: x1 :: x', _ => rfl
theorem runLen_same {hex : Bool} {d : UInt8} {a b : List UInt8} : ∀ (t : List UInt8) (p : UInt8), Nm.runLen hex p (t ++ d :: a) = t.length → Nm.runLen hex p (t ++ d :: b) = t.length
  | [], p, h => by
    simp only [List.nil_append, Nm.runLen, List.length_nil] at h ⊢
    split at h
    · omega
    · rename_i hn; rw [if_neg hn]
  | c :: t, p, h => by
    simp only [List.cons_append, Nm.runLen, List.length_cons] at h ⊢
    split at h
    · rename_i hy
      rw [if_pos hy, runLen_same (a := a) t c (by omega)]; omega
    · omega
theorem runOf_same {d : UInt8} {x a b : List UInt8} (hx : x ≠ []) (h : Nm.runOf (x ++ d :: a) = x.length) : Nm.runOf (x ++ d :: b) = x.length := by
  have hp := pfx_same (d := d) (a := a) (b := b) hx
  match x, hx with
  | x0 :: t, _ =>
    rw [List.cons_append] at hp h ⊢
    rw [List.cons_append] at hp
    simp only [Nm.runOf, List.length_cons] at h ⊢
    rw [hp, runLen_same (a := a) t x0 (by omega)]
    omega
theorem sgn_take (l : List UInt8) : Sc.sgn l = Sc.sgn (l.take 3) := by
  have key : ∀ n, n ≤ 3 → Sc.sgnB n l = Sc.sgnB n (l.take 3) := by
    intro n hn
    unfold Sc.sgnB
    congr 1
    funext x
    by_cases hx : x.length = n
    · rw [decide_eq_true hx]
      have : x.isPrefixOf l = x.isPrefixOf (l.take 3) := by
        rw [Bool.eq_iff_iff, List.isPrefixOf_iff_prefix, List.isPrefixOf_iff_prefix, List.prefix_take_iff]
        exact ⟨fun h => ⟨h, by omega⟩, fun h => h.1⟩
      rw [this]
    · rw [decide_eq_false hx]; rfl
  unfold Sc.sgn
  rw [key 3 (by omega), key 2 (by omega), key 1 (by omega)]
theorem signs_no : (Sc.signs.all fun x => !(x.contains 10) && !(x.contains 32)) = true := by decide
theorem sgnB3_no {u v d : UInt8} (hd : d = 10 ∨ d = 32) (t : List UInt8) : Sc.sgnB 3 (u :: v :: d :: t) = false := by
  cases h : Sc.sgnB 3 (u :: v :: d :: t) with
  | false => rfl
  | true =>
    obtain ⟨x, hx, h1, r, h2⟩ := Sc.sgnB_some h
    exfalso
    have h3 := List.all_eq_true.1 signs_no x hx
    match x, h1, h2 with
    | [a, b, c], _, h2 =>
      simp only [List.cons_append, List.nil_append, List.cons.injEq] at h2
      obtain ⟨rfl, rfl, rfl, _⟩ := h2
      rcases hd with rfl | rfl <;> simp at h3
theorem sgnB3_short (u v : UInt8) : Sc.sgnB 3 [u, v] = false := by
  cases h : Sc.sgnB 3 [u, v] with
  | false => rfl
  | true =>
    obtain ⟨x, hx, h1, r, h2⟩ := Sc.sgnB_some h
    have := congrArg List.length h2
    rw [List.length_append, h1] at this
    simp at this
    omega
theorem sgnB_two (u v : UInt8) (a b : List UInt8) (n : Nat) (hn : n ≤ 2) : Sc.sgnB n (u :: v :: a) = Sc.sgnB n (u :: v :: b) := by
  unfold Sc.sgnB
  congr 1
  funext x
  by_cases hx : x.length = n
  · rw [decide_eq_true hx]
    match x, hx with
    | [], _ => rfl
    | [a0], _ => simp [List.isPrefixOf]
    | [a0, b0], _ => simp [List.isPrefixOf]
    | a0 :: b0 :: c0 :: t, hx => simp at hx; omega
  · rw [decide_eq_false hx]; rfl
/-- What may stand behind the first byte. -/
def Tl (a b : List UInt8) : Prop := a.take 1 = b.take 1 ∨ b = [] ∨ ∃ d t, b = d :: t ∧ (d = 10 ∨ d = 32)
theorem sgn_same {u : UInt8} {x a b : List UInt8} (hx : x ≠ []) (h : Sc.sgn (x ++ u :: a) = x.length) (ht : Tl a b) : Sc.sgn (x ++ u :: b) = x.length := by
  match x, hx with
  | [x0], _ =>
    have h2 : Sc.sgn (x0 :: u :: a) = 1 := h
    show Sc.sgn (x0 :: u :: b) = 1
    have done : Sc.sgnB 3 (x0 :: u :: b) = false → Sc.sgn (x0 :: u :: b) = 1 := by
      intro h3
      unfold Sc.sgn at h2 ⊢
      rw [h3, sgnB_two x0 u b a 2 (by omega), sgnB_two x0 u b a 1 (by omega)]
      split at h2
      · omega
      · exact h2
    rcases ht with ht | rfl | ⟨d, t, rfl, hd⟩
    · rw [sgn_take] at h2 ⊢
      have e : (x0 :: u :: b).take 3 = (x0 :: u :: a).take 3 := by
        simp only [List.take_succ_cons]
        rw [ht]
      rw [e]; exact h2
    · exact done (sgnB3_short _ _)
    · exact done (sgnB3_no hd t)
  | [x0, x1], _ =>
    rw [sgn_take] at h ⊢
    exact h
  | x0 :: x1 :: x2 :: x', _ =>
    rw [sgn_take] at h ⊢
    exact h

/-- A comment of a line has two bytes at least. -/
theorem line_two {l : List UInt8} {n : Nat} (h3 : [47, 47].isPrefixOf l = true) (h4 : Sc.cnt Sc.lineC l = n) : 2 ≤ n := by
  rw [← h4]
  match l, h3 with
  | u :: v :: m, h3 =>
    simp only [List.isPrefixOf, Bool.and_eq_true, beq_iff_eq] at h3
    obtain ⟨rfl, rfl, _⟩ := h3
    have f1 : Qm.rd (47 :: 47 :: m) = some (47, 47 :: m) := by
      have := Qm.rd_form (c := 47) (by decide) (47 :: m)
      rwa [show Qm.fm 47 = [47] by decide] at this
    have f2 : Qm.rd (47 :: m) = some (47, m) := by
      have := Qm.rd_form (c := 47) (by decide) m
      rwa [show Qm.fm 47 = [47] by decide] at this
    unfold Sc.cnt
    rw [Sc.left_yes f1 (by decide), Sc.left_yes f2 (by decide)]
    have := Sc.left_le Sc.lineC m
    simp only [List.length_cons]
    omega
  | [u], h3 => simp [List.isPrefixOf] at h3
  | [], h3 => simp [List.isPrefixOf] at h3
set_option maxHeartbeats 1000000 in
theorem lex_same {x a b : List UInt8} {k : Nat} {u : UInt8} (hw : Sc.Wf (x ++ u :: a)) (hx : x ≠ []) (h : Sc.lex isW (x ++ u :: a) = (k, x.length))
    {c0 : Nat} {r0 r1 : List UInt8} (ha : Qm.rd (u :: a) = some (c0, r0)) (hb : Qm.rd (u :: b) = some (c0, r1)) (ht : Tl a b) : Sc.lex isW (x ++ u :: b) = (k, x.length) := by
  have hp := List.length_pos_iff.2 hx
  have hwx : Sc.Wf x := by
    have := (Sc.lex_cut isW hw (by rw [h]; omega)).2.1
    rw [h] at this
    rwa [List.take_left' rfl] at this
  obtain ⟨c, r, hr, _, hok, he⟩ := hwx.rd hx
  have hrd : ∀ y, Qm.rd (x ++ y) = some (c, r ++ y) := fun y => by
    conv => lhs; rw [he, List.append_assoc]
    exact Qm.rd_form hok _
  unfold Sc.lex at h ⊢
  rw [hrd] at h ⊢
  dsimp only at h ⊢
  by_cases h1 : c = 65279
  · rw [if_pos h1] at h ⊢; exact h
  rw [if_neg h1] at h ⊢
  by_cases h2 : Sc.blank c = true
  · rw [if_pos h2] at h ⊢
    obtain ⟨h3, h4⟩ := Prod.mk.inj h
    rw [cnt_same h4 ha hb, h3]
  rw [if_neg h2] at h ⊢
  by_cases h3 : [47, 47].isPrefixOf (x ++ u :: a) = true
  · rw [if_pos h3] at h
    obtain ⟨h4, h5⟩ := Prod.mk.inj h
    rw [if_pos (pre2_yes (line_two h3 h5) h3), cnt_same h5 ha hb, h4]
  rw [if_neg h3] at h
  rw [if_neg (by rw [pre2_same (a := a) hx (Bool.eq_false_iff.mpr h3)]; simp)]
  by_cases h4 : [47, 42].isPrefixOf (x ++ u :: a) = true
  · rw [if_pos h4] at h
    obtain ⟨rfl, h5⟩ := Prod.mk.inj h
    rw [Sc.blk_star] at h5
    cases hs : Sc.star ((x ++ u :: a).drop 2) with
    | none => rw [hs] at h5; dsimp only at h5; omega
    | some i =>
      rw [hs] at h5
      dsimp only at h5
      obtain ⟨p, q, e1, e2, e3⟩ := Sc.star_some hs
      match x, h5, hx with
      | x0 :: x1 :: x', h5, _ =>
        have e4 : x' ++ u :: a = p ++ 42 :: 47 :: q := e1
        have e5 : x' = p ++ [42, 47] := by
          have : x' ++ u :: a = (p ++ [42, 47]) ++ q := by rw [e4, List.append_assoc]; rfl
          exact (List.append_inj this (by simp at h5 ⊢; omega)).1
        rw [if_pos (pre2_yes (a := u :: a) (by simp) h4), Sc.blk_star]
        have e6 : ((x0 :: x1 :: x') ++ u :: b).drop 2 = p ++ 42 :: 47 :: (u :: b) := by
          show x' ++ u :: b = _
          rw [e5, List.append_assoc]; rfl
        rw [e6, e3 (u :: b)]
        dsimp only
        rw [h5]
      | [x0], h5, _ => simp at h5
  rw [if_neg h4] at h
  rw [if_neg (by rw [pre2_same (a := a) hx (Bool.eq_false_iff.mpr h4)]; simp)]
  by_cases h5 : Sc.letter c = true
  · rw [if_pos h5] at h ⊢
    obtain ⟨h6, h7⟩ := Prod.mk.inj h
    rw [h7] at h6
    rw [cnt_same h7 ha hb, ← h6, List.take_left' rfl, List.take_left' rfl]
  rw [if_neg h5] at h ⊢
  by_cases h6 : c = 59
  · rw [if_pos h6] at h ⊢; exact h
  rw [if_neg h6] at h ⊢
  by_cases h7 : Sc.mark c = true
  · rw [if_pos h7] at h ⊢
    cases hq : Qm.whole (x ++ u :: a) with
    | none => rw [hq] at h; have := (Prod.mk.inj h).2; omega
    | some z =>
      obtain ⟨k', v, q⟩ := z
      rw [hq] at h
      obtain ⟨rfl, h8⟩ := Prod.mk.inj h
      obtain ⟨y, e1, e2⟩ := whole_rest hq
      have hlen := congrArg List.length e1
      rw [List.length_append, List.length_append] at hlen
      rw [List.length_append] at h8
      have e3 : x = y := (List.append_inj e1 (by omega)).1
      subst e3
      rw [e2]
      dsimp only
      rw [List.length_append]
      simp
  rw [if_neg h7] at h ⊢
  rw [begins_same (a := a) hx]
  by_cases h8 : Nm.begins (x ++ u :: a) = true
  · rw [if_pos h8] at h ⊢
    by_cases h9 : Nm.kind ((x ++ u :: a).take (Nm.runOf (x ++ u :: a))) = 0
    · rw [if_pos h9] at h; have := (Prod.mk.inj h).2; omega
    · rw [if_neg h9] at h
      obtain ⟨h10, h11⟩ := Prod.mk.inj h
      rw [h11, List.take_left' rfl] at h9 h10
      rw [runOf_same (a := a) hx h11, List.take_left' rfl, if_neg h9, h10]
  · rw [if_neg h8] at h ⊢
    obtain ⟨rfl, h10⟩ := Prod.mk.inj h
    rw [sgn_same hx h10 ht]

end Go.Proofs.YtnkgbmnjehpkgabGreat

