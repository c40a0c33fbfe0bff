/- Plain mathematics of texts in marks: where they end, what stands behind them, two of them joined. Nothing of the program is named here. -/
import Derived.Test.YtdpngmhjdafdpaaQuMath
namespace Go.Proofs.Ytdpngmhjdafdpaa.Qm
open Em
set_option linter.unusedVariables false

theorem u8 {c d : UInt8} (h : c.toNat = d.toNat) : c = d := UInt8.toNat_inj.1 h

theorem strF_more : ∀ (f f' : Nat) (l : List UInt8), l.length < f → l.length < f' → strF f l = strF f' l
  | 0, _, _, h, _ => by omega
  | _, 0, _, _, h => by omega
  | f + 1, f' + 1, [], _, _ => rfl
  | f + 1, f' + 1, c :: m, h, h' => by
    rw [List.length_cons] at h h'
    simp only [strF]
    have e := strF_more f f' m (by omega) (by omega)
    split
    · rfl
    · split
      · split
        · rename_i n b r hx
          have := esc_rest hx
          rw [strF_more f f' r (by omega) (by omega)]
        · rfl
      · split
        · rfl
        · rw [e]

theorem strF_mono : ∀ (f f' : Nat) (l : List UInt8) (z : List UInt8 × List UInt8), strF f l = some z → f ≤ f' → strF f' l = some z
  | 0, _, _, _, h, _ => by cases h
  | f + 1, 0, _, _, _, h => by omega
  | f + 1, f' + 1, [], _, h, _ => by cases h
  | f + 1, f' + 1, c :: m, z, h, hf => by
    simp only [strF] at h ⊢
    split
    · rename_i h1; rw [if_pos h1] at h; exact h
    · rename_i h1
      rw [if_neg h1] at h
      split
      · rename_i h2
        rw [if_pos h2] at h
        split
        · rename_i n b r hx
          rw [hx] at h
          simp only [] at h
          cases hq : strF f r with
          | none => rw [hq] at h; cases h
          | some y => rw [strF_mono f f' r y hq (by omega)]; rw [hq] at h; exact h
        · rename_i hx; rw [hx] at h; cases h
      · rename_i h2
        rw [if_neg h2] at h
        split
        · rename_i h3; rw [if_pos h3] at h; cases h
        · rename_i h3
          rw [if_neg h3] at h
          cases hq : strF f m with
          | none => rw [hq] at h; cases h
          | some y => rw [strF_mono f f' m y hq (by omega)]; rw [hq] at h; exact h

theorem strF_enough {f : Nat} {l : List UInt8} {z : List UInt8 × List UInt8} (h : strF f l = some z) : strF (l.length + 1) l = some z := by
  rw [← strF_mono f (f + l.length + 1) l z h (by omega)]
  exact strF_more _ _ l (by omega) (by omega)

theorem strF_split : ∀ (f : Nat) (l t r : List UInt8), strF f l = some (t, r) →
    ∃ x, l = x ++ 34 :: r ∧ (∀ g y z, strF g y = some z → strF (f + g) (x ++ y) = some (t ++ z.1, z.2)) ∧ ∀ g, strF g x = none
  | 0, _, _, _, h => by cases h
  | f + 1, [], _, _, h => by cases h
  | f + 1, c :: m, t, r, h => by
    simp only [strF] at h
    by_cases h1 : c.toNat = 34
    · rw [if_pos h1] at h
      obtain ⟨rfl, rfl⟩ := Prod.mk.inj (Option.some.inj h)
      refine ⟨[], by rw [u8 (d := 34) h1]; rfl, fun g y z hz => ?_, fun g => by cases g <;> rfl⟩
      exact strF_mono g _ y z hz (by omega)
    · rw [if_neg h1] at h
      by_cases h2 : c.toNat = 92
      · rw [if_pos h2] at h
        cases hx : esc 34 m with
        | none => rw [hx] at h; cases h
        | some y =>
          obtain ⟨n, b, q⟩ := y
          rw [hx] at h
          simp only [] at h
          cases hq : strF f q with
          | none => rw [hq] at h; cases h
          | some w =>
            obtain ⟨t', r'⟩ := w
            rw [hq] at h
            obtain ⟨rfl, rfl⟩ := Prod.mk.inj (Option.some.inj h)
            obtain ⟨x, e1, e2, e3⟩ := strF_split f q t' r' hq
            obtain ⟨e, m1, m2, m3⟩ := esc_split hx
            refine ⟨c :: (e ++ x), by rw [m1, e1]; simp, fun g y z hz => ?_, fun g => ?_⟩
            · have := e2 g y z hz
              rw [show f + 1 + g = (f + g) + 1 by omega]
              simp only [List.cons_append, List.append_assoc, strF, if_neg h1, if_pos h2, m3, this, Option.map_some]
            · cases g with
              | zero => rfl
              | succ g => simp only [strF, if_neg h1, if_pos h2, m3, e3, Option.map_none]
      · rw [if_neg h2] at h
        by_cases h3 : c.toNat = 10
        · rw [if_pos h3] at h; cases h
        · rw [if_neg h3] at h
          cases hq : strF f m with
          | none => rw [hq] at h; cases h
          | some w =>
            obtain ⟨t', r'⟩ := w
            rw [hq] at h
            obtain ⟨rfl, rfl⟩ := Prod.mk.inj (Option.some.inj h)
            obtain ⟨x, e1, e2, e3⟩ := strF_split f m t' r' hq
            refine ⟨c :: x, by rw [e1]; simp, fun g y z hz => ?_, fun g => ?_⟩
            · have := e2 g y z hz
              rw [show f + 1 + g = (f + g) + 1 by omega]
              simp only [List.cons_append, strF, if_neg h1, if_neg h2, if_neg h3, this, Option.map_some]
            · cases g with
              | zero => rfl
              | succ g => simp only [strF, if_neg h1, if_neg h2, if_neg h3, e3, Option.map_none]

theorem raw_split : ∀ (l t r : List UInt8), raw l = some (t, r) → ∃ x, l = x ++ 96 :: r ∧ (∀ y z, raw y = some z → raw (x ++ y) = some (t ++ z.1, z.2)) ∧ raw x = none
  | [], _, _, h => by cases h
  | c :: m, t, r, h => by
    simp only [raw] at h
    by_cases h1 : c.toNat = 96
    · rw [if_pos h1] at h
      obtain ⟨rfl, rfl⟩ := Prod.mk.inj (Option.some.inj h)
      exact ⟨[], by rw [u8 (d := 96) h1]; rfl, fun y z hz => hz, rfl⟩
    · rw [if_neg h1] at h
      cases hq : raw m with
      | none => rw [hq] at h; cases h
      | some w =>
        obtain ⟨t', r'⟩ := w
        rw [hq] at h
        obtain ⟨rfl, rfl⟩ := Prod.mk.inj (Option.some.inj h)
        obtain ⟨x, e1, e2, e3⟩ := raw_split m t' r' hq
        refine ⟨c :: x, by rw [e1]; simp, fun y z hz => ?_, by simp only [raw, if_neg h1, e3, Option.map_none]⟩
        have := e2 y z hz
        simp only [List.cons_append, raw, if_neg h1, this, Option.map_some]
        by_cases h13 : c.toNat = 13
        · simp [h13]
        · simp [h13]

theorem raw_of : ∀ x : List UInt8, (∀ c ∈ x, c.toNat ≠ 96) → ∀ r, raw (x ++ 96 :: r) = some (x.filter (fun c => decide (c.toNat ≠ 13)), r)
  | [], _, r => rfl
  | c :: x, h, r => by
    have hc := h c (List.mem_cons_self ..)
    have := raw_of x (fun d hd => h d (List.mem_cons_of_mem _ hd)) r
    simp only [List.cons_append, raw, if_neg hc, this, Option.map_some]
    by_cases h13 : c.toNat = 13
    · simp [h13]
    · simp [h13]

theorem close_some {t q t' r : List UInt8} (h : close 39 t q = some (t', r)) : q = 39 :: r ∧ t' = t := by
  match q, h with
  | c :: q, h =>
    simp only [close] at h
    split at h
    · rename_i hc
      obtain ⟨rfl, rfl⟩ := Prod.mk.inj (Option.some.inj h)
      exact ⟨by rw [u8 (d := 39) hc], rfl⟩
    · cases h

theorem close_yes (t y : List UInt8) : close 39 t (39 :: y) = some (t, y) := by simp [close]
theorem close_nil (t : List UInt8) : close 39 t [] = none := rfl

theorem rune_split {l t r : List UInt8} (h : rune l = some (t, r)) : ∃ x, l = x ++ 39 :: r ∧ (∀ y, rune (x ++ 39 :: y) = some (t, y)) ∧ rune x = none := by
  unfold rune at h
  split at h
  · rename_i h92
    match l, h92, h with
    | c :: m, h92, h =>
      simp only [List.tail_cons] at h
      cases hx : esc 39 m with
      | none => rw [hx] at h; cases h
      | some y =>
        obtain ⟨n, b, q⟩ := y
        rw [hx] at h
        simp only [] at h
        obtain ⟨hq, ht⟩ := close_some h
        subst hq
        obtain ⟨e, m1, m2, m3⟩ := esc_split hx
        have h92' : ∀ y, Nm.at1 92 (c :: y) = true := fun y => h92
        refine ⟨c :: e, by rw [m1]; rfl, fun y => ?_, ?_⟩
        · rw [ht]
          unfold rune
          rw [List.cons_append, if_pos (h92' _), List.tail_cons, m3]
          exact close_yes _ _
        · unfold rune
          rw [if_pos (h92' _), List.tail_cons, ← List.append_nil e, m3]
          exact close_nil _
  · rename_i h92
    cases hx : rd l with
    | none => rw [hx] at h; cases h
    | some y =>
      obtain ⟨c, q⟩ := y
      rw [hx] at h
      simp only [] at h
      split at h
      · cases h
      · rename_i hc
        obtain ⟨hq, ht⟩ := close_some h
        subst hq
        obtain ⟨hok, e1⟩ := rd_some hx
        have hne := fm_ne hok
        have h92' : ∀ y, ¬ Nm.at1 92 (fm c ++ y) = true := by
          intro y hy
          rw [e1] at h92
          cases hf : fm c with
          | nil => exact hne hf
          | cons a l => rw [hf] at h92 hy; exact h92 hy
        refine ⟨fm c, e1, fun y => ?_, ?_⟩
        · rw [ht]
          unfold rune
          rw [if_neg (h92' _), rd_form hok]
          simp only [if_neg hc]
          exact close_yes _ _
        · unfold rune
          have e0 : fm c = fm c ++ [] := (List.append_nil _).symm
          rw [e0, if_neg (h92' _), rd_form hok]
          simp only [if_neg hc]
          exact close_nil _

theorem whole_eq (c : UInt8) (m : List UInt8) : whole (c :: m) = if c.toNat = 39 then (rune m).map fun x => (6, x.1, x.2)
    else if c.toNat = 34 then (strF (m.length + 1) m).map fun x => (7, x.1, x.2)
    else if c.toNat = 96 then (raw m).map fun x => (7, x.1, x.2)
    else none := rfl
theorem whole39 (m : List UInt8) : whole (39 :: m) = (rune m).map fun x => (6, x.1, x.2) := by rw [whole_eq]; exact if_pos rfl
theorem whole34 (m : List UInt8) : whole (34 :: m) = (strF (m.length + 1) m).map fun x => (7, x.1, x.2) := by
  rw [whole_eq, if_neg (by decide)]; exact if_pos rfl
theorem whole96 (m : List UInt8) : whole (96 :: m) = (raw m).map fun x => (7, x.1, x.2) := by
  rw [whole_eq, if_neg (by decide), if_neg (by decide)]; exact if_pos rfl

/-- WHAT IS FOUND ENDS WITH ITS MARK, SAYS SOMETHING BY ITSELF, AND NOTHING WITHOUT ITS LAST MARK. -/
theorem whole_split {l t r : List UInt8} {k : Nat} (h : whole l = some (k, t, r)) : ∃ m x, l = m :: (x ++ m :: r) ∧ whole (m :: (x ++ [m])) = some (k, t, []) ∧ whole (m :: x) = none ∧ (k = 6 ↔ m = 39) := by
  match l, h with
  | c :: l, h =>
    have hc := h
    rw [whole_eq] at h
    by_cases h1 : c.toNat = 39
    · obtain rfl := u8 (d := 39) h1
      rw [if_pos h1] at h
      cases hx : rune l with
      | none => rw [hx] at h; cases h
      | some z =>
        obtain ⟨t', r'⟩ := z
        rw [hx] at h
        obtain ⟨rfl, h2⟩ := Prod.mk.inj (Option.some.inj h)
        obtain ⟨rfl, rfl⟩ := Prod.mk.inj h2
        obtain ⟨x, e1, e2, e3⟩ := rune_split hx
        exact ⟨39, x, by rw [e1], by rw [whole39, e2]; rfl, by rw [whole39, e3]; rfl, by simp⟩
    · rw [if_neg h1] at h
      by_cases h2 : c.toNat = 34
      · obtain rfl := u8 (d := 34) h2
        rw [if_pos h2] at h
        cases hx : strF (l.length + 1) l with
        | none => rw [hx] at h; cases h
        | some z =>
          obtain ⟨t', r'⟩ := z
          rw [hx] at h
          obtain ⟨rfl, h3⟩ := Prod.mk.inj (Option.some.inj h)
          obtain ⟨rfl, rfl⟩ := Prod.mk.inj h3
          obtain ⟨x, e1, e2, e3⟩ := strF_split _ _ _ _ hx
          have e4 := strF_enough (e2 1 [34] ([], []) rfl)
          refine ⟨34, x, by rw [e1], ?_, by rw [whole34, e3]; rfl, by simp⟩
          rw [whole34, e4]; simp
      · rw [if_neg h2] at h
        by_cases h3 : c.toNat = 96
        · obtain rfl := u8 (d := 96) h3
          rw [if_pos h3] at h
          cases hx : raw l with
          | none => rw [hx] at h; cases h
          | some z =>
            obtain ⟨t', r'⟩ := z
            rw [hx] at h
            obtain ⟨rfl, h4⟩ := Prod.mk.inj (Option.some.inj h)
            obtain ⟨rfl, rfl⟩ := Prod.mk.inj h4
            obtain ⟨x, e1, e2, e3⟩ := raw_split _ _ _ hx
            have e4 := e2 [96] ([], []) rfl
            refine ⟨96, x, by rw [e1], ?_, by rw [whole96, e3]; rfl, by simp⟩
            rw [whole96, e4]; simp
        · rw [if_neg h3] at h; cases h

/-- TWO STRINGS JOINED. -/
theorem whole_join {a b v w : List UInt8} {k k' : Nat} (ha : whole (34 :: a) = some (k, v, [])) (hb : whole (34 :: b) = some (k', w, [])) : whole (34 :: (a.dropLast ++ b)) = some (7, v ++ w, []) := by
  rw [whole34] at ha hb
  cases hx : strF (a.length + 1) a with
  | none => rw [hx] at ha; cases ha
  | some z =>
    obtain ⟨t', r'⟩ := z
    rw [hx] at ha
    obtain ⟨_, h3⟩ := Prod.mk.inj (Option.some.inj ha)
    obtain ⟨rfl, rfl⟩ := Prod.mk.inj h3
    cases hy : strF (b.length + 1) b with
    | none => rw [hy] at hb; cases hb
    | some z =>
      obtain ⟨t2, r2⟩ := z
      rw [hy] at hb
      obtain ⟨_, h4⟩ := Prod.mk.inj (Option.some.inj hb)
      obtain ⟨rfl, rfl⟩ := Prod.mk.inj h4
      obtain ⟨x, e1, e2, e3⟩ := strF_split _ _ _ _ hx
      have hd : a.dropLast = x := by rw [e1, List.dropLast_concat]
      rw [hd, whole34, strF_enough (e2 _ b _ hy)]; rfl
end Go.Proofs.Ytdpngmhjdafdpaa.Qm
