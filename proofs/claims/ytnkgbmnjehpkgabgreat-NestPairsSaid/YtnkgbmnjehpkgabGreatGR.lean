/- Plain mathematics of lexemes: characters that follow one another, signs, the lexeme that begins a text. Nothing of the program is named here. -/
import Derived.Test.YtnkgbmnjehpkgabGreatGL
import Derived.Test.YtnkgbmnjehpkgabGreatGB
import Derived.Test.YtnkgbmnjehpkgabGreatGA
import Derived.Lib.Index
import Derived.Lib.IndexMore
import Derived.Lib.RuneCountTail
namespace Go.Proofs.YtnkgbmnjehpkgabGreat.Sc
open Em
set_option maxRecDepth 100000
set_option linter.unusedVariables false

/-! ### The character that begins a text -/
theorem txt_drop (s : ByteArray) (p : Nat) : txt ((bl s).drop p) = s.extract p s.size := bl_inj (by
  rw [txt_bl, bl_extract, ← bl_size, List.take_length])

theorem rd_yes {s : ByteArray} {p : Nat} (h : p < s.size) (hk : Um.okAt s p = true) : Qm.rd ((bl s).drop p) = some (Um.chr s p, (bl s).drop (p + Um.wid s p)) := by
  have hne : ((bl s).drop p).isEmpty = false := by
    have hl : ((bl s).drop p).length ≠ 0 := by rw [List.length_drop, bl_size]; omega
    cases hx : (bl s).drop p with
    | nil => rw [hx] at hl; exact absurd rfl hl
    | cons c r => rfl
  have hd := Lib.tail_decode s p 0
  rw [Nat.add_zero] at hd
  have e1 : Um.chr (s.extract p s.size) 0 = Um.chr s p := by unfold Um.chr; rw [hd]
  have e2 : Um.wid (s.extract p s.size) 0 = Um.wid s p := by unfold Um.wid; rw [hd]
  unfold Qm.rd
  rw [txt_drop, Um.okAt_tail, e1, e2, List.drop_drop]
  exact if_pos ⟨hne, hk⟩
theorem rd_no {s : ByteArray} {p : Nat} (hk : Um.okAt s p = false) : Qm.rd ((bl s).drop p) = none := by
  unfold Qm.rd
  rw [txt_drop, Um.okAt_tail, hk]
  exact if_neg (by simp)
theorem rd_nil : Qm.rd [] = none := if_neg (by simp)
theorem rd_end {s : ByteArray} {p : Nat} (h : ¬ p < s.size) : Qm.rd ((bl s).drop p) = none := by
  rw [List.drop_of_length_le (by rw [bl_size]; omega)]; exact rd_nil
theorem rd_less {l : List UInt8} {c : Nat} {r : List UInt8} (h : Qm.rd l = some (c, r)) : r.length < l.length := by
  obtain ⟨h1, h2⟩ := Qm.rd_some h
  have h3 := List.length_pos_iff.2 (Qm.fm_ne h1)
  generalize Qm.fm c = z at h2 h3
  rw [h2, List.length_append]; omega

/-! ### Characters of a sort -/
def run (P : Nat → Bool) : Nat → List UInt8 → List UInt8
  | 0, l => l
  | f + 1, l => match Qm.rd l with
    | some (c, r) => if P c = true then run P f r else l
    | none => l

theorem run_fuel (P : Nat → Bool) : ∀ (f f' : Nat) (l : List UInt8), l.length ≤ f → l.length ≤ f' → run P f l = run P f' l
  | 0, 0, l, _, _ => rfl
  | 0, f' + 1, l, h, _ => by
    have : l = [] := List.eq_nil_of_length_eq_zero (by omega)
    subst this
    simp only [run, rd_nil]
  | f + 1, 0, l, _, h => by
    have : l = [] := List.eq_nil_of_length_eq_zero (by omega)
    subst this
    simp only [run, rd_nil]
  | f + 1, f' + 1, l, h, h' => by
    simp only [run]
    split
    · rename_i c r hr
      have := rd_less hr
      split
      · exact run_fuel P f f' r (by omega) (by omega)
      · rfl
    · rfl

/-- What is left behind the characters of a sort. -/
def left (P : Nat → Bool) (l : List UInt8) : List UInt8 := run P l.length l

theorem left_yes {P : Nat → Bool} {l : List UInt8} {c : Nat} {r : List UInt8} (h : Qm.rd l = some (c, r)) (hp : P c = true) : left P l = left P r := by
  have hl := rd_less h
  unfold left
  obtain ⟨m, hm⟩ : ∃ m, l.length = m + 1 := ⟨l.length - 1, by omega⟩
  rw [hm, run, h]
  dsimp only
  rw [if_pos hp]
  exact run_fuel P _ _ r (by omega) (by omega)
theorem left_no {P : Nat → Bool} {l : List UInt8} {c : Nat} {r : List UInt8} (h : Qm.rd l = some (c, r)) (hp : P c = false) : left P l = l := by
  have hl := rd_less h
  unfold left
  obtain ⟨m, hm⟩ : ∃ m, l.length = m + 1 := ⟨l.length - 1, by omega⟩
  rw [hm, run, h]
  dsimp only
  rw [hp]; rfl
theorem left_none {P : Nat → Bool} {l : List UInt8} (h : Qm.rd l = none) : left P l = l := by
  unfold left
  cases hm : l.length with
  | zero => rfl
  | succ m => rw [run, h]

/-- What is left is an end of the text, behind whole characters of the sort. -/
theorem left_split (P : Nat → Bool) : ∀ (n : Nat) (l : List UInt8), l.length ≤ n → ∃ x, l = x ++ left P l ∧ (∀ y, left P (x ++ y) = left P y) ∧ (∀ c r, Qm.rd (left P l) = some (c, r) → P c = false)
  | 0, l, h => by
    have : l = [] := List.eq_nil_of_length_eq_zero (by omega)
    subst this
    exact ⟨[], rfl, fun y => rfl, fun c r h => by rw [left_none rd_nil, rd_nil] at h; cases h⟩
  | n + 1, l, h => by
    cases hr : Qm.rd l with
    | none =>
      rw [left_none hr]
      exact ⟨[], rfl, fun y => rfl, fun c r h => by rw [hr] at h; cases h⟩
    | some cr =>
      obtain ⟨c, r⟩ := cr
      cases hp : P c with
      | false =>
        rw [left_no hr hp]
        exact ⟨[], rfl, fun y => rfl, fun c' r' h => by rw [hr] at h; cases h; exact hp⟩
      | true =>
        have hlt := rd_less hr
        rw [left_yes hr hp]
        obtain ⟨x, h1, h2, h3⟩ := left_split P n r (by omega)
        obtain ⟨hk, hl⟩ := Qm.rd_some hr
        refine ⟨Qm.fm c ++ x, by rw [List.append_assoc, ← h1]; exact hl, fun y => ?_, h3⟩
        rw [List.append_assoc, left_yes (Qm.rd_form hk _) hp]
        exact h2 y
theorem left_le (P : Nat → Bool) (l : List UInt8) : (left P l).length ≤ l.length := by
  obtain ⟨x, h, _⟩ := left_split P l.length l (Nat.le_refl _)
  have := congrArg List.length h
  rw [List.length_append] at this; omega
/-- How many bytes belong to characters of a sort. -/
def cnt (P : Nat → Bool) (l : List UInt8) : Nat := l.length - (left P l).length
theorem cnt_le (P : Nat → Bool) (l : List UInt8) : cnt P l ≤ l.length := Nat.sub_le _ _
theorem left_drop (P : Nat → Bool) (l : List UInt8) : left P l = l.drop (cnt P l) := by
  obtain ⟨x, h, _⟩ := left_split P l.length l (Nat.le_refl _)
  have h2 := congrArg List.length h
  rw [List.length_append] at h2
  have e : cnt P l = x.length := by unfold cnt; omega
  rw [e]
  conv => rhs; rw [h]
  rw [List.drop_left]
/-- A place from which on nothing turns. -/
theorem cnt_at {P : Nat → Bool} {l : List UInt8} {p : Nat} (hp : p ≤ l.length) (h : left P l = l.drop p) : cnt P l = p := by
  unfold cnt; rw [h, List.length_drop]; omega

/-! ### The text's first character that may not be -/
def badC (c p : Nat) : Bool := decide (c = 0 ∨ (c = 65279 ∧ 0 < p))
def cln (s : ByteArray) : Nat → Nat → Option Nat
  | 0, _ => none
  | f + 1, p => if p < s.size then if Um.okAt s p = true ∧ badC (Um.chr s p) p = false then cln s f (p + Um.wid s p) else some p else none
def clnI (s : ByteArray) : Int := match cln s s.size 0 with | some p => (p : Int) | none => -1

theorem cln_step {s : ByteArray} {f p : Nat} (h : p < s.size) (hk : Um.okAt s p = true) (hc : badC (Um.chr s p) p = false) : cln s (f + 1) p = cln s f (p + Um.wid s p) := by
  simp only [cln, if_pos h]; exact if_pos ⟨hk, hc⟩
theorem cln_bad {s : ByteArray} {f p : Nat} (h : p < s.size) (hk : Um.okAt s p = false) : cln s (f + 1) p = some p := by
  simp only [cln, if_pos h]; exact if_neg (fun g => by rw [hk] at g; cases g.1)
theorem cln_char {s : ByteArray} {f p : Nat} (h : p < s.size) (hc : badC (Um.chr s p) p = true) : cln s (f + 1) p = some p := by
  simp only [cln, if_pos h]; exact if_neg (fun g => by rw [hc] at g; cases g.2)
theorem cln_end {s : ByteArray} {f p : Nat} (h : ¬ p < s.size) : cln s f p = none := by
  cases f with
  | zero => rfl
  | succ f => simp only [cln, if_neg h]

/-! ### Signs -/
def signs : List (List UInt8) := [[43], [45], [42], [47], [37], [38], [124], [94], [60, 60], [62, 62], [38, 94], [43, 61], [45, 61], [42, 61], [47, 61], [37, 61], [38, 61], [124, 61], [94, 61], [60, 60, 61], [62, 62, 61], [38, 94, 61], [38, 38], [124, 124], [60, 45], [43, 43], [45, 45], [61, 61], [60], [62], [61], [33], [126], [33, 61], [60, 61], [62, 61], [58, 61], [46, 46, 46], [40], [41], [91], [93], [123], [125], [44], [46], [58]]
/-- Does a sign of so many bytes begin a text? -/
def sgnB (n : Nat) (l : List UInt8) : Bool := signs.any fun x => decide (x.length = n) && x.isPrefixOf l
/-- The bytes of the longest sign that begins a text; 0: none does. -/
def sgn (l : List UInt8) : Nat := if sgnB 3 l = true then 3 else if sgnB 2 l = true then 2 else if sgnB 1 l = true then 1 else 0

/-! ### The lexeme that begins a text -/
def letter (c : Nat) : Bool := Cm.inB Cm.letters c
def digit (c : Nat) : Bool := Cm.inB Cm.digits c
def blank (c : Nat) : Bool := Cm.inB Cm.blanks c
def wordC (c : Nat) : Bool := letter c || digit c
def lineC (c : Nat) : Bool := decide (c ≠ 10)
def mark (c : Nat) : Bool := decide (c = 39 ∨ c = 34 ∨ c = 96)

/-- How many bytes a comment has whose first two begin a text; 0: it doesn't end. -/
def blk (l : List UInt8) : Nat := if 0 ≤ Lib.index (l.drop 2) [42, 47] then 2 + (Lib.index (l.drop 2) [42, 47]).toNat + 2 else 0

/-- The kind and the number of bytes; of no bytes: there is none. -/
def lex (isW : List UInt8 → Bool) (l : List UInt8) : Nat × Nat :=
  match Qm.rd l with
  | none => (0, 0)
  | some (c, _) =>
    if c = 65279 then (10, 3)
    else if blank c = true then (10, cnt blank l)
    else if [47, 47].isPrefixOf l = true then (11, cnt lineC l)
    else if [47, 42].isPrefixOf l = true then (12, blk l)
    else if letter c = true then (if isW (l.take (cnt wordC l)) = true then 2 else 1, cnt wordC l)
    else if c = 59 then (9, 1)
    else if mark c = true then (match Qm.whole l with | some (k, _, q) => (k, l.length - q.length) | none => (0, 0))
    else if Nm.begins l = true then (if Nm.kind (l.take (Nm.runOf l)) = 0 then (0, 0) else (Nm.kind (l.take (Nm.runOf l)), Nm.runOf l))
    else (8, sgn l)
end Go.Proofs.YtnkgbmnjehpkgabGreat.Sc

/- Plain mathematics: texts of whole characters. Nothing of the program is named here. -/
namespace Go.Proofs.YtnkgbmnjehpkgabGreat.Sc
open Em
set_option linter.unusedVariables false

/-- A text of whole characters. -/
inductive Wf : List UInt8 → Prop
  | nil : Wf []
  | cons {c : Nat} {r : List UInt8} : Um.okN c → Wf r → Wf (Qm.fm c ++ r)

theorem Wf.rd {l : List UInt8} (h : Wf l) (hne : l ≠ []) : ∃ c r, Qm.rd l = some (c, r) ∧ Wf r ∧ Um.okN c ∧ l = Qm.fm c ++ r := by
  cases h with
  | nil => exact absurd rfl hne
  | cons hc hr => exact ⟨_, _, Qm.rd_form hc _, hr, hc, rfl⟩
theorem Wf.tail {l : List UInt8} (h : Wf l) {c : Nat} {r : List UInt8} (hr : Qm.rd l = some (c, r)) : Wf r := by
  cases h with
  | nil => rw [rd_nil] at hr; cases hr
  | cons hc hw =>
    rw [Qm.rd_form hc] at hr
    cases hr
    exact hw
theorem wf_at {s : ByteArray} {p : Nat} (h : p < s.size) (hw : Wf ((bl s).drop p)) : Um.okAt s p = true ∧ Wf ((bl s).drop (p + Um.wid s p)) := by
  have hne : (bl s).drop p ≠ [] := fun e => by
    have := congrArg List.length e
    rw [List.length_drop, bl_size] at this
    simp at this; omega
  cases hk : Um.okAt s p with
  | false =>
    obtain ⟨c, r, hr, _⟩ := hw.rd hne
    rw [rd_no hk] at hr
    cases hr
  | true => exact ⟨rfl, hw.tail (rd_yes h hk)⟩
theorem wf_bad {s : ByteArray} : ∀ (f p : Nat), p ≤ s.size → s.size ≤ p + f → Um.badP s f p = none → Wf ((bl s).drop p)
  | 0, p, h1, h2, _ => by rw [List.drop_of_length_le (by rw [bl_size]; omega)]; exact .nil
  | f + 1, p, h1, h2, h => by
    by_cases hp : p < s.size
    · cases hk : Um.okAt s p with
      | false => rw [Um.badP_bad hp hk] at h; cases h
      | true =>
        rw [Um.badP_step hp hk] at h
        have hw := Um.wid_pos s p
        have hf := Um.ok_fits hp hk
        have ih := wf_bad f (p + Um.wid s p) hf (by omega) h
        obtain ⟨hc, he⟩ := Qm.rd_some (rd_yes hp hk)
        rw [he]
        exact .cons hc ih
    · rw [List.drop_of_length_le (by rw [bl_size]; omega)]; exact .nil
theorem wf_of_bad {s : ByteArray} (h : Um.badP s s.size 0 = none) : Wf (bl s) := wf_bad s.size 0 (by omega) (by omega) h
theorem Wf.append {a b : List UInt8} (ha : Wf a) (hb : Wf b) : Wf (a ++ b) := by
  induction ha with
  | nil => exact hb
  | cons hc _ ih => rw [List.append_assoc]; exact .cons hc ih
theorem Wf.left {P : Nat → Bool} : ∀ (n : Nat) {l : List UInt8}, l.length ≤ n → Wf l → Wf (left P l)
  | 0, l, h, _ => by
    have : l = [] := List.eq_nil_of_length_eq_zero (by omega)
    subst this; exact .nil
  | n + 1, l, h, hw => by
    cases hr : Qm.rd l with
    | none => rw [left_none hr]; exact hw
    | some cr =>
      obtain ⟨c, r⟩ := cr
      cases hp : P c with
      | false => rw [left_no hr hp]; exact hw
      | true =>
        have := rd_less hr
        rw [left_yes hr hp]
        exact Wf.left n (by omega) (hw.tail hr)
end Go.Proofs.YtnkgbmnjehpkgabGreat.Sc

/- Plain mathematics: where a lexeme ends a character ends. Nothing of the program is named here. -/
namespace Go.Proofs.YtnkgbmnjehpkgabGreat.Sc
open Em
set_option linter.unusedVariables false
set_option linter.unusedSimpArgs false

/-! ### The bytes of a character -/
theorem fm_list {c : Nat} (h : Um.okN c) : Qm.fm c = (Um.formN c).map UInt8.ofNat := (Qm.fm_eq c).trans (Um.form_list h)
theorem fm_shape {c : Nat} (h : Um.okN c) : (c < 128 ∧ Qm.fm c = [UInt8.ofNat c]) ∨ (128 ≤ c ∧ ∃ a t, Qm.fm c = a :: t ∧ 192 ≤ a.toNat ∧ ∀ y ∈ t, 128 ≤ y.toNat ∧ y.toNat < 192) := by
  by_cases h1 : c < 128
  · exact .inl ⟨h1, Qm.fm_small h1⟩
  · refine .inr ⟨by omega, ?_⟩
    rw [fm_list h]
    have hle : c ≤ 1114111 := by unfold Um.okN at h; omega
    unfold Um.formN
    rw [if_neg h1]
    by_cases h2 : c < 2048
    · rw [if_pos h2]
      refine ⟨_, _, rfl, by simp; omega, ?_⟩
      intro y hy
      simp at hy
      subst hy
      simp; omega
    · rw [if_neg h2]
      by_cases h3 : c < 65536
      · rw [if_pos h3]
        refine ⟨_, _, rfl, by simp; omega, ?_⟩
        intro y hy
        simp at hy
        rcases hy with rfl | rfl <;> simp <;> omega
      · rw [if_neg h3]
        refine ⟨_, _, rfl, by simp; omega, ?_⟩
        intro y hy
        simp at hy
        rcases hy with rfl | rfl | rfl <;> simp <;> omega

/-- A character's bytes cut in two. -/
theorem fm_cut {c : Nat} (h : Um.okN c) {a b : List UInt8} (he : Qm.fm c = a ++ b) (ha : a ≠ []) (hb : b ≠ []) : (∀ y ∈ a, 128 ≤ y.toNat) ∧ (∀ y ∈ b, 128 ≤ y.toNat ∧ y.toNat < 192) := by
  rcases fm_shape h with ⟨_, h2⟩ | ⟨_, x, t, h2, h3, h4⟩
  · exfalso
    rw [h2] at he
    have := congrArg List.length he
    have l1 := List.length_pos_iff.2 ha
    have l2 := List.length_pos_iff.2 hb
    rw [List.length_append] at this
    simp at this
    omega
  · rw [h2] at he
    match a, ha, he with
    | y :: a, _, he =>
      obtain ⟨rfl, rfl⟩ := List.cons.inj he
      refine ⟨fun z hz => ?_, fun z hz => h4 z (List.mem_append_right _ hz)⟩
      rcases List.mem_cons.1 hz with rfl | hz
      · omega
      · exact (h4 z (List.mem_append_left _ hz)).1

/-- A text of whole characters cut in two: between two characters, or within one. -/
theorem Wf.split {l : List UInt8} (h : Wf l) : ∀ {x r : List UInt8}, l = x ++ r → (Wf x ∧ Wf r) ∨ (∃ c a b x' r', Um.okN c ∧ Qm.fm c = a ++ b ∧ a ≠ [] ∧ b ≠ [] ∧ x = x' ++ a ∧ r = b ++ r') := by
  induction h with
  | nil =>
    intro x r he
    obtain ⟨rfl, rfl⟩ := List.append_eq_nil_iff.1 he.symm
    exact .inl ⟨.nil, .nil⟩
  | @cons c r0 hc hw ih =>
    intro x r he
    rcases List.append_eq_append_iff.1 he with ⟨a', h1, h2⟩ | ⟨c', h1, h2⟩
    · rcases ih h2 with ⟨i1, i2⟩ | ⟨d, a, b, x', r', i1, i2, i3, i4, i5, i6⟩
      · exact .inl ⟨by rw [h1]; exact .cons hc i1, i2⟩
      · exact .inr ⟨d, a, b, Qm.fm c ++ x', r', i1, i2, i3, i4, by rw [h1, i5, List.append_assoc], i6⟩
    · by_cases hx : x = []
      · subst hx
        refine .inl ⟨.nil, ?_⟩
        rw [h2, ← show Qm.fm c = c' from h1]
        exact .cons hc hw
      · by_cases hb : c' = []
        · subst hb
          rw [List.append_nil] at h1
          refine .inl ⟨?_, by rw [h2]; exact hw⟩
          rw [← h1]
          have := Wf.cons hc Wf.nil
          rwa [List.append_nil] at this
        · exact .inr ⟨c, x, c', [], r0, hc, h1, hx, hb, rfl, h2⟩

theorem Wf.hd {l : List UInt8} (h : Wf l) {y : UInt8} {t : List UInt8} (he : l = y :: t) : y.toNat < 128 ∨ 192 ≤ y.toNat := by
  cases h with
  | nil => cases he
  | @cons c r hc _ =>
    rcases fm_shape hc with ⟨h1, h2⟩ | ⟨_, a, u, h2, h3, _⟩
    · rw [h2] at he
      obtain ⟨rfl, _⟩ := List.cons.inj he
      left; simp; omega
    · rw [h2] at he
      obtain ⟨rfl, _⟩ := List.cons.inj he
      exact .inr h3

theorem Wf.cut_right {x r : List UInt8} (h : Wf (x ++ r)) (hr : ∀ y t, r = y :: t → y.toNat < 128 ∨ 192 ≤ y.toNat) : Wf x ∧ Wf r := by
  rcases h.split rfl with h1 | ⟨c, a, b, x', r', hc, he, ha, hb, h5, h6⟩
  · exact h1
  · exfalso
    have h9 := (fm_cut hc he ha hb).2
    clear he
    obtain ⟨y, b', rfl⟩ := List.exists_cons_of_ne_nil hb
    have h7 := hr y (b' ++ r') h6
    have h8 := h9 y (List.mem_cons_self ..)
    omega
theorem Wf.left_of {x r : List UInt8} (h : Wf (x ++ r)) (hr : Wf r) : Wf x := (h.cut_right fun y t e => hr.hd e).1
theorem Wf.cut_left {x r : List UInt8} (h : Wf (x ++ r)) {y : UInt8} (hy : x.getLast? = some y) (hs : y.toNat < 128) : Wf x ∧ Wf r := by
  rcases h.split rfl with h1 | ⟨c, a, b, x', r', hc, he, ha, hb, h5, h6⟩
  · exact h1
  · exfalso
    have h7 := (fm_cut hc he ha hb).1
    have hy2 : (x' ++ a).getLast? = some y := by rw [← h5]; exact hy
    have hy3 : a.getLast? = some y := (Nm.last_append ha).symm.trans hy2
    have h8 := h7 y (List.mem_of_getLast? hy3)
    omega
theorem Wf.cut_at {l : List UInt8} (h : Wf l) {n : Nat} {y : UInt8} (h1 : 1 ≤ n) (hy : l[n - 1]? = some y) (hs : y.toNat < 128) : n ≤ l.length ∧ Wf (l.take n) ∧ Wf (l.drop n) := by
  have hn : n - 1 < l.length := (List.getElem?_eq_some_iff.1 hy).1
  have h2 : (l.take n).getLast? = some y := by
    rw [List.getLast?_eq_getElem?, List.length_take, Nat.min_eq_left (by omega), List.getElem?_take_of_lt (by omega)]
    exact hy
  rw [← List.take_append_drop n l] at h
  have := h.cut_left h2 hs
  exact ⟨by omega, this⟩

/-! ### Comments in stars -/
def star : List UInt8 → Option Nat
  | [] => none
  | c :: r => if [42, 47].isPrefixOf (c :: r) = true then some 0 else (star r).map (· + 1)

theorem index_star : ∀ l : List UInt8, Lib.index l [42, 47] = match star l with | some i => (i : Int) | none => -1
  | [] => rfl
  | c :: r => by
    have ih := index_star r
    rw [Lib.index, star]
    by_cases h : [42, 47].isPrefixOf (c :: r) = true
    · rw [if_pos h, if_pos h]; rfl
    · rw [if_neg h, if_neg h, ih]
      cases star r with
      | none => rfl
      | some i =>
        have : ((i : Int) == -1) = false := beq_eq_false_iff_ne.2 (by omega)
        simp [this]

theorem blk_star (l : List UInt8) : blk l = match star (l.drop 2) with | some i => 2 + i + 2 | none => 0 := by
  unfold blk
  rw [index_star]
  cases star (l.drop 2) with
  | none => rfl
  | some i => dsimp only; rw [if_pos (show (0 : Int) ≤ (i : Int) by omega), Int.toNat_natCast]

theorem star_some : ∀ {l : List UInt8} {i : Nat}, star l = some i → ∃ a b, l = a ++ 42 :: 47 :: b ∧ a.length = i ∧ ∀ y, star (a ++ 42 :: 47 :: y) = some i
  | [], i, h => by cases h
  | c :: r, i, h => by
    rw [star] at h
    by_cases hp : [42, 47].isPrefixOf (c :: r) = true
    · rw [if_pos hp] at h
      cases h
      obtain ⟨b, hb⟩ := List.isPrefixOf_iff_prefix.1 hp
      refine ⟨[], b, hb.symm, rfl, fun y => ?_⟩
      rw [List.nil_append, star]; exact if_pos (by simp)
    · rw [if_neg hp] at h
      cases hs : star r with
      | none => rw [hs] at h; cases h
      | some j =>
        rw [hs] at h
        cases h
        obtain ⟨a, b, h1, h2, h3⟩ := star_some hs
        refine ⟨c :: a, b, by rw [h1]; rfl, by rw [List.length_cons, h2], fun y => ?_⟩
        rw [List.cons_append, star, if_neg ?_, h3 y]; rfl
        intro hp2
        apply hp
        rw [h1]
        match a, hp2 with
        | [], hp2 => simp at hp2
        | d :: a, hp2 => simpa using hp2

/-! ### Signs -/
theorem sgnB_some {n : Nat} {l : List UInt8} (h : sgnB n l = true) : ∃ x ∈ signs, x.length = n ∧ ∃ r, l = x ++ r := by
  unfold sgnB at h
  obtain ⟨x, hx, h2⟩ := List.any_eq_true.1 h
  simp only [Bool.and_eq_true, decide_eq_true_eq] at h2
  obtain ⟨r, hr⟩ := List.isPrefixOf_iff_prefix.1 h2.2
  exact ⟨x, hx, h2.1, r, hr.symm⟩
theorem signs_small : ∀ x ∈ signs, ∀ y ∈ x, y.toNat < 128 := by decide
theorem signs_ne : ∀ x ∈ signs, x ≠ [] := by decide
theorem sgn_some {l : List UInt8} (h : sgn l ≠ 0) : ∃ x ∈ signs, x.length = sgn l ∧ ∃ r, l = x ++ r := by
  unfold sgn at h ⊢
  by_cases h3 : sgnB 3 l = true
  · rw [if_pos h3]; exact sgnB_some h3
  · rw [if_neg h3] at h ⊢
    by_cases h2 : sgnB 2 l = true
    · rw [if_pos h2]; exact sgnB_some h2
    · rw [if_neg h2] at h ⊢
      by_cases h1 : sgnB 1 l = true
      · rw [if_pos h1]; exact sgnB_some h1
      · rw [if_neg h1] at h; exact absurd rfl h

/-! ### Numbers -/
theorem inner_small {c : UInt8} (h : Nm.inner c = true) : c.toNat < 128 := by
  unfold Nm.inner at h
  have := of_decide_eq_true h
  omega
theorem on_small {hex : Bool} {p c : UInt8} (h : Nm.on hex p c = true) : c.toNat < 128 := by
  unfold Nm.on at h
  rw [Bool.or_eq_true] at h
  rcases h with h | h
  · exact inner_small h
  · rw [Bool.and_eq_true] at h
    have := h.2
    unfold Nm.sign at this
    rcases of_decide_eq_true this with rfl | rfl <;> decide
theorem run_small {hex : Bool} : ∀ (a : UInt8) (t : List UInt8) (i : Nat) (y : UInt8), i < Nm.runLen hex a t → t[i]? = some y → y.toNat < 128
  | a, [], i, y, h, _ => by simp [Nm.runLen] at h
  | a, c :: t, i, y, h, hy => by
    rw [Nm.runLen] at h
    by_cases hc : Nm.on hex a c = true
    · rw [if_pos hc] at h
      cases i with
      | zero => simp at hy; subst hy; exact on_small hc
      | succ i => exact run_small (hex := hex) c t i y (by omega) (by simpa using hy)
    · rw [if_neg hc] at h; omega
theorem begins_small {a : UInt8} {t : List UInt8} (h : Nm.begins (a :: t) = true) : a.toNat < 128 := by
  unfold Nm.begins at h
  by_cases h1 : a = 46
  · subst h1; decide
  · dsimp only at h
    rw [if_neg h1] at h
    have := of_decide_eq_true h
    unfold Nm.dg at this
    split at this
    · omega
    · split at this
      · omega
      · split at this
        · omega
        · omega
theorem runOf_small {l : List UInt8} (h : Nm.begins l = true) {i : Nat} {y : UInt8} (hi : i < Nm.runOf l) (hy : l[i]? = some y) : y.toNat < 128 := by
  match l, h, hi, hy with
  | a :: t, h, hi, hy =>
    unfold Nm.runOf at hi
    cases i with
    | zero => simp at hy; subst hy; exact begins_small h
    | succ i => exact run_small (hex := decide (Nm.pfx (a :: t) = 16)) a t i y (by dsimp only at hi; omega) (by simpa using hy)

/-! ### The end of a lexeme -/
theorem cnt_cut {P : Nat → Bool} {l : List UInt8} (hw : Wf l) : cnt P l ≤ l.length ∧ Wf (l.take (cnt P l)) ∧ Wf (l.drop (cnt P l)) := by
  have h1 : Wf (l.drop (cnt P l)) := by rw [← left_drop]; exact Wf.left l.length (Nat.le_refl _) hw
  refine ⟨cnt_le P l, ?_, h1⟩
  rw [← List.take_append_drop (cnt P l) l] at hw
  exact hw.left_of h1

theorem lex_cut (isW : List UInt8 → Bool) {l : List UInt8} (hw : Wf l) (hn : (lex isW l).2 ≠ 0) : (lex isW l).2 ≤ l.length ∧ Wf (l.take (lex isW l).2) ∧ Wf (l.drop (lex isW l).2) := by
  by_cases hl : l = []
  · subst hl
    exact absurd rfl hn
  obtain ⟨c, r, hr, hwr, hc, he⟩ := hw.rd hl
  have hx : ∀ n, n = (lex isW l).2 → n ≤ l.length ∧ Wf (l.take n) ∧ Wf (l.drop n) := by
    intro n hn'
    unfold lex at hn' hn
    rw [hr] at hn' hn
    dsimp only at hn' hn
    by_cases h1 : c = 65279
    · rw [if_pos h1] at hn'
      subst hn'
      have e3 : (Qm.fm c).length = 3 := by rw [h1]; decide
      rw [he, ← e3]
      dsimp only
      rw [List.take_left' rfl, List.drop_left' rfl]
      refine ⟨by rw [List.length_append]; omega, ?_, hwr⟩
      have := Wf.cons hc Wf.nil
      rwa [List.append_nil] at this
    rw [if_neg h1] at hn' hn
    by_cases h2 : blank c = true
    · rw [if_pos h2] at hn'; subst hn'; exact cnt_cut hw
    rw [if_neg h2] at hn' hn
    by_cases h3 : [47, 47].isPrefixOf l = true
    · rw [if_pos h3] at hn'; subst hn'; exact cnt_cut hw
    rw [if_neg h3] at hn' hn
    by_cases h4 : [47, 42].isPrefixOf l = true
    · rw [if_pos h4] at hn' hn
      dsimp only at hn' hn
      rw [blk_star] at hn' hn
      cases hs : star (l.drop 2) with
      | none => rw [hs] at hn; exact absurd rfl hn
      | some i =>
        rw [hs] at hn'
        dsimp only at hn'
        obtain ⟨a, b, h5, h6, _⟩ := star_some hs
        have hy : l[2 + i + 2 - 1]? = some 47 := by
          have : (l.drop 2)[i + 1]? = some 47 := by rw [h5, ← h6, List.getElem?_append_right (by omega)]; simp
          rw [List.getElem?_drop] at this
          rw [show 2 + i + 2 - 1 = 2 + (i + 1) by omega]; exact this
        rw [hn']
        exact hw.cut_at (n := 2 + i + 2) (by omega) hy (by decide)
    rw [if_neg h4] at hn' hn
    by_cases h5 : letter c = true
    · rw [if_pos h5] at hn'; subst hn'; exact cnt_cut hw
    rw [if_neg h5] at hn' hn
    by_cases h6 : c = 59
    · rw [if_pos h6] at hn'
      subst hn'
      have e1 : Qm.fm c = [59] := by rw [h6]; exact Qm.fm_small (by omega)
      refine hw.cut_at (by omega) (y := 59) ?_ (by decide)
      rw [he, e1]; rfl
    rw [if_neg h6] at hn' hn
    by_cases h7 : mark c = true
    · rw [if_pos h7] at hn' hn
      cases hq : Qm.whole l with
      | none => rw [hq] at hn; exact absurd rfl hn
      | some x =>
        obtain ⟨k, v, q⟩ := x
        rw [hq] at hn'
        dsimp only at hn'
        obtain ⟨m, y, h8, h9, _, _⟩ := Qm.whole_split hq
        have hlen := congrArg List.length h8
        rw [List.length_cons, List.length_append, List.length_cons] at hlen
        have hm : m.toNat < 128 := by
          have h10 := h9
          rw [Qm.whole_eq] at h10
          by_cases e1 : m.toNat = 39
          · omega
          · by_cases e2 : m.toNat = 34
            · omega
            · by_cases e3 : m.toNat = 96
              · omega
              · rw [if_neg e1, if_neg e2, if_neg e3] at h10; cases h10
        subst hn'
        refine hw.cut_at (by omega) (y := m) ?_ hm
        rw [h8]
        have e : (m :: (y ++ m :: q)).length - q.length - 1 = y.length + 1 := by simp; omega
        rw [e, List.getElem?_cons_succ, List.getElem?_append_right (by omega)]
        simp
    rw [if_neg h7] at hn' hn
    by_cases h8 : Nm.begins l = true
    · rw [if_pos h8] at hn' hn
      by_cases h9 : Nm.kind (l.take (Nm.runOf l)) = 0
      · rw [if_pos h9] at hn; exact absurd rfl hn
      · rw [if_neg h9] at hn'
        dsimp only at hn'
        subst hn'
        have h10 := Nm.runOf_pos h8
        have h11 := Nm.runOf_le l
        have h12 : Nm.runOf l - 1 < l.length := by omega
        exact hw.cut_at h10 (List.getElem?_eq_getElem h12) (runOf_small h8 (i := Nm.runOf l - 1) (by omega) (List.getElem?_eq_getElem h12))
    · rw [if_neg h8] at hn' hn
      dsimp only at hn' hn
      obtain ⟨x, hx, h9, r', h10⟩ := sgn_some hn
      have hp := List.length_pos_iff.2 (signs_ne x hx)
      have h12 : x.length - 1 < x.length := by omega
      subst hn'
      rw [← h9]
      refine hw.cut_at hp (y := x[x.length - 1]) ?_ (signs_small x hx _ (List.getElem_mem _))
      rw [h10, List.getElem?_append_left h12]
      exact List.getElem?_eq_getElem h12
  exact hx _ rfl

/-! ### The lexemes of a text -/
structure Tk where
  k : Nat
  f : Nat
  t : Nat

def lexs (isW : List UInt8 → Bool) : Nat → Nat → List UInt8 → List Tk × Option Nat
  | 0, _, _ => ([], none)
  | f + 1, p, l => if l = [] then ([], none) else if (lex isW l).2 = 0 then ([], some p) else
      (⟨(lex isW l).1, p, p + (lex isW l).2⟩ :: (lexs isW f (p + (lex isW l).2) (l.drop (lex isW l).2)).1, (lexs isW f (p + (lex isW l).2) (l.drop (lex isW l).2)).2)

theorem lexs_nil (isW : List UInt8 → Bool) (f p : Nat) : lexs isW f p [] = ([], none) := by
  cases f with
  | zero => rfl
  | succ f => rw [lexs, if_pos rfl]
theorem lexs_no (isW : List UInt8 → Bool) {f p : Nat} {l : List UInt8} (h : l ≠ []) (hn : (lex isW l).2 = 0) : lexs isW (f + 1) p l = ([], some p) := by
  rw [lexs, if_neg h, if_pos hn]
theorem lexs_yes (isW : List UInt8 → Bool) {f p : Nat} {l : List UInt8} (h : l ≠ []) (hn : (lex isW l).2 ≠ 0) : lexs isW (f + 1) p l =
    (⟨(lex isW l).1, p, p + (lex isW l).2⟩ :: (lexs isW f (p + (lex isW l).2) (l.drop (lex isW l).2)).1, (lexs isW f (p + (lex isW l).2) (l.drop (lex isW l).2)).2) := by
  rw [lexs, if_neg h, if_neg hn]

theorem whole_kind {l : List UInt8} {k : Nat} {v q : List UInt8} (h : Qm.whole l = some (k, v, q)) : k = 6 ∨ k = 7 := by
  match l, h with
  | c :: m, h =>
    rw [Qm.whole_eq] at h
    by_cases e1 : c.toNat = 39
    · rw [if_pos e1] at h
      cases hr : Qm.rune m with
      | none => rw [hr] at h; cases h
      | some z => rw [hr] at h; cases h; exact .inl rfl
    · rw [if_neg e1] at h
      by_cases e2 : c.toNat = 34
      · rw [if_pos e2] at h
        cases hr : Qm.strF (m.length + 1) m with
        | none => rw [hr] at h; cases h
        | some z => rw [hr] at h; cases h; exact .inr rfl
      · rw [if_neg e2] at h
        by_cases e3 : c.toNat = 96
        · rw [if_pos e3] at h
          cases hr : Qm.raw m with
          | none => rw [hr] at h; cases h
          | some z => rw [hr] at h; cases h; exact .inr rfl
        · rw [if_neg e3] at h; cases h
theorem lex_kind (isW : List UInt8 → Bool) (l : List UInt8) : (lex isW l).1 < 256 := by
  unfold lex
  split
  · decide
  · repeat' split
    all_goals first
      | (dsimp only; omega)
      | (dsimp only; have := (Nm.kind_imag (l.take (Nm.runOf l))).2.2.2; omega)
      | (rename_i k v q hq
         have := whole_kind hq
         dsimp only
         omega)
end Go.Proofs.YtnkgbmnjehpkgabGreat.Sc

