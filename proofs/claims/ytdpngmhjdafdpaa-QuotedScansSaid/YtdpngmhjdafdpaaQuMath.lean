/- Plain mathematics of texts in marks: numbers of so many digits, escapes, characters, what stands behind a mark. Nothing of the program is named here. -/
import Derived.Test.YtdpngmhjdafdpaaNuMath
import Derived.Test.YtdpngmhjdafdpaaAppendMath
import Derived.Test.YtdpngmhjdafdpaaOwnBytes
namespace Go.Proofs.Ytdpngmhjdafdpaa.Qm
open Em
set_option linter.unusedVariables false

/-- So many digits of a base. -/
def numA (b : Nat) : Nat → Nat → List UInt8 → Option (Nat × List UInt8)
  | 0, n, l => some (n, l)
  | _ + 1, _, [] => none
  | k + 1, n, c :: l => if Nm.dg c < b then numA b k (n * b + Nm.dg c) l else none

/-- The byte that a letter says. -/
def ctl (c : Nat) : Option Nat :=
  if c = 97 then some 7 else if c = 98 then some 8 else if c = 116 then some 9 else if c = 110 then some 10
  else if c = 118 then some 11 else if c = 102 then some 12 else if c = 114 then some 13 else none

def wide (c : Nat) : Nat := if c = 85 then 8 else if c = 117 then 4 else 2

/-- What stands behind the backslash: a number, whether it is a byte's, what is left. -/
def esc (mark : Nat) : List UInt8 → Option (Nat × Bool × List UInt8)
  | [] => none
  | c :: l =>
    if c.toNat = mark ∨ c.toNat = 92 then some (c.toNat, true, l)
    else if 48 ≤ c.toNat ∧ c.toNat ≤ 55 then
      match numA 8 3 0 (c :: l) with
      | some (n, r) => if n ≤ 255 then some (n, true, r) else none
      | none => none
    else if c.toNat = 85 ∨ c.toNat = 117 ∨ c.toNat = 120 then
      match numA 16 (wide c.toNat) 0 l with
      | some (n, r) => if Um.okN n then some (n, decide (c.toNat = 120), r) else none
      | none => none
    else match ctl c.toNat with
      | some v => some (v, true, l)
      | none => none

/-- A character's bytes. -/
def fm (n : Nat) : List UInt8 := bl (Um.form (n : Int))
def sayS (b : Bool) (n : Nat) : List UInt8 := if b = true then [UInt8.ofNat n] else fm n

/-- Behind the first mark of a string. -/
def strF : Nat → List UInt8 → Option (List UInt8 × List UInt8)
  | 0, _ => none
  | _ + 1, [] => none
  | f + 1, c :: m =>
    if c.toNat = 34 then some ([], m)
    else if c.toNat = 92 then
      match esc 34 m with
      | some (n, b, r) => (strF f r).map fun x => (sayS b n ++ x.1, x.2)
      | none => none
    else if c.toNat = 10 then none
    else (strF f m).map fun x => (c :: x.1, x.2)

/-- Behind the first mark of a raw string. -/
def raw : List UInt8 → Option (List UInt8 × List UInt8)
  | [] => none
  | c :: m => if c.toNat = 96 then some ([], m) else (raw m).map fun x => (if c.toNat = 13 then x.1 else c :: x.1, x.2)

/-- The character that begins a text. -/
def rd (l : List UInt8) : Option (Nat × List UInt8) :=
  if l.isEmpty = false ∧ Um.okAt (txt l) 0 = true then some (Um.chr (txt l) 0, l.drop (Um.wid (txt l) 0)) else none

/-- The last mark. -/
def close (m : Nat) (t : List UInt8) : List UInt8 → Option (List UInt8 × List UInt8)
  | [] => none
  | c :: r => if c.toNat = m then some (t, r) else none

/-- Behind the first mark of a rune. -/
def rune (l : List UInt8) : Option (List UInt8 × List UInt8) :=
  if Nm.at1 92 l = true then
    match esc 39 l.tail with
    | some (n, _, r) => close 39 (fm n) r
    | none => none
  else
    match rd l with
    | some (c, r) => if c = 39 ∨ c = 10 then none else close 39 (fm c) r
    | none => none

/-- A text in marks: its kind, what it says, what is left. -/
def whole : List UInt8 → Option (Nat × List UInt8 × List UInt8)
  | [] => none
  | c :: m =>
    if c.toNat = 39 then (rune m).map fun x => (6, x.1, x.2)
    else if c.toNat = 34 then (strF (m.length + 1) m).map fun x => (7, x.1, x.2)
    else if c.toNat = 96 then (raw m).map fun x => (7, x.1, x.2)
    else none

/-! ### Numbers -/
theorem numA_len {b : Nat} : ∀ {k n : Nat} {l : List UInt8} {v : Nat} {r : List UInt8}, numA b k n l = some (v, r) → ∃ e, l = e ++ r ∧ e.length = k ∧ ∀ y, numA b k n (e ++ y) = some (v, y)
  | 0, n, l, v, r, h => by
    simp only [numA, Option.some.injEq, Prod.mk.injEq] at h
    obtain ⟨rfl, rfl⟩ := h
    exact ⟨[], rfl, rfl, fun y => rfl⟩
  | k + 1, n, [], v, r, h => by cases h
  | k + 1, n, c :: l, v, r, h => by
    rw [numA] at h
    split at h
    · rename_i hc
      obtain ⟨e, h1, h2, h3⟩ := numA_len h
      exact ⟨c :: e, by rw [h1]; rfl, by rw [List.length_cons, h2], fun y => by rw [List.cons_append, numA, if_pos hc]; exact h3 y⟩
    · cases h

theorem numA_bound {b : Nat} (hb : 1 ≤ b) : ∀ {k n : Nat} {l : List UInt8} {v : Nat} {r : List UInt8}, numA b k n l = some (v, r) → v < (n + 1) * b ^ k
  | 0, n, l, v, r, h => by
    simp only [numA, Option.some.injEq, Prod.mk.injEq] at h
    rw [Nat.pow_zero, Nat.mul_one]; omega
  | k + 1, n, [], v, r, h => by cases h
  | k + 1, n, c :: l, v, r, h => by
    rw [numA] at h
    split at h
    · rename_i hc
      have := numA_bound hb h
      have h2 : n * b + Nm.dg c + 1 ≤ (n + 1) * b := by rw [Nat.add_mul, Nat.one_mul]; omega
      calc v < (n * b + Nm.dg c + 1) * b ^ k := this
        _ ≤ ((n + 1) * b) * b ^ k := Nat.mul_le_mul_right _ h2
        _ = (n + 1) * b ^ (k + 1) := by rw [Nat.pow_succ, Nat.mul_assoc, Nat.mul_comm b]
    · cases h

/-! ### Escapes -/
theorem esc_split {mark : Nat} {m : List UInt8} {n : Nat} {b : Bool} {r : List UInt8} (h : esc mark m = some (n, b, r)) : ∃ e, m = e ++ r ∧ e ≠ [] ∧ ∀ y, esc mark (e ++ y) = some (n, b, y) := by
  match m, h with
  | c :: l, h =>
    simp only [esc] at h
    split at h
    · rename_i h1
      simp only [Option.some.injEq, Prod.mk.injEq] at h
      obtain ⟨rfl, rfl, rfl⟩ := h
      exact ⟨[c], rfl, by simp, fun y => by simp only [List.cons_append, List.nil_append, esc, if_pos h1]⟩
    · rename_i h1
      split at h
      · rename_i h2
        split at h
        · rename_i v q hq
          split at h
          · rename_i h3
            simp only [Option.some.injEq, Prod.mk.injEq] at h
            obtain ⟨rfl, rfl, rfl⟩ := h
            obtain ⟨e, e1, e2, e3⟩ := numA_len hq
            refine ⟨e, e1, (by rintro rfl; cases e2), fun y => ?_⟩
            have e4 := e3 y
            match e, e1, e4 with
            | d :: e, e1, e4 =>
              obtain ⟨rfl, _⟩ := List.cons.inj e1
              simp only [List.cons_append] at e4 ⊢
              simp only [esc, if_neg h1, if_pos h2, e4, if_pos h3]
          · cases h
        · cases h
      · rename_i h2
        split at h
        · rename_i h3
          split at h
          · rename_i v q hq
            split at h
            · rename_i h4
              simp only [Option.some.injEq, Prod.mk.injEq] at h
              obtain ⟨rfl, rfl, rfl⟩ := h
              obtain ⟨e, e1, e2, e3⟩ := numA_len hq
              refine ⟨c :: e, by rw [e1]; rfl, by simp, fun y => ?_⟩
              simp only [List.cons_append, esc, if_neg h1, if_neg h2, if_pos h3, e3 y, if_pos h4]
            · cases h
          · cases h
        · rename_i h3
          split at h
          · rename_i v hv
            simp only [Option.some.injEq, Prod.mk.injEq] at h
            obtain ⟨rfl, rfl, rfl⟩ := h
            exact ⟨[c], rfl, by simp, fun y => by simp only [List.cons_append, List.nil_append, esc, if_neg h1, if_neg h2, if_neg h3, hv]⟩
          · cases h

theorem esc_rest {mark : Nat} {m : List UInt8} {n : Nat} {b : Bool} {r : List UInt8} (h : esc mark m = some (n, b, r)) : r.length < m.length := by
  obtain ⟨e, rfl, h2, _⟩ := esc_split h
  have := List.length_pos_iff.2 h2
  rw [List.length_append]; omega

/-- A byte's number is below 256, any other one's a character. -/
theorem esc_num {mark : Nat} (hm : mark < 128) {m : List UInt8} {n : Nat} {b : Bool} {r : List UInt8} (h : esc mark m = some (n, b, r)) : (b = true → n < 256) ∧ Um.okN n := by
  match m, h with
  | c :: l, h =>
    simp only [esc] at h
    split at h
    · rename_i h1
      simp only [Option.some.injEq, Prod.mk.injEq] at h
      obtain ⟨rfl, rfl, rfl⟩ := h
      exact ⟨fun _ => by omega, by unfold Um.okN; omega⟩
    · rename_i h1
      split at h
      · rename_i h2
        split at h
        · rename_i v q hq
          split at h
          · rename_i h3
            simp only [Option.some.injEq, Prod.mk.injEq] at h
            obtain ⟨rfl, rfl, rfl⟩ := h
            exact ⟨fun _ => by omega, by unfold Um.okN; omega⟩
          · cases h
        · cases h
      · rename_i h2
        split at h
        · rename_i h3
          split at h
          · rename_i v q hq
            split at h
            · rename_i h4
              simp only [Option.some.injEq, Prod.mk.injEq] at h
              obtain ⟨rfl, rfl, rfl⟩ := h
              refine ⟨fun hx => ?_, h4⟩
              have hx := of_decide_eq_true hx
              have := numA_bound (by omega) hq
              rw [hx, show wide 120 = 2 from by decide] at this
              omega
            · cases h
          · cases h
        · rename_i h3
          split at h
          · rename_i v hv
            simp only [Option.some.injEq, Prod.mk.injEq] at h
            obtain ⟨rfl, rfl, rfl⟩ := h
            have : v ≤ 13 := by
              unfold ctl at hv
              repeat' split at hv
              all_goals first | (cases hv; done) | (have := Option.some.inj hv; omega)
            exact ⟨fun _ => by omega, by unfold Um.okN; omega⟩
          · cases h

/-! ### Characters -/
theorem bl_data (x : ByteArray) : bl x = x.data.toList := rfl
theorem fm_def (c : Nat) : fm c = bl (Um.form (c : Int)) := rfl
theorem fm_eq (c : Nat) : fm c = (Um.form (c : Int)).data.toList := (fm_def c).trans (bl_data _)
theorem fm_none {c : Nat} (h : ¬ Um.okN c) : fm c = [] := by rw [fm_eq]; exact Um.form_none h
theorem fm_len {c : Nat} (h : Um.okN c) : (fm c).length = Um.len c := by rw [fm_def, bl_size, Um.form_size h]
theorem fm_ne {c : Nat} (h : Um.okN c) : fm c ≠ [] := by
  intro e
  have h1 := fm_len h
  rw [e, List.length_nil] at h1
  have h2 := (Um.len_pos c).1
  omega
theorem ok_small {c : Nat} (h : c < 256) : Um.okN c := .inl (by omega)
theorem formN_small {c : Nat} (h : c < 128) : Um.formN c = [c] := if_pos h
theorem fm_small {c : Nat} (h : c < 128) : fm c = [UInt8.ofNat c] := (fm_eq c).trans ((Um.form_list (ok_small (by omega))).trans (by rw [formN_small h, List.map_cons, List.map_nil]))

theorem txt_append (a b : List UInt8) : txt (a ++ b) = txt a ++ txt b := bl_inj (by rw [bl_append, txt_bl, txt_bl, txt_bl])

theorem chr_of {s : ByteArray} {p c l : Nat} (h : Utf8.decode s p = (c, l)) : Um.chr s p = c ∧ Um.wid s p = l := by unfold Um.chr Um.wid; rw [h]; exact ⟨rfl, rfl⟩

theorem rd_form {c : Nat} (h : Um.okN c) (y : List UInt8) : rd (fm c ++ y) = some (c, y) := by
  have e : txt (fm c ++ y) = Um.form (c : Int) ++ txt y := by
    have e1 : txt (fm c) = Um.form (c : Int) := by rw [fm_def]; exact bl_txt _
    rw [txt_append, e1]
  have h1 := Um.decode_form h (txt y)
  have h2 := Um.okAt_form h (txt y)
  obtain ⟨h3, h4⟩ := chr_of h1
  have hne : (fm c ++ y).isEmpty = false := by
    have := fm_ne h
    cases hf : fm c with
    | nil => exact absurd hf this
    | cons x l => rfl
  unfold rd
  rw [e, h3, h4, ← fm_len h, List.drop_left]
  exact if_pos ⟨hne, h2⟩

theorem wid_def (s : ByteArray) (p : Nat) : Um.wid s p = (Utf8.decode s p).2 := rfl
theorem chr_def (s : ByteArray) (p : Nat) : Um.chr s p = (Utf8.decode s p).1 := rfl

theorem rd_some {l : List UInt8} {c : Nat} {r : List UInt8} (h : rd l = some (c, r)) : Um.okN c ∧ l = fm c ++ r := by
  unfold rd at h
  split at h
  · rename_i hc
    simp only [Option.some.injEq, Prod.mk.injEq] at h
    obtain ⟨rfl, rfl⟩ := h
    have hpos : 0 < (txt l).size := by
      rw [txt_size]
      match l, hc.1 with
      | x :: l, _ => simp
    have ho : Utf8.decode (txt l) 0 ≠ (65533, 1) := by
      have := hc.2
      unfold Um.okAt at this
      exact of_decide_eq_true this
    obtain ⟨a, b, d⟩ := Um.decode_at hpos ho
    have hf := Um.at_fits b
    have hl := Um.len_pos (Utf8.decode (txt l) 0).1
    have e := (Um.hit_iff (txt l) 0 _ _ a hl.1 hf).2 ⟨rfl, b⟩
    rw [beq_iff_eq, Um.toList_eq, Um.toList_eq, Lib.extract_data] at e
    have e2 : fm (Utf8.decode (txt l) 0).1 = l.take (Um.len (Utf8.decode (txt l) 0).1) := by
      rw [fm_eq, e]
      simp [txt]
    rw [chr_def]
    refine ⟨a, ?_⟩
    rw [wid_def]
    rw [e2, d, List.take_append_drop]
  · cases h
end Go.Proofs.Ytdpngmhjdafdpaa.Qm
