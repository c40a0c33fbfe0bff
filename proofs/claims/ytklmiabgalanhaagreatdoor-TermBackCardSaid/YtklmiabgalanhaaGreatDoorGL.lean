/- A row of bytes that the call owns, made a text. -/
import Derived.Test.YtklmiabgalanhaaGreatDoorRows
import Derived.Test.YtklmiabgalanhaaGreatDoorGA
import Derived.WalkKit
import Derived.WalkSmall
import Derived.Lib.SlBytesRow
import Derived.Lib.BufferRead
import Derived.Deep.OwnRows
import Derived.Test.YtklmiabgalanhaaGreatDoorGB
namespace Go.Proofs.YtklmiabgalanhaaGreatDoor
open Go.RowKit Em
set_option maxRecDepth 100000
set_option linter.unusedVariables false

theorem info_u8 : (Tryz.prog.info? 5).map (fun i => (i.zero, i.size, i.bytes)) = some (some (.int .u8 0), 1, 1) := by kernel_rfl

/-- The text of some bytes. -/
def txt (T : List UInt8) : ByteArray := ⟨T.toArray⟩
theorem txt_bl (T : List UInt8) : bl (txt T) = T := by unfold bl txt; simp
theorem bl_txt (s : ByteArray) : txt (bl s) = s := bl_inj (txt_bl _)
theorem txt_size (T : List UInt8) : (txt T).size = T.length := by rw [← bl_size, txt_bl]

def bCells (T : List UInt8) : List Value := T.map fun b => Value.int .u8 (b.toNat : Int)
theorem bCells_len (T : List UInt8) : (bCells T).length = T.length := by simp [bCells]
theorem bCells_snoc (T : List UInt8) (c : UInt8) : bCells (T ++ [c]) = bCells T ++ [.int .u8 (c.toNat : Int)] := by simp [bCells]
theorem bCells_append (T U : List UInt8) : bCells (T ++ U) = bCells T ++ bCells U := by simp [bCells]

theorem conv_own {w : World} {B : Nat} {v : Value} {T : List UInt8} (h : w.ownsRow B 5 1 v T.length (bCells T)) :
    ∃ (x : Option Addr) (c : Nat), v = .slice x T.length c ∧ ∀ q, (convert 56 9 (.slice x T.length c)).run Tryz.prog (w.drewN q) = .ok (.string (txt T)) (w.drewN q) := by
  rcases h.2 with ⟨rfl, h0⟩ | ⟨g, cap, cur, rfl, hb, hg, hn, _, hs, ht⟩
  · have : T = [] := List.eq_nil_of_length_eq_zero h0
    subst this
    exact ⟨none, 0, rfl, fun q => Lib.run_convert_nil_bytes (P := Tryz.prog) (w.drewN q) 56 9 5 0 Tryz.underlying56 Tryz.underlying5 Tryz.underlying9⟩
  · refine ⟨_, cap, rfl, fun q => ?_⟩
    have hby : Lib.Bytes w g 0 (txt T) := by
      intro i hi
      have hi' : i < T.length := by rw [txt_size] at hi; exact hi
      have hc := h.cells (g := g) rfl i (.int .u8 ((txt T)[i].toNat : Int)) (by
        unfold bCells
        rw [List.getElem?_map, List.getElem?_eq_getElem hi']
        rfl)
      have ea : (⟨g, 0, none⟩ : Addr).add i = ⟨g, 0 + i, none⟩ := by unfold Addr.add; split <;> simp_all
      rw [ea, Nat.zero_add] at hc
      rw [Nat.zero_add]; exact hc
    have := Lib.run_convert_whole (P := Tryz.prog) (w.drewN q) 56 5 9 Tryz.underlying56 Tryz.underlying5 Tryz.underlying9 g 0 (txt T) (hby.drewN q) cap
    rw [txt_size] at this
    exact this
end Go.Proofs.YtklmiabgalanhaaGreatDoor

/- Plain mathematics of texts in marks: numbers of so many digits, escapes, characters, what stands behind a mark. Nothing of the program is named here. -/
namespace Go.Proofs.YtklmiabgalanhaaGreatDoor.Qm
open Em
set_option maxRecDepth 100000
set_option linter.unusedVariables false

/-- So many digits of a base. -/
def numA (b : Nat) : Nat → Nat → List UInt8 → Option (Nat × List UInt8)
  | 0, n, l => some (n, l)
  | _ + 1, _, [] => none
  | k + 1, n, c :: l => if Nm.dg c < b then numA b k (n * b + Nm.dg c) l else none

/-- The byte that a letter says. -/
def ctl (c : Nat) : Option Nat :=
  if c = 97 then some 7 else if c = 98 then some 8 else if c = 116 then some 9 else if c = 110 then some 10
  else if c = 118 then some 11 else if c = 102 then some 12 else if c = 114 then some 13 else none

def wide (c : Nat) : Nat := if c = 85 then 8 else if c = 117 then 4 else 2

/-- What stands behind the backslash: a number, whether it is a byte's, what is left. -/
def esc (mark : Nat) : List UInt8 → Option (Nat × Bool × List UInt8)
  | [] => none
  | c :: l =>
    if c.toNat = mark ∨ c.toNat = 92 then some (c.toNat, true, l)
    else if 48 ≤ c.toNat ∧ c.toNat ≤ 55 then
      match numA 8 3 0 (c :: l) with
      | some (n, r) => if n ≤ 255 then some (n, true, r) else none
      | none => none
    else if c.toNat = 85 ∨ c.toNat = 117 ∨ c.toNat = 120 then
      match numA 16 (wide c.toNat) 0 l with
      | some (n, r) => if Um.okN n then some (n, decide (c.toNat = 120), r) else none
      | none => none
    else match ctl c.toNat with
      | some v => some (v, true, l)
      | none => none

/-- A character's bytes. -/
def fm (n : Nat) : List UInt8 := bl (Um.form (n : Int))
def sayS (b : Bool) (n : Nat) : List UInt8 := if b = true then [UInt8.ofNat n] else fm n

/-- Behind the first mark of a string. -/
def strF : Nat → List UInt8 → Option (List UInt8 × List UInt8)
  | 0, _ => none
  | _ + 1, [] => none
  | f + 1, c :: m =>
    if c.toNat = 34 then some ([], m)
    else if c.toNat = 92 then
      match esc 34 m with
      | some (n, b, r) => (strF f r).map fun x => (sayS b n ++ x.1, x.2)
      | none => none
    else if c.toNat = 10 then none
    else (strF f m).map fun x => (c :: x.1, x.2)

/-- Behind the first mark of a raw string. -/
def raw : List UInt8 → Option (List UInt8 × List UInt8)
  | [] => none
  | c :: m => if c.toNat = 96 then some ([], m) else (raw m).map fun x => (if c.toNat = 13 then x.1 else c :: x.1, x.2)

/-- The character that begins a text. -/
def rd (l : List UInt8) : Option (Nat × List UInt8) :=
  if l.isEmpty = false ∧ Um.okAt (txt l) 0 = true then some (Um.chr (txt l) 0, l.drop (Um.wid (txt l) 0)) else none

/-- The last mark. -/
def close (m : Nat) (t : List UInt8) : List UInt8 → Option (List UInt8 × List UInt8)
  | [] => none
  | c :: r => if c.toNat = m then some (t, r) else none

/-- Behind the first mark of a rune. -/
def rune (l : List UInt8) : Option (List UInt8 × List UInt8) :=
  if Nm.at1 92 l = true then
    match esc 39 l.tail with
    | some (n, _, r) => close 39 (fm n) r
    | none => none
  else
    match rd l with
    | some (c, r) => if c = 39 ∨ c = 10 then none else close 39 (fm c) r
    | none => none

/-- A text in marks: its kind, what it says, what is left. -/
def whole : List UInt8 → Option (Nat × List UInt8 × List UInt8)
  | [] => none
  | c :: m =>
    if c.toNat = 39 then (rune m).map fun x => (6, x.1, x.2)
    else if c.toNat = 34 then (strF (m.length + 1) m).map fun x => (7, x.1, x.2)
    else if c.toNat = 96 then (raw m).map fun x => (7, x.1, x.2)
    else none

/-! ### Numbers -/
theorem numA_len {b : Nat} : ∀ {k n : Nat} {l : List UInt8} {v : Nat} {r : List UInt8}, numA b k n l = some (v, r) → ∃ e, l = e ++ r ∧ e.length = k ∧ ∀ y, numA b k n (e ++ y) = some (v, y)
  | 0, n, l, v, r, h => by
    simp only [numA, Option.some.injEq, Prod.mk.injEq] at h
    obtain ⟨rfl, rfl⟩ := h
    exact ⟨[], rfl, rfl, fun y => rfl⟩
  | k + 1, n, [], v, r, h => by cases h
  | k + 1, n, c :: l, v, r, h => by
    rw [numA] at h
    split at h
    · rename_i hc
      obtain ⟨e, h1, h2, h3⟩ := numA_len h
      exact ⟨c :: e, by rw [h1]; rfl, by rw [List.length_cons, h2], fun y => by rw [List.cons_append, numA, if_pos hc]; exact h3 y⟩
    · cases h

theorem numA_bound {b : Nat} (hb : 1 ≤ b) : ∀ {k n : Nat} {l : List UInt8} {v : Nat} {r : List UInt8}, numA b k n l = some (v, r) → v < (n + 1) * b ^ k
  | 0, n, l, v, r, h => by
    simp only [numA, Option.some.injEq, Prod.mk.injEq] at h
    rw [Nat.pow_zero, Nat.mul_one]; omega
  | k + 1, n, [], v, r, h => by cases h
  | k + 1, n, c :: l, v, r, h => by
    rw [numA] at h
    split at h
    · rename_i hc
      have := numA_bound hb h
      have h2 : n * b + Nm.dg c + 1 ≤ (n + 1) * b := by rw [Nat.add_mul, Nat.one_mul]; omega
      calc v < (n * b + Nm.dg c + 1) * b ^ k := this
        _ ≤ ((n + 1) * b) * b ^ k := Nat.mul_le_mul_right _ h2
        _ = (n + 1) * b ^ (k + 1) := by rw [Nat.pow_succ, Nat.mul_assoc, Nat.mul_comm b]
    · cases h

/-! ### Escapes -/
theorem esc_split {mark : Nat} {m : List UInt8} {n : Nat} {b : Bool} {r : List UInt8} (h : esc mark m = some (n, b, r)) : ∃ e, m = e ++ r ∧ e ≠ [] ∧ ∀ y, esc mark (e ++ y) = some (n, b, y) := by
  match m, h with
  | c :: l, h =>
    simp only [esc] at h
    split at h
    · rename_i h1
      simp only [Option.some.injEq, Prod.mk.injEq] at h
      obtain ⟨rfl, rfl, rfl⟩ := h
      exact ⟨[c], rfl, by simp, fun y => by simp only [List.cons_append, List.nil_append, esc, if_pos h1]⟩
    · rename_i h1
      split at h
      · rename_i h2
        split at h
        · rename_i v q hq
          split at h
          · rename_i h3
            simp only [Option.some.injEq, Prod.mk.injEq] at h
            obtain ⟨rfl, rfl, rfl⟩ := h
            obtain ⟨e, e1, e2, e3⟩ := numA_len hq
            refine ⟨e, e1, (by rintro rfl; cases e2), fun y => ?_⟩
            have e4 := e3 y
            match e, e1, e4 with
            | d :: e, e1, e4 =>
              obtain ⟨rfl, _⟩ := List.cons.inj e1
              simp only [List.cons_append] at e4 ⊢
              simp only [esc, if_neg h1, if_pos h2, e4, if_pos h3]
          · cases h
        · cases h
      · rename_i h2
        split at h
        · rename_i h3
          split at h
          · rename_i v q hq
            split at h
            · rename_i h4
              simp only [Option.some.injEq, Prod.mk.injEq] at h
              obtain ⟨rfl, rfl, rfl⟩ := h
              obtain ⟨e, e1, e2, e3⟩ := numA_len hq
              refine ⟨c :: e, by rw [e1]; rfl, by simp, fun y => ?_⟩
              simp only [List.cons_append, esc, if_neg h1, if_neg h2, if_pos h3, e3 y, if_pos h4]
            · cases h
          · cases h
        · rename_i h3
          split at h
          · rename_i v hv
            simp only [Option.some.injEq, Prod.mk.injEq] at h
            obtain ⟨rfl, rfl, rfl⟩ := h
            exact ⟨[c], rfl, by simp, fun y => by simp only [List.cons_append, List.nil_append, esc, if_neg h1, if_neg h2, if_neg h3, hv]⟩
          · cases h

theorem esc_rest {mark : Nat} {m : List UInt8} {n : Nat} {b : Bool} {r : List UInt8} (h : esc mark m = some (n, b, r)) : r.length < m.length := by
  obtain ⟨e, rfl, h2, _⟩ := esc_split h
  have := List.length_pos_iff.2 h2
  rw [List.length_append]; omega

/-- A byte's number is below 256, any other one's a character. -/
theorem esc_num {mark : Nat} (hm : mark < 128) {m : List UInt8} {n : Nat} {b : Bool} {r : List UInt8} (h : esc mark m = some (n, b, r)) : (b = true → n < 256) ∧ Um.okN n := by
  match m, h with
  | c :: l, h =>
    simp only [esc] at h
    split at h
    · rename_i h1
      simp only [Option.some.injEq, Prod.mk.injEq] at h
      obtain ⟨rfl, rfl, rfl⟩ := h
      exact ⟨fun _ => by omega, by unfold Um.okN; omega⟩
    · rename_i h1
      split at h
      · rename_i h2
        split at h
        · rename_i v q hq
          split at h
          · rename_i h3
            simp only [Option.some.injEq, Prod.mk.injEq] at h
            obtain ⟨rfl, rfl, rfl⟩ := h
            exact ⟨fun _ => by omega, by unfold Um.okN; omega⟩
          · cases h
        · cases h
      · rename_i h2
        split at h
        · rename_i h3
          split at h
          · rename_i v q hq
            split at h
            · rename_i h4
              simp only [Option.some.injEq, Prod.mk.injEq] at h
              obtain ⟨rfl, rfl, rfl⟩ := h
              refine ⟨fun hx => ?_, h4⟩
              have hx := of_decide_eq_true hx
              have := numA_bound (by omega) hq
              rw [hx, show wide 120 = 2 from by decide] at this
              omega
            · cases h
          · cases h
        · rename_i h3
          split at h
          · rename_i v hv
            simp only [Option.some.injEq, Prod.mk.injEq] at h
            obtain ⟨rfl, rfl, rfl⟩ := h
            have : v ≤ 13 := by
              unfold ctl at hv
              repeat' split at hv
              all_goals first | (cases hv; done) | (have := Option.some.inj hv; omega)
            exact ⟨fun _ => by omega, by unfold Um.okN; omega⟩
          · cases h

/-! ### Characters -/
theorem bl_data (x : ByteArray) : bl x = x.data.toList := rfl
theorem fm_def (c : Nat) : fm c = bl (Um.form (c : Int)) := rfl
theorem fm_eq (c : Nat) : fm c = (Um.form (c : Int)).data.toList := (fm_def c).trans (bl_data _)
theorem fm_none {c : Nat} (h : ¬ Um.okN c) : fm c = [] := by rw [fm_eq]; exact Um.form_none h
theorem fm_len {c : Nat} (h : Um.okN c) : (fm c).length = Um.len c := by rw [fm_def, bl_size, Um.form_size h]
theorem fm_ne {c : Nat} (h : Um.okN c) : fm c ≠ [] := by
  intro e
  have h1 := fm_len h
  rw [e, List.length_nil] at h1
  have h2 := (Um.len_pos c).1
  omega
theorem ok_small {c : Nat} (h : c < 256) : Um.okN c := .inl (by omega)
theorem formN_small {c : Nat} (h : c < 128) : Um.formN c = [c] := if_pos h
theorem fm_small {c : Nat} (h : c < 128) : fm c = [UInt8.ofNat c] := (fm_eq c).trans ((Um.form_list (ok_small (by omega))).trans (by rw [formN_small h, List.map_cons, List.map_nil]))

theorem txt_append (a b : List UInt8) : txt (a ++ b) = txt a ++ txt b := bl_inj (by rw [bl_append, txt_bl, txt_bl, txt_bl])

theorem chr_of {s : ByteArray} {p c l : Nat} (h : Utf8.decode s p = (c, l)) : Um.chr s p = c ∧ Um.wid s p = l := by unfold Um.chr Um.wid; rw [h]; exact ⟨rfl, rfl⟩

theorem rd_form {c : Nat} (h : Um.okN c) (y : List UInt8) : rd (fm c ++ y) = some (c, y) := by
  have e : txt (fm c ++ y) = Um.form (c : Int) ++ txt y := by
    have e1 : txt (fm c) = Um.form (c : Int) := by rw [fm_def]; exact bl_txt _
    rw [txt_append, e1]
  have h1 := Um.decode_form h (txt y)
  have h2 := Um.okAt_form h (txt y)
  obtain ⟨h3, h4⟩ := chr_of h1
  have hne : (fm c ++ y).isEmpty = false := by
    have := fm_ne h
    cases hf : fm c with
    | nil => exact absurd hf this
    | cons x l => rfl
  unfold rd
  rw [e, h3, h4, ← fm_len h, List.drop_left]
  exact if_pos ⟨hne, h2⟩

theorem wid_def (s : ByteArray) (p : Nat) : Um.wid s p = (Utf8.decode s p).2 := rfl
theorem chr_def (s : ByteArray) (p : Nat) : Um.chr s p = (Utf8.decode s p).1 := rfl

theorem rd_some {l : List UInt8} {c : Nat} {r : List UInt8} (h : rd l = some (c, r)) : Um.okN c ∧ l = fm c ++ r := by
  unfold rd at h
  split at h
  · rename_i hc
    simp only [Option.some.injEq, Prod.mk.injEq] at h
    obtain ⟨rfl, rfl⟩ := h
    have hpos : 0 < (txt l).size := by
      rw [txt_size]
      match l, hc.1 with
      | x :: l, _ => simp
    have ho : Utf8.decode (txt l) 0 ≠ (65533, 1) := by
      have := hc.2
      unfold Um.okAt at this
      exact of_decide_eq_true this
    obtain ⟨a, b, d⟩ := Um.decode_at hpos ho
    have hf := Um.at_fits b
    have hl := Um.len_pos (Utf8.decode (txt l) 0).1
    have e := (Um.hit_iff (txt l) 0 _ _ a hl.1 hf).2 ⟨rfl, b⟩
    rw [beq_iff_eq, Um.toList_eq, Um.toList_eq, Lib.extract_data] at e
    have e2 : fm (Utf8.decode (txt l) 0).1 = l.take (Um.len (Utf8.decode (txt l) 0).1) := by
      rw [fm_eq, e]
      simp [txt]
    rw [chr_def]
    refine ⟨a, ?_⟩
    rw [wid_def]
    rw [e2, d, List.take_append_drop]
  · cases h
end Go.Proofs.YtklmiabgalanhaaGreatDoor.Qm

/- Plain mathematics of texts in marks: where they end, what stands behind them, two of them joined. Nothing of the program is named here. -/
namespace Go.Proofs.YtklmiabgalanhaaGreatDoor.Qm
open Em
set_option maxRecDepth 100000
set_option linter.unusedVariables false

theorem u8 {c d : UInt8} (h : c.toNat = d.toNat) : c = d := UInt8.toNat_inj.1 h

theorem strF_more : ∀ (f f' : Nat) (l : List UInt8), l.length < f → l.length < f' → strF f l = strF f' l
  | 0, _, _, h, _ => by omega
  | _, 0, _, _, h => by omega
  | f + 1, f' + 1, [], _, _ => rfl
  | f + 1, f' + 1, c :: m, h, h' => by
    rw [List.length_cons] at h h'
    simp only [strF]
    have e := strF_more f f' m (by omega) (by omega)
    split
    · rfl
    · split
      · split
        · rename_i n b r hx
          have := esc_rest hx
          rw [strF_more f f' r (by omega) (by omega)]
        · rfl
      · split
        · rfl
        · rw [e]

theorem strF_mono : ∀ (f f' : Nat) (l : List UInt8) (z : List UInt8 × List UInt8), strF f l = some z → f ≤ f' → strF f' l = some z
  | 0, _, _, _, h, _ => by cases h
  | f + 1, 0, _, _, _, h => by omega
  | f + 1, f' + 1, [], _, h, _ => by cases h
  | f + 1, f' + 1, c :: m, z, h, hf => by
    simp only [strF] at h ⊢
    split
    · rename_i h1; rw [if_pos h1] at h; exact h
    · rename_i h1
      rw [if_neg h1] at h
      split
      · rename_i h2
        rw [if_pos h2] at h
        split
        · rename_i n b r hx
          rw [hx] at h
          simp only [] at h
          cases hq : strF f r with
          | none => rw [hq] at h; cases h
          | some y => rw [strF_mono f f' r y hq (by omega)]; rw [hq] at h; exact h
        · rename_i hx; rw [hx] at h; cases h
      · rename_i h2
        rw [if_neg h2] at h
        split
        · rename_i h3; rw [if_pos h3] at h; cases h
        · rename_i h3
          rw [if_neg h3] at h
          cases hq : strF f m with
          | none => rw [hq] at h; cases h
          | some y => rw [strF_mono f f' m y hq (by omega)]; rw [hq] at h; exact h

theorem strF_enough {f : Nat} {l : List UInt8} {z : List UInt8 × List UInt8} (h : strF f l = some z) : strF (l.length + 1) l = some z := by
  rw [← strF_mono f (f + l.length + 1) l z h (by omega)]
  exact strF_more _ _ l (by omega) (by omega)

theorem strF_split : ∀ (f : Nat) (l t r : List UInt8), strF f l = some (t, r) →
    ∃ x, l = x ++ 34 :: r ∧ (∀ g y z, strF g y = some z → strF (f + g) (x ++ y) = some (t ++ z.1, z.2)) ∧ ∀ g, strF g x = none
  | 0, _, _, _, h => by cases h
  | f + 1, [], _, _, h => by cases h
  | f + 1, c :: m, t, r, h => by
    simp only [strF] at h
    by_cases h1 : c.toNat = 34
    · rw [if_pos h1] at h
      obtain ⟨rfl, rfl⟩ := Prod.mk.inj (Option.some.inj h)
      refine ⟨[], by rw [u8 (d := 34) h1]; rfl, fun g y z hz => ?_, fun g => by cases g <;> rfl⟩
      exact strF_mono g _ y z hz (by omega)
    · rw [if_neg h1] at h
      by_cases h2 : c.toNat = 92
      · rw [if_pos h2] at h
        cases hx : esc 34 m with
        | none => rw [hx] at h; cases h
        | some y =>
          obtain ⟨n, b, q⟩ := y
          rw [hx] at h
          simp only [] at h
          cases hq : strF f q with
          | none => rw [hq] at h; cases h
          | some w =>
            obtain ⟨t', r'⟩ := w
            rw [hq] at h
            obtain ⟨rfl, rfl⟩ := Prod.mk.inj (Option.some.inj h)
            obtain ⟨x, e1, e2, e3⟩ := strF_split f q t' r' hq
            obtain ⟨e, m1, m2, m3⟩ := esc_split hx
            refine ⟨c :: (e ++ x), by rw [m1, e1]; simp, fun g y z hz => ?_, fun g => ?_⟩
            · have := e2 g y z hz
              rw [show f + 1 + g = (f + g) + 1 by omega]
              simp only [List.cons_append, List.append_assoc, strF, if_neg h1, if_pos h2, m3, this, Option.map_some]
            · cases g with
              | zero => rfl
              | succ g => simp only [strF, if_neg h1, if_pos h2, m3, e3, Option.map_none]
      · rw [if_neg h2] at h
        by_cases h3 : c.toNat = 10
        · rw [if_pos h3] at h; cases h
        · rw [if_neg h3] at h
          cases hq : strF f m with
          | none => rw [hq] at h; cases h
          | some w =>
            obtain ⟨t', r'⟩ := w
            rw [hq] at h
            obtain ⟨rfl, rfl⟩ := Prod.mk.inj (Option.some.inj h)
            obtain ⟨x, e1, e2, e3⟩ := strF_split f m t' r' hq
            refine ⟨c :: x, by rw [e1]; simp, fun g y z hz => ?_, fun g => ?_⟩
            · have := e2 g y z hz
              rw [show f + 1 + g = (f + g) + 1 by omega]
              simp only [List.cons_append, strF, if_neg h1, if_neg h2, if_neg h3, this, Option.map_some]
            · cases g with
              | zero => rfl
              | succ g => simp only [strF, if_neg h1, if_neg h2, if_neg h3, e3, Option.map_none]

theorem raw_split : ∀ (l t r : List UInt8), raw l = some (t, r) → ∃ x, l = x ++ 96 :: r ∧ (∀ y z, raw y = some z → raw (x ++ y) = some (t ++ z.1, z.2)) ∧ raw x = none
  | [], _, _, h => by cases h
  | c :: m, t, r, h => by
    simp only [raw] at h
    by_cases h1 : c.toNat = 96
    · rw [if_pos h1] at h
      obtain ⟨rfl, rfl⟩ := Prod.mk.inj (Option.some.inj h)
      exact ⟨[], by rw [u8 (d := 96) h1]; rfl, fun y z hz => hz, rfl⟩
    · rw [if_neg h1] at h
      cases hq : raw m with
      | none => rw [hq] at h; cases h
      | some w =>
        obtain ⟨t', r'⟩ := w
        rw [hq] at h
        obtain ⟨rfl, rfl⟩ := Prod.mk.inj (Option.some.inj h)
        obtain ⟨x, e1, e2, e3⟩ := raw_split m t' r' hq
        refine ⟨c :: x, by rw [e1]; simp, fun y z hz => ?_, by simp only [raw, if_neg h1, e3, Option.map_none]⟩
        have := e2 y z hz
        simp only [List.cons_append, raw, if_neg h1, this, Option.map_some]
        by_cases h13 : c.toNat = 13
        · simp [h13]
        · simp [h13]

theorem raw_of : ∀ x : List UInt8, (∀ c ∈ x, c.toNat ≠ 96) → ∀ r, raw (x ++ 96 :: r) = some (x.filter (fun c => decide (c.toNat ≠ 13)), r)
  | [], _, r => rfl
  | c :: x, h, r => by
    have hc := h c (List.mem_cons_self ..)
    have := raw_of x (fun d hd => h d (List.mem_cons_of_mem _ hd)) r
    simp only [List.cons_append, raw, if_neg hc, this, Option.map_some]
    by_cases h13 : c.toNat = 13
    · simp [h13]
    · simp [h13]

theorem close_some {t q t' r : List UInt8} (h : close 39 t q = some (t', r)) : q = 39 :: r ∧ t' = t := by
  match q, h with
  | c :: q, h =>
    simp only [close] at h
    split at h
    · rename_i hc
      obtain ⟨rfl, rfl⟩ := Prod.mk.inj (Option.some.inj h)
      exact ⟨by rw [u8 (d := 39) hc], rfl⟩
    · cases h

theorem close_yes (t y : List UInt8) : close 39 t (39 :: y) = some (t, y) := by simp [close]
theorem close_nil (t : List UInt8) : close 39 t [] = none := rfl

theorem rune_split {l t r : List UInt8} (h : rune l = some (t, r)) : ∃ x, l = x ++ 39 :: r ∧ (∀ y, rune (x ++ 39 :: y) = some (t, y)) ∧ rune x = none := by
  unfold rune at h
  split at h
  · rename_i h92
    match l, h92, h with
    | c :: m, h92, h =>
      simp only [List.tail_cons] at h
      cases hx : esc 39 m with
      | none => rw [hx] at h; cases h
      | some y =>
        obtain ⟨n, b, q⟩ := y
        rw [hx] at h
        simp only [] at h
        obtain ⟨hq, ht⟩ := close_some h
        subst hq
        obtain ⟨e, m1, m2, m3⟩ := esc_split hx
        have h92' : ∀ y, Nm.at1 92 (c :: y) = true := fun y => h92
        refine ⟨c :: e, by rw [m1]; rfl, fun y => ?_, ?_⟩
        · rw [ht]
          unfold rune
          rw [List.cons_append, if_pos (h92' _), List.tail_cons, m3]
          exact close_yes _ _
        · unfold rune
          rw [if_pos (h92' _), List.tail_cons, ← List.append_nil e, m3]
          exact close_nil _
  · rename_i h92
    cases hx : rd l with
    | none => rw [hx] at h; cases h
    | some y =>
      obtain ⟨c, q⟩ := y
      rw [hx] at h
      simp only [] at h
      split at h
      · cases h
      · rename_i hc
        obtain ⟨hq, ht⟩ := close_some h
        subst hq
        obtain ⟨hok, e1⟩ := rd_some hx
        have hne := fm_ne hok
        have h92' : ∀ y, ¬ Nm.at1 92 (fm c ++ y) = true := by
          intro y hy
          rw [e1] at h92
          cases hf : fm c with
          | nil => exact hne hf
          | cons a l => rw [hf] at h92 hy; exact h92 hy
        refine ⟨fm c, e1, fun y => ?_, ?_⟩
        · rw [ht]
          unfold rune
          rw [if_neg (h92' _), rd_form hok]
          simp only [if_neg hc]
          exact close_yes _ _
        · unfold rune
          have e0 : fm c = fm c ++ [] := (List.append_nil _).symm
          rw [e0, if_neg (h92' _), rd_form hok]
          simp only [if_neg hc]
          exact close_nil _

theorem whole_eq (c : UInt8) (m : List UInt8) : whole (c :: m) = if c.toNat = 39 then (rune m).map fun x => (6, x.1, x.2)
    else if c.toNat = 34 then (strF (m.length + 1) m).map fun x => (7, x.1, x.2)
    else if c.toNat = 96 then (raw m).map fun x => (7, x.1, x.2)
    else none := rfl
theorem whole39 (m : List UInt8) : whole (39 :: m) = (rune m).map fun x => (6, x.1, x.2) := by rw [whole_eq]; exact if_pos rfl
theorem whole34 (m : List UInt8) : whole (34 :: m) = (strF (m.length + 1) m).map fun x => (7, x.1, x.2) := by
  rw [whole_eq, if_neg (by decide)]; exact if_pos rfl
theorem whole96 (m : List UInt8) : whole (96 :: m) = (raw m).map fun x => (7, x.1, x.2) := by
  rw [whole_eq, if_neg (by decide), if_neg (by decide)]; exact if_pos rfl

/-- WHAT IS FOUND ENDS WITH ITS MARK, SAYS SOMETHING BY ITSELF, AND NOTHING WITHOUT ITS LAST MARK. -/
theorem whole_split {l t r : List UInt8} {k : Nat} (h : whole l = some (k, t, r)) : ∃ m x, l = m :: (x ++ m :: r) ∧ whole (m :: (x ++ [m])) = some (k, t, []) ∧ whole (m :: x) = none ∧ (k = 6 ↔ m = 39) := by
  match l, h with
  | c :: l, h =>
    have hc := h
    rw [whole_eq] at h
    by_cases h1 : c.toNat = 39
    · obtain rfl := u8 (d := 39) h1
      rw [if_pos h1] at h
      cases hx : rune l with
      | none => rw [hx] at h; cases h
      | some z =>
        obtain ⟨t', r'⟩ := z
        rw [hx] at h
        obtain ⟨rfl, h2⟩ := Prod.mk.inj (Option.some.inj h)
        obtain ⟨rfl, rfl⟩ := Prod.mk.inj h2
        obtain ⟨x, e1, e2, e3⟩ := rune_split hx
        exact ⟨39, x, by rw [e1], by rw [whole39, e2]; rfl, by rw [whole39, e3]; rfl, by simp⟩
    · rw [if_neg h1] at h
      by_cases h2 : c.toNat = 34
      · obtain rfl := u8 (d := 34) h2
        rw [if_pos h2] at h
        cases hx : strF (l.length + 1) l with
        | none => rw [hx] at h; cases h
        | some z =>
          obtain ⟨t', r'⟩ := z
          rw [hx] at h
          obtain ⟨rfl, h3⟩ := Prod.mk.inj (Option.some.inj h)
          obtain ⟨rfl, rfl⟩ := Prod.mk.inj h3
          obtain ⟨x, e1, e2, e3⟩ := strF_split _ _ _ _ hx
          have e4 := strF_enough (e2 1 [34] ([], []) rfl)
          refine ⟨34, x, by rw [e1], ?_, by rw [whole34, e3]; rfl, by simp⟩
          rw [whole34, e4]; simp
      · rw [if_neg h2] at h
        by_cases h3 : c.toNat = 96
        · obtain rfl := u8 (d := 96) h3
          rw [if_pos h3] at h
          cases hx : raw l with
          | none => rw [hx] at h; cases h
          | some z =>
            obtain ⟨t', r'⟩ := z
            rw [hx] at h
            obtain ⟨rfl, h4⟩ := Prod.mk.inj (Option.some.inj h)
            obtain ⟨rfl, rfl⟩ := Prod.mk.inj h4
            obtain ⟨x, e1, e2, e3⟩ := raw_split _ _ _ hx
            have e4 := e2 [96] ([], []) rfl
            refine ⟨96, x, by rw [e1], ?_, by rw [whole96, e3]; rfl, by simp⟩
            rw [whole96, e4]; simp
        · rw [if_neg h3] at h; cases h

/-- TWO STRINGS JOINED. -/
theorem whole_join {a b v w : List UInt8} {k k' : Nat} (ha : whole (34 :: a) = some (k, v, [])) (hb : whole (34 :: b) = some (k', w, [])) : whole (34 :: (a.dropLast ++ b)) = some (7, v ++ w, []) := by
  rw [whole34] at ha hb
  cases hx : strF (a.length + 1) a with
  | none => rw [hx] at ha; cases ha
  | some z =>
    obtain ⟨t', r'⟩ := z
    rw [hx] at ha
    obtain ⟨_, h3⟩ := Prod.mk.inj (Option.some.inj ha)
    obtain ⟨rfl, rfl⟩ := Prod.mk.inj h3
    cases hy : strF (b.length + 1) b with
    | none => rw [hy] at hb; cases hb
    | some z =>
      obtain ⟨t2, r2⟩ := z
      rw [hy] at hb
      obtain ⟨_, h4⟩ := Prod.mk.inj (Option.some.inj hb)
      obtain ⟨rfl, rfl⟩ := Prod.mk.inj h4
      obtain ⟨x, e1, e2, e3⟩ := strF_split _ _ _ _ hx
      have hd : a.dropLast = x := by rw [e1, List.dropLast_concat]
      rw [hd, whole34, strF_enough (e2 _ b _ hy)]; rfl
end Go.Proofs.YtklmiabgalanhaaGreatDoor.Qm

