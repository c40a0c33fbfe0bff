/- The mathematics of a head, in terms of the string's bytes; a part in a block of the call's own. -/
import Derived.Test.YtklmiabgalanhaaGreatDoorTeShowM
namespace Go.Proofs.YtklmiabgalanhaaGreatDoor
open Go.Shelf Go.RowKit Em Tx Km
set_option maxRecDepth 100000
set_option linter.unusedVariables false
set_option linter.unusedSimpArgs false

/-- A part in a block. -/
def PB (w : World) (g : Nat) (k c : Int) (x : ByteArray) : Prop := w.heap[g]? = some (.cells #[.int .u8 k, .int .i64 c, .string x] 28 (0, 0))
theorem PB.c0 {w : World} {g : Nat} {k c : Int} {x : ByteArray} (h : PB w g k c x) : w.cell? ⟨g, 0, none⟩ = some (.int .u8 k) := by rw [cell_of_row w g 0 _ _ _ h]; rfl
theorem PB.c1 {w : World} {g : Nat} {k c : Int} {x : ByteArray} (h : PB w g k c x) : w.cell? ⟨g, 1, none⟩ = some (.int .i64 c) := by rw [cell_of_row w g 1 _ _ _ h]; rfl
theorem PB.c2 {w : World} {g : Nat} {k c : Int} {x : ByteArray} (h : PB w g k c x) : w.cell? ⟨g, 2, none⟩ = some (.string x) := by rw [cell_of_row w g 2 _ _ _ h]; rfl
theorem PB.free {w : World} {g : Nat} {k c : Int} {x : ByteArray} (h : PB w g k c x) (i : Nat) : w.frozen? ⟨g, i, none⟩ = false := frozen_of_row w g i _ _ h
theorem PB.lt {w : World} {g : Nat} {k c : Int} {x : ByteArray} (h : PB w g k c x) : g < w.heap.size := (Array.getElem?_eq_some_iff.1 h).1
theorem PB.set2 {w : World} {g : Nat} {k c : Int} {x x' : ByteArray} (h : PB w g k c x) : PB (w.setCell ⟨g, 2, none⟩ (.string x')) g k c x' := heap_setCell_same w g 2 _ _ _ h
theorem PB.set0 {w : World} {g : Nat} {k c k' : Int} {x : ByteArray} (h : PB w g k c x) : PB (w.setCell ⟨g, 0, none⟩ (.int .u8 k')) g k' c x := heap_setCell_same w g 0 _ _ _ h
theorem PB.set1 {w : World} {g : Nat} {k c c' : Int} {x : ByteArray} (h : PB w g k c x) : PB (w.setCell ⟨g, 1, none⟩ (.int .i64 c')) g k c' x := heap_setCell_same w g 1 _ _ _ h
theorem PB.far {w : World} {g : Nat} {k c : Int} {x : ByteArray} (h : PB w g k c x) {p : Addr} (hp : g ≠ p.block) (v : Value) : PB (w.setCell p v) g k c x := (Below.heap_setCell w p v g hp).trans h
theorem PB.keep {w w' : World} {g : Nat} {k c : Int} {x : ByteArray} (h : PB w g k c x) (hb : Below w.heap.size w w') : PB w' g k c x := (hb.block g h.lt).trans h
theorem PB.alloc {w : World} {g : Nat} {k c : Int} {x : ByteArray} (h : PB w g k c x) (o : Obj) : PB (w.alloc o) g k c x := (heap_alloc_old w o h.lt).trans h

theorem PB.all {w : World} {g : Nat} {k c : Int} {x : ByteArray} (h : PB w g k c x) (k' c' : Int) (x' : ByteArray) : PB (((w.setCell ⟨g, 0, none⟩ (.int .u8 k')).setCell ⟨g, 1, none⟩ (.int .i64 c')).setCell ⟨g, 2, none⟩ (.string x')) g k' c' x' := ((h.set0 (k' := k')).set1 (c' := c')).set2 (x' := x')
theorem below_all {B : Nat} {w w' : World} {g : Nat} (h : Below B w w') (hg : B ≤ g) (a b c : Value) : Below B w (((w'.setCell ⟨g, 0, none⟩ a).setCell ⟨g, 1, none⟩ b).setCell ⟨g, 2, none⟩ c) := ((h.setCell (p := ⟨g, 0, none⟩) hg a).setCell (p := ⟨g, 1, none⟩) hg b).setCell (p := ⟨g, 2, none⟩) hg c
theorem pb_of_part {w : World} : PB (w.alloc (.cells #[.int .u8 0, .int .i64 0, .string ⟨#[]⟩] 28)) w.heap.size 0 0 ⟨#[]⟩ := heap_alloc_new w _
/-- The head's answer. -/
def hV (n : Nat) : Option (La × List UInt8) → Value
  | none => .tuple #[.agg #[.int .u8 0, .int .i64 0, .string ⟨#[]⟩], .int .i64 0]
  | some (a, r) => .tuple #[.agg #[.int .u8 (a.1 : Int), .int .i64 0, .string a.2], .int .i64 ((n : Int) - (r.length : Int))]

theorem pre_one (c : UInt8) (l : List UInt8) : Lib.hasPrefix l [c] = decide (l.head? = some c) := by
  cases l with
  | nil => rfl
  | cons d l =>
    unfold Lib.hasPrefix
    simp only [List.isPrefixOf, Bool.and_true, List.head?_cons, Option.some.injEq]
    by_cases h : c = d
    · subst h; simp
    · rw [show (c == d) = false from beq_eq_false_iff_ne.2 h, decide_eq_false (fun e => h e.symm)]
theorem pre_two (c d : UInt8) (l : List UInt8) : Lib.hasPrefix l [c, d] = decide (l.head? = some c ∧ l.tail.head? = some d) := by
  cases l with
  | nil => rfl
  | cons a l =>
    cases l with
    | nil =>
      unfold Lib.hasPrefix
      simp [List.isPrefixOf]
    | cons b l =>
      unfold Lib.hasPrefix
      simp only [List.isPrefixOf, Bool.and_true, List.head?_cons, List.tail_cons, Option.some.injEq]
      by_cases h : c = a
      · subst h
        by_cases h2 : d = b
        · subst h2; simp
        · rw [show (d == b) = false from beq_eq_false_iff_ne.2 h2, decide_eq_false (fun e => h2 e.2.symm)]; simp
      · rw [show (c == a) = false from beq_eq_false_iff_ne.2 h, decide_eq_false (fun e => h e.1.symm)]; rfl
theorem hdA_no {l : List UInt8} (h : l.head? ≠ some 40) : hdA l = none := by
  unfold hdA
  cases l with
  | nil => rfl
  | cons c m => dsimp only; rw [if_neg (fun e => h (by rw [e]; rfl))]
/-- The digits behind the bracket. -/
def dsA (m : List UInt8) : List UInt8 := m.takeWhile isD
def rsA (m : List UInt8) : List UInt8 := m.dropWhile isD
theorem hdA_num {m : List UInt8} (h : ¬ okD (dsA m)) : hdA (40 :: m) = none := by
  have e : numP m = none := if_neg h
  unfold hdA
  dsimp only
  rw [if_pos rfl, e]
theorem hdA_word {m : List UInt8} (h : okD (dsA m)) : hdA (40 :: m) = match wordP (rsA m) with | none => none | some (x, q) => some ((val (dsA m), x), q) := by
  unfold hdA numP
  dsimp only
  rw [if_pos rfl, show List.takeWhile isD m = dsA m from rfl, if_pos h]
  rfl
theorem ds_split (m : List UInt8) : m = dsA m ++ rsA m := (List.takeWhile_append_dropWhile).symm
theorem ds_all (m : List UInt8) : ∀ c ∈ dsA m, isD c = true := fun c hc => by
  unfold dsA at hc
  induction m with
  | nil => simp at hc
  | cons d m ih =>
    by_cases h : isD d = true
    · rw [List.takeWhile_cons_of_pos h, List.mem_cons] at hc
      rcases hc with rfl | hc
      · exact h
      · exact ih hc
    · rw [List.takeWhile_cons_of_neg h] at hc; simp at hc
theorem rs_head (m : List UInt8) : ∀ c q, rsA m = c :: q → isD c = false := fun c q h => by
  unfold rsA at h
  induction m with
  | nil => simp at h
  | cons d m ih =>
    by_cases hd : isD d = true
    · rw [List.dropWhile_cons_of_pos hd] at h; exact ih h
    · rw [List.dropWhile_cons_of_neg hd] at h
      injection h with h1 h2
      subst h1
      simpa using hd
/-- Digits that the library reads, without a nought ahead. -/
theorem okD_of {ds : List UInt8} (hD : ∀ c ∈ ds, isD c = true) (h0 : ds ≠ []) (hv : val ds < 256) (hz : ¬ (ds.head? = some 48 ∧ 1 < ds.length)) : okD ds := by
  refine ⟨hv, ((dec_val _ ds rfl h0 hD ?_).1).symm⟩
  intro d r e h48
  by_cases hr : r = []
  · exact hr
  · exfalso
    apply hz
    refine ⟨by rw [e]; simp; exact UInt8.toNat_inj.1 h48, ?_⟩
    rw [e, List.length_cons]
    have := List.length_pos_iff.2 hr
    omega
theorem okD_no {ds : List UInt8} (h : ds.head? = some 48 ∧ 1 < ds.length) : ¬ okD ds := by
  rintro ⟨_, h2⟩
  cases ds with
  | nil => simp at h
  | cons d r =>
    obtain ⟨h3, h4⟩ := h
    simp at h3
    subst h3
    have := (dec_head _ _ _ h2.symm (by rfl)).1
    subst this
    simp at h4
theorem okD_nil : ¬ okD [] := by
  rintro ⟨_, h⟩
  exact absurd h.symm (dec_all _).2.2
theorem okD_ne {ds : List UInt8} (h : okD ds) : ds ≠ [] := fun e => okD_nil (e ▸ h)
/-- The word behind a kind. -/
theorem wordP_none {r : List UInt8} (h : ¬ (r.head? = some 32 ∧ r.tail.head? = some 34)) : wordP r = some (ByteArray.empty, r) := by unfold wordP; rw [if_neg h]
theorem wordP_bad {r : List UInt8} (h : r.head? = some 32 ∧ r.tail.head? = some 34) (hw : Qm.whole r.tail = none) : wordP r = none := by unfold wordP; rw [if_pos h, hw]
theorem wordP_yes {r w q : List UInt8} {k : Nat} (h : r.head? = some 32 ∧ r.tail.head? = some 34) (hw : Qm.whole r.tail = some (k, w, q)) : wordP r = if w ≠ [] ∧ r.tail = quoteL w ++ q then some (txt w, q) else none := by unfold wordP; rw [if_pos h, hw]
theorem strF_lenH : ∀ (f : Nat) (l t r : List UInt8), Qm.strF f l = some (t, r) → t.length + r.length ≤ l.length
  | 0, _, _, _, h => by cases h
  | f + 1, [], _, _, h => by cases h
  | f + 1, c :: m, t, r, h => by
    simp only [Qm.strF] at h
    rw [List.length_cons]
    by_cases h1 : c.toNat = 34
    · rw [if_pos h1] at h
      obtain ⟨rfl, rfl⟩ := Prod.mk.inj (Option.some.inj h)
      simp
    · rw [if_neg h1] at h
      by_cases h2 : c.toNat = 92
      · rw [if_pos h2] at h
        cases hx : Qm.esc 34 m with
        | none => rw [hx] at h; cases h
        | some y =>
          obtain ⟨n, b, q⟩ := y
          rw [hx] at h
          simp only [] at h
          cases hq : Qm.strF f q with
          | none => rw [hq] at h; cases h
          | some w =>
            obtain ⟨t', r'⟩ := w
            rw [hq] at h
            obtain ⟨rfl, rfl⟩ := Prod.mk.inj (Option.some.inj h)
            have ih := strF_lenH f q t' r' hq
            have e1 := Qm.esc_rest hx
            show (Qm.sayS b n ++ t').length + r'.length ≤ m.length + 1
            rw [List.length_append]
            cases b with
            | true =>
              have e3 : (Qm.sayS true n).length = 1 := rfl
              omega
            | false =>
              have e2 := esc_wide hx
              have e3 : (Qm.sayS false n).length ≤ 4 := fm_le n
              omega
      · rw [if_neg h2] at h
        by_cases h3 : c.toNat = 10
        · rw [if_pos h3] at h; cases h
        · rw [if_neg h3] at h
          cases hq : Qm.strF f m with
          | none => rw [hq] at h; cases h
          | some w =>
            obtain ⟨t', r'⟩ := w
            rw [hq] at h
            obtain ⟨rfl, rfl⟩ := Prod.mk.inj (Option.some.inj h)
            have ih := strF_lenH f m t' r' hq
            show (c :: t').length + r'.length ≤ m.length + 1
            rw [List.length_cons]; omega
theorem whole_len {m w q : List UInt8} {k : Nat} (h : Qm.whole (34 :: m) = some (k, w, q)) : w.length + q.length ≤ m.length := by
  rw [Qm.whole34] at h
  cases hs : Qm.strF (m.length + 1) m with
  | none => rw [hs] at h; cases h
  | some z =>
    obtain ⟨t, r⟩ := z
    rw [hs] at h
    injection h with h
    injection h with _ h
    injection h with h1 h2
    subst h1 h2
    exact strF_lenH _ _ _ _ hs
end Go.Proofs.YtklmiabgalanhaaGreatDoor
