/- What stands in memory while a list is shown. -/
import Derived.Test.YtklmiabgalanhaaGreatDoorTeBld
import Derived.Test.YtklmiabgalanhaaGreatDoorTeLib
import Derived.Test.YtklmiabgalanhaaGreatDoorTxHead
import Derived.Lib.Strings
namespace Go.Proofs.YtklmiabgalanhaaGreatDoor
open Go.Shelf Go.RowKit Em Tx Km
set_option maxRecDepth 100000
set_option linter.unusedVariables false

theorem emp_iff (s : ByteArray) : s.toList.isEmpty = decide (s.size = 0) := by
  rw [Lib.toList_data]
  cases h : s.data.toList with
  | nil => have : s.data.toList.length = 0 := by rw [h]; rfl
           rw [Array.length_toList] at this
           exact (decide_eq_true this).symm
  | cons a l => have : s.data.toList.length = l.length + 1 := by rw [h]; rfl
                rw [Array.length_toList] at this
                exact (decide_eq_false (show ¬ s.data.size = 0 by omega)).symm
/-- The row of kids that are still to come. -/
def rv (st : List Nat) : List Int := st.reverse.map fun (n : Nat) => (n : Int)
theorem rv_len (st : List Nat) : (rv st).length = st.length := by simp [rv]
theorem rv_cons (n : Nat) (st : List Nat) : rv (n :: st) = rv st ++ [(n : Int)] := by simp [rv]
theorem rv_last (n : Nat) (st : List Nat) : (iRow (rv (n :: st)))[st.length]? = some (.int .i64 (n : Int)) := by
  rw [rv_cons, iRow_snoc, List.getElem?_append_right (by simp [iRow_len, rv_len])]
  simp [iRow_len, rv_len]
theorem rv_set (n m : Nat) (st : List Nat) : (iRow (rv (n :: st))).set st.length (.int .i64 (m : Int)) = iRow (rv (m :: st)) := by
  rw [rv_cons, rv_cons, iRow_snoc, iRow_snoc, List.set_append_right _ _ (by simp [iRow_len, rv_len])]
  simp [iRow_len, rv_len]
theorem rv_take (n : Nat) (st : List Nat) : (iRow (rv (n :: st))).take (st.length * 1) = iRow (rv st) := by
  rw [rv_cons, iRow_snoc, List.take_append_of_le_length (by simp [iRow_len, rv_len])]
  exact List.take_of_length_le (by simp [iRow_len, rv_len])

/-- Blocks that are no rows of integers stay. -/
def KpI (w w' : World) : Prop := ∀ (k : Nat) (o : Obj), w.heap[k]? = some o → (∀ c fz, o ≠ .cells c 3 fz) → w'.heap[k]? = some o
theorem KpI.below {w w' : World} (h : Below w.heap.size w w') : KpI w w' := fun k o hk _ => by
  rw [h.block k (Array.getElem?_eq_some_iff.1 hk).1]; exact hk
theorem KpI.grown {w w' : World} {row : Option Nat} (h : w.grownBy w' row) (hr : ∀ g, row = some g → ∃ c fz, w.heap[g]? = some (.cells c 3 fz)) : KpI w w' := fun k o hk hn => by
  have hl := (Array.getElem?_eq_some_iff.1 hk).1
  rw [h.block k hl fun e => ?_]; exact hk
  obtain ⟨c, fz, h2⟩ := hr k e.symm
  rw [hk] at h2
  exact hn c fz (Option.some.inj h2)
theorem KpI.setCell {w : World} {p : Addr} (v : Value) (hp : ∃ c fz, w.heap[p.block]? = some (.cells c 3 fz)) : KpI w (w.setCell p v) := fun k o hk hn => by
  obtain ⟨c, fz, h2⟩ := hp
  have e : k ≠ p.block := fun e => by rw [e, h2] at hk; exact hn c fz (Option.some.inj hk).symm
  exact (Below.heap_setCell w p v k e).trans hk
/-- A builder stays where its blocks do. -/
theorem bld_keep {B b : Nat} {bs : List Value} {w w' : World} (h : BldF B b bs w) (hk : KpI w w') : BldF B b bs w' := by
  have key : ∀ p, Lib.BuilderAtF 58 5 B b p bs w → Lib.BuilderAtF 58 5 B b p bs w' := by
    rintro p ⟨hB, v, hb, ho, hne⟩
    refine ⟨hB, v, hk b _ hb (fun c fz e => by injection e with _ e _; exact absurd e (by decide)), ?_, hne⟩
    refine ⟨ho.1, ?_⟩
    rcases ho.2 with h0 | ⟨g, cap, cur, fz, a1, a2, a3, a4⟩
    · exact .inl h0
    · exact .inr ⟨g, cap, cur, fz, a1, a2, hk g _ a3 (fun c fz e => by injection e with _ e _; exact absurd e (by decide)), a4⟩
  rcases h with h | h
  · exact .inl (key _ h)
  · exact .inr (key _ h)
theorem bld_block {B b : Nat} {bs : List Value} {w : World} (h : BldF B b bs w) : ∃ cs, w.heap[b]? = some (.cells cs 58 (0, 0)) := by
  obtain ⟨p, x, c, h1, _⟩ := bld_slot h
  exact ⟨_, h1⟩
/-- Rows that are no rows of bytes stay beside a builder that is written. -/
theorem owns_oth {w w' : World} {base b : Nat} {e : TypeId} {size : Nat} {v : Value} {n : Nat} {xs : List Value} {bs : List Value} {B : Nat} (h : w.ownsRow base e size v n xs) (hb : BldF B b bs w) (ho : Oth b w w') (h1 : e ≠ 5) (h2 : e ≠ 58) : w'.ownsRow base e size v n xs := by
  refine ⟨h.1, ?_⟩
  rcases h.2 with h0 | ⟨g, cap, cur, a1, a2, a3, a4⟩
  · exact .inl h0
  · refine .inr ⟨g, cap, cur, a1, a2, ho g _ a3 ?_ ?_, a4⟩
    · intro e2
      injection e2 with e2
      obtain ⟨cs, h3⟩ := bld_block hb
      rw [e2, h3] at a3
      injection a3 with a3
      injection a3 with _ a3 _
      exact h2 a3.symm
    · intro c fz e2
      injection e2 with _ e2 _
      exact h1 e2
theorem block_oth {w w' : World} {b P : Nat} {cs : Array Value} {e : TypeId} {bs : List Value} {B : Nat} (h : w.heap[P]? = some (.cells cs e (0, 0))) (hb : BldF B b bs w) (ho : Oth b w w') (h1 : e ≠ 5) (h2 : e ≠ 58) : w'.heap[P]? = some (.cells cs e (0, 0)) := by
  refine ho P _ h ?_ ?_
  · intro e2
    injection e2 with e2
    obtain ⟨cs2, h3⟩ := bld_block hb
    rw [e2, h3] at h
    injection h with h
    injection h with _ h _
    exact h2 h.symm
  · intro c fz e2
    injection e2 with _ e2 _
    exact h1 e2

/-- The state of a list that is shown: the builder's block is the call's first. -/
structure ShI (B : Nat) (w wr : World) (lv : Value) (st : List Nat) (out : List UInt8) : Prop where
  bld : BldF B B (Lib.byteCells out) wr
  row : wr.ownsRow B 3 1 lv st.length (iRow (rv st))
  bel : Below B w wr
  low : B ≤ wr.heap.size
theorem ShI.keep {B : Nat} {w wr w' : World} {lv : Value} {st : List Nat} {out : List UInt8} (h : ShI B w wr lv st out) (hb : Below wr.heap.size wr w') : ShI B w w' lv st out :=
  ⟨bld_keep h.bld (KpI.below hb), owns_keep h.row hb, h.bel.trans (hb.mono h.low), Nat.le_trans h.low hb.size⟩
theorem ShI.wrote {B : Nat} {w wr w' : World} {lv : Value} {st : List Nat} {out out' : List UInt8} (h : ShI B w wr lv st out) (h1 : BldF B B (Lib.byteCells out') w') (h2 : Below B wr w') (h3 : Oth B wr w') : ShI B w w' lv st out' :=
  ⟨h1, owns_oth h.row h.bld h3 (by decide) (by decide), h.bel.trans h2, Nat.le_trans h.low h2.size⟩
theorem row_slot {B : Nat} {w : World} {lv : Value} {n : Nat} {st : List Nat} (h : w.ownsRow B 3 1 lv (n :: st).length (iRow (rv (n :: st)))) : ∃ g cap, lv = .slice (some ⟨g, 0, none⟩) (st.length + 1) cap ∧ B ≤ g ∧ w.cell? ⟨g, st.length, none⟩ = some (.int .i64 (n : Int)) ∧ w.frozen? ⟨g, st.length, none⟩ = false ∧ ∃ c, w.heap[g]? = some (.cells c 3 (0, 0)) := by
  rcases h.2 with ⟨_, h0⟩ | ⟨g, cap, cur, hv, a1, a2, _⟩
  · simp at h0
  · subst hv
    exact ⟨g, cap, rfl, a1, owns_cell h (rv_last n st), owns_free h _, cur, a2⟩
theorem ShI.set {B : Nat} {w wr : World} {g cap n m : Nat} {st : List Nat} {out : List UInt8} (h : ShI B w wr (.slice (some ⟨g, 0, none⟩) (st.length + 1) cap) (n :: st) out) : ShI B w (wr.setCell ⟨g, st.length, none⟩ (.int .i64 (m : Int))) (.slice (some ⟨g, 0, none⟩) (st.length + 1) cap) (m :: st) out := by
  obtain ⟨g2, cap2, hv, hB, _, _, c, hc⟩ := row_slot h.row
  injection hv with v1 v2 v3
  injection v1 with v1
  injection v1 with v1
  subst v1
  refine ⟨bld_keep h.bld (KpI.setCell _ ⟨c, _, hc⟩), ?_, h.bel.setCell (p := ⟨g, st.length, none⟩) hB _, by simpa using h.low⟩
  have h2 := owns_set h.row st.length (.int .i64 (m : Int))
  rw [rv_set] at h2
  exact h2
theorem ShI.pop {B : Nat} {w wr : World} {g cap n : Nat} {st : List Nat} {out : List UInt8} (h : ShI B w wr (.slice (some ⟨g, 0, none⟩) (st.length + 1) cap) (n :: st) out) : ShI B w wr (.slice (some ⟨g, 0, none⟩) st.length cap) st out := by
  refine ⟨h.bld, ?_, h.bel, h.low⟩
  have h2 := owns_cut h.row (m := st.length) (by simp)
  rw [rv_take] at h2
  exact h2
theorem ShI.draw {B : Nat} {w wr : World} {lv : Value} {st : List Nat} {out : List UInt8} (h : ShI B w wr lv st out) (d : Nat) : ShI B w (wr.drewN d) lv st out := h.keep ⟨rfl, rfl, rfl, Nat.le_refl _, fun _ _ => rfl⟩
/-- One part more is open. -/
theorem ShI.push {B : Nat} {w wr : World} {lv : Value} {st : List Nat} {out : List UInt8} (h : ShI B w wr lv st out) (a : Nat) (hl : (st.length + 1) * 8 ≤ 140737488355328) :
    ∃ (y : Option Addr) (c : Nat) (w2 : World), (Builtin.append_ #[31, 31] 31 #[lv, .slice (some ⟨wr.heap.size, 0, none⟩) 1 1]).run Tryz.prog (wr.alloc (.cells #[.int .i64 (a : Int)] 3)) = .ok (.slice y (st.length + 1) c) w2
      ∧ ShI B w w2 (.slice y (st.length + 1) c) (a :: st) out ∧ KpI wr w2 := by
  have h0 := h.row
  rw [← rv_len] at h0
  obtain ⟨y, c, w2, hrun, hown, hgrow⟩ := push_int h0 (a : Int) (by rw [rv_len]; exact hl) h.low
  rw [rv_len] at hrun hown
  have hk1 : KpI wr (wr.alloc (.cells #[.int .i64 (a : Int)] 3)) := KpI.below ((Below.refl _ _).alloc (Nat.le_refl _) _)
  have hk2 : KpI (wr.alloc (.cells #[.int .i64 (a : Int)] 3)) w2 := KpI.grown hgrow fun g e => by
    obtain ⟨c, fz, h3⟩ := Lib.ownsRow_kind (h0.alloc (.cells #[.int .i64 (a : Int)] 3)) g e
    exact ⟨c, fz, h3⟩
  have hk : KpI wr w2 := fun k o h1 h2 => hk2 k o (hk1 k o h1 h2) h2
  refine ⟨y, c, w2, hrun, ⟨bld_keep h.bld hk, ?_, ?_, ?_⟩, hk⟩
  · rw [rv_cons, List.length_cons]
    have e : (rv st ++ [(a : Int)]).length = st.length + 1 := by rw [List.length_append, rv_len]; rfl
    rw [e] at hown
    exact hown
  · exact ((h.bel.alloc h.low _).grown hgrow (by have := h.low; simp; omega) (fun k e => (h0.lt k e).1))
  · have := hgrow.size
    have := h.low
    simp at *
    omega
end Go.Proofs.YtklmiabgalanhaaGreatDoor
