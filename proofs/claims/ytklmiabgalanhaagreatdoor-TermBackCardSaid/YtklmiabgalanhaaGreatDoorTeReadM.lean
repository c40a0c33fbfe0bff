/- What stands in memory while a text is read; a part more on a row of the call's own. -/
import Derived.Test.YtklmiabgalanhaaGreatDoorTeHead
import Derived.Test.YtklmiabgalanhaaGreatDoorTeCopy
namespace Go.Proofs.YtklmiabgalanhaaGreatDoor
open Go.Shelf Go.RowKit Em Tx Km
set_option maxRecDepth 100000
set_option linter.unusedVariables false

theorem rd_info_part : (Tryz.prog.info? 28).map (fun i => (i.zero, i.size, i.bytes)) = some (some (.agg #[.int .u8 0, .int .i64 0, .string ⟨#[]⟩]), 3, 32) := by kernel_rfl
def pC (p : Pt) : List Value := [.int .u8 (p.k : Int), .int .i64 p.c, .string p.x]
theorem pCells_snoc (L : List Pt) (p : Pt) : pCells (L ++ [p]) = pCells L ++ pC p := by rw [pCells_append]; rfl
/-- One part more on a row of the call's own. -/
theorem push_pt {w : World} {B : Nat} {v : Value} {L : List Pt} (h : w.ownsRow B 28 3 v L.length (pCells L)) (p : Pt) (hl : (L.length + 1) * 32 ≤ 140737488355328) (hB : B ≤ w.heap.size) :
    ∃ (y : Option Addr) (c : Nat) (w2 : World), (Builtin.append_ #[22, 22] 22 #[v, .slice (some ⟨w.heap.size, 0, none⟩) 1 1]).run Tryz.prog (w.alloc (.cells #[.int .u8 (p.k : Int), .int .i64 p.c, .string p.x] 28)) = .ok (.slice y (L.length + 1) c) w2
      ∧ w2.ownsRow B 28 3 (.slice y (L.length + 1) c) (L ++ [p]).length (pCells (L ++ [p])) ∧ (w.alloc (.cells #[.int .u8 (p.k : Int), .int .i64 p.c, .string p.x] 28)).grownBy w2 v.ownBlock := by
  obtain ⟨i0, hi, hz0, hz1, hz2⟩ := info_parts rd_info_part
  obtain ⟨v', w2, hrun, hown, hgrow, _⟩ := run_append_own (P := Tryz.prog) (w.alloc (.cells #[.int .u8 (p.k : Int), .int .i64 p.c, .string p.x] 28)) B 22 22 28 i0 _ 3 32 Tryz.underlying22 hi hz0 hz1 hz2 rfl (by decide) v L.length (pCells L) (h.alloc _) ⟨w.heap.size, 0, none⟩ 1 1 (pC p)
    rfl (World.news_of_block (cs := #[.int .u8 (p.k : Int), .int .i64 p.c, .string p.x]) (t := 28) (fr := (0, 0)) (heap_alloc_new w _)) (by
      intro u hu
      simp only [pC, List.mem_cons, List.not_mem_nil, or_false] at hu
      rcases hu with rfl | rfl | rfl <;> rfl) (by unfold maxLen; omega) (by omega) (by simp; omega)
  obtain ⟨y, c, rfl, _⟩ := owns_form hown
  refine ⟨y, c, w2, hrun, ?_, hgrow⟩
  rw [List.length_append, pCells_snoc]
  exact hown

theorem rd_set : ∀ (L : List Pt) (i : Nat) (c : Int), i < L.length → (pCells L).set (i * 3 + 1) (.int .i64 c) = pCells (L.set i ⟨(nthP L i).k, c, (nthP L i).x⟩)
  | [], i, c, h => by simp at h
  | p :: r, 0, c, _ => rfl
  | p :: r, i + 1, c, h => by
    have ih := rd_set r i c (by simpa using h)
    have e : pCells (p :: r) = [.int .u8 (p.k : Int), .int .i64 p.c, .string p.x] ++ pCells r := rfl
    have en : nthP (p :: r) (i + 1) = nthP r i := rfl
    rw [e, en, List.set_cons_succ, show pCells (p :: r.set i ⟨(nthP r i).k, c, (nthP r i).x⟩) = [.int .u8 (p.k : Int), .int .i64 p.c, .string p.x] ++ pCells (r.set i ⟨(nthP r i).k, c, (nthP r i).x⟩) from rfl, ← ih, List.set_append_right _ _ (by simp; omega)]
    congr 2
    simp; omega
/-- The parts that were read so far. -/
abbrev PL (l : List (La × Nat)) : List Pt := l.map toP
/-- The state of a text that is read: its box, the box of the place, the two rows. -/
structure RdI (w wr : World) (g1 g4 : Nat) (s : ByteArray) (p : Nat) (lv ov : Value) (l : List (La × Nat)) (st : List Nat) : Prop where
  sb : wr.heap[g1]? = some (.cells #[.string s] 9 (0, 0))
  ab : wr.heap[g4]? = some (.cells #[.int .i64 (p : Int)] 3 (0, 0))
  lr : wr.ownsRow (g4 + 1) 28 3 lv (PL l).length (pCells (PL l))
  or' : wr.ownsRow (g4 + 1) 3 1 ov st.length (iRow (rv st))
  bel : Below w.heap.size w wr
  lo1 : w.heap.size ≤ g1
  lo2 : g1 < g4
  hi : g4 < wr.heap.size
theorem ne_of_kind {w : World} {a b : Nat} {ca cb : Array Value} {ta tb : TypeId} {fa fb : Nat × Nat} (h1 : w.heap[a]? = some (.cells ca ta fa)) (h2 : w.heap[b]? = some (.cells cb tb fb)) (h : ta ≠ tb) : a ≠ b := by
  intro e
  rw [e, h2] at h1
  injection h1 with h1
  injection h1 with _ h1 _
  exact h h1.symm
theorem RdI.keep {w wr w' : World} {g1 g4 : Nat} {s : ByteArray} {p : Nat} {lv ov : Value} {l : List (La × Nat)} {st : List Nat} (h : RdI w wr g1 g4 s p lv ov l st) (hb : Below wr.heap.size wr w') : RdI w w' g1 g4 s p lv ov l st where
  sb := by rw [hb.block g1 (Nat.lt_trans h.lo2 h.hi)]; exact h.sb
  ab := by rw [hb.block g4 h.hi]; exact h.ab
  lr := owns_keep h.lr hb
  or' := owns_keep h.or' hb
  bel := h.bel.trans (hb.mono h.bel.size)
  lo1 := h.lo1
  lo2 := h.lo2
  hi := Nat.lt_of_lt_of_le h.hi hb.size
theorem RdI.c1 {w wr : World} {g1 g4 : Nat} {s : ByteArray} {p : Nat} {lv ov : Value} {l : List (La × Nat)} {st : List Nat} (h : RdI w wr g1 g4 s p lv ov l st) : wr.cell? ⟨g1, 0, none⟩ = some (.string s) := by rw [cell_of_row wr g1 0 _ _ _ h.sb]; rfl
theorem RdI.c4 {w wr : World} {g1 g4 : Nat} {s : ByteArray} {p : Nat} {lv ov : Value} {l : List (La × Nat)} {st : List Nat} (h : RdI w wr g1 g4 s p lv ov l st) : wr.cell? ⟨g4, 0, none⟩ = some (.int .i64 (p : Int)) := by rw [cell_of_row wr g4 0 _ _ _ h.ab]; rfl
theorem RdI.f4 {w wr : World} {g1 g4 : Nat} {s : ByteArray} {p : Nat} {lv ov : Value} {l : List (La × Nat)} {st : List Nat} (h : RdI w wr g1 g4 s p lv ov l st) : wr.frozen? ⟨g4, 0, none⟩ = false := frozen_of_row wr g4 0 _ _ h.ab
theorem own_ne {w : World} {base : Nat} {e : TypeId} {size : Nat} {v : Value} {n : Nat} {xs : List Value} (h : w.ownsRow base e size v n xs) {g : Nat} (hg : g < base) : v.ownBlock ≠ some g := fun e2 => by
  have := (h.lt g e2).1
  omega
/-- The place moves on. -/
theorem RdI.move {w wr : World} {g1 g4 : Nat} {s : ByteArray} {p : Nat} {lv ov : Value} {l : List (La × Nat)} {st : List Nat} (h : RdI w wr g1 g4 s p lv ov l st) (q : Nat) : RdI w (wr.setCell ⟨g4, 0, none⟩ (.int .i64 (q : Int))) g1 g4 s q lv ov l st where
  sb := (Below.heap_setCell wr ⟨g4, 0, none⟩ _ g1 (Nat.ne_of_lt h.lo2)).trans h.sb
  ab := heap_setCell_same wr g4 0 _ _ _ h.ab
  lr := owns_far h.lr _ (own_ne h.lr (Nat.lt_succ_self _))
  or' := owns_far h.or' _ (own_ne h.or' (Nat.lt_succ_self _))
  bel := h.bel.setCell (p := ⟨g4, 0, none⟩) (Nat.le_of_lt (Nat.lt_of_le_of_lt h.lo1 h.lo2)) _
  lo1 := h.lo1
  lo2 := h.lo2
  hi := by simpa using h.hi
theorem RdI.pop {w wr : World} {g1 g4 : Nat} {s : ByteArray} {p : Nat} {lv : Value} {g cap n : Nat} {l : List (La × Nat)} {st : List Nat} (h : RdI w wr g1 g4 s p lv (.slice (some ⟨g, 0, none⟩) (st.length + 1) cap) l (n :: st)) : RdI w wr g1 g4 s p lv (.slice (some ⟨g, 0, none⟩) st.length cap) l st where
  sb := h.sb
  ab := h.ab
  lr := h.lr
  or' := by
    have h2 := owns_cut h.or' (m := st.length) (by simp)
    rw [rv_take] at h2
    exact h2
  bel := h.bel
  lo1 := h.lo1
  lo2 := h.lo2
  hi := h.hi
/-- What an append onto one of the two rows leaves of the rest. -/
theorem RdI.grown {w wr w2 : World} {g1 g4 : Nat} {s : ByteArray} {p : Nat} {lv ov : Value} {l : List (La × Nat)} {st : List Nat} (h : RdI w wr g1 g4 s p lv ov l st) (o : Obj) {v : Value} (hg : (wr.alloc o).grownBy w2 v.ownBlock) (hv : ∀ g, v.ownBlock = some g → g4 + 1 ≤ g) :
    w2.heap[g1]? = some (.cells #[.string s] 9 (0, 0)) ∧ w2.heap[g4]? = some (.cells #[.int .i64 (p : Int)] 3 (0, 0)) ∧ Below w.heap.size w w2 ∧ g4 < w2.heap.size := by
  have hlt1 : g1 < wr.heap.size := Nat.lt_trans h.lo2 h.hi
  have hs := hg.size
  simp at hs
  refine ⟨?_, ?_, ?_, by have := h.hi; omega⟩
  · rw [hg.block g1 (by simp; omega) (fun e => by have := hv g1 e.symm; have := h.lo2; omega)]
    exact (heap_alloc_old wr o hlt1).trans h.sb
  · rw [hg.block g4 (by simp; have := h.hi; omega) (fun e => by have := hv g4 e.symm; omega)]
    exact (heap_alloc_old wr o h.hi).trans h.ab
  · exact (h.bel.alloc h.bel.size o).grown hg (by have := h.bel.size; simp; omega) (fun k e => by have := hv k e; have := h.lo1; have := h.lo2; omega)
theorem owns_grown {w w2 : World} {base : Nat} {e : TypeId} {size : Nat} {v : Value} {n : Nat} {xs : List Value} (h : w.ownsRow base e size v n xs) {row : Option Nat} (hg : w.grownBy w2 row) (hr : ∀ g, v.ownBlock = some g → row ≠ some g) : w2.ownsRow base e size v n xs := by
  refine ⟨h.1, ?_⟩
  rcases h.2 with h0 | ⟨g, cap, cur, rfl, a2, a3, a4⟩
  · exact .inl h0
  · refine .inr ⟨g, cap, cur, rfl, a2, ?_, a4⟩
    rw [hg.block g (Array.getElem?_eq_some_iff.1 a3).1 (fun e => hr g rfl e.symm)]
    exact a3
theorem RdI.push {w wr : World} {g1 g4 : Nat} {s : ByteArray} {p : Nat} {lv ov : Value} {l : List (La × Nat)} {st : List Nat} (h : RdI w wr g1 g4 s p lv ov l st) (a : Nat) (hl : (st.length + 1) * 8 ≤ 140737488355328) :
    ∃ (y : Option Addr) (c : Nat) (w2 : World), (Builtin.append_ #[31, 31] 31 #[ov, .slice (some ⟨wr.heap.size, 0, none⟩) 1 1]).run Tryz.prog (wr.alloc (.cells #[.int .i64 (a : Int)] 3)) = .ok (.slice y (st.length + 1) c) w2
      ∧ RdI w w2 g1 g4 s p lv (.slice y (st.length + 1) c) l (a :: st) ∧ KpI wr w2 := by
  have h0 := h.or'
  rw [← rv_len] at h0
  obtain ⟨y, c, w2, hrun, hown, hgrow⟩ := push_int h0 (a : Int) (by rw [rv_len]; exact hl) h.hi
  rw [rv_len] at hrun hown
  have hk1 : KpI wr (wr.alloc (.cells #[.int .i64 (a : Int)] 3)) := KpI.below ((Below.refl _ _).alloc (Nat.le_refl _) _)
  have hk2 : KpI (wr.alloc (.cells #[.int .i64 (a : Int)] 3)) w2 := KpI.grown hgrow fun g e => by
    obtain ⟨c, fz, h3⟩ := Lib.ownsRow_kind (h0.alloc (.cells #[.int .i64 (a : Int)] 3)) g e
    exact ⟨c, fz, h3⟩
  have hk : KpI wr w2 := fun k o h1 h2 => hk2 k o (hk1 k o h1 h2) h2
  obtain ⟨r1, r2, r3, r4⟩ := h.grown _ hgrow (fun g e => (h0.lt g e).1)
  refine ⟨y, c, w2, hrun, ⟨r1, r2, ?_, ?_, r3, h.lo1, h.lo2, r4⟩, hk⟩
  · refine ⟨h.lr.1, ?_⟩
    rcases h.lr.2 with hn | ⟨g, cap, cur, a1, a2, a3, a4⟩
    · exact .inl hn
    · exact .inr ⟨g, cap, cur, a1, a2, hk g _ a3 (fun c fz e => by injection e with _ e _; exact absurd e (by decide)), a4⟩
  · rw [rv_cons, List.length_cons]
    have e : (rv st ++ [(a : Int)]).length = st.length + 1 := by rw [List.length_append, rv_len]; rfl
    rw [e] at hown
    exact hown
theorem RdI.part {w wr : World} {g1 g4 : Nat} {s : ByteArray} {p : Nat} {lv ov : Value} {l : List (La × Nat)} {st : List Nat} (h : RdI w wr g1 g4 s p lv ov l st) (a : La) (n : Nat) (hl : (l.length + 1) * 32 ≤ 140737488355328) :
    ∃ (y : Option Addr) (c : Nat) (w2 : World), (Builtin.append_ #[22, 22] 22 #[lv, .slice (some ⟨wr.heap.size, 0, none⟩) 1 1]).run Tryz.prog (wr.alloc (.cells #[.int .u8 (a.1 : Int), .int .i64 (n : Int), .string a.2] 28)) = .ok (.slice y (l.length + 1) c) w2
      ∧ RdI w w2 g1 g4 s p (.slice y (l.length + 1) c) ov (l ++ [(a, n)]) st := by
  have h0 := h.lr
  obtain ⟨y, c, w2, hrun, hown, hgrow⟩ := push_pt h0 (toP (a, n)) (by simpa using hl) (Nat.succ_le_of_lt h.hi)
  rw [List.length_map] at hrun hown
  obtain ⟨r1, r2, r3, r4⟩ := h.grown _ hgrow (fun g e => (h0.lt g e).1)
  refine ⟨y, c, w2, hrun, ⟨r1, r2, ?_, ?_, r3, h.lo1, h.lo2, r4⟩⟩
  · unfold PL
    rw [List.map_append]
    exact hown
  · refine owns_grown (h.or'.alloc _) hgrow fun g e => ?_
    exact owns_apart (h.or') h0 (by decide) g e
/-- The kids of a part that is open are one more. -/
theorem RdI.bump {w wr : World} {g1 g4 : Nat} {s : ByteArray} {p : Nat} {lv ov : Value} {l : List (La × Nat)} {st : List Nat} (h : RdI w wr g1 g4 s p lv ov l st) {i : Nat} (hi : i < l.length) :
    ∃ g c, lv = .slice (some ⟨g, 0, none⟩) l.length c ∧ wr.cell? ⟨g, i * 3 + 1, none⟩ = some (.int .i64 ((l[i]'hi).2 : Int)) ∧ wr.frozen? ⟨g, i * 3 + 1, none⟩ = false
      ∧ RdI w (wr.setCell ⟨g, i * 3 + 1, none⟩ (.int .i64 (((l[i]'hi).2 + 1 : Nat) : Int))) g1 g4 s p lv ov (bump l i) st := by
  have h0 := h.lr
  rcases h0.2 with ⟨_, hz⟩ | ⟨g, cap, cur, hv, a1, a2, a3⟩
  · rw [List.length_map] at hz; omega
  · subst hv
    have hml : (PL l).length = l.length := List.length_map ..
    have hiP : i < (PL l).length := by rw [hml]; exact hi
    have hn : nthP (PL l) i = toP (l[i]'hi) := nthP_toP l i hi
    obtain ⟨_, hc, _⟩ := pCells_get (PL l) i hiP
    rw [hn] at hc
    refine ⟨g, cap, by rw [hml], owns_cell h0 hc, owns_free h0 _, ?_⟩
    have hset := owns_set h0 (i * 3 + 1) (.int .i64 (((l[i]'hi).2 + 1 : Nat) : Int))
    have hg4 : g ≠ g4 := by omega
    have hg1 : g ≠ g1 := by have := h.lo2; omega
    have hset2 : (pCells (PL l)).set (i * 3 + 1) (.int .i64 (((l[i]'hi).2 + 1 : Nat) : Int)) = pCells (PL (Tx.bump l i)) := by
      have := rd_set (PL l) i (((l[i]'hi).2 + 1 : Nat) : Int) hiP
      rw [this]
      congr 1
      rw [hn]
      apply List.ext_getElem
      · simp [PL, Tx.bump]
      · intro j h1 h2
        simp only [PL, Tx.bump, List.getElem_set, List.getElem_map, List.getElem_modify]
        by_cases e : i = j
        · subst e; rw [if_pos rfl, if_pos rfl]; rfl
        · rw [if_neg e, if_neg e]
    rw [hset2] at hset
    have hlen : (PL l).length = (PL (Tx.bump l i)).length := by simp [PL, Tx.bump]
    refine ⟨(Below.heap_setCell wr ⟨g, i * 3 + 1, none⟩ _ g1 (fun e => hg1 e.symm)).trans h.sb, (Below.heap_setCell wr ⟨g, i * 3 + 1, none⟩ _ g4 (fun e => hg4 e.symm)).trans h.ab, ?_, ?_, h.bel.setCell (p := ⟨g, i * 3 + 1, none⟩) (by have := h.lo1; have := h.lo2; show w.heap.size ≤ g; omega) _, h.lo1, h.lo2, by simpa using h.hi⟩
    · rw [← hlen]; exact hset
    · exact owns_far h.or' _ (fun e => owns_apart h.or' h0 (by decide) _ e rfl)
end Go.Proofs.YtklmiabgalanhaaGreatDoor
