/- The walk of the law SpanFresh. -/
import Derived.Test.YtckioinjgdjohaaEdLawA
import Derived.OwnWalk
import Derived.Laws.MakeOwn
namespace Go.Proofs.Ytckioinjgdjohaa
open Go.RowKit Em

theorem wpList_append_run {P : Program} {w : World} {ops : Array Oper} {rest : List Oper} {o : Oper} {a : Act} {Q : Exit → Act → World → Prop} (hg : o.guard = none) (s x : Operand) (t : TypeId)
    (ho : o.op = .call { callee := .builtin .append, args := #[s, x], argTypes := #[t, t] }) (v u v' : Value) (w' : World) (hs : a.eval s = v) (hx : a.eval x = u)
    (hr : (Builtin.append_ #[t, t] o.type #[v, u]).run P w = .ok v' w') (h : wpList P ops Q rest (a.put o.dst v') w') : wpList P ops Q (o :: rest) a w := by
  refine wpList_plain hg fun K hK => ?_
  unfold Oper.wp execOp
  simp only [ho, resolve, invoke, builtin, Sem.run_bind, Sem.run_pure, Result.andThen_ok, List.map_toArray, List.map_cons, List.map_nil, hs, hx, hr]
  exact hK _ _ h

/-- The cells of edits that are read, one by one. -/
theorem cells_of_edI {w : World} {x : Addr} {L : List Ed} (h : EdI w (some x) L) : ∀ j u, (eCells L)[j]? = some u → w.cell? (x.add j) = some u := by
  intro j u hu
  have hj : j < L.length * 3 := by have := (List.getElem?_eq_some_iff.1 hu).1; rw [eCells_len] at this; exact this
  obtain ⟨g, o, hx, hg, hc⟩ := h (by omega)
  obtain rfl := Option.some.inj hx
  obtain ⟨c0, c1, c2⟩ := hc (j / 3) (by omega)
  obtain ⟨e0, e1, e2⟩ := eCells_at L (j / 3) (by omega)
  rw [add_at]
  have h3 : j % 3 = 0 ∨ j % 3 = 1 ∨ j % 3 = 2 := by omega
  rcases h3 with h3 | h3 | h3
  · rw [show j / 3 * 3 = j by omega] at c0 e0
    rw [c0, ← hu, e0]
  · rw [show j / 3 * 3 + 1 = j by omega] at e1
    rw [show o + j / 3 * 3 + 1 = o + j by omega] at c1
    rw [c1, ← hu, e1]
  · rw [show j / 3 * 3 + 2 = j by omega] at e2
    rw [show o + j / 3 * 3 + 2 = o + j by omega] at c2
    rw [c2, ← hu, e2]

theorem eCells_one : ∀ (L : List Ed), ∀ u ∈ eCells L, u.oneCell' = true := by
  intro L u hu
  simp only [eCells, List.mem_flatMap] at hu
  obtain ⟨e, _, he⟩ := hu
  simp at he
  rcases he with rfl | rfl | rfl <;> rfl

/-- 'append(made, l...)' into room that was made for it. -/
theorem fits_runE {W : World} {B g : Nat} {a : Option Addr} {len cap : Nat} {Z : List Ed} (h : EdArg W a len cap Z) (hown : W.ownsRow B 36 3 (.slice (some ⟨g, 0, none⟩) 0 (len + 1)) 0 []) :
    ∃ W', (Builtin.append_ #[22, 22] 22 #[.slice (some ⟨g, 0, none⟩) 0 (len + 1), .slice a len cap]).run Try.prog W = .ok (.slice (some ⟨g, 0, none⟩) len (len + 1)) W' ∧
      W'.ownsRow B 36 3 (.slice (some ⟨g, 0, none⟩) len (len + 1)) len (eCells (Z.take len)) ∧ W.grownBy W' (some g) := by
  obtain ⟨i0, hi, hz0, hz1, hz2⟩ := info_parts info_edit
  have hr := h.read
  have hl := h.len_eq
  obtain ⟨h1, h2, h3, h4⟩ := h
  cases a with
  | none =>
    have hc : cap = 0 := by
      rcases Nat.eq_zero_or_pos cap with h0 | h0
      · exact h0
      · obtain ⟨_, _, hx, _⟩ := h4 (by omega); cases hx
    have hlen : len = 0 := by omega
    have hZ : Z = [] := List.eq_nil_of_length_eq_zero (by omega)
    subst hc hlen hZ
    have hrun := run_append_owned_none (P := Try.prog) W B 22 22 36 i0 3 Try.underlying22 hi _ 0 [] hown
    exact ⟨W, hrun, hown, World.grownBy.refl _ _⟩
  | some x =>
    obtain ⟨W', hrun, k2, k3⟩ := run_append_fits (P := Try.prog) W B 22 22 36 i0 3 Try.underlying22 hi hz1 g 0 (len + 1) [] hown x len cap (eCells (Z.take len)) (by rw [eCells_len, hl])
      (cells_of_edI hr) (eCells_one _) (by omega)
    simp only [Nat.zero_add, List.nil_append] at hrun k2
    exact ⟨W', hrun, k2, k3⟩

/-- What was made: the edits that came in, and one more behind them. -/
def GivenE (w : World) (g : Nat) (L : List Ed) : Prop := g < w.heap.size ∧ EdI w (some ⟨g, 0, none⟩) L ∧ w.cell? ⟨g, L.length * 3, none⟩ = some (.int .i64 7) ∧ w.cell? ⟨g, L.length * 3 + 1, none⟩ = some (.int .i64 0) ∧ w.cell? ⟨g, L.length * 3 + 2, none⟩ = some (.string ⟨#[]⟩)
theorem GivenE.below {w w' : World} {g B : Nat} {L : List Ed} (h : GivenE w g L) (hb : Below B w w') (hB : g < B) : GivenE w' g L :=
  ⟨Nat.lt_of_lt_of_le h.1 hb.size, h.2.1.below hb (fun _ _ e => by cases e; exact hB), (hb.cell hB).trans h.2.2.1, (hb.cell hB).trans h.2.2.2.1, (hb.cell hB).trans h.2.2.2.2⟩
theorem GivenE.keep {w w' : World} {g : Nat} {L : List Ed} (h : GivenE w g L) (hb : Below w.heap.size w w') : GivenE w' g L := h.below hb h.1

theorem givenE_of {w : World} {B g c : Nat} {L : List Ed} (h : w.ownsRow B 36 3 (.slice (some ⟨g, 0, none⟩) (L.length + 1) c) (L.length + 1) (eCells L ++ [.int .i64 7, .int .i64 0, .string ⟨#[]⟩])) : GivenE w g L := by
  have hc := h.cells (g := g) rfl
  obtain ⟨_, hg⟩ := h.lt g rfl
  have hlen := eCells_len L
  refine ⟨hg, fun hn => ⟨g, 0, rfl, hg, fun i hi => ?_⟩, ?_, ?_, ?_⟩
  · obtain ⟨a, b, c⟩ := eCells_at L i hi
    have a' := hc (i * 3) _ (by rw [List.getElem?_append_left (by omega)]; exact a)
    have b' := hc (i * 3 + 1) _ (by rw [List.getElem?_append_left (by omega)]; exact b)
    have c' := hc (i * 3 + 2) _ (by rw [List.getElem?_append_left (by omega)]; exact c)
    rw [add_at] at a' b' c'
    exact ⟨by rw [Nat.zero_add]; rw [Nat.zero_add] at a'; exact a', by rw [Nat.zero_add]; rw [Nat.zero_add] at b'; exact b', by rw [Nat.zero_add]; rw [Nat.zero_add] at c'; exact c'⟩
  · have := hc (L.length * 3) (.int .i64 7) (by rw [List.getElem?_append_right (by omega), hlen, Nat.sub_self]; rfl)
    rw [add_at, Nat.zero_add] at this; exact this
  · have := hc (L.length * 3 + 1) (.int .i64 0) (by rw [List.getElem?_append_right (by omega), hlen, show L.length * 3 + 1 - L.length * 3 = 1 by omega]; rfl)
    rw [add_at, Nat.zero_add] at this; exact this
  · have := hc (L.length * 3 + 2) (.string ⟨#[]⟩) (by rw [List.getElem?_append_right (by omega), hlen, show L.length * 3 + 2 - L.length * 3 = 2 by omega]; rfl)
    rw [add_at, Nat.zero_add] at this; exact this

/-- A row of cells that may be written. -/
def CellsE (w : World) (g n : Nat) : Prop := ∃ cur, w.heap[g]? = some (.cells cur 36 (0, 0)) ∧ n * 3 ≤ cur.size
theorem CellsE.cell {w : World} {g n k : Nat} (h : CellsE w g n) (hk : k < n) : ∃ v, w.cell? ⟨g, k * 3 + 2, none⟩ = some v := by
  obtain ⟨cur, hg, hn⟩ := h
  exact ⟨cur[k * 3 + 2]'(by omega), by rw [cell_of_row w g (k * 3 + 2) cur _ _ hg]; simp [show k * 3 + 2 < cur.size by omega]⟩
theorem CellsE.free {w : World} {g n : Nat} (h : CellsE w g n) (k : Nat) : w.frozen? ⟨g, k, none⟩ = false := by
  obtain ⟨cur, hg, hn⟩ := h
  exact frozen_of_row w g k _ _ hg
theorem CellsE.set {w : World} {g n : Nat} (h : CellsE w g n) (k : Nat) (v : Value) : CellsE (w.setCell ⟨g, k, none⟩ v) g n := by
  obtain ⟨cur, hg, hn⟩ := h
  exact ⟨cur.setIfInBounds k v, heap_setCell_same w g k _ _ v hg, by simpa using hn⟩

/-- Behind stores into a row that a call made: nothing else has turned. -/
def WroteE (w wr : World) (x : Option Addr) (n lo hi : Nat) : Prop :=
  (n = 0 ∧ wr = w) ∨ ∃ g, x = some ⟨g, 0, none⟩ ∧ lo ≤ g ∧ g < hi ∧ CellsE wr g n ∧ w.grownBy wr (some g)
theorem WroteE.start {w : World} {B hi : Nat} {x : Option Addr} {n c : Nat} {xs : List Value} (h : w.ownsRow B 36 3 (.slice x n c) n xs) (hhi : ∀ g o, x = some ⟨g, o, none⟩ → g < hi) : WroteE w w x n B hi := by
  rcases h.2 with ⟨_, h0⟩ | ⟨g, cap, cur, hv, hb, hg, hn, _, hs, _⟩
  · exact .inl ⟨h0, rfl⟩
  · injection hv with hx
    exact .inr ⟨g, hx, hb, hhi g 0 hx, ⟨cur, hg, by rw [hs]; exact Nat.mul_le_mul_right 3 hn⟩, World.grownBy.refl _ _⟩
theorem WroteE.below {w wr : World} {x : Option Addr} {n lo hi : Nat} (h : WroteE w wr x n lo hi) (hlo : lo ≤ w.heap.size) : Below lo w wr := by
  rcases h with ⟨_, rfl⟩ | ⟨g, _, hg, _, _, hw⟩
  · exact Below.refl _ _
  · exact (Below.refl _ _).grown hw hlo (fun k e => by cases e; exact hg)
theorem WroteE.owns {w wr : World} {x : Option Addr} {n lo hi b : Nat} (h : WroteE w wr x n lo hi) {e : TypeId} {size : Nat} {v : Value} {m : Nat} {xs : List Value} (ho : w.ownsRow b e size v m xs) (hb : hi ≤ b) : wr.ownsRow b e size v m xs := by
  rcases h with ⟨_, rfl⟩ | ⟨g, _, _, hg, _, hw⟩
  · exact ho
  · refine ho.kept hw ?_
    cases hv : v.ownBlock with
    | none => exact .inl rfl
    | some k =>
      have := (ho.lt k hv).1
      exact .inr (fun e => by have := Option.some.inj e; omega)
theorem EdI.wrote {w wr : World} {y x : Option Addr} {n lo hi : Nat} {L : List Ed} (h : EdI w x L) (hW : WroteE w wr y n lo hi) (hx : 0 < L.length → ∀ g o, x = some ⟨g, o, none⟩ → g < lo ∨ hi ≤ g) : EdI wr x L := by
  rcases hW with ⟨_, rfl⟩ | ⟨k, _, h1, h2, _, hw⟩
  · exact h
  · intro hn
    obtain ⟨g, o, he, hg, hc⟩ := h hn
    have hb := hw.block g hg (fun e => by have := Option.some.inj e; have := hx hn g o he; omega)
    have hcell : ∀ j, wr.cell? ⟨g, j, none⟩ = w.cell? ⟨g, j, none⟩ := fun j => World.cell?_of_block (a := ⟨g, j, none⟩) hb
    exact ⟨g, o, he, Nat.lt_of_lt_of_le hg hw.size, fun i hi' => ⟨(hcell _).trans (hc i hi').1, (hcell _).trans (hc i hi').2.1, (hcell _).trans (hc i hi').2.2⟩⟩
theorem WroteE.step {w wr : World} {g n lo hi k : Nat} (q1 : lo ≤ g) (q2 : g < hi) (hc : CellsE wr g n) (hw : w.grownBy wr (some g)) (v : Value) : WroteE w (wr.setCell ⟨g, k, none⟩ v) (some ⟨g, 0, none⟩) n lo hi :=
  .inr ⟨g, rfl, q1, q2, hc.set k v, ⟨hw.os, hw.tape, hw.output, by simpa [World.setCell] using hw.size, fun j hj hne => (Below.heap_setCell _ _ _ _ (fun e => hne (by rw [e]))).trans (hw.block j hj hne)⟩⟩

theorem undR_len (s : ByteArray) (L : List Ed) : (undR s L).length ≤ L.length := by
  unfold undR; split
  · rw [unW_len]; exact Nat.le_refl _
  · exact Nat.zero_le _
theorem tmR_len (s : ByteArray) (L : List Ed) : (tmR s L).length ≤ L.length := by
  unfold tmR; split
  · exact tmL_le s L
  · exact Nat.zero_le _
theorem owns_lt {w : World} {B e : Nat} {x : Option Addr} {n c m : Nat} {xs : List Value} (h : w.ownsRow B e 3 (.slice x n c) m xs) : ∀ g o, x = some ⟨g, o, none⟩ → g < w.heap.size := fun g o hx => (h.lt g (by rw [hx]; rfl)).2

set_option maxRecDepth 100000 in
set_option maxHeartbeats 8000000 in
theorem walk_SpanFresh (s : ByteArray) (a : Option Addr) (len cap : Nat) (Z : List Ed) (w : World) (_ : s.size ≤ 140737488351232) (h : EdArg w a len cap Z) (hz : cap * 32 ≤ 140737488351232 ∧ ∀ i, i < Z.length → (nthE Z i).x.size ≤ 140737488351232) :
    Calls Try.prog 10 #[.string s, .slice a len cap] w fun e w' => e = .returned (.bool true) ∧ Below w.heap.size w w' := by
  have hl := h.len_eq
  have hr := h.read
  have hlc := h.2.1
  have hlen : len * 32 ≤ 140737488351232 := by omega
  have hs := sizes_take (n := len) hz.2 (by omega)
  obtain ⟨i0, hi, hz0, hz1, hz2⟩ := info_parts info_edit
  have hh := Lib.hid h
  clear h
  go_enter Try.func10, Try.ntmps10
  go_wp2_with (at_make; refine wpList_make_own _ rfl _ _ 22 rfl w.heap.size 36 i0 _ 3 Try.underlying22 hi hz0 hz1 _ _ _ (len + 1) rfl rfl (by omega) ?b1 ?b2 ?b3 ?_)
  case b1 => rw [hz2]; omega
  case b2 => unfold maxLen; omega
  case b3 => exact Nat.le_refl _
  intro w1 hown1 hgrow1
  have g1 : Below w.heap.size w w1 := (Below.refl _ _).grown hgrow1 (Nat.le_refl _) (fun k e => by cases e)
  have h1 : EdArg w1 a len cap Z := ⟨hh.out.1, hh.out.2.1, hh.out.2.2.1, hh.out.2.2.2.keep g1⟩
  obtain ⟨w2, hrun, hown2, hgrow2⟩ := fits_runE h1 hown1
  have g2 : Below w.heap.size w w2 := g1.grown hgrow2 g1.size (fun k e => by cases e; exact Nat.le_refl _)
  generalize Z.take len = L at hl hr hown2 hs
  have Hrun := Lib.hid hrun
  have Hr := Lib.hid hr
  have Hs := Lib.hid hs
  clear hrun hown1 hgrow1 hgrow2 h1 hh hr hs hz
  have tok1 : True := trivial
  go_wp2_with (first
    | (at_builtin; have _t := tok1; refine wpList_append_run rfl _ _ 22 rfl _ _ _ _ rfl rfl Hrun.out ?_; clear tok1 _t)
    | (at_builtin; refine wpList_append_fits _ rfl _ _ 22 rfl w.heap.size 36 i0 3 Try.underlying22 hi hz1 w.heap.size len (len + 1) _ rfl (hown2.alloc _) ⟨w2.heap.size, 0, none⟩ 1 1 [.int .i64 7, .int .i64 0, .string ⟨#[]⟩] rfl rfl ?c1 ?c2 (by omega) ?_))
  case c1 => exact World.news_of_block (cs := #[.int .i64 7, .int .i64 0, .string ⟨#[]⟩]) (t := 36) (fr := (0, 0)) (heap_alloc_new w2 _)
  case c2 => simp [Value.oneCell']
  intro w3 hown3 hgrow3
  have g3 : Below w.heap.size w w3 := (g2.alloc g2.size _).grown hgrow3 (by have := g2.size; simp; omega) (fun k e => by cases e; exact Nat.le_refl _)
  subst hl
  have hG : GivenE w3 w.heap.size L := givenE_of hown3
  have s0 : w.heap.size < w3.heap.size := hG.1
  have hll : L.length * 32 ≤ 140737488355328 := by omega
  have hR3 := Hr.out.keep g3
  have Hb3 := Lib.hid g3
  have s3 := g3.size
  have hnU := undR_len s L
  have hnT := tmR_len s L
  clear hown3 hgrow3 hown2 Hrun g1 g2 g3 hi hz0 hz1 hz2
  have Ha : ∀ g o, a = some ⟨g, o, none⟩ → 0 < L.length → g < w.heap.size := fun g o e hn => by
    obtain ⟨g', o', e', hg, _⟩ := Hr.out hn
    rw [e] at e'; cases e'; exact hg
  have HA := Lib.hid Ha
  clear Ha
  go_wp2_with fail
  refine (undo_any s _ (L.length + 1) L w3 hG.2.1 hll Hs.out).mono ?_
  rintro e w4 ⟨va, rfl, oa, g4⟩
  obtain ⟨xa, ca, rfl, _, la⟩ := edI_of_owns oa
  have ua := owns_lt oa
  have hG4 := hG.keep g4
  have R4 := hR3.keep g4
  have Hb4 := Lib.hid (Hb3.out.trans (g4.mono s3))
  have s4 := g4.size
  clear hG hR3
  have Oa := Lib.hid oa
  have La := Lib.hid la
  have Ua := Lib.hid ua
  clear oa la ua g4
  go_wp2_with fail
  refine (undo_any s _ (L.length + 1) L w4 hG4.2.1 hll Hs.out).mono ?_
  rintro e w5 ⟨vb, rfl, ob, g5⟩
  obtain ⟨xb, cb, rfl, ib, lb⟩ := edI_of_owns ob
  have ub := owns_lt ob
  have hG5 := hG4.keep g5
  have R5 := R4.keep g5
  have Oa5 := Lib.hid (owns_below Oa.out g5)
  have Hb5 := Lib.hid (Hb4.out.trans (g5.mono (by omega)))
  have s5 := g5.size
  have Ib := Lib.hid ib
  have Lb := Lib.hid lb
  have Ub := Lib.hid ub
  clear hG4 R4 Oa ob ib lb ub g5
  go_wp2_with fail
  refine (trim_any s _ (L.length + 1) L w5 hG5.2.1 hll Hs.out).mono ?_
  rintro e w6 ⟨vc, rfl, oc, g6⟩
  obtain ⟨xc, cc, rfl, _, lc⟩ := edI_of_owns oc
  have uc := owns_lt oc
  have hG6 := hG5.keep g6
  have R6 := R5.keep g6
  have Oa6 := Lib.hid (owns_below Oa5.out g6)
  have Ib6 := Lib.hid (Ib.out.keep g6)
  have Hb6 := Lib.hid (Hb5.out.trans (g6.mono (by omega)))
  have s6 := g6.size
  have Oc := Lib.hid oc
  have Lc := Lib.hid lc
  have Uc := Lib.hid uc
  clear hG5 R5 Oa5 Ib oc lc uc g6
  go_wp2_with fail
  refine (trim_any s _ (L.length + 1) L w6 hG6.2.1 hll Hs.out).mono ?_
  rintro e w7 ⟨vd, rfl, od, g7⟩
  obtain ⟨xd, cd, rfl, id, ld⟩ := edI_of_owns od
  have ud := owns_lt od
  have HG7 := Lib.hid (hG6.keep g7)
  have R7 := Lib.hid (R6.keep g7)
  have Oa7 := Lib.hid (owns_below Oa6.out g7)
  have Oc7 := Lib.hid (owns_below Oc.out g7)
  have Ib7 := Lib.hid (Ib6.out.keep g7)
  have Hb7 := Lib.hid (Hb6.out.trans (g7.mono (by omega)))
  have s7 := g7.size
  have Id := Lib.hid id
  have Ld := Lib.hid ld
  clear hG6 R6 Oa6 Oc Ib6 od id ld ud g7
  have hW0 : WroteE w7 w7 xa (undR s L).length w3.heap.size w4.heap.size := WroteE.start Oa7.out Ua.out
  have HX := Lib.hid (fun w h1 => undo_any s a cap L w h1 hll Hs.out)
  have HY := Lib.hid (fun w h1 => rtrim_any s a cap L w h1 hll Hs.out)
  generalize undR s L = RU at *
  generalize tmR s L = RT at *
  go_wp2
  go_loopw [14] (fun i wr => ∃ k : Nat, k ≤ RU.length ∧ i = .int .i64 k ∧ WroteE w7 wr xa RU.length w3.heap.size w4.heap.size) (fun i _ => RU.length - (intOf i).toNat)
  case atStart => exact ⟨0, by omega, rfl, hW0⟩
  case round =>
    clear hW0
    obtain ⟨k, hk, rfl, hW⟩ := hrel
    by_cases hlt : k < RU.length
    · rcases hW with ⟨h0, _⟩ | ⟨g, rfl, q1, q2, hc, hw⟩
      · omega
      · obtain ⟨v0, hv0⟩ := hc.cell hlt
        have hf0 := hc.free (k * 3 + 2)
        have Hc := Lib.hid hc
        have b0 : (0 : Int) ≤ (k : Int) := by omega
        have b1 : (k : Int) < (RU.length : Int) := by omega
        clear hc
        go_wp2
        go_roundw
        case rel => exact ⟨k + 1, by omega, by go_num, WroteE.step q1 q2 Hc.out hw _⟩
        case measure => simp [intOf]; omega
    · have hbw := hW.below (show w3.heap.size ≤ w7.heap.size by omega)
      have Oc8 := Lib.hid (hW.owns Oc7.out (by omega))
      have Ib8 := Lib.hid (Ib7.out.wrote hW (fun _ g o e => .inr (Lb.out g o e)))
      have Id8 := Lib.hid (Id.out.wrote hW (fun _ g o e => .inr (by have := Ld.out g o e; omega)))
      have R8 := Lib.hid (R7.out.wrote hW (fun hn g o e => .inl (by have := HA.out g o e hn; omega)))
      have HG8 := Lib.hid (HG7.out.below hbw (by have := Hb4.out.size; have := HG7.out.1; omega))
      have Hb8 := Lib.hid (Hb7.out.trans (hbw.mono s3))
      have s8 := hbw.size
      clear hW hbw Oc7 Ib7 Id R7 HG7 Hb7 Oa7
      obtain ⟨w8, rfl⟩ : ∃ w8 : World, w8 = wr := ⟨_, rfl⟩
      have hW1 : WroteE w8 w8 xc RT.length w5.heap.size w6.heap.size := WroteE.start Oc8.out Uc.out
      go_wp2
      go_loopw [15] (fun i wr => ∃ k : Nat, k ≤ RT.length ∧ i = .int .i64 k ∧ WroteE w8 wr xc RT.length w5.heap.size w6.heap.size) (fun i _ => RT.length - (intOf i).toNat)
      case atStart => exact ⟨0, by omega, rfl, hW1⟩
      case round =>
        clear hW1
        obtain ⟨k, hk, rfl, hW⟩ := hrel
        by_cases hlt : k < RT.length
        · rcases hW with ⟨h0, _⟩ | ⟨g, rfl, q1, q2, hc, hw⟩
          · omega
          · obtain ⟨v0, hv0⟩ := hc.cell hlt
            have hf0 := hc.free (k * 3 + 2)
            have Hc := Lib.hid hc
            have b0 : (0 : Int) ≤ (k : Int) := by omega
            have b1 : (k : Int) < (RT.length : Int) := by omega
            clear hc
            go_wp2
            go_roundw
            case rel => exact ⟨k + 1, by omega, by go_num, WroteE.step q1 q2 Hc.out hw _⟩
            case measure => simp [intOf]; omega
        · have hbw := hW.below (show w5.heap.size ≤ w8.heap.size by omega)
          have Ib9 := Lib.hid (Ib8.out.wrote hW (fun _ g o e => .inl (Ub.out g o e)))
          have Id9 := Lib.hid (Id8.out.wrote hW (fun _ g o e => .inr (Ld.out g o e)))
          have R9 := Lib.hid (R8.out.wrote hW (fun hn g o e => .inl (by have := HA.out g o e hn; omega)))
          have HG9 := Lib.hid (HG8.out.below hbw (by omega))
          have Hb9 := Lib.hid (Hb8.out.trans (hbw.mono (by omega)))
          have s9 := hbw.size
          clear hW hbw Oc8 Ib8 Id8 R8 HG8 Hb8
          go_wp2_with fail
          refine (HX.out wr R9.out).mono ?_
          rintro e u1 ⟨vx, rfl, ox, m1⟩
          obtain ⟨xx, cx, rfl, ix, _⟩ := edI_of_owns ox
          have Ib10 := Lib.hid (Ib9.out.keep m1)
          have Id10 := Lib.hid (Id9.out.keep m1)
          have Ix10 := Lib.hid ix
          have R10 := Lib.hid (R9.out.keep m1)
          have HG10 := Lib.hid (HG9.out.keep m1)
          have Hb10 := Lib.hid (Hb9.out.trans (m1.mono Hb9.out.size))
          clear ox ix m1 Ib9 Id9 R9 HG9
          go_wp2_with fail
          refine (HY.out u1 R10.out).mono ?_
          rintro e u2 ⟨vy, rfl, oy, m2⟩
          obtain ⟨xy, cy, rfl, iy, _⟩ := edI_of_owns oy
          have Ib11 := Lib.hid (Ib10.out.keep m2)
          have Id11 := Lib.hid (Id10.out.keep m2)
          have Ix11 := Lib.hid (Ix10.out.keep m2)
          have Iy11 := Lib.hid iy
          have R11 := Lib.hid (R10.out.keep m2)
          have HG11 := Lib.hid (HG10.out.keep m2)
          have Hb11 := Lib.hid (Hb10.out.trans (m2.mono Hb10.out.size))
          clear oy iy m2 Ib10 Id10 Ix10 R10 HG10
          go_wp2_with fail
          refine (fixed_any u2).mono ?_
          rintro e u3 ⟨rfl, m3⟩
          have Ib12 := Lib.hid (Ib11.out.keep m3)
          have Id12 := Lib.hid (Id11.out.keep m3)
          have Ix12 := Lib.hid (Ix11.out.keep m3)
          have Iy12 := Lib.hid (Iy11.out.keep m3)
          have R12 := Lib.hid (R11.out.keep m3)
          have HG12 := Lib.hid (HG11.out.keep m3)
          have Hb12 := Lib.hid (Hb11.out.trans (m3.mono Hb11.out.size))
          clear m3 Ib11 Id11 Ix11 Iy11 R11 HG11
          go_wp2_with fail
          refine (same_any xb xx cb cx RU u3 Ib12.out Ix12.out (by omega)).mono ?_
          rintro e u4 ⟨rfl, m4⟩
          have Id13 := Lib.hid (Id12.out.keep m4)
          have Iy13 := Lib.hid (Iy12.out.keep m4)
          have R13 := Lib.hid (R12.out.keep m4)
          have HG13 := Lib.hid (HG12.out.keep m4)
          have Hb13 := Lib.hid (Hb12.out.trans (m4.mono Hb12.out.size))
          clear m4 Ib12 Ix12 Id12 Iy12 R12 HG12
          go_wp2_with fail
          refine (same_any xd xy cd cy RT u4 Id13.out Iy13.out (by omega)).mono ?_
          rintro e u5 ⟨rfl, m5⟩
          have R14 := Lib.hid (R13.out.keep m5)
          have HG14 := Lib.hid (HG13.out.keep m5)
          have Hb14 := Lib.hid (Hb13.out.trans (m5.mono Hb13.out.size))
          clear m5 Id13 Iy13 R13 HG13
          go_wp2_with fail
          refine (same_any _ a (L.length + 1) cap L u5 HG14.out.2.1 R14.out (by omega)).mono ?_
          rintro e u6 ⟨rfl, m6⟩
          have HG15 := HG14.out.keep m6
          have Hb15 := Lib.hid (Hb14.out.trans (m6.mono Hb14.out.size))
          obtain ⟨_, _, z0, z1, z2⟩ := HG15
          have hm := guard_edit
          have hq := fun w => run_equal_edit w 7 0 7 0 ⟨#[]⟩ ⟨#[]⟩
          rw [edEq_self] at hq
          have b0 : (0 : Int) ≤ (L.length : Int) := by omega
          have b1 : (L.length : Int) < (L.length : Int) + 1 := by omega
          clear m6 HG14 R14
          go_wp2
          go_ret
          exact ⟨rfl, Hb15.out⟩
end Go.Proofs.Ytckioinjgdjohaa
