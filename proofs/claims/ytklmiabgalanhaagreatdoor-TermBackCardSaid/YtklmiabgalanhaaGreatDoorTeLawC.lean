/- The walk of the law TermFresh. -/
import Derived.Test.YtklmiabgalanhaaGreatDoorTeLawB
import Derived.Deep.RegionHeld3
import Derived.OwnWalk
import Derived.Laws.MakeOwn
namespace Go.Proofs.YtklmiabgalanhaaGreatDoor
open Go.Shelf Go.RowKit Em Km
set_option maxRecDepth 100000
set_option linter.unusedVariables false
set_option linter.unusedSimpArgs false

theorem append_runP {P : Program} {w : World} {ops : Array Oper} {rest : List Oper} {o : Oper} {a : Act} {Q : Exit → Act → World → Prop} (hg : o.guard = none) (s x : Operand) (t : TypeId)
    (ho : o.op = .call { callee := .builtin .append, args := #[s, x], argTypes := #[t, t] }) (v u v' : Value) (w' : World) (hs : a.eval s = v) (hx : a.eval x = u)
    (hr : (Builtin.append_ #[t, t] o.type #[v, u]).run P w = .ok v' w') (h : wpList P ops Q rest (a.put o.dst v') w') : wpList P ops Q (o :: rest) a w := by
  refine wpList_plain hg fun K hK => ?_
  unfold Oper.wp execOp
  simp only [ho, resolve, invoke, builtin, Sem.run_bind, Sem.run_pure, Result.andThen_ok, List.map_toArray, List.map_cons, List.map_nil, hs, hx, hr]
  exact hK _ _ h

/-- 'append(made, l...)' into room that was made for it. -/
theorem fits_runP {W : World} {B g : Nat} {a : Option Addr} {cap : Nat} {L : List Pt} (h : PtI W a L) (h0 : a = none → cap = 0) (hown : W.ownsRow B 28 3 (.slice (some ⟨g, 0, none⟩) 0 (L.length + 1)) 0 []) :
    ∃ W', (Builtin.append_ #[22, 22] 22 #[.slice (some ⟨g, 0, none⟩) 0 (L.length + 1), .slice a L.length cap]).run Tryz.prog W = .ok (.slice (some ⟨g, 0, none⟩) L.length (L.length + 1)) W' ∧
      W'.ownsRow B 28 3 (.slice (some ⟨g, 0, none⟩) L.length (L.length + 1)) L.length (pCells L) ∧ W.grownBy W' (some g) := by
  obtain ⟨i0, hi, hz0, hz1, hz2⟩ := info_parts rd_info_part
  cases a with
  | none =>
    have hL : L = [] := by
      cases L with
      | nil => rfl
      | cons p q => obtain ⟨_, _, hx, _⟩ := h (by simp); cases hx
    have hc := h0 rfl
    subst hL hc
    have hrun := run_append_owned_none (P := Tryz.prog) W B 22 22 28 i0 3 Tryz.underlying22 hi _ 0 [] hown
    exact ⟨W, hrun, hown, World.grownBy.refl _ _⟩
  | some x =>
    obtain ⟨W', hrun, k2, k3⟩ := run_append_fits (P := Tryz.prog) W B 22 22 28 i0 3 Tryz.underlying22 hi hz1 g 0 (L.length + 1) [] hown x L.length cap (pCells L) (pCells_len L)
      (fun j v hv => by
        have hj : j < L.length * 3 := by have := (List.getElem?_eq_some_iff.1 hv).1; rw [pCells_len] at this; exact this
        obtain ⟨gl, ol, hx, hgl, hc⟩ := h (by omega)
        injection hx with hx
        subst hx
        have := cells_of_ptI hc 0 L.length (Nat.le_refl _) (by omega) j v (by rw [List.drop_zero, List.take_length]; exact hv)
        simpa using this) (pCells_one _) (by omega)
    simp only [Nat.zero_add, List.nil_append] at hrun k2
    exact ⟨W', hrun, k2, k3⟩

/-- What was made: the parts that came in, and one more behind them. -/
def GivenP (w : World) (g : Nat) (L : List Pt) : Prop := g < w.heap.size ∧ PtI w (some ⟨g, 0, none⟩) L ∧ w.cell? ⟨g, L.length * 3 + 2, none⟩ = some (.string ⟨#[63]⟩)
theorem GivenP.keep {w w' : World} {g : Nat} {L : List Pt} (h : GivenP w g L) (hb : Below w.heap.size w w') : GivenP w' g L :=
  ⟨Nat.lt_of_lt_of_le h.1 hb.size, h.2.1.keep hb, (hb.cell h.1).trans h.2.2⟩
theorem GivenP.below {w w' : World} {g B : Nat} {L : List Pt} (h : GivenP w g L) (hb : Below B w w') (hB : g < B) : GivenP w' g L := by
  refine ⟨Nat.lt_of_lt_of_le h.1 hb.size, fun hn => ?_, (hb.cell hB).trans h.2.2⟩
  obtain ⟨g', o, hx, hg, hc⟩ := h.2.1 hn
  injection hx with hx
  injection hx with e1 e2 _
  subst e1 e2
  exact ⟨g, 0, rfl, Nat.lt_of_lt_of_le hg hb.size, fun i hi => (hc i hi).keep hb hB⟩
theorem givenP_of {w : World} {B g c : Nat} {L : List Pt} (h : w.ownsRow B 28 3 (.slice (some ⟨g, 0, none⟩) (L.length + 1) c) (L.length + 1) (pCells L ++ [.int .u8 0, .int .i64 0, .string ⟨#[63]⟩])) : GivenP w g L := by
  have h' : w.ownsRow B 28 3 (.slice (some ⟨g, 0, none⟩) (L ++ [(⟨0, 0, ⟨#[63]⟩⟩ : Pt)]).length c) (L ++ [(⟨0, 0, ⟨#[63]⟩⟩ : Pt)]).length (pCells (L ++ [(⟨0, 0, ⟨#[63]⟩⟩ : Pt)])) := by
    rw [pCells_append, List.length_append]; exact h
  obtain ⟨_, hg⟩ := h.lt g rfl
  have hp := ptI_of_owns h'
  obtain ⟨g', o, hx, _, hc⟩ := hp (by simp)
  injection hx with hx
  injection hx with e1 e2 _
  subst e1 e2
  have hn : ∀ i, i < L.length → nthP (L ++ [(⟨0, 0, ⟨#[63]⟩⟩ : Pt)]) i = nthP L i := fun i hi => by rw [nthP_get (by simp; omega), nthP_get hi, List.getElem_append_left hi]
  have hl : nthP (L ++ [(⟨0, 0, ⟨#[63]⟩⟩ : Pt)]) L.length = ⟨0, 0, ⟨#[63]⟩⟩ := by unfold nthP; simp [List.getD]
  refine ⟨hg, fun _ => ⟨g, 0, rfl, hg, fun i hi => ?_⟩, ?_⟩
  · have := hc i (by simp; omega)
    rw [hn i hi] at this; exact this
  · have := hc L.length (by simp)
    rw [hl] at this
    have := this.2.2
    rw [Nat.zero_add] at this; exact this

/-- A row of parts that may be written. -/
def CellsP (w : World) (g n : Nat) : Prop := ∃ cur, w.heap[g]? = some (.cells cur 28 (0, 0)) ∧ n * 3 ≤ cur.size
theorem CellsP.cell {w : World} {g n k : Nat} (h : CellsP w g n) (hk : k < n * 3) : ∃ v, w.cell? ⟨g, k, none⟩ = some v := by
  obtain ⟨cur, hg, hn⟩ := h
  exact ⟨cur[k]'(by omega), by rw [cell_of_row w g k cur _ _ hg]; simp [show k < cur.size by omega]⟩
theorem CellsP.free {w : World} {g n : Nat} (h : CellsP w g n) (k : Nat) : w.frozen? ⟨g, k, none⟩ = false := by
  obtain ⟨cur, hg, hn⟩ := h
  exact frozen_of_row w g k _ _ hg
theorem CellsP.set {w : World} {g n : Nat} (h : CellsP w g n) (k : Nat) (v : Value) : CellsP (w.setCell ⟨g, k, none⟩ v) g n := by
  obtain ⟨cur, hg, hn⟩ := h
  exact ⟨cur.setIfInBounds k v, heap_setCell_same w g k _ _ v hg, by simpa using hn⟩
/-- Behind stores into a row of a call. -/
def WroteP (w wr : World) (x : Option Addr) (n lo : Nat) : Prop := Below lo w wr ∧ (n = 0 ∨ ∃ g, x = some ⟨g, 0, none⟩ ∧ lo ≤ g ∧ CellsP wr g n)

/-- The cut before the last of parts. -/
theorem cut_parts (A n : Nat) (w : World) : (Instr.slice 22 (.slice (some ⟨A, 0, none⟩) (n + 1) (n + 1)) none (some (.int .i64 (n : Int))) none).run Tryz.prog w = .ok (.slice (some ⟨A, 0, none⟩) n (n + 1)) w := by
  obtain ⟨i0, hi, hz0, hz1, hz2⟩ := info_parts rd_info_part
  have hu : Tryz.prog.underlying 22 = some (.slice (Tryz.prog.elem 22)) := by kernel_rfl
  have he : Tryz.prog.elem 22 = 28 := by kernel_rfl
  rw [run_slice_h w 22 (some ⟨A, 0, none⟩) (n + 1) (n + 1) hu .i64 (n : Int) (by omega) (by omega), he]
  simp [sizeOf, typeInfo, hi, Result.andThen, sliced, Addr.add]
/-- A Swap of the whole, loosely. -/
def SwF (xl xb : Option Addr) (cl cb : Nat) (L B : List Pt) : Prop :=
  ∀ w, Pw w xl L → Pw w xb B → Calls Tryz.prog 30 #[.slice xl L.length cl, .int .i64 0, .int .i64 1, .slice xb B.length cb] w fun e w' => ∃ (x : Option Addr) (n c : Nat) (E : Int), e = .returned (.tuple #[.slice x n c, .int .i64 E]) ∧ n ≤ B.length ∧ (E = 0 ∨ n = 0) ∧ WroteP w' w' x n w.heap.size ∧ Below w.heap.size w w'
theorem swf_any (xl xb : Option Addr) (cl cb : Nat) (L B : List Pt) (hcl : L.length ≤ cl) : SwF xl xb cl cb L B := by
  intro w hl hb
  by_cases ht : ¬ We L ∨ ∀ m, ¬ Rw B m
  · exact (swap_tree 0 1 xl xb cl cb L B w hl hb ht).mono fun e w' ⟨a, b⟩ => ⟨none, 0, 0, 8, a, by omega, .inr rfl, ⟨Below.refl _ _, .inl rfl⟩, by rw [b]; exact Below.refl _ _⟩
  · have hw : We L := Classical.byContradiction fun h => ht (.inl h)
    obtain ⟨m, hm⟩ : ∃ m, Rw B m := Classical.byContradiction fun h => ht (.inr fun m hm => h ⟨m, hm⟩)
    by_cases h1 : m = 1
    · subst h1
      refine (swap_root xl xb cl cb L B w hl hb hw hm hcl).mono ?_
      rintro e w' ⟨g, he, hg, hr, hbl⟩
      exact ⟨_, _, _, 0, he, Nat.le_refl _, .inl rfl, ⟨Below.refl _ _, .inr ⟨g, rfl, hg, _, hr, by simp [pCells_len]⟩⟩, hbl⟩
    · exact (swap_arg 0 1 m xl xb cl cb L B w hl hb hw hm (.inr ⟨rfl, .inr h1⟩)).mono fun e w' ⟨a, b⟩ => ⟨none, 0, 0, 1, a, by omega, .inr rfl, ⟨Below.refl _ _, .inl rfl⟩, by rw [b]; exact Below.refl _ _⟩
/-- Show and Kids, loosely. -/
theorem shows_any (x : Option Addr) (c : Nat) (L : List Pt) (w : World) (hr : Pw w x L) (hk8 : ∀ i, i < L.length → (nthP L i).k < 256) (hx : ∀ i, i < L.length → (nthP L i).x.size ≤ 140737488355328) (hs : Snt w) :
    Calls Tryz.prog 24 #[.slice x L.length c] w fun e w' => (∃ v, e = .returned v) ∧ Below w.heap.size w w' := by
  by_cases h : We L
  · exact (show_any x c L w hr h hk8 hx hs).mono fun e w' ⟨a, b⟩ => ⟨⟨_, a⟩, b⟩
  · exact (show_bad x c L w hr h).mono fun e w' ⟨a, b⟩ => ⟨⟨_, a⟩, by rw [b]; exact Below.refl _ _⟩
theorem kids0_any (x : Option Addr) (c : Nat) (L : List Pt) (w : World) (hr : Pw w x L) :
    Calls Tryz.prog 19 #[.slice x L.length c, .int .i64 0] w fun e w' => (∃ v, e = .returned v) ∧ Below w.heap.size w w' := by
  by_cases h : We L
  · exact (pkids_some 0 x c L w hr h.pos h).mono fun e w' ⟨v, a, _, b⟩ => ⟨⟨v, a⟩, b⟩
  · exact (pkids_none 0 x c L w hr (fun hp => h hp.2.2)).mono fun e w' ⟨a, b⟩ => ⟨⟨_, a⟩, by rw [b]; exact Below.refl _ _⟩

set_option maxHeartbeats 4000000 in
theorem fresh_great (xl xb : Option Addr) (cl cb : Nat) (L B : List Pt) (w : World) (hs : Snt w) (hb : 300 < L.length ∨ 300 < B.length) :
    Calls Tryz.prog 10 #[.slice xl L.length cl, .slice xb B.length cb] w fun e w' => e = .returned (.bool true) ∧ Below w.heap.size w w' := by
  have HF := Lib.hid (fixed11_any w hs)
  clear hs
  by_cases h1 : 300 < L.length
  · have b0 : (300 : Int) < (L.length : Int) := by omega
    go_enter Tryz.func10, Tryz.ntmps10
    go_wp2_with fail
    refine HF.out.mono ?_
    rintro e w1 ⟨rfl, g1⟩
    have HG := Lib.hid g1
    clear g1
    go_wp2
    go_ret
    exact ⟨rfl, HG.out⟩
  · have b0 : ¬ (300 : Int) < (L.length : Int) := by omega
    have b1 : (300 : Int) < (B.length : Int) := by omega
    go_enter Tryz.func10, Tryz.ntmps10
    go_wp2_with fail
    refine HF.out.mono ?_
    rintro e w1 ⟨rfl, g1⟩
    have HG := Lib.hid g1
    clear g1
    go_wp2
    go_ret
    exact ⟨rfl, HG.out⟩

set_option maxHeartbeats 8000000 in
theorem fresh_small (xl xb : Option Addr) (cl cb : Nat) (L B : List Pt) (w : World) (hs : Snt w) (hl : PtI w xl L) (hb : PtI w xb B) (h1 : L.length ≤ 300) (h2 : B.length ≤ 300) (hcl : xl = none → cl = 0) (hcb : xb = none → cb = 0)
    (hk8 : ∀ i, i < L.length → (nthP L i).k < 256) (hx : ∀ i, i < L.length → (nthP L i).x.size ≤ 140737488355328) :
    Calls Tryz.prog 10 #[.slice xl L.length cl, .slice xb B.length cb] w fun e w' => e = .returned (.bool true) ∧ Below w.heap.size w w' := by
  obtain ⟨i0, hi, hz0, hz1, hz2⟩ := info_parts rd_info_part
  have a0 : ¬ (300 : Int) < (L.length : Int) := by omega
  have a1 : ¬ (300 : Int) < (B.length : Int) := by omega
  have HL := Lib.hid hl
  have HB := Lib.hid hb
  have HS := Lib.hid hs
  have HK := Lib.hid hk8
  have HX := Lib.hid hx
  clear hl hb hs hk8 hx
  go_enter Tryz.func10, Tryz.ntmps10
  go_wp2_with (at_make; refine wpList_make_own _ rfl _ _ 22 rfl w.heap.size 28 i0 _ 3 Tryz.underlying22 hi hz0 hz1 _ _ _ (L.length + 1) rfl rfl (by omega) ?b1 ?b2 ?b3 ?_)
  case b1 => first | omega | (rw [hz2]; omega)
  case b2 => unfold maxLen; omega
  try (case b3 => exact Nat.le_refl _)
  intro w1 hown1 hgrow1
  have g1 : Below w.heap.size w w1 := (Below.refl _ _).grown hgrow1 (Nat.le_refl _) (fun k e => by cases e)
  obtain ⟨w2, hrun, hown2, hgrow2⟩ := fits_runP (HL.out.keep g1) hcl hown1
  have g2 : Below w.heap.size w w2 := g1.grown hgrow2 g1.size (fun k e => by cases e; exact Nat.le_refl _)
  have Hrun := Lib.hid hrun
  clear hrun hown1 hgrow1 hgrow2
  have tok1 : True := trivial
  go_wp2_with (first
    | (at_builtin; have _t := tok1; refine append_runP rfl _ _ 22 rfl _ _ _ _ rfl rfl Hrun.out ?_; clear tok1 _t)
    | (at_builtin; refine wpList_append_fits _ rfl _ _ 22 rfl w.heap.size 28 i0 3 Tryz.underlying22 hi hz1 w.heap.size L.length (L.length + 1) _ rfl (hown2.alloc _) ⟨w2.heap.size, 0, none⟩ 1 1 [.int .u8 0, .int .i64 0, .string ⟨#[63]⟩] rfl rfl ?c1 ?c2 (by omega) ?_))
  case c1 => exact World.news_of_block (cs := #[.int .u8 0, .int .i64 0, .string ⟨#[63]⟩]) (t := 28) (fr := (0, 0)) (heap_alloc_new w2 _)
  case c2 => simp [Value.oneCell']
  intro w3 hown3 hgrow3
  have g3 : Below w.heap.size w w3 := (g2.alloc g2.size _).grown hgrow3 (by have := g2.size; simp; omega) (fun k e => by cases e; exact Nat.le_refl _)
  have hG : GivenP w3 w.heap.size L := givenP_of hown3
  have HG := Lib.hid hG
  have G3 := Lib.hid g3
  have HL3 := Lib.hid (HL.out.keep g3)
  have HB3 := Lib.hid (HB.out.keep g3)
  clear hown3 hgrow3 hown2 Hrun g1 g2 g3 hG
  -- the second
  go_wp2_with (at_make; refine wpList_make_own _ rfl _ _ 22 rfl w3.heap.size 28 i0 _ 3 Tryz.underlying22 hi hz0 hz1 _ _ _ (B.length + 1) rfl rfl (by omega) ?d1 ?d2 ?d3 ?_)
  case d1 => first | omega | (rw [hz2]; omega)
  case d2 => unfold maxLen; omega
  try (case d3 => exact Nat.le_refl _)
  intro w4 hown4 hgrow4
  have g4 : Below w3.heap.size w3 w4 := (Below.refl _ _).grown hgrow4 (Nat.le_refl _) (fun k e => by cases e)
  obtain ⟨w5, hrun, hown5, hgrow5⟩ := fits_runP (HB3.out.keep g4) hcb hown4
  have g5 : Below w3.heap.size w3 w5 := g4.grown hgrow5 g4.size (fun k e => by cases e; exact Nat.le_refl _)
  have Hrun := Lib.hid hrun
  clear hrun hown4 hgrow4 hgrow5
  have tok2 : True := trivial
  go_wp2_with (first
    | (at_builtin; have _t := tok2; refine append_runP rfl _ _ 22 rfl _ _ _ _ rfl rfl Hrun.out ?_; clear tok2 _t)
    | (at_builtin; refine wpList_append_fits _ rfl _ _ 22 rfl w3.heap.size 28 i0 3 Tryz.underlying22 hi hz1 w3.heap.size B.length (B.length + 1) _ rfl (hown5.alloc _) ⟨w5.heap.size, 0, none⟩ 1 1 [.int .u8 0, .int .i64 0, .string ⟨#[63]⟩] rfl rfl ?e1 ?e2 (by omega) ?_))
  case e1 => exact World.news_of_block (cs := #[.int .u8 0, .int .i64 0, .string ⟨#[63]⟩]) (t := 28) (fr := (0, 0)) (heap_alloc_new w5 _)
  case e2 => simp [Value.oneCell']
  intro w6 hown6 hgrow6
  have g6 : Below w3.heap.size w3 w6 := (g5.alloc g5.size _).grown hgrow6 (by have := g5.size; simp; omega) (fun k e => by cases e; exact Nat.le_refl _)
  have hG6 : GivenP w6 w3.heap.size B := givenP_of hown6
  have HA6 := Lib.hid (HG.out.keep g6)
  have HC6 := Lib.hid hG6
  have G6 := Lib.hid (G3.out.trans (g6.mono G3.out.size))
  have HL6 := Lib.hid (HL3.out.keep g6)
  have HB6 := Lib.hid (HB3.out.keep g6)
  obtain ⟨A, hA⟩ : ∃ A, w.heap.size = A := ⟨_, rfl⟩
  obtain ⟨C, hC⟩ : ∃ C, w3.heap.size = C := ⟨_, rfl⟩
  rw [hA] at HA6 ⊢
  rw [hC] at HC6 ⊢
  have HEA := Lib.hid hA
  have HEC := Lib.hid hC
  clear hown6 hgrow6 hown5 Hrun g4 g5 g6 hG6 HG HL3 HB3 hi hz0 hz1 hz2 hA hC
  have hSw := swf_any (some ⟨A, 0, none⟩) (some ⟨C, 0, none⟩) (L.length + 1) (B.length + 1) L B (by omega)
  have HSw := Lib.hid hSw
  clear hSw
  go_upto_region 5 with fail
  go_cut [7, 8] from 37 to 48 (fun av ev wr => ∃ (x : Option Addr) (n c : Nat) (E : Int), av = .slice x n c ∧ ev = .int .i64 E ∧ n ≤ B.length ∧ (E = 0 ∨ n = 0) ∧ WroteP wr wr x n w6.heap.size ∧ Below w6.heap.size w6 wr)
  case first =>
    have HD : Hid (Below w6.heap.size w6 w6.drew) := Lib.hid ⟨rfl, rfl, rfl, Nat.le_refl _, fun _ _ => rfl⟩
    have hs1 := cut_parts A L.length
    have hs2 := cut_parts C B.length
    go_region_held3 (fun w' => True) (first | exact trivial)
      ((go_at_call 30; refine (HSw.out _ ⟨HA6.out.2.1.keep HD.out, by omega⟩ ⟨HC6.out.2.1.keep HD.out, by omega⟩).mono ?_; rintro e w7 ⟨x, n, c, E, rfl, q1, q2, q3, q4⟩))
    all_goals
      have Q := Lib.hid (And.intro q1 (And.intro q2 (And.intro q3 (HD.out.trans q4))))
      clear q1 q2 q3 q4
      go_wp2_with fail
      go_meet
      exact ⟨x, n, c, E, rfl, rfl, Q.out.1, Q.out.2.1, Q.out.2.2.1, Q.out.2.2.2⟩
  case rest =>
  obtain ⟨x, n, c, E, rfl, rfl, hn, hE, hW, g7⟩ := hcut
  have hE2 := Lib.hid hE
  have HA7 := Lib.hid (HA6.out.keep g7)
  have HC7 := Lib.hid (HC6.out.keep g7)
  have HL7 := Lib.hid (HL6.out.keep g7)
  have HB7 := Lib.hid (HB6.out.keep g7)
  have G7 := Lib.hid (G6.out.trans (g7.mono G6.out.size))
  have hlt6 := Lib.hid (And.intro HA6.out.1 HC6.out.1)
  have hs6 := Lib.hid G6.out.size
  have HW := Lib.hid hW
  clear hE hW g7 HA6 HC6 HL6 HB6
  go_wp2
  go_loopw [9] (fun i wr => ∃ k : Nat, k ≤ n ∧ i = .int .i64 k ∧ WroteP wc wr x n w6.heap.size) (fun i _ => n - (intOf i).toNat)
  case atStart => exact ⟨0, by omega, rfl, HW.out⟩
  case round =>
    obtain ⟨k, hk, rfl, hW⟩ := hrel
    by_cases hlt : k < n
    · obtain ⟨hbl, hg⟩ := hW
      rcases hg with h0 | ⟨g, rfl, q1, hc⟩
      · omega
      · have Hb := Lib.hid hbl
        have Hc := Lib.hid hc
        have hf0 := hc.free (k * 3)
        have hf1 := hc.free (k * 3 + 1)
        have hf2 := hc.free (k * 3 + 2)
        obtain ⟨v0, hv0⟩ := hc.cell (k := k * 3) (by omega)
        obtain ⟨v1, hv1⟩ := hc.cell (k := k * 3 + 1) (by omega)
        obtain ⟨v2, hv2⟩ := hc.cell (k := k * 3 + 2) (by omega)
        have b0 : (0 : Int) ≤ (k : Int) := by omega
        have b1 : (k : Int) < (n : Int) := by omega
        clear hc hbl
        go_wp2
        go_roundw
        case rel => exact ⟨k + 1, by omega, by go_num, ⟨((Hb.out.setCell q1 _).setCell q1 _).setCell q1 _, .inr ⟨g, rfl, q1, ((Hc.out.set _ _).set _ _).set _ _⟩⟩⟩
        case measure => simp [intOf]; omega
    · have hbl := hW.1
      have HA8 := Lib.hid (HA7.out.below hbl hlt6.out.1)
      have HC8 := Lib.hid (HC7.out.below hbl hlt6.out.2)
      have G8 := Lib.hid (G7.out.trans (hbl.mono hs6.out))
      have hk2 : k = n := by omega
      clear hW hbl HA7 HC7 HL7 HB7 HSw HW
      subst hk2
      have t2 : ((⟨#[63]⟩ : ByteArray).toList == (⟨#[63]⟩ : ByteArray).toList) = true := beq_self_eq_true _
      have c0 : (0 : Int) ≤ (L.length : Int) := by omega
      have c1 : (L.length : Int) < (L.length : Int) + 1 := by omega
      have c2 : (0 : Int) ≤ (B.length : Int) := by omega
      have c3 : (B.length : Int) < (B.length : Int) + 1 := by omega
      have c4 : (L.length : Int) ≤ (L.length : Int) + 1 := by omega
      have c5 : (B.length : Int) ≤ (B.length : Int) + 1 := by omega
      go_wp2_with fail
      refine (shows_any (some ⟨A, 0, none⟩) (L.length + 1) L wr ⟨HA8.out.2.1, by omega⟩ HK.out HX.out (HS.out.keep G8.out)).mono ?_
      rintro e w9 ⟨⟨v9, rfl⟩, g9⟩
      have HA9 := Lib.hid (HA8.out.keep g9)
      have HC9 := Lib.hid (HC8.out.keep g9)
      have G9 := Lib.hid (G8.out.trans (g9.mono G8.out.size))
      clear g9 HA8 HC8
      go_wp2_with fail
      refine (kids0_any (some ⟨A, 0, none⟩) (L.length + 1) L w9 ⟨HA9.out.2.1, by omega⟩).mono ?_
      rintro e w10 ⟨⟨v10, rfl⟩, g10⟩
      have HA10 := Lib.hid (HA9.out.keep g10)
      have HC10 := Lib.hid (HC9.out.keep g10)
      have G10 := Lib.hid (G9.out.trans (g10.mono G9.out.size))
      clear g10 HA9 HC9
      go_wp2_with fail
      refine (fixed11_any w10 (HS.out.keep G10.out)).mono ?_
      rintro e w11 ⟨rfl, g11⟩
      have HA11 := Lib.hid (HA10.out.keep g11)
      have HC11 := Lib.hid (HC10.out.keep g11)
      have G11 := Lib.hid (G10.out.trans (g11.mono G10.out.size))
      clear g11 HA10 HC10
      have hend : Hid (∀ wf d, Below w.heap.size w wf → Below w.heap.size w (wf.drewN d)) := Lib.hid fun wf d h => below_draw h d
      by_cases hE0 : E = 0
      · subst hE0
        go_wp2_with fail
        have HL12 := Lib.hid (HL.out.keep G11.out)
        have HB12 := Lib.hid (HB.out.keep G11.out)
        refine (rsame_any (some ⟨A, 0, none⟩) xl (L.length + 1) cl L w11 HA11.out.2.1 HL12.out (by omega)).mono ?_
        rintro e w12 ⟨rfl, d, rfl⟩
        have hdd := drw_below d (w := w11)
        have HA12 := Lib.hid (HA11.out.keep hdd)
        have HC12 := Lib.hid (HC11.out.keep hdd)
        have HB13 := Lib.hid (HB12.out.keep hdd)
        have G12 := Lib.hid (G11.out.trans (hdd.mono G11.out.size))
        clear hdd HA11 HC11
        generalize w11.drewN d = w12 at HA12 HC12 HB13 G12 ⊢
        go_wp2_with fail
        refine (rsame_any (some ⟨C, 0, none⟩) xb (B.length + 1) cb B w12 HC12.out.2.1 HB13.out (by omega)).mono ?_
        rintro e w13 ⟨rfl, d, rfl⟩
        have hdd := drw_below d (w := w12)
        have HA13 := HA12.out.keep hdd
        have HC13 := HC12.out.keep hdd
        have G13 := Lib.hid (G12.out.trans (hdd.mono G12.out.size))
        clear hdd HA12 HC12
        generalize w12.drewN d = w13 at HA13 HC13 G13 ⊢
        have z0 := HA13.2.2
        have z1 := HC13.2.2
        go_wp2
        go_ret
        exact ⟨rfl, G13.out⟩
      · have hk0 : k = 0 := hE2.out.resolve_left hE0
        subst hk0
        have hEb : (E == 0) = false := beq_eq_false_iff_ne.2 hE0
        clear hE0
        go_wp2_with fail
        have HL12 := Lib.hid (HL.out.keep G11.out)
        have HB12 := Lib.hid (HB.out.keep G11.out)
        refine (rsame_any (some ⟨A, 0, none⟩) xl (L.length + 1) cl L w11 HA11.out.2.1 HL12.out (by omega)).mono ?_
        rintro e w12 ⟨rfl, d, rfl⟩
        have hdd := drw_below d (w := w11)
        have HA12 := Lib.hid (HA11.out.keep hdd)
        have HC12 := Lib.hid (HC11.out.keep hdd)
        have HB13 := Lib.hid (HB12.out.keep hdd)
        have G12 := Lib.hid (G11.out.trans (hdd.mono G11.out.size))
        clear hdd HA11 HC11
        generalize w11.drewN d = w12 at HA12 HC12 HB13 G12 ⊢
        go_wp2_with fail
        refine (rsame_any (some ⟨C, 0, none⟩) xb (B.length + 1) cb B w12 HC12.out.2.1 HB13.out (by omega)).mono ?_
        rintro e w13 ⟨rfl, d, rfl⟩
        have hdd := drw_below d (w := w12)
        have HA13 := HA12.out.keep hdd
        have HC13 := HC12.out.keep hdd
        have G13 := Lib.hid (G12.out.trans (hdd.mono G12.out.size))
        clear hdd HA12 HC12
        generalize w12.drewN d = w13 at HA13 HC13 G13 ⊢
        have z0 := HA13.2.2
        have z1 := HC13.2.2
        go_wp2
        go_ret
        exact ⟨rfl, G13.out⟩

theorem arg_kinds {w : World} {a : Option Addr} {len cap : Nat} {Z : List Pt} (h : PtArg w a len cap Z) : ∀ i, i < (Z.take len).length → (nthP (Z.take len) i).k < 256 := fun i hi => by
  have hl := h.len_eq
  obtain ⟨h1, h2, _, _, h5⟩ := h
  rw [nthP_take (by omega)]
  have := (h5 i (by omega)).2.2
  omega
theorem arg_words {w : World} {a : Option Addr} {len cap : Nat} {Z : List Pt} (h : PtArg w a len cap Z) (k : ∀ i, i < Z.length → (nthP Z i).x.size ≤ 140737488351232) : ∀ i, i < (Z.take len).length → (nthP (Z.take len) i).x.size ≤ 140737488355328 := fun i hi => by
  have hl := h.len_eq
  obtain ⟨h1, h2, _, _, h5⟩ := h
  rw [nthP_take (by omega)]
  have := k i (by omega)
  omega
/-- TermFresh. -/
theorem walk_TermFresh (a : Option Addr) (len cap : Nat) (Z : List Pt) (b : Option Addr) (lenB capB : Nat) (Y : List Pt) (w : World) (h : PtArg w a len cap Z) (hz : cap * 32 ≤ 140737488351232 ∧ ∀ i, i < Z.length → (nthP Z i).x.size ≤ 140737488351232) (k : PtArg w b lenB capB Y) (_ : capB * 32 ≤ 140737488351232 ∧ ∀ i, i < Y.length → (nthP Y i).x.size ≤ 140737488351232) (hs : Snt w) :
    Calls Tryz.prog 10 #[.slice a len cap, .slice b lenB capB] w fun e w' => e = .returned (.bool true) ∧ Below w.heap.size w w' := by
  have hl := h.len_eq
  have hR := h.read
  have hc := nil_cap h
  have hk8 := arg_kinds h
  have hx := arg_words h hz.2
  have kl := k.len_eq
  have kR := k.read
  have kc := nil_cap k
  obtain ⟨L, hL⟩ : ∃ L, Z.take len = L := ⟨_, rfl⟩
  obtain ⟨B, hB⟩ : ∃ B, Y.take lenB = B := ⟨_, rfl⟩
  rw [hL] at hl hR hk8 hx
  rw [hB] at kl kR
  subst hl kl
  by_cases hb : 300 < L.length ∨ 300 < B.length
  · exact fresh_great a b cap capB L B w hs hb
  · exact fresh_small a b cap capB L B w hs hR kR (by omega) (by omega) hc kc hk8 hx
end Go.Proofs.YtklmiabgalanhaaGreatDoor
