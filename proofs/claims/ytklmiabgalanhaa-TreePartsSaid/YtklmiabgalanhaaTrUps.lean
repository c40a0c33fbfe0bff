/- Contract of tree.ups. -/
import Derived.Test.YtklmiabgalanhaaTrMem
namespace Go.Proofs.Ytklmiabgalanhaa
open Go.RowKit Km Tm
set_option maxRecDepth 100000
set_option linter.unusedVariables false

theorem info_open : (Try.prog.info? 43).map (fun i => (i.zero, i.size, i.bytes)) = some (some (.agg #[.int .i64 0, .int .i64 0, .int .i64 0]), 3, 24) := by kernel_rfl
theorem kinds_apart : 3 ≠ 43 := by decide
theorem kinds_apart2 : 35 ≠ 43 := by decide
theorem kinds_apart3 : 35 ≠ 3 := by decide

theorem wrap_pred (k : Nat) (h : k ≤ 4611686018427387904) : IntKind.i64.wrap ((k : Int) + 1 - 1) = (k : Int) := by rw [IntKind.wrap_i64]; omega
theorem wrap_nat (k : Nat) (h : k ≤ 4611686018427387904) : wrap64 (k : Int) = (k : Int) := by unfold wrap64; omega
/-- Open nodes in a row, the last one at its end. -/
def fRow : List Fr → List Value
  | [] => []
  | f :: r => fRow r ++ [.int .i64 (f.p : Int), .int .i64 f.l, .int .i64 f.b]
theorem fRow_len : ∀ (L : List Fr), (fRow L).length = L.length * 3
  | [] => rfl
  | f :: r => by rw [fRow, List.length_append, fRow_len r, List.length_cons]; simp; omega
theorem fRow_at (f : Fr) (r : List Fr) : (fRow (f :: r))[r.length * 3]? = some (.int .i64 (f.p : Int)) ∧ (fRow (f :: r))[r.length * 3 + 1]? = some (.int .i64 f.l) ∧ (fRow (f :: r))[r.length * 3 + 2]? = some (.int .i64 f.b) := by
  have e := fRow_len r
  unfold fRow
  refine ⟨?_, ?_, ?_⟩
  · rw [List.getElem?_append_right (by omega), e, Nat.sub_self]; rfl
  · rw [List.getElem?_append_right (by omega), e, show r.length * 3 + 1 - r.length * 3 = 1 by omega]; rfl
  · rw [List.getElem?_append_right (by omega), e, show r.length * 3 + 2 - r.length * 3 = 2 by omega]; rfl
theorem fRow_cut (f : Fr) (r : List Fr) : (fRow (f :: r)).take (r.length * 3) = fRow r := by
  have e := fRow_len r
  rw [show fRow (f :: r) = fRow r ++ [.int .i64 (f.p : Int), .int .i64 f.l, .int .i64 f.b] from rfl, ← e, List.take_left]
theorem fRow_set1 (f : Fr) (r : List Fr) (l : Int) : (fRow (f :: r)).set (r.length * 3 + 1) (.int .i64 l) = fRow (⟨f.p, l, f.b⟩ :: r) := by
  have e := fRow_len r
  unfold fRow
  rw [List.set_append_right _ _ (by omega), e, show r.length * 3 + 1 - r.length * 3 = 1 by omega]; rfl
theorem fRow_set2 (f : Fr) (r : List Fr) (b : Int) : (fRow (f :: r)).set (r.length * 3 + 2) (.int .i64 b) = fRow (⟨f.p, f.l, b⟩ :: r) := by
  have e := fRow_len r
  unfold fRow
  rw [List.set_append_right _ _ (by omega), e, show r.length * 3 + 2 - r.length * 3 = 2 by omega]; rfl

/-- The memory of ups: what is answered, the open nodes, the round's own node. -/
structure UpM (w wr : World) (bx : Option (Nat × Nd)) (v5 v6 : Value) (us : List Int) (st : List Fr) : Prop where
  up : wr.ownsRow w.heap.size 3 1 v5 us.length (iRow us)
  sk : wr.ownsRow w.heap.size 43 3 v6 st.length (fRow st)
  be : Below w.heap.size w wr
  bo : ∀ b x, bx = some (b, x) → NBox wr b x ∧ w.heap.size ≤ b
theorem UpM.keep {w wr w2 : World} {bx : Option (Nat × Nd)} {v5 v6 : Value} {us : List Int} {st : List Fr} (h : UpM w wr bx v5 v6 us st) (hb : Below wr.heap.size wr w2) : UpM w w2 bx v5 v6 us st :=
  ⟨owns_keep h.up hb, owns_keep h.sk hb, h.be.trans (hb.mono h.be.size), fun b x e => ⟨(h.bo b x e).1.keep hb, (h.bo b x e).2⟩⟩
theorem UpM.none {w wr : World} {bx : Option (Nat × Nd)} {v5 v6 : Value} {us : List Int} {st : List Fr} (h : UpM w wr bx v5 v6 us st) : UpM w wr .none v5 v6 us st :=
  ⟨h.up, h.sk, h.be, fun b x e => by cases e⟩
theorem UpM.box {w wr : World} {bx : Option (Nat × Nd)} {v5 v6 : Value} {us : List Int} {st : List Fr} (h : UpM w wr bx v5 v6 us st) (x : Nd) :
    UpM w (wr.alloc (.cells #[.int .u8 (x.k : Int), .int .i64 x.c, .int .i64 x.w, .int .i64 x.f, .int .i64 x.t] 35)) (some (wr.heap.size, x)) v5 v6 us st :=
  ⟨h.up.alloc _, h.sk.alloc _, h.be.alloc h.be.size _, fun b y e => by injection e with e; injection e with e1 e2; subst e1 e2; exact ⟨nbox_new wr x, h.be.size⟩⟩
theorem UpM.drew {w wr : World} {bx : Option (Nat × Nd)} {v5 v6 : Value} {us : List Int} {st : List Fr} (h : UpM w wr bx v5 v6 us st) : UpM w wr.drew bx v5 v6 us st :=
  ⟨h.up, h.sk, below_drew h.be, h.bo⟩
theorem nbox_apart {w : World} {b : Nat} {x : Nd} {base n size : Nat} {e : TypeId} {v : Value} {xs : List Value} (h : NBox w b x) (ho : w.ownsRow base e size v n xs) (hne : 35 ≠ e) : v.ownBlock ≠ some b := by
  intro hg
  obtain ⟨c, fz, a⟩ := Lib.ownsRow_kind ho b hg
  have h : w.heap[b]? = _ := h
  rw [h] at a
  injection a with a
  injection a with a1 a2
  exact hne a2
theorem UpM.set {w wr : World} {bx : Option (Nat × Nd)} {v5 : Value} {g c : Nat} {us : List Int} {st st' : List Fr} (h : UpM w wr bx v5 (.slice (some ⟨g, 0, .none⟩) st.length c) us st) (k : Nat) (u : Value) (hl : st'.length = st.length) (hs : (fRow st).set k u = fRow st') :
    UpM w (wr.setCell ⟨g, k, .none⟩ u) bx v5 (.slice (some ⟨g, 0, .none⟩) st.length c) us st' := by
  have hg := owns_cap h.sk
  refine ⟨owns_far h.up u (fun e => owns_apart h.up h.sk kinds_apart g e rfl), ?_, h.be.setCell hg.2.1 u, fun b x e => ⟨?_, (h.bo b x e).2⟩⟩
  · rw [hl, ← hs]; exact owns_set h.sk k u
  · have hbx := (h.bo b x e).1
    have hne : b ≠ g := fun e => nbox_apart hbx h.sk kinds_apart2 (by rw [e]; rfl)
    exact (Below.heap_setCell wr ⟨g, k, .none⟩ u b hne).trans hbx
theorem UpM.left {w wr : World} {bx : Option (Nat × Nd)} {v5 : Value} {g c : Nat} {us : List Int} {t : Fr} {r : List Fr} (h : UpM w wr bx v5 (.slice (some ⟨g, 0, .none⟩) (r.length + 1) c) us (t :: r)) (l : Int) :
    UpM w (wr.setCell ⟨g, r.length * 3 + 1, .none⟩ (.int .i64 l)) bx v5 (.slice (some ⟨g, 0, .none⟩) (r.length + 1) c) us (⟨t.p, l, t.b⟩ :: r) :=
  UpM.set (st := t :: r) h _ _ rfl (fRow_set1 t r l)
theorem UpM.behind {w wr : World} {bx : Option (Nat × Nd)} {v5 : Value} {g c : Nat} {us : List Int} {t : Fr} {r : List Fr} (h : UpM w wr bx v5 (.slice (some ⟨g, 0, .none⟩) (r.length + 1) c) us (t :: r)) (b : Int) :
    UpM w (wr.setCell ⟨g, r.length * 3 + 2, .none⟩ (.int .i64 b)) bx v5 (.slice (some ⟨g, 0, .none⟩) (r.length + 1) c) us (⟨t.p, t.l, b⟩ :: r) :=
  UpM.set (st := t :: r) h _ _ rfl (fRow_set2 t r b)
theorem UpM.pop {w wr : World} {bx : Option (Nat × Nd)} {v5 : Value} {g c : Nat} {us : List Int} {t : Fr} {r : List Fr} (h : UpM w wr bx v5 (.slice (some ⟨g, 0, .none⟩) (r.length + 1) c) us (t :: r)) :
    UpM w wr bx v5 (.slice (some ⟨g, 0, .none⟩) r.length c) us r := by
  refine ⟨h.up, ?_, h.be, h.bo⟩
  have := owns_cut h.sk (m := r.length) (by simp)
  rwa [fRow_cut] at this
theorem UpM.top {w wr : World} {bx : Option (Nat × Nd)} {v5 v6 : Value} {us : List Int} {t : Fr} {r : List Fr} (h : UpM w wr bx v5 v6 us (t :: r)) :
    ∃ g c, v6 = .slice (some ⟨g, 0, .none⟩) (r.length + 1) c ∧ r.length + 1 ≤ c ∧ g < wr.heap.size ∧ wr.cell? ⟨g, r.length * 3, .none⟩ = some (.int .i64 (t.p : Int)) ∧ wr.cell? ⟨g, r.length * 3 + 1, .none⟩ = some (.int .i64 t.l) ∧ wr.cell? ⟨g, r.length * 3 + 2, .none⟩ = some (.int .i64 t.b)
      ∧ ∀ k, wr.frozen? ⟨g, k, .none⟩ = false := by
  obtain ⟨y, c, rfl, hy⟩ := owns_form h.sk
  obtain ⟨g, rfl⟩ := hy (by simp)
  obtain ⟨a0, a1, a2⟩ := fRow_at t r
  have hc := owns_cap h.sk
  exact ⟨g, c, rfl, by simpa using hc.1, hc.2.2, owns_cell h.sk a0, owns_cell h.sk a1, owns_cell h.sk a2, fun k => owns_free h.sk k⟩
theorem UpM.pushU {w wr : World} {bx : Option (Nat × Nd)} {v5 v6 : Value} {us : List Int} {st : List Fr} (h : UpM w wr bx v5 v6 us st) (a : Int) (hl : (us.length + 1) * 8 ≤ 140737488355328) :
    ∃ (y : Option Addr) (c : Nat) (w2 : World), (Builtin.append_ #[30, 30] 30 #[v5, .slice (some ⟨wr.heap.size, 0, .none⟩) 1 1]).run Try.prog (wr.alloc (.cells #[.int .i64 a] 3)) = .ok (.slice y (us.length + 1) c) w2
      ∧ UpM w w2 bx (.slice y (us.length + 1) c) v6 (us ++ [a]) st := by
  obtain ⟨y, c, w2, hrun, hown, hgrow⟩ := push_int h.up a hl h.be.size
  refine ⟨y, c, w2, hrun, ?_, (h.sk.alloc _).kept hgrow ?_, (h.be.alloc h.be.size _).grown hgrow (by have := h.be.size; simp; omega) (fun k e => (h.up.lt k e).1), fun b x e => ⟨?_, (h.bo b x e).2⟩⟩
  · simpa using hown
  · cases hv : v6.ownBlock with
    | none => exact .inl rfl
    | some g => exact .inr (fun e => owns_apart h.up h.sk kinds_apart g e.symm hv)
  · have hbx := (h.bo b x e).1
    have hne := nbox_apart hbx h.up kinds_apart3
    exact (hgrow.block b (by have := hbx.lt; simp; omega) (fun e => hne e.symm)).trans (hbx.alloc _)
theorem UpM.pushS {w wr : World} {bx : Option (Nat × Nd)} {v5 v6 : Value} {us : List Int} {st : List Fr} (h : UpM w wr bx v5 v6 us st) (f : Fr) (hl : (st.length + 1) * 24 ≤ 140737488355328) :
    ∃ (y : Option Addr) (c : Nat) (w2 : World), (Builtin.append_ #[40, 40] 40 #[v6, .slice (some ⟨wr.heap.size, 0, .none⟩) 1 1]).run Try.prog (wr.alloc (.cells #[.int .i64 (f.p : Int), .int .i64 f.l, .int .i64 f.b] 43)) = .ok (.slice y (st.length + 1) c) w2
      ∧ UpM w w2 bx v5 (.slice y (st.length + 1) c) us (f :: st) := by
  obtain ⟨i0, hi, hz0, hz1, hz2⟩ := info_parts info_open
  obtain ⟨v', w2, hrun, hown, hgrow, _⟩ := run_append_own (P := Try.prog) (wr.alloc (.cells #[.int .i64 (f.p : Int), .int .i64 f.l, .int .i64 f.b] 43)) w.heap.size 40 40 43 i0 (.agg #[.int .i64 0, .int .i64 0, .int .i64 0]) 3 24 Try.underlying40 hi hz0 hz1 hz2 rfl (by decide) v6 st.length (fRow st) (h.sk.alloc _) ⟨wr.heap.size, 0, .none⟩ 1 1 [.int .i64 (f.p : Int), .int .i64 f.l, .int .i64 f.b]
    rfl (World.news_of_block (cs := #[.int .i64 (f.p : Int), .int .i64 f.l, .int .i64 f.b]) (t := 43) (fr := (0, 0)) (heap_alloc_new wr _)) (by simp [Value.oneCell']) (by unfold maxLen; omega) (by omega) (by have := h.be.size; simp; omega)
  obtain ⟨y, c, rfl, _⟩ := owns_form hown
  refine ⟨y, c, w2, hrun, (h.up.alloc _).kept hgrow ?_, by rw [List.length_cons]; exact hown, (h.be.alloc h.be.size _).grown hgrow (by have := h.be.size; simp; omega) (fun k e => (h.sk.lt k e).1), fun b x e => ⟨?_, (h.bo b x e).2⟩⟩
  · cases hv : v5.ownBlock with
    | none => exact .inl rfl
    | some g => exact .inr (fun e => owns_apart h.up h.sk kinds_apart g hv e.symm)
  · have hbx := (h.bo b x e).1
    have hne := nbox_apart hbx h.sk kinds_apart2
    exact (hgrow.block b (by have := hbx.lt; simp; omega) (fun e => hne e.symm)).trans (hbx.alloc _)

/-- fitsIn, with what stays. -/
theorem fin_held (x p : Nd) (a : Int) (w : World) (b g o gs os : Nat) (hb0 : w.cell? ⟨b, 0, none⟩ = some (.int .u8 (x.k : Int))) (hb1 : w.cell? ⟨b, 1, none⟩ = some (.int .i64 x.c)) (hb2 : w.cell? ⟨b, 2, none⟩ = some (.int .i64 x.w)) (hb3 : w.cell? ⟨b, 3, none⟩ = some (.int .i64 x.f)) (hb4 : w.cell? ⟨b, 4, none⟩ = some (.int .i64 x.t))
    (hp : At5 w g o p) (hs : w.cell? ⟨gs, os, none⟩ = some (.int .i64 a)) :
    Calls Try.prog 31 #[ndV x, ndV p, .int .i64 a] w fun e w' => e = .returned (.bool (decide (fin x p a))) ∧ w'.cell? ⟨b, 0, none⟩ = some (.int .u8 (x.k : Int)) ∧ w'.cell? ⟨b, 1, none⟩ = some (.int .i64 x.c) ∧ w'.cell? ⟨b, 2, none⟩ = some (.int .i64 x.w) ∧ w'.cell? ⟨b, 3, none⟩ = some (.int .i64 x.f) ∧ w'.cell? ⟨b, 4, none⟩ = some (.int .i64 x.t)
      ∧ w'.cell? ⟨g, o, none⟩ = some (.int .u8 (p.k : Int)) ∧ w'.cell? ⟨g, o + 1, none⟩ = some (.int .i64 p.c) ∧ w'.cell? ⟨g, o + 2, none⟩ = some (.int .i64 p.w) ∧ w'.cell? ⟨g, o + 3, none⟩ = some (.int .i64 p.f) ∧ w'.cell? ⟨g, o + 4, none⟩ = some (.int .i64 p.t)
      ∧ w'.cell? ⟨gs, os, none⟩ = some (.int .i64 a) ∧ Below w.heap.size w w' := by
  refine (fin_any x p a w).mono ?_
  rintro e w' ⟨rfl, hb⟩
  have k : ∀ {A : Addr} {v : Value}, w.cell? A = some v → w'.cell? A = some v := fun {A v} h => (hb.cell (World.block_lt_of_cell? w A h)).trans h
  obtain ⟨p0, p1, p2, p3, p4⟩ := hp
  exact ⟨rfl, k hb0, k hb1, k hb2, k hb3, k hb4, k p0, k p1, k p2, k p3, k p4, k hs, hb⟩
end Go.Proofs.Ytklmiabgalanhaa
