/- Rows of integers that the call has made itself, and that are written. -/
import Derived.Test.YtnkgbmnjehpkgabGreatNeMath
import Derived.Test.YtnkgbmnjehpkgabGreatGZ
import Derived.Test.YtnkgbmnjehpkgabGreatGV
import Derived.Test.YtnkgbmnjehpkgabGreatSeTokMath
namespace Go.Proofs.YtnkgbmnjehpkgabGreat
open Go.RowKit Em
set_option maxRecDepth 100000
set_option linter.unusedVariables false

/-- So many integers in a block. -/
def RI (w : World) (g : Nat) (ty : TypeId) (n : Nat) (q : Nat → Int) : Prop := ∃ cs : Array Value, w.heap[g]? = some (.cells cs ty (0, 0)) ∧ cs.size = n ∧ ∀ k, k < n → cs[k]? = some (.int .i64 (q k))
theorem RI.lt {w : World} {g : Nat} {ty : TypeId} {n : Nat} {q : Nat → Int} (h : RI w g ty n q) : g < w.heap.size := by
  obtain ⟨cs, h1, _⟩ := h; exact (Array.getElem?_eq_some_iff.1 h1).1
theorem RI.cell {w : World} {g : Nat} {ty : TypeId} {n : Nat} {q : Nat → Int} (h : RI w g ty n q) {k : Nat} (hk : k < n) : w.cell? ⟨g, k, none⟩ = some (.int .i64 (q k)) := by
  obtain ⟨cs, h1, _, h3⟩ := h
  rw [cell_of_row w g k _ _ _ h1]; exact h3 k hk
theorem RI.free {w : World} {g : Nat} {ty : TypeId} {n : Nat} {q : Nat → Int} (h : RI w g ty n q) (k : Nat) : w.frozen? ⟨g, k, none⟩ = false := by
  obtain ⟨cs, h1, _⟩ := h; exact frozen_of_row w g k _ _ h1
theorem RI.set {w : World} {g : Nat} {ty : TypeId} {n : Nat} {q : Nat → Int} (h : RI w g ty n q) (k : Nat) (v : Int) : RI (w.setCell ⟨g, k, none⟩ (.int .i64 v)) g ty n (upd q k v) := by
  obtain ⟨cs, h1, h2, h3⟩ := h
  refine ⟨cs.setIfInBounds k (.int .i64 v), heap_setCell_same w g k _ _ _ h1, by simpa using h2, fun j hj => ?_⟩
  rw [Array.getElem?_setIfInBounds]
  by_cases e : k = j
  · subst e; rw [if_pos rfl, if_pos (by omega), upd_same]
  · rw [if_neg e, upd_far _ _ (fun h => e h.symm)]; exact h3 j hj
theorem RI.far {w : World} {g : Nat} {ty : TypeId} {n : Nat} {q : Nat → Int} (h : RI w g ty n q) {p : Addr} (hp : g ≠ p.block) (v : Value) : RI (w.setCell p v) g ty n q := by
  obtain ⟨cs, h1, h2⟩ := h; exact ⟨cs, (Below.heap_setCell w p v g hp).trans h1, h2⟩
theorem RI.alloc {w : World} {g : Nat} {ty : TypeId} {n : Nat} {q : Nat → Int} (h : RI w g ty n q) (o : Obj) : RI (w.alloc o) g ty n q := by
  have hl := h.lt
  obtain ⟨cs, h1, h2⟩ := h; exact ⟨cs, (heap_alloc_old w o hl).trans h1, h2⟩
theorem RI.keep {w w' : World} {g : Nat} {ty : TypeId} {n : Nat} {q : Nat → Int} (h : RI w g ty n q) (hb : Below w.heap.size w w') : RI w' g ty n q := by
  have hl := h.lt
  obtain ⟨cs, h1, h2⟩ := h; exact ⟨cs, (hb.block g hl).trans h1, h2⟩
theorem RI.draw {w : World} {g : Nat} {ty : TypeId} {n : Nat} {q : Nat → Int} (h : RI w g ty n q) (d : Nat) : RI (w.drewN d) g ty n q := h
theorem RI.cong {w : World} {g : Nat} {ty : TypeId} {n : Nat} {q q' : Nat → Int} (h : RI w g ty n q) (hq : ∀ k, k < n → q k = q' k) : RI w g ty n q' := by
  obtain ⟨cs, h1, h2, h3⟩ := h; exact ⟨cs, h1, h2, fun k hk => by rw [← hq k hk]; exact h3 k hk⟩
theorem TkI.far {w : World} {x : Option Addr} {L : List Sc.Tk} (h : TkI w x L) {p : Addr} (hp : 0 < L.length → ∀ g, x = some ⟨g, 0, none⟩ → g ≠ p.block) (v : Value) : TkI (w.setCell p v) x L := by
  intro hn
  obtain ⟨g, hx, hg, hc⟩ := h hn
  have hne := hp hn g hx
  have hh := Below.heap_setCell w p v g hne
  have hcell : ∀ k, (w.setCell p v).cell? ⟨g, k, none⟩ = w.cell? ⟨g, k, none⟩ := fun k => World.cell?_setCell_other w p ⟨g, k, none⟩ v (fun e => hne (by rw [e]))
  refine ⟨g, hx, by simpa [World.setCell] using hg, fun i hi => ?_⟩
  rw [hcell, hcell, hcell]
  exact hc i hi
theorem TkI.alloc {w : World} {x : Option Addr} {L : List Sc.Tk} (h : TkI w x L) (o : Obj) : TkI (w.alloc o) x L := h.keep ((Below.refl _ _).alloc (Nat.le_refl _) o)
/-- A row of integers that is only read. -/
def IsF (w : World) (x : Option Addr) (n : Nat) (p : Nat → Int) : Prop := 0 < n → ∃ g, x = some ⟨g, 0, none⟩ ∧ g < w.heap.size ∧ ∀ i, i < n → w.cell? ⟨g, i, none⟩ = some (.int .i64 (p i))
theorem IsF.keep {w w' : World} {x : Option Addr} {n : Nat} {p : Nat → Int} (h : IsF w x n p) (hb : Below w.heap.size w w') : IsF w' x n p := by
  intro hn
  obtain ⟨g, hx, hg, hc⟩ := h hn
  exact ⟨g, hx, Nat.lt_of_lt_of_le hg hb.size, fun i hi => (hb.cell hg).trans (hc i hi)⟩
theorem IsF.cells {w : World} {x : Option Addr} {n : Nat} {p : Nat → Int} (h : IsF w x n p) {i : Nat} (hi : i < n) : ∃ g, x = some ⟨g, 0, none⟩ ∧ g < w.heap.size ∧ w.cell? ⟨g, i, none⟩ = some (.int .i64 (p i)) := by
  obtain ⟨g, hx, hg, hc⟩ := h (by omega)
  exact ⟨g, hx, hg, hc i hi⟩
theorem IsF.cong {w : World} {x : Option Addr} {n : Nat} {p q : Nat → Int} (h : IsF w x n p) (hq : ∀ k, k < n → p k = q k) : IsF w x n q := by
  intro hn
  obtain ⟨g, hx, hg, hc⟩ := h hn
  exact ⟨g, hx, hg, fun i hi => by rw [← hq i hi]; exact hc i hi⟩
theorem isF_of_ri {w : World} {g : Nat} {ty : TypeId} {n : Nat} {q : Nat → Int} (h : RI w g ty n q) : IsF w (some ⟨g, 0, none⟩) n q := fun _ => ⟨g, rfl, h.lt, fun i hi => h.cell hi⟩

/-- The memory of nest.Of: the result's box, the tokens, the partners, the open ones. -/
structure NeM (w wr : World) (b4 : Nat) (x1 : Option Addr) (T : List Sc.Tk) (bp bo : Nat) (tp to : TypeId) (q O : Nat → Int) : Prop where
  tk : TkI wr x1 T
  fb : FBox wr b4 0 0
  pr : RI wr bp tp T.length q
  op : RI wr bo to 100 O
  be : Below w.heap.size w wr
  o1 : w.heap.size ≤ b4
  o2 : b4 < bp
  o3 : bp < bo
  o4 : 0 < T.length → ∀ g, x1 = some ⟨g, 0, none⟩ → b4 < g ∧ g < bp
theorem NeM.alloc {w wr : World} {b4 : Nat} {x1 : Option Addr} {T : List Sc.Tk} {bp bo : Nat} {tp to : TypeId} {q O : Nat → Int} (h : NeM w wr b4 x1 T bp bo tp to q O) (o : Obj) : NeM w (wr.alloc o) b4 x1 T bp bo tp to q O :=
  ⟨h.tk.alloc o, h.fb.alloc o, h.pr.alloc o, h.op.alloc o, h.be.alloc h.be.size o, h.o1, h.o2, h.o3, h.o4⟩
theorem NeM.drew {w wr : World} {b4 : Nat} {x1 : Option Addr} {T : List Sc.Tk} {bp bo : Nat} {tp to : TypeId} {q O : Nat → Int} (h : NeM w wr b4 x1 T bp bo tp to q O) : NeM w wr.drew b4 x1 T bp bo tp to q O :=
  ⟨h.tk, h.fb, h.pr, h.op, below_draw' h.be 1, h.o1, h.o2, h.o3, h.o4⟩
theorem NeM.setP {w wr : World} {b4 : Nat} {x1 : Option Addr} {T : List Sc.Tk} {bp bo : Nat} {tp to : TypeId} {q O : Nat → Int} (h : NeM w wr b4 x1 T bp bo tp to q O) (k : Nat) (v : Int) : NeM w (wr.setCell ⟨bp, k, none⟩ (.int .i64 v)) b4 x1 T bp bo tp to (upd q k v) O := by
  have h1 := h.o1; have h2 := h.o2; have h3 := h.o3; have h4 := h.o4
  exact ⟨h.tk.far (fun hn g hg => by have := h4 hn g hg; show g ≠ bp; omega) _, h.fb.far (show b4 ≠ bp by omega) _, h.pr.set k v, h.op.far (show bo ≠ bp by omega) _, h.be.setCell (show w.heap.size ≤ bp by omega) _, h1, h2, h3, h4⟩
theorem NeM.setO {w wr : World} {b4 : Nat} {x1 : Option Addr} {T : List Sc.Tk} {bp bo : Nat} {tp to : TypeId} {q O : Nat → Int} (h : NeM w wr b4 x1 T bp bo tp to q O) (k : Nat) (v : Int) : NeM w (wr.setCell ⟨bo, k, none⟩ (.int .i64 v)) b4 x1 T bp bo tp to q (upd O k v) := by
  have h1 := h.o1; have h2 := h.o2; have h3 := h.o3; have h4 := h.o4
  exact ⟨h.tk.far (fun hn g hg => by have := h4 hn g hg; show g ≠ bo; omega) _, h.fb.far (show b4 ≠ bo by omega) _, h.pr.far (show bp ≠ bo by omega) _, h.op.set k v, h.be.setCell (show w.heap.size ≤ bo by omega) _, h1, h2, h3, h4⟩
theorem NeM.congP {w wr : World} {b4 : Nat} {x1 : Option Addr} {T : List Sc.Tk} {bp bo : Nat} {tp to : TypeId} {q q' O : Nat → Int} (h : NeM w wr b4 x1 T bp bo tp to q O) (hq : ∀ k, k < T.length → q k = q' k) : NeM w wr b4 x1 T bp bo tp to q' O :=
  ⟨h.tk, h.fb, h.pr.cong hq, h.op, h.be, h.o1, h.o2, h.o3, h.o4⟩
theorem brk_cases (x : List UInt8) : (brk x = 0 ∧ x ≠ [40] ∧ x ≠ [91] ∧ x ≠ [123] ∧ x ≠ [41] ∧ x ≠ [93] ∧ x ≠ [125]) ∨ (0 < brk x ∧ (x = [40] ∧ brk x = 1 ∨ x = [91] ∧ brk x = 2 ∨ x = [123] ∧ brk x = 3)) ∨ (brk x < 0 ∧ (x = [41] ∧ brk x = -1 ∨ x = [93] ∧ brk x = -2 ∨ x = [125] ∧ brk x = -3)) := by
  unfold brk
  by_cases h1 : x = [40]
  · subst h1; simp
  by_cases h2 : x = [91]
  · subst h2; simp
  by_cases h3 : x = [123]
  · subst h3; simp
  by_cases h4 : x = [41]
  · subst h4; simp
  by_cases h5 : x = [93]
  · subst h5; simp
  by_cases h6 : x = [125]
  · subst h6; simp
  · simp [h1, h2, h3, h4, h5, h6]
end Go.Proofs.YtnkgbmnjehpkgabGreat

