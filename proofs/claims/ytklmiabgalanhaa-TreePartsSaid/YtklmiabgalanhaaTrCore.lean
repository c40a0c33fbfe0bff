/- Nodes in memory; contracts of tree.has, fits, fitsIn. -/
import Derived.Test.YtklmiabgalanhaaRows
import Derived.Test.YtklmiabgalanhaaTrMath
import Derived.WalkKit
import Derived.WalkSpells
import Derived.WalkLawsBesides
import Derived.Outline
import Derived.Lib.Hide
import Derived.BigQuiet
import Derived.Below
import Derived.Deep.QuietTactic
import Derived.Deep.Cut
import Derived.Deep.CutRange
import Derived.Deep.RegionWith
import Derived.Deep.RegionHeld3
import Derived.Deep.AppendLies
import Derived.Deep.Slices
import Derived.Lib.SmallJoins
import Derived.Lib.OwnKind
namespace Go.Proofs.Ytklmiabgalanhaa
open Go.RowKit Km Tm
set_option maxRecDepth 100000
set_option linter.unusedVariables false

theorem ret_int {k : IntKind} {a b : Int} (h : a = b) : Ending.returned (.int k a) = .returned (.int k b) := by rw [h]
theorem ret_bool {a b : Bool} (h : a = b) : Ending.returned (.bool a) = .returned (.bool b) := by rw [h]
theorem below_drew {B : Nat} {w wr : World} (h : Below B w wr) : Below B w wr.drew := ⟨h.os, h.tape, h.output, h.size, fun i hi => h.block i hi⟩
theorem below_draw {B : Nat} {w wr : World} (h : Below B w wr) (n : Nat) : Below B w (wr.drewN n) := ⟨h.os, h.tape, h.output, h.size, fun i hi => h.block i hi⟩

/-- The node of a place. -/
def nthN (L : List Nd) (i : Nat) : Nd := L.getD i ⟨0, 0, 0, 0, 0⟩
theorem nthN_get {L : List Nd} {i : Nat} (h : i < L.length) : nthN L i = L[i] := by simp [nthN, h]
def ndV (x : Nd) : Value := .agg #[.int .u8 (x.k : Int), .int .i64 x.c, .int .i64 x.w, .int .i64 x.f, .int .i64 x.t]

/-- A node at an address. -/
def At5 (w : World) (g o : Nat) (x : Nd) : Prop :=
  w.cell? ⟨g, o, none⟩ = some (.int .u8 (x.k : Int)) ∧ w.cell? ⟨g, o + 1, none⟩ = some (.int .i64 x.c) ∧ w.cell? ⟨g, o + 2, none⟩ = some (.int .i64 x.w) ∧ w.cell? ⟨g, o + 3, none⟩ = some (.int .i64 x.f) ∧ w.cell? ⟨g, o + 4, none⟩ = some (.int .i64 x.t)
theorem At5.keep {w w' : World} {g o : Nat} {x : Nd} {B : Nat} (h : At5 w g o x) (hb : Below B w w') (hg : g < B) : At5 w' g o x :=
  ⟨(hb.cell hg).trans h.1, (hb.cell hg).trans h.2.1, (hb.cell hg).trans h.2.2.1, (hb.cell hg).trans h.2.2.2.1, (hb.cell hg).trans h.2.2.2.2⟩

/-- Nodes in memory, as they are read. -/
def NdI (w : World) (x : Option Addr) (L : List Nd) : Prop :=
  0 < L.length → ∃ g o, x = some ⟨g, o, none⟩ ∧ g < w.heap.size ∧ ∀ i, i < L.length → At5 w g (o + i * 5) (nthN L i)
theorem NdI.keep {w w' : World} {x : Option Addr} {L : List Nd} (h : NdI w x L) (hb : Below w.heap.size w w') : NdI w' x L := by
  intro hn
  obtain ⟨g, o, hx, hg, hc⟩ := h hn
  exact ⟨g, o, hx, Nat.lt_of_lt_of_le hg hb.size, fun i hi => (hc i hi).keep hb hg⟩
theorem NdI.at {w wr : World} {x : Option Addr} {L : List Nd} (h : NdI w x L) (hb : Below w.heap.size w wr) {k : Nat} (hk : k < L.length) :
    ∃ g o, x = some ⟨g, o, none⟩ ∧ g < w.heap.size ∧ At5 wr g (o + k * 5) (nthN L k) := by
  obtain ⟨g, o, hx, hg, hc⟩ := h (by omega)
  exact ⟨g, o, hx, hg, (hc k hk).keep hb hg⟩

/-- A node in a block of its own. -/
def NBox (w : World) (b : Nat) (x : Nd) : Prop := w.heap[b]? = some (.cells #[.int .u8 (x.k : Int), .int .i64 x.c, .int .i64 x.w, .int .i64 x.f, .int .i64 x.t] 35 (0, 0))
theorem NBox.lt {w : World} {b : Nat} {x : Nd} (h : NBox w b x) : b < w.heap.size := (Array.getElem?_eq_some_iff.1 h).1
theorem NBox.c0 {w : World} {b : Nat} {x : Nd} (h : NBox w b x) : w.cell? ⟨b, 0, none⟩ = some (.int .u8 (x.k : Int)) := by rw [cell_of_row w b 0 _ _ _ h]; rfl
theorem NBox.c1 {w : World} {b : Nat} {x : Nd} (h : NBox w b x) : w.cell? ⟨b, 1, none⟩ = some (.int .i64 x.c) := by rw [cell_of_row w b 1 _ _ _ h]; rfl
theorem NBox.c2 {w : World} {b : Nat} {x : Nd} (h : NBox w b x) : w.cell? ⟨b, 2, none⟩ = some (.int .i64 x.w) := by rw [cell_of_row w b 2 _ _ _ h]; rfl
theorem NBox.c3 {w : World} {b : Nat} {x : Nd} (h : NBox w b x) : w.cell? ⟨b, 3, none⟩ = some (.int .i64 x.f) := by rw [cell_of_row w b 3 _ _ _ h]; rfl
theorem NBox.c4 {w : World} {b : Nat} {x : Nd} (h : NBox w b x) : w.cell? ⟨b, 4, none⟩ = some (.int .i64 x.t) := by rw [cell_of_row w b 4 _ _ _ h]; rfl
theorem NBox.free {w : World} {b : Nat} {x : Nd} (h : NBox w b x) (i : Nat) : w.frozen? ⟨b, i, none⟩ = false := frozen_of_row w b i _ _ h
theorem NBox.keep {w w' : World} {b : Nat} {x : Nd} (h : NBox w b x) (hb : Below w.heap.size w w') : NBox w' b x := (hb.block b h.lt).trans h
theorem NBox.alloc {w : World} {b : Nat} {x : Nd} (h : NBox w b x) (o : Obj) : NBox (w.alloc o) b x := (heap_alloc_old w o h.lt).trans h
theorem nbox_new (w : World) (x : Nd) : NBox (w.alloc (.cells #[.int .u8 (x.k : Int), .int .i64 x.c, .int .i64 x.w, .int .i64 x.f, .int .i64 x.t] 35)) w.heap.size x := heap_alloc_new w _

set_option maxHeartbeats 1000000 in
theorem has_any (x : Nd) (t : Int) (w : World) :
    Calls Try.prog 27 #[ndV x, .int .i64 t] w fun e w' => e = .returned (.bool (decide (has x t))) ∧ Below w.heap.size w w' := by
  obtain ⟨k, c, W, f, u⟩ := x
  unfold ndV
  dsimp only
  by_cases h1 : f ≤ t
  · by_cases h2 : t < u
    · rw [show decide (has ⟨k, c, W, f, u⟩ t) = true from decide_eq_true ⟨h1, h2⟩]
      go_enter Try.func27, Try.ntmps27
      go_wp2
      go_ret
      exact ⟨rfl, (Below.refl _ _).alloc (Nat.le_refl _) _⟩
    · rw [show decide (has ⟨k, c, W, f, u⟩ t) = false from decide_eq_false (fun h => h2 h.2)]
      have h2 : u ≤ t := by omega
      go_enter Try.func27, Try.ntmps27
      go_wp2
      go_ret
      exact ⟨rfl, (Below.refl _ _).alloc (Nat.le_refl _) _⟩
  · rw [show decide (has ⟨k, c, W, f, u⟩ t) = false from decide_eq_false (fun h => h1 h.1)]
    go_enter Try.func27, Try.ntmps27
    go_wp2
    go_ret
    exact ⟨rfl, (Below.refl _ _).alloc (Nat.le_refl _) _⟩

set_option maxHeartbeats 4000000 in
theorem fits_any (x : Nd) (N : Int) (w : World) :
    Calls Try.prog 30 #[ndV x, .int .i64 N] w fun e w' => e = .returned (.bool (decide (fits x N))) ∧ Below w.heap.size w w' := by
  have Hh := fun w => has_any x x.w w
  obtain ⟨k, c, W, f, u⟩ := x
  unfold ndV at Hh ⊢
  dsimp only at Hh ⊢
  have hb0 := (Below.refl w.heap.size w).alloc (Nat.le_refl _) (.cells #[.int .u8 (k : Int), .int .i64 c, .int .i64 W, .int .i64 f, .int .i64 u] 35)
  have Hb0 := Lib.hid hb0
  have Hh := Lib.hid Hh
  clear hb0
  by_cases h1 : (k : Int) ≤ 68
  · by_cases h2 : 0 ≤ c
    · by_cases h3 : 0 ≤ f
      · by_cases h4 : f ≤ u
        · by_cases h5 : u ≤ N
          · by_cases h6 : W = -1
            · subst h6
              rw [show decide (fits ⟨k, c, -1, f, u⟩ N) = true from decide_eq_true ⟨by dsimp only; omega, h2, h3, h4, h5, .inl rfl⟩]
              go_enter Try.func30, Try.ntmps30
              go_wp2
              go_ret
              exact ⟨rfl, Hb0.out⟩
            · have e6 : (W == -1) = false := beq_eq_false_iff_ne.2 h6
              rw [show decide (fits ⟨k, c, W, f, u⟩ N) = decide (has ⟨k, c, W, f, u⟩ W) from decide_eq_decide.2 ⟨fun h => (h.2.2.2.2.2).resolve_left h6, fun h => ⟨by dsimp only; omega, h2, h3, h4, h5, .inr h⟩⟩]
              generalize decide (has ⟨k, c, W, f, u⟩ W) = B at Hh
              go_enter Try.func30, Try.ntmps30
              go_wp2_with fail
              refine (Hh.out _).mono ?_
              rintro e w1 ⟨rfl, b1⟩
              have B1 := Lib.hid (Hb0.out.trans (b1.mono Hb0.out.size))
              clear b1
              go_wp2
              go_ret
              exact ⟨rfl, B1.out⟩
          · rw [show decide (fits ⟨k, c, W, f, u⟩ N) = false from decide_eq_false (fun h => h5 h.2.2.2.2.1)]
            go_enter Try.func30, Try.ntmps30
            go_wp2
            go_ret
            exact ⟨rfl, Hb0.out⟩
        · rw [show decide (fits ⟨k, c, W, f, u⟩ N) = false from decide_eq_false (fun h => h4 h.2.2.2.1)]
          go_enter Try.func30, Try.ntmps30
          go_wp2
          go_ret
          exact ⟨rfl, Hb0.out⟩
      · rw [show decide (fits ⟨k, c, W, f, u⟩ N) = false from decide_eq_false (fun h => h3 h.2.2.1)]
        go_enter Try.func30, Try.ntmps30
        go_wp2
        go_ret
        exact ⟨rfl, Hb0.out⟩
    · rw [show decide (fits ⟨k, c, W, f, u⟩ N) = false from decide_eq_false (fun h => h2 h.2.1)]
      go_enter Try.func30, Try.ntmps30
      go_wp2
      go_ret
      exact ⟨rfl, Hb0.out⟩
  · rw [show decide (fits ⟨k, c, W, f, u⟩ N) = false from decide_eq_false (fun h => h1 (by have := h.1; dsimp only at this; omega))]
    go_enter Try.func30, Try.ntmps30
    go_wp2
    go_ret
    exact ⟨rfl, Hb0.out⟩

set_option maxHeartbeats 4000000 in
theorem fin_any (x p : Nd) (a : Int) (w : World) :
    Calls Try.prog 31 #[ndV x, ndV p, .int .i64 a] w fun e w' => e = .returned (.bool (decide (fin x p a))) ∧ Below w.heap.size w w' := by
  have Hh := fun w => has_any x p.w w
  obtain ⟨k, c, W, f, u⟩ := x
  obtain ⟨pk, pc, pw, pf, pu⟩ := p
  unfold ndV at Hh ⊢
  dsimp only at Hh ⊢
  have hb0 := ((Below.refl w.heap.size w).alloc (Nat.le_refl _) (.cells #[.int .u8 (k : Int), .int .i64 c, .int .i64 W, .int .i64 f, .int .i64 u] 35)).alloc (by simp) (.cells #[.int .u8 (pk : Int), .int .i64 pc, .int .i64 pw, .int .i64 pf, .int .i64 pu] 35)
  have Hb0 := Lib.hid hb0
  have Hh := Lib.hid Hh
  clear hb0
  by_cases h1 : a ≤ f
  · by_cases h2 : u ≤ pu
    · rw [show decide (fin ⟨k, c, W, f, u⟩ ⟨pk, pc, pw, pf, pu⟩ a) = !decide (has ⟨k, c, W, f, u⟩ pw) from by
        by_cases hh : has ⟨k, c, W, f, u⟩ pw
        · rw [decide_eq_true hh]; exact decide_eq_false (fun h => h.2.2 hh)
        · rw [decide_eq_false hh]; exact decide_eq_true ⟨h1, h2, hh⟩]
      generalize decide (has ⟨k, c, W, f, u⟩ pw) = B at Hh
      go_enter Try.func31, Try.ntmps31
      go_wp2_with fail
      refine (Hh.out _).mono ?_
      rintro e w1 ⟨rfl, b1⟩
      have B1 := Lib.hid (Hb0.out.trans (b1.mono Hb0.out.size))
      clear b1
      go_wp2
      go_ret
      exact ⟨rfl, B1.out⟩
    · rw [show decide (fin ⟨k, c, W, f, u⟩ ⟨pk, pc, pw, pf, pu⟩ a) = false from decide_eq_false (fun h => h2 h.2.1)]
      go_enter Try.func31, Try.ntmps31
      go_wp2
      go_ret
      exact ⟨rfl, Hb0.out⟩
  · rw [show decide (fin ⟨k, c, W, f, u⟩ ⟨pk, pc, pw, pf, pu⟩ a) = false from decide_eq_false (fun h => h1 h.1)]
    go_enter Try.func31, Try.ntmps31
    go_wp2
    go_ret
    exact ⟨rfl, Hb0.out⟩
end Go.Proofs.Ytklmiabgalanhaa
