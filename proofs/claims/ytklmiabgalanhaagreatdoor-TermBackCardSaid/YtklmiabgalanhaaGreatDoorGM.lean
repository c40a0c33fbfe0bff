/- Contracts of the small methods of quoted's reader: one, next, say; control; class.Base of a byte. -/
import Derived.Test.YtklmiabgalanhaaGreatDoorGC
import Derived.Test.YtklmiabgalanhaaGreatDoorGL
import Derived.Lib.AppendStr
import Derived.Deep.QuietTactic
import Derived.BigQuiet
import Derived.RegionTactic
import Derived.Deep.OwnRows
import Derived.Deep.RegionLaw
import Derived.Deep.RegionWith
import Derived.BigRegion
import Derived.OwnWalk
import Derived.WalkSmall
import Derived.Shelf.Abstract
namespace Go.Proofs.YtklmiabgalanhaaGreatDoor
open Go.RowKit Em
set_option maxRecDepth 100000
set_option linter.unusedVariables false
set_option linter.unusedSimpArgs false

theorem grown_from {w w' : World} (h : Below w.heap.size w w') : w.grownBy w' none := ⟨h.os, h.tape, h.output, h.size, fun i hi _ => h.block i hi⟩
theorem own_below {w w' : World} {base : Nat} {e : TypeId} {size : Nat} {v : Value} {n : Nat} {xs : List Value} (h : w.ownsRow base e size v n xs) (hb : Below w.heap.size w w') : w'.ownsRow base e size v n xs :=
  h.kept (grown_from hb) (by cases v.ownBlock <;> simp)
theorem own_weaken {w : World} {base base' : Nat} {e : TypeId} {size : Nat} {v : Value} {n : Nat} {xs : List Value} (h : w.ownsRow base e size v n xs) (hb : base' ≤ base) : w.ownsRow base' e size v n xs := by
  refine ⟨h.1, ?_⟩
  rcases h.2 with h2 | ⟨g, cap, cur, a, b, c⟩
  · exact .inl h2
  · exact .inr ⟨g, cap, cur, a, by omega, c⟩
theorem own_far {w : World} {base : Nat} {e : TypeId} {size : Nat} {v : Value} {n : Nat} {xs : List Value} (h : w.ownsRow base e size v n xs) (a : Addr) (u : Value) (ha : a.block < base) : (w.setCell a u).ownsRow base e size v n xs := by
  refine ⟨h.1, ?_⟩
  rcases h.2 with h2 | ⟨g, cap, cur, hv, hb, hg, hr⟩
  · exact .inl h2
  · exact .inr ⟨g, cap, cur, hv, hb, (Below.heap_setCell _ _ _ _ (by omega)).trans hg, hr⟩

theorem below_drw {B : Nat} {w wr : World} (h : Below B w wr) (n : Nat) : Below B w (wr.drewN n) := ⟨h.os, h.tape, h.output, h.size, fun i hi => h.block i hi⟩

/-- The reader's block: its text, what is left of it, what it says. -/
structure Rd (w : World) (g : Nat) (s : ByteArray) (r T : List UInt8) : Prop where
  x : ∃ (p : Nat) (v : Value), p ≤ s.size ∧ (bl s).drop p = r ∧ w.heap[g]? = some (.cells #[.string s, .int .i64 p, v] 108 (0, 0)) ∧ w.ownsRow (g + 1) 5 1 v T.length (bCells T)

theorem Rd.keep {w w' : World} {g : Nat} {s : ByteArray} {r T : List UInt8} (h : Rd w g s r T) (hb : Below w.heap.size w w') : Rd w' g s r T := by
  obtain ⟨p, v, h1, h2, h3, h4⟩ := h.x
  exact ⟨p, v, h1, h2, (hb.block g (Array.getElem?_eq_some_iff.1 h3).1).trans h3, own_below h4 hb⟩
theorem Rd.draw {w : World} {g : Nat} {s : ByteArray} {r T : List UInt8} (h : Rd w g s r T) (n : Nat) : Rd (w.drewN n) g s r T := by
  obtain ⟨p, v, h1, h2, h3, h4⟩ := h.x
  exact ⟨p, v, h1, h2, h3, h4⟩
theorem Rd.lt {w : World} {g : Nat} {s : ByteArray} {r T : List UInt8} (h : Rd w g s r T) : g < w.heap.size := by
  obtain ⟨p, v, h1, h2, h3, h4⟩ := h.x
  exact (Array.getElem?_eq_some_iff.1 h3).1
/-- The cells, for the walks. -/
theorem Rd.cells {w : World} {g : Nat} {s : ByteArray} {r T : List UInt8} (h : Rd w g s r T) : ∃ (p : Nat) (v : Value), p ≤ s.size ∧ (bl s).drop p = r ∧ w.cell? ⟨g, 0, none⟩ = some (.string s) ∧ w.cell? ⟨g, 1, none⟩ = some (.int .i64 p) ∧ w.cell? ⟨g, 2, none⟩ = some v ∧ w.frozen? ⟨g, 1, none⟩ = false ∧ w.frozen? ⟨g, 2, none⟩ = false ∧ w.ownsRow (g + 1) 5 1 v T.length (bCells T) ∧ w.heap[g]? = some (.cells #[.string s, .int .i64 p, v] 108 (0, 0)) := by
  obtain ⟨p, v, h1, h2, h3, h4⟩ := h.x
  exact ⟨p, v, h1, h2, by rw [cell_of_row w g 0 _ _ _ h3]; rfl, by rw [cell_of_row w g 1 _ _ _ h3]; rfl, by rw [cell_of_row w g 2 _ _ _ h3]; rfl, frozen_of_row w g 1 _ _ h3, frozen_of_row w g 2 _ _ h3, h4, h3⟩
theorem Rd.setAt {w : World} {g : Nat} {s : ByteArray} {T : List UInt8} {p : Nat} {v : Value} (h3 : w.heap[g]? = some (.cells #[.string s, .int .i64 p, v] 108 (0, 0))) (h4 : w.ownsRow (g + 1) 5 1 v T.length (bCells T)) (q : Nat) (hq : q ≤ s.size) :
    Rd (w.setCell ⟨g, 1, none⟩ (.int .i64 q)) g s ((bl s).drop q) T :=
  ⟨q, v, hq, rfl, by rw [heap_setCell_same w g 1 _ _ _ h3]; rfl, own_far h4 _ _ (by simp)⟩

theorem bl_drop' (s : ByteArray) (p : Nat) (h : p < s.size) : (bl s).drop p = (s[p]'h) :: (bl s).drop (p + 1) := by
  have hl : p < (bl s).length := by rw [bl_size]; exact h
  rw [List.drop_eq_getElem_cons hl]
  rfl

/-- Does a byte stand ahead? -/
def hdN (b : Nat) : List UInt8 → Bool
  | [] => false
  | c :: _ => decide (c.toNat = b)

theorem hdN_at (s : ByteArray) (p : Nat) (h : p < s.size) (b : Nat) : hdN b ((bl s).drop p) = decide (byN s p = b) := by
  rw [bl_drop' s p h]
  unfold hdN
  rw [← byN_get s p h]

set_option maxHeartbeats 1000000 in
theorem one_is (g : Nat) (s : ByteArray) (r T : List UInt8) (b : Nat) (v : Bool) (w : World) (h : Rd w g s r T) (hb : b < 256) (hs : s.size ≤ 4611686018427387000) (hv : hdN b r = v) :
    Calls Tryz.prog 119 #[.pointer (some ⟨g, 0, none⟩), .int .u8 b] w fun e w' => e = .returned (.bool v) ∧ Rd w' g s (bif v then r.tail else r) T ∧ ∀ B, B ≤ g → Below B w w' := by
  obtain ⟨p, u, hp, hr, c0, c1, c2, f1, f2, ho, hh⟩ := h.cells
  have H := Lib.hid h
  have b0 : (0 : Int) ≤ (p : Int) := by omega
  clear h
  by_cases hps : p < s.size
  · have hlt : (p : Int) < (s.size : Int) := by omega
    have e1 := byN_get s p hps
    have l1 := byN_lt s p
    have hne : ((p : Int) == (s.size : Int)) = false := beq_eq_false_iff_ne.2 (by omega)
    rw [← hr, hdN_at s p hps] at hv
    have K1 := Lib.hid (Rd.setAt hh ho (p + 1) (by omega))
    have ht : r.tail = (bl s).drop (p + 1) := by rw [← hr, bl_drop' s p hps]; rfl
    have HT := Lib.hid ht
    have v1 : ((p + 1 : Nat) : Int) = (p : Int) + 1 := by push_cast; rfl
    rw [v1] at K1
    clear ht hr ho hh v1
    generalize byN s p = C at e1 l1 hv
    cases v with
    | true =>
      have hc : C = b := of_decide_eq_true hv
      subst hc
      have d1 : ((C : Int) != (C : Int)) = false := by simp
      have d2 : ((C : Int) == (C : Int)) = true := by simp
      clear hv
      go_enter Tryz.func119, Tryz.ntmps119
      go_wp2
      go_quiet (fail)
      go_wp2
      go_ret
      exact ⟨rfl, by rw [cond_true, HT.out]; exact K1.out.draw _, fun B hB => ((below_drw (Below.refl _ _) _).setCell hB _)⟩
    | false =>
      have hc : ¬ C = b := of_decide_eq_false hv
      have d1 : ((C : Int) != (b : Int)) = true := by simp; omega
      have d2 : ((C : Int) == (b : Int)) = false := beq_eq_false_iff_ne.2 (by omega)
      clear hv hc
      go_enter Tryz.func119, Tryz.ntmps119
      go_wp2
      go_quiet (fail)
      go_wp2
      go_ret
      exact ⟨rfl, H.out.draw _, fun B hB => below_drw (Below.refl _ _) _⟩
  · obtain rfl : p = s.size := by omega
    have hd0 : (bl s).drop s.size = [] := List.drop_eq_nil_of_le (by rw [bl_size]; omega)
    rw [hd0] at hr
    subst hr
    have : v = false := hv.symm
    subst this
    clear hd0
    go_enter Tryz.func119, Tryz.ntmps119
    go_wp2
    go_quiet (fail)
    go_wp2
    go_ret
    exact ⟨rfl, H.out.draw _, fun B hB => below_drw (Below.refl _ _) _⟩

theorem ret_bb {a c : Nat} {b d : Bool} (h : a = c) (h' : b = d) : Ending.returned (.tuple #[.int .u8 (a : Int), .bool b]) = .returned (.tuple #[.int .u8 (c : Int), .bool d]) := by rw [h, h']

/-- next, at the end. -/
theorem next_end (g : Nat) (s : ByteArray) (T : List UInt8) (w : World) (h : Rd w g s [] T) (hs : s.size ≤ 4611686018427387000) :
    Calls Tryz.prog 141 #[.pointer (some ⟨g, 0, none⟩)] w fun e w' => e = .returned (.tuple #[.int .u8 0, .bool false]) ∧ Rd w' g s [] T ∧ ∀ B, B ≤ g → Below B w w' := by
  obtain ⟨p, u, hp, hr, c0, c1, c2, f1, f2, ho, hh⟩ := h.cells
  have H := Lib.hid h
  have b0 : (0 : Int) ≤ (p : Int) := by omega
  have hps : p = s.size := by
    by_cases hlt : p < s.size
    · rw [bl_drop' s p hlt] at hr; cases hr
    · omega
  subst hps
  clear h hr ho hh
  go_enter Tryz.func141, Tryz.ntmps141
  go_wp2
  go_quiet (fail)
  go_wp2
  go_ret2
  exact ⟨rfl, H.out.draw _, fun B hB => below_drw (Below.refl _ _) _⟩

set_option maxHeartbeats 1000000 in
theorem next_some (g : Nat) (s : ByteArray) (c : UInt8) (r T : List UInt8) (w : World) (h : Rd w g s (c :: r) T) (hs : s.size ≤ 4611686018427387000) :
    Calls Tryz.prog 141 #[.pointer (some ⟨g, 0, none⟩)] w fun e w' => e = .returned (.tuple #[.int .u8 (c.toNat : Nat), .bool true]) ∧ Rd w' g s r T ∧ ∀ B, B ≤ g → Below B w w' := by
  obtain ⟨p, u, hp, hr, c0, c1, c2, f1, f2, ho, hh⟩ := h.cells
  have b0 : (0 : Int) ≤ (p : Int) := by omega
  have hps : p < s.size := by
    by_cases hlt : p < s.size
    · exact hlt
    · rw [List.drop_eq_nil_of_le (by rw [bl_size]; omega)] at hr; cases hr
  have hlt : (p : Int) < (s.size : Int) := by omega
  have hne : ((p : Int) == (s.size : Int)) = false := beq_eq_false_iff_ne.2 (by omega)
  rw [bl_drop' s p hps] at hr
  obtain ⟨hc, hr'⟩ := List.cons.inj hr
  have e1 : (s[p]'hps).toNat = c.toNat := by rw [hc]
  have l1 := c.toNat_lt
  have K1 := fun q => Lib.hid (Rd.setAt (w := w.drewN q) hh ho (p + 1) (by omega))
  have v1 : ((p + 1 : Nat) : Int) = (p : Int) + 1 := by push_cast; rfl
  simp only [hr', v1] at K1
  have k0 : (w.setCell ⟨g, 1, none⟩ (.int .i64 ((p : Int) + 1))).cell? ⟨g, 0, none⟩ = some (.string s) := by
    rw [cell_of_row _ g 0 _ _ _ (heap_setCell_same w g 1 _ _ _ hh)]; rfl
  have k1 : (w.setCell ⟨g, 1, none⟩ (.int .i64 ((p : Int) + 1))).cell? ⟨g, 1, none⟩ = some (.int .i64 ((p : Int) + 1)) := by
    rw [cell_of_row _ g 1 _ _ _ (heap_setCell_same w g 1 _ _ _ hh)]; rfl
  have w1 : IntKind.i64.wrap ((p : Int) + 1 - 1) = (p : Int) := by rw [IntKind.wrap_i64]; omega
  clear h hr ho hh v1 hr' hc
  generalize c.toNat = C at e1 l1 ⊢
  go_enter Tryz.func141, Tryz.ntmps141
  go_wp2
  go_quiet (fail)
  go_wp2
  go_quiet (fail)
  go_wp2
  go_ret2
  exact ⟨rfl, ((K1 _).out.draw _), fun B hB => below_drw (((below_drw (Below.refl _ _) _).setCell hB _)) _⟩

/-- control -/
def ctlV (n : Nat) : Int := match Qm.ctl n with | some v => (v : Int) | none => 0
def ctlB (n : Nat) : Bool := (Qm.ctl n).isSome

theorem control_any (n : Nat) (hn : n < 256) (w : World) :
    Calls Tryz.prog 157 #[.int .u8 n] w fun e w' => e = .returned (.tuple #[.int .i32 (ctlV n), .bool (ctlB n)]) ∧ w = w' := by
  by_cases h1 : n = 97
  · subst h1
    go_enter Tryz.func157, Tryz.ntmps157
    go_wp2
    go_ret2
    exact ⟨rfl, rfl⟩
  by_cases h2 : n = 98
  · subst h2
    go_enter Tryz.func157, Tryz.ntmps157
    go_wp2
    go_ret2
    exact ⟨rfl, rfl⟩
  by_cases h3 : n = 116
  · subst h3
    go_enter Tryz.func157, Tryz.ntmps157
    go_wp2
    go_ret2
    exact ⟨rfl, rfl⟩
  by_cases h4 : n = 110
  · subst h4
    go_enter Tryz.func157, Tryz.ntmps157
    go_wp2
    go_ret2
    exact ⟨rfl, rfl⟩
  by_cases h5 : n = 118
  · subst h5
    go_enter Tryz.func157, Tryz.ntmps157
    go_wp2
    go_ret2
    exact ⟨rfl, rfl⟩
  by_cases h6 : n = 102
  · subst h6
    go_enter Tryz.func157, Tryz.ntmps157
    go_wp2
    go_ret2
    exact ⟨rfl, rfl⟩
  by_cases h7 : n = 114
  · subst h7
    go_enter Tryz.func157, Tryz.ntmps157
    go_wp2
    go_ret2
    exact ⟨rfl, rfl⟩
  have hv : Qm.ctl n = none := by unfold Qm.ctl; rw [if_neg h1, if_neg h2, if_neg h3, if_neg h4, if_neg h5, if_neg h6, if_neg h7]
  have e1 : ctlV n = 0 := by unfold ctlV; rw [hv]
  have e2 : ctlB n = false := by unfold ctlB; rw [hv]; rfl
  rw [e1, e2]
  have D : ∀ k : Nat, n ≠ k → ((n : Int) == (k : Int)) = false := fun k h => beq_eq_false_iff_ne.2 (by omega)
  have d1 : ((n : Int) == 97) = false := D 97 h1
  have d2 : ((n : Int) == 98) = false := D 98 h2
  have d3 : ((n : Int) == 116) = false := D 116 h3
  have d4 : ((n : Int) == 110) = false := D 110 h4
  have d5 : ((n : Int) == 118) = false := D 118 h5
  have d6 : ((n : Int) == 102) = false := D 102 h6
  have d7 : ((n : Int) == 114) = false := D 114 h7
  clear D hv e1 e2
  go_enter Tryz.func157, Tryz.ntmps157
  go_wp2
  go_ret2
  exact ⟨rfl, rfl⟩

/-- What a byte says as a digit; -1: none. -/
def bsI (n : Nat) : Int := if 48 ≤ n ∧ n ≤ 57 then (n : Int) - 48 else if 97 ≤ n ∧ n ≤ 102 then (n : Int) - 97 + 10 else if 65 ≤ n ∧ n ≤ 70 then (n : Int) - 65 + 10 else -1
theorem bsI_dg (c : UInt8) : (Nm.dg c < 16 → bsI c.toNat = Nm.dg c) ∧ (¬ Nm.dg c < 16 → bsI c.toNat = -1) := by
  unfold bsI Nm.dg
  constructor
  · intro h
    repeat' split at h
    all_goals (repeat' split) <;> omega
  · intro h
    repeat' split at h
    all_goals (repeat' split) <;> omega

theorem base_byte (n : Nat) (hn : n < 256) (w : World) :
    Calls Tryz.prog 160 #[.int .i32 n] w fun e w' => e = .returned (.int .i64 (bsI n)) ∧ w = w' := by
  unfold bsI
  by_cases h1 : 48 ≤ n ∧ n ≤ 57
  · rw [if_pos h1]
    have a : (48 : Int) ≤ n := by omega
    have b : (n : Int) ≤ 57 := by omega
    go_enter Tryz.func160, Tryz.ntmps160
    go_wp2
    go_ret
    exact ⟨rfl, rfl⟩
  · rw [if_neg h1]
    by_cases h2 : 97 ≤ n ∧ n ≤ 102
    · rw [if_pos h2]
      have a : (97 : Int) ≤ n := by omega
      have b : (n : Int) ≤ 102 := by omega
      have c : ¬ (n : Int) ≤ 57 := by omega
      have c2 : (48 : Int) ≤ n := by omega
      have c3 : (65 : Int) ≤ n := by omega
      have c4 : ¬ (n : Int) ≤ 70 := by omega
      go_enter Tryz.func160, Tryz.ntmps160
      go_wp2
      go_ret
      exact ⟨rfl, rfl⟩
    · rw [if_neg h2]
      by_cases h3 : 65 ≤ n ∧ n ≤ 70
      · rw [if_pos h3]
        have a : (65 : Int) ≤ n := by omega
        have b : (n : Int) ≤ 70 := by omega
        have c : ¬ (n : Int) ≤ 57 := by omega
        have c2 : (48 : Int) ≤ n := by omega
        have c3 : ¬ (97 : Int) ≤ n := by omega
        go_enter Tryz.func160, Tryz.ntmps160
        go_wp2
        go_ret
        exact ⟨rfl, rfl⟩
      · rw [if_neg h3]
        go_enter Tryz.func160, Tryz.ntmps160
        go_wp2
        all_goals first | (exfalso; omega) | (go_ret; exact ⟨rfl, rfl⟩)
end Go.Proofs.YtklmiabgalanhaaGreatDoor

/- Contracts of quoted's reader: say, number. -/
namespace Go.Proofs.YtklmiabgalanhaaGreatDoor
open Go.RowKit Em Go.Shelf
set_option maxRecDepth 100000
set_option linter.unusedVariables false
set_option linter.unusedSimpArgs false

/-- Behind an append, and the store of what came of it. -/
theorem rd_put {w w2 : World} {g p : Nat} {s : ByteArray} {v v' : Value} {r T T' : List UInt8} (hh : w.heap[g]? = some (.cells #[.string s, .int .i64 p, v] 108 (0, 0)))
    (ho : w.ownsRow (g + 1) 5 1 v T.length (bCells T)) (h2 : w2.ownsRow (g + 1) 5 1 v' T'.length (bCells T')) (hg : w.grownBy w2 v.ownBlock) (hp : p ≤ s.size) (hr : (bl s).drop p = r) :
    w2.cell? ⟨g, 2, none⟩ = some v ∧ w2.frozen? ⟨g, 2, none⟩ = false ∧ Rd (w2.setCell ⟨g, 2, none⟩ v') g s r T' ∧ ∀ B, B ≤ g → Below B w (w2.setCell ⟨g, 2, none⟩ v') := by
  have hlt := (Array.getElem?_eq_some_iff.1 hh).1
  have hne : some g ≠ v.ownBlock := fun e => by have := (ho.lt _ e.symm).1; omega
  have hh2 : w2.heap[g]? = some (.cells #[.string s, .int .i64 p, v] 108 (0, 0)) := (hg.block g hlt hne).trans hh
  refine ⟨by rw [cell_of_row w2 g 2 _ _ _ hh2]; rfl, frozen_of_row w2 g 2 _ _ hh2, ⟨p, v', hp, hr, by rw [heap_setCell_same w2 g 2 _ _ _ hh2]; rfl, own_far h2 _ _ (by simp)⟩, fun B hB => ?_⟩
  exact ((Below.refl B w).grown hg (by omega) (fun k e => by have := (ho.lt _ e).1; omega)).setCell hB _

theorem own_slice {w : World} {base : Nat} {e : TypeId} {size : Nat} {v : Value} {n : Nat} {xs : List Value} (h : w.ownsRow base e size v n xs) : ∃ (x : Option Addr) (c : Nat), v = .slice x n c := by
  rcases h.2 with ⟨rfl, rfl⟩ | ⟨g, cap, cur, rfl, _⟩
  · exact ⟨_, _, rfl⟩
  · exact ⟨_, _, rfl⟩

theorem bCells_str (T : List UInt8) (x : ByteArray) : bCells T ++ Lib.strCells x = bCells (T ++ bl x) := by rw [bCells_append]; rfl

theorem step_append_run {P : Program} {ops : Array Oper} {o : Oper} {a : Act} {w : World} {K : Act → World → Prop} {Q : Exit → Act → World → Prop} {E : Prop}
    (hg : o.guard = none) (d x : Operand) (dT sT : TypeId) (hop : o.op = Op.call { callee := Callee.builtin Builtin.append, args := #[d, x], argTypes := #[dT, sT] })
    {v u r : Value} {w' : World} (hd : a.eval d = v) (hx : a.eval x = u) (hrun : (Builtin.append_ #[dT, sT] o.type #[v, u]).run P w = .ok r w') (hK : K (a.put o.dst r) w') :
    if Region.wanted o (yielded ops a.tmps) = true then Oper.wp P o a w K Q else E := by
  have hw : Region.wanted o (yielded ops a.tmps) = true := by simp [Region.wanted, hg]
  rw [if_pos hw]
  unfold Oper.wp
  simp [execOp, hop, resolve, invoke, builtin, hd, hx, hrun, Result.andThen]
  exact hK

theorem step_call_same {P : Program} {ops : Array Oper} {o : Oper} {a : Act} {w : World} {K : Act → World → Prop} {Q : Exit → Act → World → Prop} {E : Prop}
    (hg : o.guard = none) (f : FuncId) (x : Operand) (tx : TypeId) (hop : o.op = Op.call { callee := Callee.value (Operand.func f), args := #[x], argTypes := #[tx] })
    {u v : Value} (hx : a.eval x = u) (he : (callFunc f #[u]).run P w = .ok (.enter f #[u]) w) (hc : Calls P f #[u] w fun e w' => e = .returned v ∧ w = w') (hK : K (a.put o.dst v) w) :
    if Region.wanted o (yielded ops a.tmps) = true then Oper.wp P o a w K Q else E := by
  have hw : Region.wanted o (yielded ops a.tmps) = true := by simp [Region.wanted, hg]
  rw [if_pos hw]
  unfold Oper.wp
  have h1 : (execOp a.eval o).run P w = .ok (.enter f #[u]) w := by
    have hf : a.eval (Operand.func f) = Value.func (Fn.func f) #[] #[] := rfl
    simp [execOp, hop, resolve, invoke, hx, hf, he, Result.andThen, Deferred.ofValue]
  rw [h1, Oper.upon_enter]
  refine hc.mono ?_
  rintro e w' ⟨rfl, rfl⟩
  exact hK

set_option maxHeartbeats 2000000 in
/-- say -/
theorem say_any (g : Nat) (s : ByteArray) (r T : List UInt8) (c : Int) (w : World) (h : Rd w g s r T) (hT : T.length + 4 ≤ 140737488355328) (hF : (formOf c).size ≤ 4) :
    Calls Tryz.prog 139 #[.pointer (some ⟨g, 0, none⟩), .int .i32 c] w fun e w' => e = .returned (.tuple #[]) ∧ Rd w' g s r (T ++ bl (formOf c)) ∧ ∀ B, B ≤ g → Below B w w' := by
  obtain ⟨p, u, hp, hr, c0, c1, c2, f1, f2, ho, hh⟩ := h.cells
  have hlt := h.lt
  obtain ⟨i0, hi, hz0, hz1, hz2⟩ := info_parts info_u8
  have hod : w.drew.ownsRow (g + 1) 5 1 u T.length (bCells T) := ho
  obtain ⟨v', w2, hrun, hown2, hgrow, _⟩ := Lib.run_append_own_string (P := Tryz.prog) w.drew (g + 1) 56 9 56 5 i0 Tryz.underlying56 Tryz.underlying9 hi hz0 hz1 hz2 u T.length (bCells T) hod (formOf c) (by unfold maxLen; omega) (by omega) (by show g + 1 ≤ w.heap.size; omega)
  obtain ⟨x', c', rfl⟩ := own_slice hown2
  rw [bCells_str] at hown2
  have hlen : T.length + (formOf c).size = (T ++ bl (formOf c)).length := by rw [List.length_append, bl_size]
  rw [hlen] at hown2 hrun
  obtain ⟨k2, k3, K, B⟩ := rd_put (w := w.drew) hh hod hown2 hgrow hp hr
  obtain ⟨m, hm⟩ : ∃ m, (T ++ bl (formOf c)).length = m := ⟨_, rfl⟩
  rw [hm] at hrun K B
  have HK := Lib.hid K
  have HB := Lib.hid B
  clear h ho hod hown2 hgrow K B hlen hh hm
  go_enter Tryz.func139, Tryz.ntmps139
  go_wp2
  have eg : ∀ w, (callFunc 124 #[.int .i32 c]).run Tryz.prog w = .ok (.enter 124 #[.int .i32 c]) w := enters_of Tryz.func124 (by kernel_rfl) rfl _
  go_region_law (first
    | (refine step_call_same rfl 124 _ _ (by rfl) (by rfl) (eg _) (form_any c _) ?_)
    | (refine step_append_run rfl _ _ _ _ (by rfl) (by rfl) (by rfl) hrun ?_))
  all_goals (go_wp2; all_goals (go_end0; exact ⟨rfl, HK.out, fun B hB => (show Below B w w.drew from below_drw (Below.refl B w) 1).trans (HB.out B hB)⟩))

/-- Numbers as 32 bits have them. -/
def W32 (x : Int) : Int := (x + 2147483648) % 4294967296 - 2147483648
theorem W32_wrap (x : Int) : IntKind.i32.wrap x = W32 x := IntKind.wrap_i32 x
theorem W32_ex (x : Int) : ∃ t, W32 x = x + 4294967296 * t := ⟨-((x + 2147483648) / 4294967296), by unfold W32; omega⟩
theorem W32_add (x t : Int) : W32 (x + 4294967296 * t) = W32 x := by
  unfold W32
  rw [show x + 4294967296 * t + 2147483648 = (x + 2147483648) + 4294967296 * t by omega, Int.add_mul_emod_self_left]
theorem W32_step (n b d : Int) : W32 (n * b + d) = IntKind.i32.wrap (IntKind.i32.wrap (W32 n * b) + IntKind.i32.wrap d) := by
  rw [W32_wrap, W32_wrap, W32_wrap]
  obtain ⟨t1, h1⟩ := W32_ex n
  have e1 : W32 (W32 n * b) = W32 (n * b) := by rw [h1, Int.add_mul, Int.mul_assoc, W32_add]
  obtain ⟨t2, h2⟩ := W32_ex (n * b)
  obtain ⟨t3, h3⟩ := W32_ex d
  rw [e1, h2, h3, show n * b + 4294967296 * t2 + (d + 4294967296 * t3) = (n * b + d) + 4294967296 * (t2 + t3) by omega, W32_add]
theorem ret_rb {a c : Int} {b d : Bool} (h : a = c) (h' : b = d) : Ending.returned (.tuple #[.int .i32 a, .bool b]) = .returned (.tuple #[.int .i32 c, .bool d]) := by rw [h, h']

/-- What number answers: the number as 32 bits have it. -/
def numV (b k : Nat) (r : List UInt8) : Int := match Qm.numA b k 0 r with | some (v, _) => W32 v | none => 0

set_option maxRecDepth 100000 in
set_option maxHeartbeats 4000000 in
theorem number_8 (g : Nat) (s : ByteArray) (r T : List UInt8) (k : Nat) (w : World) (h : Rd w g s r T) (hk : k ≤ 8) (hs : s.size ≤ 4611686018427387000) :
    Calls Tryz.prog 156 #[.pointer (some ⟨g, 0, none⟩), .int .i64 k, .int .i64 8] w fun e w' =>
      e = .returned (.tuple #[.int .i32 (numV 8 k r), .bool (Qm.numA 8 k 0 r).isSome]) ∧ (∀ v q, Qm.numA 8 k 0 r = some (v, q) → Rd w' g s q T) ∧ ∀ B, B ≤ g → Below B w w' := by
  have H := Lib.hid h
  clear h
  go_enter Tryz.func156, Tryz.ntmps156
  go_wp2
  go_loopw [8, 13] (fun m i wr => ∃ (j n : Nat) (q : List UInt8), j ≤ k ∧ i = .int .i64 j ∧ m = .int .i32 (W32 n) ∧ Rd wr g s q T ∧ Qm.numA 8 (k - j) n q = Qm.numA 8 k 0 r ∧ ∀ B, B ≤ g → Below B w wr) (fun _ i _ => k - (intOf i).toNat)
  case atStart => exact ⟨0, 0, r, by omega, rfl, rfl, H.out, rfl, fun B _ => Below.refl _ _⟩
  case round =>
    obtain ⟨j, n, q, hj, rfl, rfl, hr, hn, hbel⟩ := hrel
    have Hn := Lib.hid hn
    have Hbel := Lib.hid hbel
    clear hn hbel
    by_cases hlt : j < k
    · have b1 : (j : Int) < (k : Int) := by omega
      obtain ⟨d, hd⟩ : ∃ d, k - j = d + 1 := ⟨k - j - 1, by omega⟩
      have hn2 := Hn.out
      rw [hd] at hn2
      match q, hr, hn2 with
      | [], hr, hn2 =>
        have hres : Qm.numA 8 k 0 r = none := hn2.symm
        have hN := fun w1 h1 => next_end g s T w1 h1 hs
        have hB := fun w => base_byte 0 (by omega) w
        have e0 : bsI 0 = -1 := by decide
        rw [e0] at hB
        have Hres := Lib.hid hres
        clear hn2 Hn hres
        go_wp2_with fail
        refine (hN _ hr).mono ?_
        rintro e w1 ⟨rfl, k1, b1⟩
        have Hk1 := Lib.hid k1
        have Hb1 := Lib.hid b1
        clear k1 b1
        go_wp2_with fail
        refine (hB _).mono ?_
        rintro e w2 ⟨rfl, rfl⟩
        go_wp2
        go_ret2
        refine ⟨ret_rb (by unfold numV; rw [Hres.out]) (by rw [Hres.out]; rfl), (fun v q h => by rw [Hres.out] at h; cases h), fun B hB => (Hbel.out B hB).trans (Hb1.out B hB)⟩
      | c :: q, hr, hn2 =>
        rw [Qm.numA] at hn2
        have hN := fun w1 h1 => next_some g s c q T w1 h1 hs
        have hcl := c.toNat_lt
        have hB := fun w => base_byte c.toNat hcl w
        have wc : IntKind.i32.wrap (c.toNat : Int) = (c.toNat : Int) := by rw [IntKind.wrap_i32]; omega
        by_cases hc : Nm.dg c < 8
        · rw [if_pos hc] at hn2
          have hX := (bsI_dg c).1 (by omega)
          have hd2 : k - (j + 1) = d := by omega
          rw [← hd2] at hn2
          have hw : W32 ((n * 8 + Nm.dg c : Nat) : Int) = IntKind.i32.wrap (IntKind.i32.wrap (W32 (n : Int) * 8) + IntKind.i32.wrap (bsI c.toNat)) := by
            rw [hX]
            have e1 : ((n * 8 + Nm.dg c : Nat) : Int) = (n : Int) * 8 + (Nm.dg c : Int) := by push_cast; rfl
            rw [e1]; exact W32_step _ 8 _
          have b4 : ¬ bsI c.toNat < 0 := by rw [hX]; omega
          have b5 : ¬ 8 ≤ bsI c.toNat := by rw [hX]; omega
          have vD : IntKind.i32.wrap (bsI c.toNat) = bsI c.toNat := by rw [IntKind.wrap_i32]; omega
          clear hd hd2 hX
          have Hn2 := Lib.hid hn2
          clear hn2 Hn hc
          generalize Nm.dg c = D at Hn2 hw
          generalize bsI c.toNat = X at hB b4 b5 vD hw
          generalize c.toNat = C at hN hB wc hcl
          generalize W32 (n : Int) = M at hw
          obtain ⟨X1, v1⟩ : ∃ x, IntKind.i32.wrap (M * 8) = x := ⟨_, rfl⟩
          obtain ⟨X2, v2⟩ : ∃ x, IntKind.i32.wrap (X1 + X) = x := ⟨_, rfl⟩
          rw [v1, vD, v2] at hw
          have Hw := Lib.hid hw
          clear hw
          go_wp2_with fail
          refine (hN _ hr).mono ?_
          rintro e w1 ⟨rfl, k1, b1⟩
          have Hk1 := Lib.hid k1
          have Hb1 := Lib.hid b1
          clear k1 b1
          go_wp2_with fail
          refine (hB _).mono ?_
          rintro e w2 ⟨rfl, rfl⟩
          have d1 : decide (X < 0) = false := decide_eq_false (by omega)
          have d2 : decide (8 ≤ X) = false := decide_eq_false (by omega)
          go_wp2
          go_roundw
          case rel => exact ⟨j + 1, n * 8 + D, q, by omega, by go_num, by rw [Hw.out], Hk1.out, Hn2.out, fun B hB => (Hbel.out B hB).trans (Hb1.out B hB)⟩
          case measure => simp [intOf]; omega
        · rw [if_neg hc] at hn2
          have hres : Qm.numA 8 k 0 r = none := hn2.symm
          have Hres := Lib.hid hres
          clear hn2 Hn hres
          have bad : bsI c.toNat < 0 ∨ (¬ bsI c.toNat < 0 ∧ 8 ≤ bsI c.toNat) := by
            by_cases h16 : Nm.dg c < 16
            · rw [(bsI_dg c).1 h16]; omega
            · rw [(bsI_dg c).2 h16]; omega
          generalize bsI c.toNat = X at hB bad
          generalize c.toNat = C at hN hB wc hcl
          rcases bad with bad | ⟨bad1, bad2⟩
          · go_wp2_with fail
            refine (hN _ hr).mono ?_
            rintro e w1 ⟨rfl, k1, b1⟩
            have Hk1 := Lib.hid k1
            have Hb1 := Lib.hid b1
            clear k1 b1
            go_wp2_with fail
            refine (hB _).mono ?_
            rintro e w2 ⟨rfl, rfl⟩
            go_wp2
            go_ret2
            refine ⟨ret_rb (by unfold numV; rw [Hres.out]) (by rw [Hres.out]; rfl), (fun v q h => by rw [Hres.out] at h; cases h), fun B hB => (Hbel.out B hB).trans (Hb1.out B hB)⟩
          · go_wp2_with fail
            refine (hN _ hr).mono ?_
            rintro e w1 ⟨rfl, k1, b1⟩
            have Hk1 := Lib.hid k1
            have Hb1 := Lib.hid b1
            clear k1 b1
            go_wp2_with fail
            refine (hB _).mono ?_
            rintro e w2 ⟨rfl, rfl⟩
            go_wp2
            go_ret2
            refine ⟨ret_rb (by unfold numV; rw [Hres.out]) (by rw [Hres.out]; rfl), (fun v q h => by rw [Hres.out] at h; cases h), fun B hB => (Hbel.out B hB).trans (Hb1.out B hB)⟩
    · have b1 : ¬ (j : Int) < (k : Int) := by omega
      have hd : k - j = 0 := by omega
      have hn2 := Hn.out
      rw [hd] at hn2
      have hres : Qm.numA 8 k 0 r = some (n, q) := hn2.symm
      have Hres := Lib.hid hres
      clear hn2 Hn hres
      go_wp2
      go_ret2
      refine ⟨ret_rb (by unfold numV; rw [Hres.out]) (by rw [Hres.out]; rfl), fun v q' h => ?_, Hbel.out⟩
      rw [Hres.out] at h
      obtain ⟨rfl, rfl⟩ := Prod.mk.inj (Option.some.inj h)
      exact hr

set_option maxRecDepth 100000 in
set_option maxHeartbeats 4000000 in
theorem number_16 (g : Nat) (s : ByteArray) (r T : List UInt8) (k : Nat) (w : World) (h : Rd w g s r T) (hk : k ≤ 8) (hs : s.size ≤ 4611686018427387000) :
    Calls Tryz.prog 156 #[.pointer (some ⟨g, 0, none⟩), .int .i64 k, .int .i64 16] w fun e w' =>
      e = .returned (.tuple #[.int .i32 (numV 16 k r), .bool (Qm.numA 16 k 0 r).isSome]) ∧ (∀ v q, Qm.numA 16 k 0 r = some (v, q) → Rd w' g s q T) ∧ ∀ B, B ≤ g → Below B w w' := by
  have H := Lib.hid h
  clear h
  go_enter Tryz.func156, Tryz.ntmps156
  go_wp2
  go_loopw [8, 13] (fun m i wr => ∃ (j n : Nat) (q : List UInt8), j ≤ k ∧ i = .int .i64 j ∧ m = .int .i32 (W32 n) ∧ Rd wr g s q T ∧ Qm.numA 16 (k - j) n q = Qm.numA 16 k 0 r ∧ ∀ B, B ≤ g → Below B w wr) (fun _ i _ => k - (intOf i).toNat)
  case atStart => exact ⟨0, 0, r, by omega, rfl, rfl, H.out, rfl, fun B _ => Below.refl _ _⟩
  case round =>
    obtain ⟨j, n, q, hj, rfl, rfl, hr, hn, hbel⟩ := hrel
    have Hn := Lib.hid hn
    have Hbel := Lib.hid hbel
    clear hn hbel
    by_cases hlt : j < k
    · have b1 : (j : Int) < (k : Int) := by omega
      obtain ⟨d, hd⟩ : ∃ d, k - j = d + 1 := ⟨k - j - 1, by omega⟩
      have hn2 := Hn.out
      rw [hd] at hn2
      match q, hr, hn2 with
      | [], hr, hn2 =>
        have hres : Qm.numA 16 k 0 r = none := hn2.symm
        have hN := fun w1 h1 => next_end g s T w1 h1 hs
        have hB := fun w => base_byte 0 (by omega) w
        have e0 : bsI 0 = -1 := by decide
        rw [e0] at hB
        have Hres := Lib.hid hres
        clear hn2 Hn hres
        go_wp2_with fail
        refine (hN _ hr).mono ?_
        rintro e w1 ⟨rfl, k1, b1⟩
        have Hk1 := Lib.hid k1
        have Hb1 := Lib.hid b1
        clear k1 b1
        go_wp2_with fail
        refine (hB _).mono ?_
        rintro e w2 ⟨rfl, rfl⟩
        go_wp2
        go_ret2
        refine ⟨ret_rb (by unfold numV; rw [Hres.out]) (by rw [Hres.out]; rfl), (fun v q h => by rw [Hres.out] at h; cases h), fun B hB => (Hbel.out B hB).trans (Hb1.out B hB)⟩
      | c :: q, hr, hn2 =>
        rw [Qm.numA] at hn2
        have hN := fun w1 h1 => next_some g s c q T w1 h1 hs
        have hcl := c.toNat_lt
        have hB := fun w => base_byte c.toNat hcl w
        have wc : IntKind.i32.wrap (c.toNat : Int) = (c.toNat : Int) := by rw [IntKind.wrap_i32]; omega
        by_cases hc : Nm.dg c < 16
        · rw [if_pos hc] at hn2
          have hX := (bsI_dg c).1 (by omega)
          have hd2 : k - (j + 1) = d := by omega
          rw [← hd2] at hn2
          have hw : W32 ((n * 16 + Nm.dg c : Nat) : Int) = IntKind.i32.wrap (IntKind.i32.wrap (W32 (n : Int) * 16) + IntKind.i32.wrap (bsI c.toNat)) := by
            rw [hX]
            have e1 : ((n * 16 + Nm.dg c : Nat) : Int) = (n : Int) * 16 + (Nm.dg c : Int) := by push_cast; rfl
            rw [e1]; exact W32_step _ 16 _
          have b4 : ¬ bsI c.toNat < 0 := by rw [hX]; omega
          have b5 : ¬ 16 ≤ bsI c.toNat := by rw [hX]; omega
          have vD : IntKind.i32.wrap (bsI c.toNat) = bsI c.toNat := by rw [IntKind.wrap_i32]; omega
          clear hd hd2 hX
          have Hn2 := Lib.hid hn2
          clear hn2 Hn hc
          generalize Nm.dg c = D at Hn2 hw
          generalize bsI c.toNat = X at hB b4 b5 vD hw
          generalize c.toNat = C at hN hB wc hcl
          generalize W32 (n : Int) = M at hw
          obtain ⟨X1, v1⟩ : ∃ x, IntKind.i32.wrap (M * 16) = x := ⟨_, rfl⟩
          obtain ⟨X2, v2⟩ : ∃ x, IntKind.i32.wrap (X1 + X) = x := ⟨_, rfl⟩
          rw [v1, vD, v2] at hw
          have Hw := Lib.hid hw
          clear hw
          go_wp2_with fail
          refine (hN _ hr).mono ?_
          rintro e w1 ⟨rfl, k1, b1⟩
          have Hk1 := Lib.hid k1
          have Hb1 := Lib.hid b1
          clear k1 b1
          go_wp2_with fail
          refine (hB _).mono ?_
          rintro e w2 ⟨rfl, rfl⟩
          have d1 : decide (X < 0) = false := decide_eq_false (by omega)
          have d2 : decide (16 ≤ X) = false := decide_eq_false (by omega)
          go_wp2
          go_roundw
          case rel => exact ⟨j + 1, n * 16 + D, q, by omega, by go_num, by rw [Hw.out], Hk1.out, Hn2.out, fun B hB => (Hbel.out B hB).trans (Hb1.out B hB)⟩
          case measure => simp [intOf]; omega
        · rw [if_neg hc] at hn2
          have hres : Qm.numA 16 k 0 r = none := hn2.symm
          have Hres := Lib.hid hres
          clear hn2 Hn hres
          have bad : bsI c.toNat < 0 ∨ (¬ bsI c.toNat < 0 ∧ 16 ≤ bsI c.toNat) := by
            by_cases h16 : Nm.dg c < 16
            · rw [(bsI_dg c).1 h16]; omega
            · rw [(bsI_dg c).2 h16]; omega
          generalize bsI c.toNat = X at hB bad
          generalize c.toNat = C at hN hB wc hcl
          rcases bad with bad | ⟨bad1, bad2⟩
          · go_wp2_with fail
            refine (hN _ hr).mono ?_
            rintro e w1 ⟨rfl, k1, b1⟩
            have Hk1 := Lib.hid k1
            have Hb1 := Lib.hid b1
            clear k1 b1
            go_wp2_with fail
            refine (hB _).mono ?_
            rintro e w2 ⟨rfl, rfl⟩
            go_wp2
            go_ret2
            refine ⟨ret_rb (by unfold numV; rw [Hres.out]) (by rw [Hres.out]; rfl), (fun v q h => by rw [Hres.out] at h; cases h), fun B hB => (Hbel.out B hB).trans (Hb1.out B hB)⟩
          · go_wp2_with fail
            refine (hN _ hr).mono ?_
            rintro e w1 ⟨rfl, k1, b1⟩
            have Hk1 := Lib.hid k1
            have Hb1 := Lib.hid b1
            clear k1 b1
            go_wp2_with fail
            refine (hB _).mono ?_
            rintro e w2 ⟨rfl, rfl⟩
            go_wp2
            go_ret2
            refine ⟨ret_rb (by unfold numV; rw [Hres.out]) (by rw [Hres.out]; rfl), (fun v q h => by rw [Hres.out] at h; cases h), fun B hB => (Hbel.out B hB).trans (Hb1.out B hB)⟩
    · have b1 : ¬ (j : Int) < (k : Int) := by omega
      have hd : k - j = 0 := by omega
      have hn2 := Hn.out
      rw [hd] at hn2
      have hres : Qm.numA 16 k 0 r = some (n, q) := hn2.symm
      have Hres := Lib.hid hres
      clear hn2 Hn hres
      go_wp2
      go_ret2
      refine ⟨ret_rb (by unfold numV; rw [Hres.out]) (by rw [Hres.out]; rfl), fun v q' h => ?_, Hbel.out⟩
      rw [Hres.out] at h
      obtain ⟨rfl, rfl⟩ := Prod.mk.inj (Option.some.inj h)
      exact hr
end Go.Proofs.YtklmiabgalanhaaGreatDoor

/- Contract of quoted's reader: escape. -/
namespace Go.Proofs.YtklmiabgalanhaaGreatDoor
open Go.RowKit Em Go.Shelf
set_option maxRecDepth 100000
set_option linter.unusedVariables false
set_option linter.unusedSimpArgs false

/-- What escape answers. -/
def EscP (g : Nat) (s : ByteArray) (r T : List UInt8) (m : Nat) (w : World) (e : Ending) (w' : World) : Prop :=
  ∃ N b, e = .returned (.tuple #[.int .i32 N, .bool b, .bool (Qm.esc m r).isSome]) ∧ (∀ n b' q, Qm.esc m r = some (n, b', q) → N = (n : Int) ∧ b = b' ∧ Rd w' g s q T) ∧ ∀ B, B ≤ g → Below B w w'

theorem esc_end (g : Nat) (s : ByteArray) (T : List UInt8) (m : Nat) (w : World) (h : Rd w g s [] T) (hs : s.size ≤ 4611686018427387000) :
    Calls Tryz.prog 138 #[.pointer (some ⟨g, 0, none⟩), .int .u8 m] w (EscP g s [] T m w) := by
  have hN := next_end g s T w h hs
  clear h
  go_enter Tryz.func138, Tryz.ntmps138
  go_wp2_with fail
  refine hN.mono ?_
  rintro e w1 ⟨rfl, k1, b1⟩
  have Hb1 := Lib.hid b1
  clear b1 k1 hN
  go_wp2
  go_ret3
  exact ⟨0, false, rfl, (fun n b' q h => by cases h), Hb1.out⟩

theorem esc_said {g : Nat} {s : ByteArray} {r T : List UInt8} {m : Nat} {w w' : World} {n : Nat} {b : Bool} {q : List UInt8} (h : Qm.esc m r = some (n, b, q)) (hr : Rd w' g s q T) (hb : ∀ B, B ≤ g → Below B w w') :
    EscP g s r T m w (.returned (.tuple #[.int .i32 (n : Int), .bool b, .bool true])) w' := by
  refine ⟨n, b, by rw [h]; rfl, fun n' b' q' h' => ?_, hb⟩
  rw [h] at h'
  obtain ⟨rfl, h2⟩ := Prod.mk.inj (Option.some.inj h')
  obtain ⟨rfl, rfl⟩ := Prod.mk.inj h2
  exact ⟨rfl, rfl, hr⟩
theorem esc_none {g : Nat} {s : ByteArray} {r T : List UInt8} {m : Nat} {w w' : World} {N : Int} {b : Bool} (h : Qm.esc m r = none) (hb : ∀ B, B ≤ g → Below B w w') :
    EscP g s r T m w (.returned (.tuple #[.int .i32 N, .bool b, .bool false])) w' := by
  refine ⟨N, b, by rw [h]; rfl, fun n' b' q' h' => ?_, hb⟩
  rw [h] at h'; cases h'

theorem valid_w32 {n : Nat} (h : n < 4294967296) : (Utf8.valid (W32 n) = true ↔ Um.okN n) ∧ (Um.okN n → W32 n = n) := by
  by_cases h1 : n < 2147483648
  · have : W32 (n : Int) = (n : Int) := by unfold W32; omega
    rw [this]
    exact ⟨Um.valid_iff n, fun _ => rfl⟩
  · have hw : W32 (n : Int) < 0 := by unfold W32; omega
    have hn : ¬ Um.okN n := by unfold Um.okN; omega
    have hv : ¬ (Utf8.valid (W32 (n : Int)) = true) := by
      generalize W32 (n : Int) = x at hw
      intro hv
      simp [Utf8.valid] at hv
      omega
    exact ⟨⟨fun h => absurd h hv, fun h => absurd h hn⟩, fun h => absurd h hn⟩

theorem form_same (r : Int) : formOf r = Um.form r := rfl
theorem formOf_ne (c : Int) : ((formOf c).toList == []) = !(Utf8.valid c) := by
  rw [Um.toList_eq, form_same]
  cases hv : Utf8.valid c with
  | true =>
    obtain ⟨n, rfl, hn⟩ := Um.okN_of_valid hv
    have := Qm.fm_ne hn
    rw [Qm.fm_eq] at this
    cases hl : (Um.form (n : Int)).data.toList with
    | nil => exact absurd hl this
    | cons x l => rfl
  | false =>
    have : Um.form c = ByteArray.empty := by unfold Um.form; rw [hv]; rfl
    rw [this]; rfl

theorem rd_back {w1 : World} {g : Nat} {s : ByteArray} {c : UInt8} {r T : List UInt8} (h0 : ∃ p, p < s.size ∧ (bl s).drop p = c :: r) (h : Rd w1 g s r T) :
    ∃ p : Nat, w1.cell? ⟨g, 1, none⟩ = some (.int .i64 ((p : Int) + 1)) ∧ w1.frozen? ⟨g, 1, none⟩ = false ∧ p < s.size ∧ Rd (w1.setCell ⟨g, 1, none⟩ (.int .i64 (p : Int))) g s (c :: r) T := by
  obtain ⟨p, hp, hd⟩ := h0
  obtain ⟨q, u, hq, hr, c0, c1, c2, f1, f2, ho, hh⟩ := h.cells
  have hd2 := bl_drop' s p hp
  rw [hd] at hd2
  have e2 : r = (bl s).drop (p + 1) := (List.cons.inj hd2).2
  have hlen := congrArg List.length (hr.trans e2)
  rw [List.length_drop, List.length_drop, bl_size] at hlen
  have hqp : q = p + 1 := by omega
  subst hqp
  refine ⟨p, by rw [c1]; push_cast; rfl, f1, hp, ?_⟩
  have := Rd.setAt hh ho p (by omega)
  rw [hd] at this; exact this

set_option maxRecDepth 100000 in
set_option maxHeartbeats 8000000 in
theorem esc_some (g : Nat) (s : ByteArray) (c : UInt8) (r T : List UInt8) (m : Nat) (w : World) (h : Rd w g s (c :: r) T) (hm : m = 39 ∨ m = 34) (hs : s.size ≤ 4611686018427387000) :
    Calls Tryz.prog 138 #[.pointer (some ⟨g, 0, none⟩), .int .u8 m] w (EscP g s (c :: r) T m w) := by
  have hN := next_some g s c r T w h hs
  have HP : Hid (∃ p, p < s.size ∧ (bl s).drop p = c :: r) := Lib.hid (by
    obtain ⟨p, u, hp, hr, _⟩ := h.x
    refine ⟨p, ?_, hr⟩
    by_cases hlt : p < s.size
    · exact hlt
    · rw [List.drop_eq_nil_of_le (by rw [bl_size]; omega)] at hr; cases hr)
  have hlt := c.toNat_lt
  have hm8 : m < 256 := by omega
  clear h
  have hesc : Qm.esc m (c :: r) = if c.toNat = m ∨ c.toNat = 92 then some (c.toNat, true, r)
    else if 48 ≤ c.toNat ∧ c.toNat ≤ 55 then
      match Qm.numA 8 3 0 (c :: r) with
      | some (n, r) => if n ≤ 255 then some (n, true, r) else none
      | none => none
    else if c.toNat = 85 ∨ c.toNat = 117 ∨ c.toNat = 120 then
      match Qm.numA 16 (Qm.wide c.toNat) 0 r with
      | some (n, r) => if Um.okN n then some (n, decide (c.toNat = 120), r) else none
      | none => none
    else match Qm.ctl c.toNat with
      | some v => some (v, true, r)
      | none => none := rfl
  have E8 := fun w1 h1 => number_8 g s (c :: r) T 3 w1 h1 (by omega) hs
  have E16 := fun k hk w1 h1 => number_16 g s r T k w1 h1 hk hs
  have D : ∀ n : Nat, c.toNat ≠ n → ((c.toNat : Int) == (n : Int)) = false := fun n h => beq_eq_false_iff_ne.2 (by omega)
  by_cases hA : c.toNat = m
  · have hf := hesc
    rw [if_pos (.inl hA)] at hf
    have Hf := Lib.hid hf
    clear hesc hf E8 E16 D HP
    generalize c.toNat = C at hN hlt hA Hf
    subst hA
    have wc : IntKind.i32.wrap (C : Int) = (C : Int) := by rw [IntKind.wrap_i32]; omega
    go_enter Tryz.func138, Tryz.ntmps138
    go_wp2_with fail
    refine hN.mono ?_
    rintro e w1 ⟨rfl, k1, b1⟩
    have Hk1 := Lib.hid k1
    have Hb1 := Lib.hid b1
    clear b1 k1 hN
    go_wp2
    go_ret3
    exact esc_said Hf.out Hk1.out Hb1.out
  by_cases h92 : c.toNat = 92
  · have hf := hesc
    rw [if_pos (.inr h92)] at hf
    rw [h92] at hN hf
    have Hf := Lib.hid hf
    have dm : ((92 : Int) == (m : Int)) = false := beq_eq_false_iff_ne.2 (by omega)
    clear hesc hf E8 E16 D HP hA
    go_enter Tryz.func138, Tryz.ntmps138
    go_wp2_with fail
    refine hN.mono ?_
    rintro e w1 ⟨rfl, k1, b1⟩
    have Hk1 := Lib.hid k1
    have Hb1 := Lib.hid b1
    clear b1 k1 hN
    go_wp2
    go_ret3
    exact esc_said Hf.out Hk1.out Hb1.out
  rw [if_neg (fun h => h.elim hA h92)] at hesc
  by_cases hB : 48 ≤ c.toNat ∧ c.toNat ≤ 55
  · rw [if_pos hB] at hesc
    have Hesc := Lib.hid hesc
    have hv : ∀ n q, Qm.numA 8 3 0 (c :: r) = some (n, q) → n < 512 := by
      intro n q h
      have := Qm.numA_bound (by omega) h
      omega
    have HV := Lib.hid hv
    clear hesc hv E16 D
    have ways : c.toNat = 48 ∨ c.toNat = 49 ∨ c.toNat = 50 ∨ c.toNat = 51 ∨ c.toNat = 52 ∨ c.toNat = 53 ∨ c.toNat = 54 ∨ c.toNat = 55 := by omega
    have HE8 := Lib.hid E8
    clear E8
    rcases ways with hw | hw | hw | hw | hw | hw | hw | hw
    · rw [hw] at hN
      have dm : ((48 : Int) == (m : Int)) = false := beq_eq_false_iff_ne.2 (by omega)
      clear hA h92 hB hw
      go_enter Tryz.func138, Tryz.ntmps138
      go_wp2_with fail
      refine hN.mono ?_
      rintro e w1 ⟨rfl, k1, b1⟩
      have Hk1 := Lib.hid k1
      have Hb1 := Lib.hid b1
      obtain ⟨p, c1, f1, hp, back⟩ := rd_back HP.out k1
      clear b1 k1 hN
      have hback := HE8.out _ back
      unfold numV at hback
      have Back := Lib.hid back
      clear back
      go_wp2_with fail
      refine hback.mono ?_
      cases hq : Qm.numA 8 3 0 (c :: r) with
      | none =>
        rintro e w2 ⟨rfl, _, b2⟩
        have hf : Qm.esc m (c :: r) = none := by rw [Hesc.out, hq]
        have Hf := Lib.hid hf
        clear hf hq hback
        go_wp2
        go_ret3
        exact esc_none Hf.out (fun B hB => (Hb1.out B hB).trans ((Below.refl B _).setCell hB _ |>.trans (b2 B hB)))
      | some x =>
        obtain ⟨n, q⟩ := x
        have hn := HV.out n q hq
        rintro e w2 ⟨rfl, k2, b2⟩
        have k3 := Lib.hid (k2 n q rfl)
        have hw32 : W32 (n : Int) = (n : Int) := by unfold W32; omega
        by_cases h255 : n ≤ 255
        · have hf : Qm.esc m (c :: r) = some (n, true, q) := by rw [Hesc.out, hq]; exact if_pos h255
          have Hf := Lib.hid hf
          have h255' : (n : Int) ≤ 255 := by omega
          clear hf hq k2 hback h255
          simp only [hw32]
          clear hw32
          go_wp2
          go_ret3
          exact esc_said Hf.out k3.out (fun B hB => (Hb1.out B hB).trans ((Below.refl B _).setCell hB _ |>.trans (b2 B hB)))
        · have hf : Qm.esc m (c :: r) = none := by rw [Hesc.out, hq]; exact if_neg h255
          have Hf := Lib.hid hf
          have h255' : ¬ (n : Int) ≤ 255 := by omega
          clear hf hq k2 hback h255
          simp only [hw32]
          clear hw32
          go_wp2
          go_ret3
          exact esc_none Hf.out (fun B hB => (Hb1.out B hB).trans ((Below.refl B _).setCell hB _ |>.trans (b2 B hB)))
    · rw [hw] at hN
      have dm : ((49 : Int) == (m : Int)) = false := beq_eq_false_iff_ne.2 (by omega)
      clear hA h92 hB hw
      go_enter Tryz.func138, Tryz.ntmps138
      go_wp2_with fail
      refine hN.mono ?_
      rintro e w1 ⟨rfl, k1, b1⟩
      have Hk1 := Lib.hid k1
      have Hb1 := Lib.hid b1
      obtain ⟨p, c1, f1, hp, back⟩ := rd_back HP.out k1
      clear b1 k1 hN
      have hback := HE8.out _ back
      unfold numV at hback
      have Back := Lib.hid back
      clear back
      go_wp2_with fail
      refine hback.mono ?_
      cases hq : Qm.numA 8 3 0 (c :: r) with
      | none =>
        rintro e w2 ⟨rfl, _, b2⟩
        have hf : Qm.esc m (c :: r) = none := by rw [Hesc.out, hq]
        have Hf := Lib.hid hf
        clear hf hq hback
        go_wp2
        go_ret3
        exact esc_none Hf.out (fun B hB => (Hb1.out B hB).trans ((Below.refl B _).setCell hB _ |>.trans (b2 B hB)))
      | some x =>
        obtain ⟨n, q⟩ := x
        have hn := HV.out n q hq
        rintro e w2 ⟨rfl, k2, b2⟩
        have k3 := Lib.hid (k2 n q rfl)
        have hw32 : W32 (n : Int) = (n : Int) := by unfold W32; omega
        by_cases h255 : n ≤ 255
        · have hf : Qm.esc m (c :: r) = some (n, true, q) := by rw [Hesc.out, hq]; exact if_pos h255
          have Hf := Lib.hid hf
          have h255' : (n : Int) ≤ 255 := by omega
          clear hf hq k2 hback h255
          simp only [hw32]
          clear hw32
          go_wp2
          go_ret3
          exact esc_said Hf.out k3.out (fun B hB => (Hb1.out B hB).trans ((Below.refl B _).setCell hB _ |>.trans (b2 B hB)))
        · have hf : Qm.esc m (c :: r) = none := by rw [Hesc.out, hq]; exact if_neg h255
          have Hf := Lib.hid hf
          have h255' : ¬ (n : Int) ≤ 255 := by omega
          clear hf hq k2 hback h255
          simp only [hw32]
          clear hw32
          go_wp2
          go_ret3
          exact esc_none Hf.out (fun B hB => (Hb1.out B hB).trans ((Below.refl B _).setCell hB _ |>.trans (b2 B hB)))
    · rw [hw] at hN
      have dm : ((50 : Int) == (m : Int)) = false := beq_eq_false_iff_ne.2 (by omega)
      clear hA h92 hB hw
      go_enter Tryz.func138, Tryz.ntmps138
      go_wp2_with fail
      refine hN.mono ?_
      rintro e w1 ⟨rfl, k1, b1⟩
      have Hk1 := Lib.hid k1
      have Hb1 := Lib.hid b1
      obtain ⟨p, c1, f1, hp, back⟩ := rd_back HP.out k1
      clear b1 k1 hN
      have hback := HE8.out _ back
      unfold numV at hback
      have Back := Lib.hid back
      clear back
      go_wp2_with fail
      refine hback.mono ?_
      cases hq : Qm.numA 8 3 0 (c :: r) with
      | none =>
        rintro e w2 ⟨rfl, _, b2⟩
        have hf : Qm.esc m (c :: r) = none := by rw [Hesc.out, hq]
        have Hf := Lib.hid hf
        clear hf hq hback
        go_wp2
        go_ret3
        exact esc_none Hf.out (fun B hB => (Hb1.out B hB).trans ((Below.refl B _).setCell hB _ |>.trans (b2 B hB)))
      | some x =>
        obtain ⟨n, q⟩ := x
        have hn := HV.out n q hq
        rintro e w2 ⟨rfl, k2, b2⟩
        have k3 := Lib.hid (k2 n q rfl)
        have hw32 : W32 (n : Int) = (n : Int) := by unfold W32; omega
        by_cases h255 : n ≤ 255
        · have hf : Qm.esc m (c :: r) = some (n, true, q) := by rw [Hesc.out, hq]; exact if_pos h255
          have Hf := Lib.hid hf
          have h255' : (n : Int) ≤ 255 := by omega
          clear hf hq k2 hback h255
          simp only [hw32]
          clear hw32
          go_wp2
          go_ret3
          exact esc_said Hf.out k3.out (fun B hB => (Hb1.out B hB).trans ((Below.refl B _).setCell hB _ |>.trans (b2 B hB)))
        · have hf : Qm.esc m (c :: r) = none := by rw [Hesc.out, hq]; exact if_neg h255
          have Hf := Lib.hid hf
          have h255' : ¬ (n : Int) ≤ 255 := by omega
          clear hf hq k2 hback h255
          simp only [hw32]
          clear hw32
          go_wp2
          go_ret3
          exact esc_none Hf.out (fun B hB => (Hb1.out B hB).trans ((Below.refl B _).setCell hB _ |>.trans (b2 B hB)))
    · rw [hw] at hN
      have dm : ((51 : Int) == (m : Int)) = false := beq_eq_false_iff_ne.2 (by omega)
      clear hA h92 hB hw
      go_enter Tryz.func138, Tryz.ntmps138
      go_wp2_with fail
      refine hN.mono ?_
      rintro e w1 ⟨rfl, k1, b1⟩
      have Hk1 := Lib.hid k1
      have Hb1 := Lib.hid b1
      obtain ⟨p, c1, f1, hp, back⟩ := rd_back HP.out k1
      clear b1 k1 hN
      have hback := HE8.out _ back
      unfold numV at hback
      have Back := Lib.hid back
      clear back
      go_wp2_with fail
      refine hback.mono ?_
      cases hq : Qm.numA 8 3 0 (c :: r) with
      | none =>
        rintro e w2 ⟨rfl, _, b2⟩
        have hf : Qm.esc m (c :: r) = none := by rw [Hesc.out, hq]
        have Hf := Lib.hid hf
        clear hf hq hback
        go_wp2
        go_ret3
        exact esc_none Hf.out (fun B hB => (Hb1.out B hB).trans ((Below.refl B _).setCell hB _ |>.trans (b2 B hB)))
      | some x =>
        obtain ⟨n, q⟩ := x
        have hn := HV.out n q hq
        rintro e w2 ⟨rfl, k2, b2⟩
        have k3 := Lib.hid (k2 n q rfl)
        have hw32 : W32 (n : Int) = (n : Int) := by unfold W32; omega
        by_cases h255 : n ≤ 255
        · have hf : Qm.esc m (c :: r) = some (n, true, q) := by rw [Hesc.out, hq]; exact if_pos h255
          have Hf := Lib.hid hf
          have h255' : (n : Int) ≤ 255 := by omega
          clear hf hq k2 hback h255
          simp only [hw32]
          clear hw32
          go_wp2
          go_ret3
          exact esc_said Hf.out k3.out (fun B hB => (Hb1.out B hB).trans ((Below.refl B _).setCell hB _ |>.trans (b2 B hB)))
        · have hf : Qm.esc m (c :: r) = none := by rw [Hesc.out, hq]; exact if_neg h255
          have Hf := Lib.hid hf
          have h255' : ¬ (n : Int) ≤ 255 := by omega
          clear hf hq k2 hback h255
          simp only [hw32]
          clear hw32
          go_wp2
          go_ret3
          exact esc_none Hf.out (fun B hB => (Hb1.out B hB).trans ((Below.refl B _).setCell hB _ |>.trans (b2 B hB)))
    · rw [hw] at hN
      have dm : ((52 : Int) == (m : Int)) = false := beq_eq_false_iff_ne.2 (by omega)
      clear hA h92 hB hw
      go_enter Tryz.func138, Tryz.ntmps138
      go_wp2_with fail
      refine hN.mono ?_
      rintro e w1 ⟨rfl, k1, b1⟩
      have Hk1 := Lib.hid k1
      have Hb1 := Lib.hid b1
      obtain ⟨p, c1, f1, hp, back⟩ := rd_back HP.out k1
      clear b1 k1 hN
      have hback := HE8.out _ back
      unfold numV at hback
      have Back := Lib.hid back
      clear back
      go_wp2_with fail
      refine hback.mono ?_
      cases hq : Qm.numA 8 3 0 (c :: r) with
      | none =>
        rintro e w2 ⟨rfl, _, b2⟩
        have hf : Qm.esc m (c :: r) = none := by rw [Hesc.out, hq]
        have Hf := Lib.hid hf
        clear hf hq hback
        go_wp2
        go_ret3
        exact esc_none Hf.out (fun B hB => (Hb1.out B hB).trans ((Below.refl B _).setCell hB _ |>.trans (b2 B hB)))
      | some x =>
        obtain ⟨n, q⟩ := x
        have hn := HV.out n q hq
        rintro e w2 ⟨rfl, k2, b2⟩
        have k3 := Lib.hid (k2 n q rfl)
        have hw32 : W32 (n : Int) = (n : Int) := by unfold W32; omega
        by_cases h255 : n ≤ 255
        · have hf : Qm.esc m (c :: r) = some (n, true, q) := by rw [Hesc.out, hq]; exact if_pos h255
          have Hf := Lib.hid hf
          have h255' : (n : Int) ≤ 255 := by omega
          clear hf hq k2 hback h255
          simp only [hw32]
          clear hw32
          go_wp2
          go_ret3
          exact esc_said Hf.out k3.out (fun B hB => (Hb1.out B hB).trans ((Below.refl B _).setCell hB _ |>.trans (b2 B hB)))
        · have hf : Qm.esc m (c :: r) = none := by rw [Hesc.out, hq]; exact if_neg h255
          have Hf := Lib.hid hf
          have h255' : ¬ (n : Int) ≤ 255 := by omega
          clear hf hq k2 hback h255
          simp only [hw32]
          clear hw32
          go_wp2
          go_ret3
          exact esc_none Hf.out (fun B hB => (Hb1.out B hB).trans ((Below.refl B _).setCell hB _ |>.trans (b2 B hB)))
    · rw [hw] at hN
      have dm : ((53 : Int) == (m : Int)) = false := beq_eq_false_iff_ne.2 (by omega)
      clear hA h92 hB hw
      go_enter Tryz.func138, Tryz.ntmps138
      go_wp2_with fail
      refine hN.mono ?_
      rintro e w1 ⟨rfl, k1, b1⟩
      have Hk1 := Lib.hid k1
      have Hb1 := Lib.hid b1
      obtain ⟨p, c1, f1, hp, back⟩ := rd_back HP.out k1
      clear b1 k1 hN
      have hback := HE8.out _ back
      unfold numV at hback
      have Back := Lib.hid back
      clear back
      go_wp2_with fail
      refine hback.mono ?_
      cases hq : Qm.numA 8 3 0 (c :: r) with
      | none =>
        rintro e w2 ⟨rfl, _, b2⟩
        have hf : Qm.esc m (c :: r) = none := by rw [Hesc.out, hq]
        have Hf := Lib.hid hf
        clear hf hq hback
        go_wp2
        go_ret3
        exact esc_none Hf.out (fun B hB => (Hb1.out B hB).trans ((Below.refl B _).setCell hB _ |>.trans (b2 B hB)))
      | some x =>
        obtain ⟨n, q⟩ := x
        have hn := HV.out n q hq
        rintro e w2 ⟨rfl, k2, b2⟩
        have k3 := Lib.hid (k2 n q rfl)
        have hw32 : W32 (n : Int) = (n : Int) := by unfold W32; omega
        by_cases h255 : n ≤ 255
        · have hf : Qm.esc m (c :: r) = some (n, true, q) := by rw [Hesc.out, hq]; exact if_pos h255
          have Hf := Lib.hid hf
          have h255' : (n : Int) ≤ 255 := by omega
          clear hf hq k2 hback h255
          simp only [hw32]
          clear hw32
          go_wp2
          go_ret3
          exact esc_said Hf.out k3.out (fun B hB => (Hb1.out B hB).trans ((Below.refl B _).setCell hB _ |>.trans (b2 B hB)))
        · have hf : Qm.esc m (c :: r) = none := by rw [Hesc.out, hq]; exact if_neg h255
          have Hf := Lib.hid hf
          have h255' : ¬ (n : Int) ≤ 255 := by omega
          clear hf hq k2 hback h255
          simp only [hw32]
          clear hw32
          go_wp2
          go_ret3
          exact esc_none Hf.out (fun B hB => (Hb1.out B hB).trans ((Below.refl B _).setCell hB _ |>.trans (b2 B hB)))
    · rw [hw] at hN
      have dm : ((54 : Int) == (m : Int)) = false := beq_eq_false_iff_ne.2 (by omega)
      clear hA h92 hB hw
      go_enter Tryz.func138, Tryz.ntmps138
      go_wp2_with fail
      refine hN.mono ?_
      rintro e w1 ⟨rfl, k1, b1⟩
      have Hk1 := Lib.hid k1
      have Hb1 := Lib.hid b1
      obtain ⟨p, c1, f1, hp, back⟩ := rd_back HP.out k1
      clear b1 k1 hN
      have hback := HE8.out _ back
      unfold numV at hback
      have Back := Lib.hid back
      clear back
      go_wp2_with fail
      refine hback.mono ?_
      cases hq : Qm.numA 8 3 0 (c :: r) with
      | none =>
        rintro e w2 ⟨rfl, _, b2⟩
        have hf : Qm.esc m (c :: r) = none := by rw [Hesc.out, hq]
        have Hf := Lib.hid hf
        clear hf hq hback
        go_wp2
        go_ret3
        exact esc_none Hf.out (fun B hB => (Hb1.out B hB).trans ((Below.refl B _).setCell hB _ |>.trans (b2 B hB)))
      | some x =>
        obtain ⟨n, q⟩ := x
        have hn := HV.out n q hq
        rintro e w2 ⟨rfl, k2, b2⟩
        have k3 := Lib.hid (k2 n q rfl)
        have hw32 : W32 (n : Int) = (n : Int) := by unfold W32; omega
        by_cases h255 : n ≤ 255
        · have hf : Qm.esc m (c :: r) = some (n, true, q) := by rw [Hesc.out, hq]; exact if_pos h255
          have Hf := Lib.hid hf
          have h255' : (n : Int) ≤ 255 := by omega
          clear hf hq k2 hback h255
          simp only [hw32]
          clear hw32
          go_wp2
          go_ret3
          exact esc_said Hf.out k3.out (fun B hB => (Hb1.out B hB).trans ((Below.refl B _).setCell hB _ |>.trans (b2 B hB)))
        · have hf : Qm.esc m (c :: r) = none := by rw [Hesc.out, hq]; exact if_neg h255
          have Hf := Lib.hid hf
          have h255' : ¬ (n : Int) ≤ 255 := by omega
          clear hf hq k2 hback h255
          simp only [hw32]
          clear hw32
          go_wp2
          go_ret3
          exact esc_none Hf.out (fun B hB => (Hb1.out B hB).trans ((Below.refl B _).setCell hB _ |>.trans (b2 B hB)))
    · rw [hw] at hN
      have dm : ((55 : Int) == (m : Int)) = false := beq_eq_false_iff_ne.2 (by omega)
      clear hA h92 hB hw
      go_enter Tryz.func138, Tryz.ntmps138
      go_wp2_with fail
      refine hN.mono ?_
      rintro e w1 ⟨rfl, k1, b1⟩
      have Hk1 := Lib.hid k1
      have Hb1 := Lib.hid b1
      obtain ⟨p, c1, f1, hp, back⟩ := rd_back HP.out k1
      clear b1 k1 hN
      have hback := HE8.out _ back
      unfold numV at hback
      have Back := Lib.hid back
      clear back
      go_wp2_with fail
      refine hback.mono ?_
      cases hq : Qm.numA 8 3 0 (c :: r) with
      | none =>
        rintro e w2 ⟨rfl, _, b2⟩
        have hf : Qm.esc m (c :: r) = none := by rw [Hesc.out, hq]
        have Hf := Lib.hid hf
        clear hf hq hback
        go_wp2
        go_ret3
        exact esc_none Hf.out (fun B hB => (Hb1.out B hB).trans ((Below.refl B _).setCell hB _ |>.trans (b2 B hB)))
      | some x =>
        obtain ⟨n, q⟩ := x
        have hn := HV.out n q hq
        rintro e w2 ⟨rfl, k2, b2⟩
        have k3 := Lib.hid (k2 n q rfl)
        have hw32 : W32 (n : Int) = (n : Int) := by unfold W32; omega
        by_cases h255 : n ≤ 255
        · have hf : Qm.esc m (c :: r) = some (n, true, q) := by rw [Hesc.out, hq]; exact if_pos h255
          have Hf := Lib.hid hf
          have h255' : (n : Int) ≤ 255 := by omega
          clear hf hq k2 hback h255
          simp only [hw32]
          clear hw32
          go_wp2
          go_ret3
          exact esc_said Hf.out k3.out (fun B hB => (Hb1.out B hB).trans ((Below.refl B _).setCell hB _ |>.trans (b2 B hB)))
        · have hf : Qm.esc m (c :: r) = none := by rw [Hesc.out, hq]; exact if_neg h255
          have Hf := Lib.hid hf
          have h255' : ¬ (n : Int) ≤ 255 := by omega
          clear hf hq k2 hback h255
          simp only [hw32]
          clear hw32
          go_wp2
          go_ret3
          exact esc_none Hf.out (fun B hB => (Hb1.out B hB).trans ((Below.refl B _).setCell hB _ |>.trans (b2 B hB)))
  rw [if_neg hB] at hesc
  have eq48 : ∀ n : Nat, 48 ≤ n → n ≤ 55 → ((c.toNat : Int) == (n : Int)) = false := fun n h1 h2 => D n (by omega)
  by_cases hC : c.toNat = 85 ∨ c.toNat = 117 ∨ c.toNat = 120
  · rw [if_pos hC] at hesc
    have Hesc := Lib.hid hesc
    clear hesc E8 D eq48 HP
    rcases hC with hw | hw | hw
    · rw [hw] at hN Hesc
      rw [show Qm.wide 85 = 8 from by decide] at Hesc
      have dm : ((85 : Int) == (m : Int)) = false := beq_eq_false_iff_ne.2 (by omega)
      have hv : ∀ n q, Qm.numA 16 8 0 r = some (n, q) → n < 4294967296 := by
        intro n q h
        have := Qm.numA_bound (by omega) h
        omega
      have HV := Lib.hid hv
      have E := E16 8 (by omega)
      have HE := Lib.hid E
      clear hv E16 E hA h92 hB hw
      go_enter Tryz.func138, Tryz.ntmps138
      go_wp2_with fail
      refine hN.mono ?_
      rintro e w1 ⟨rfl, k1, b1⟩
      have Hk1 := Lib.hid k1
      have Hb1 := Lib.hid b1
      have hnum := HE.out _ k1
      unfold numV at hnum
      clear b1 k1 hN
      go_wp2_with fail
      refine hnum.mono ?_
      cases hq : Qm.numA 16 8 0 r with
      | none =>
        rintro e w2 ⟨rfl, _, b2⟩
        have hf : Qm.esc m (c :: r) = none := by rw [Hesc.out, hq]
        have Hf := Lib.hid hf
        clear hf hq hnum
        go_wp2
        go_ret3
        exact esc_none Hf.out (fun B hB => (Hb1.out B hB).trans (b2 B hB))
      | some x =>
        obtain ⟨n, q⟩ := x
        have hn := HV.out n q hq
        rintro e w2 ⟨rfl, k2, b2⟩
        have k3 := Lib.hid (k2 n q rfl)
        obtain ⟨hval, hself⟩ := valid_w32 hn
        have hne := formOf_ne (W32 (n : Int))
        have HF := fun w => form_any (W32 (n : Int)) w
        by_cases hok : Um.okN n
        · have hf : Qm.esc m (c :: r) = some (n, false, q) := by rw [Hesc.out, hq]; exact if_pos hok
          have Hf := Lib.hid hf
          rw [hval.2 hok] at hne
          have hself' := Lib.hid (hself hok)
          clear hf hq k2 hnum hval hself hok
          dsimp only
          generalize W32 (n : Int) = N at hne HF hself' ⊢
          generalize formOf N = F at hne HF
          simp only [Bool.not_true] at hne
          have hne2 : (F.toList != []) = true := by simp only [bne, hne]; rfl
          go_wp2_with fail
          refine (HF _).mono ?_
          rintro e w3 ⟨rfl, rfl⟩
          go_wp2
          go_ret3
          rw [hself'.out]
          exact esc_said Hf.out k3.out (fun B hB => (Hb1.out B hB).trans (b2 B hB))
        · have hf : Qm.esc m (c :: r) = none := by rw [Hesc.out, hq]; exact if_neg hok
          have Hf := Lib.hid hf
          have hvf : Utf8.valid (W32 (n : Int)) = false := by
            cases hx : Utf8.valid (W32 (n : Int)) with
            | false => rfl
            | true => exact absurd (hval.1 hx) hok
          rw [hvf] at hne
          clear hf hq k2 hnum hval hself hok hvf
          dsimp only
          generalize W32 (n : Int) = N at hne HF ⊢
          generalize formOf N = F at hne HF
          simp only [Bool.not_false] at hne
          have hne2 : (F.toList != []) = false := by simp only [bne, hne]; rfl
          go_wp2_with fail
          refine (HF _).mono ?_
          rintro e w3 ⟨rfl, rfl⟩
          go_wp2
          go_ret3
          exact esc_none Hf.out (fun B hB => (Hb1.out B hB).trans (b2 B hB))
    · rw [hw] at hN Hesc
      rw [show Qm.wide 117 = 4 from by decide] at Hesc
      have dm : ((117 : Int) == (m : Int)) = false := beq_eq_false_iff_ne.2 (by omega)
      have hv : ∀ n q, Qm.numA 16 4 0 r = some (n, q) → n < 4294967296 := by
        intro n q h
        have := Qm.numA_bound (by omega) h
        omega
      have HV := Lib.hid hv
      have E := E16 4 (by omega)
      have HE := Lib.hid E
      clear hv E16 E hA h92 hB hw
      go_enter Tryz.func138, Tryz.ntmps138
      go_wp2_with fail
      refine hN.mono ?_
      rintro e w1 ⟨rfl, k1, b1⟩
      have Hk1 := Lib.hid k1
      have Hb1 := Lib.hid b1
      have hnum := HE.out _ k1
      unfold numV at hnum
      clear b1 k1 hN
      go_wp2_with fail
      refine hnum.mono ?_
      cases hq : Qm.numA 16 4 0 r with
      | none =>
        rintro e w2 ⟨rfl, _, b2⟩
        have hf : Qm.esc m (c :: r) = none := by rw [Hesc.out, hq]
        have Hf := Lib.hid hf
        clear hf hq hnum
        go_wp2
        go_ret3
        exact esc_none Hf.out (fun B hB => (Hb1.out B hB).trans (b2 B hB))
      | some x =>
        obtain ⟨n, q⟩ := x
        have hn := HV.out n q hq
        rintro e w2 ⟨rfl, k2, b2⟩
        have k3 := Lib.hid (k2 n q rfl)
        obtain ⟨hval, hself⟩ := valid_w32 hn
        have hne := formOf_ne (W32 (n : Int))
        have HF := fun w => form_any (W32 (n : Int)) w
        by_cases hok : Um.okN n
        · have hf : Qm.esc m (c :: r) = some (n, false, q) := by rw [Hesc.out, hq]; exact if_pos hok
          have Hf := Lib.hid hf
          rw [hval.2 hok] at hne
          have hself' := Lib.hid (hself hok)
          clear hf hq k2 hnum hval hself hok
          dsimp only
          generalize W32 (n : Int) = N at hne HF hself' ⊢
          generalize formOf N = F at hne HF
          simp only [Bool.not_true] at hne
          have hne2 : (F.toList != []) = true := by simp only [bne, hne]; rfl
          go_wp2_with fail
          refine (HF _).mono ?_
          rintro e w3 ⟨rfl, rfl⟩
          go_wp2
          go_ret3
          rw [hself'.out]
          exact esc_said Hf.out k3.out (fun B hB => (Hb1.out B hB).trans (b2 B hB))
        · have hf : Qm.esc m (c :: r) = none := by rw [Hesc.out, hq]; exact if_neg hok
          have Hf := Lib.hid hf
          have hvf : Utf8.valid (W32 (n : Int)) = false := by
            cases hx : Utf8.valid (W32 (n : Int)) with
            | false => rfl
            | true => exact absurd (hval.1 hx) hok
          rw [hvf] at hne
          clear hf hq k2 hnum hval hself hok hvf
          dsimp only
          generalize W32 (n : Int) = N at hne HF ⊢
          generalize formOf N = F at hne HF
          simp only [Bool.not_false] at hne
          have hne2 : (F.toList != []) = false := by simp only [bne, hne]; rfl
          go_wp2_with fail
          refine (HF _).mono ?_
          rintro e w3 ⟨rfl, rfl⟩
          go_wp2
          go_ret3
          exact esc_none Hf.out (fun B hB => (Hb1.out B hB).trans (b2 B hB))
    · rw [hw] at hN Hesc
      rw [show Qm.wide 120 = 2 from by decide] at Hesc
      have dm : ((120 : Int) == (m : Int)) = false := beq_eq_false_iff_ne.2 (by omega)
      have hv : ∀ n q, Qm.numA 16 2 0 r = some (n, q) → n < 4294967296 := by
        intro n q h
        have := Qm.numA_bound (by omega) h
        omega
      have HV := Lib.hid hv
      have E := E16 2 (by omega)
      have HE := Lib.hid E
      clear hv E16 E hA h92 hB hw
      go_enter Tryz.func138, Tryz.ntmps138
      go_wp2_with fail
      refine hN.mono ?_
      rintro e w1 ⟨rfl, k1, b1⟩
      have Hk1 := Lib.hid k1
      have Hb1 := Lib.hid b1
      have hnum := HE.out _ k1
      unfold numV at hnum
      clear b1 k1 hN
      go_wp2_with fail
      refine hnum.mono ?_
      cases hq : Qm.numA 16 2 0 r with
      | none =>
        rintro e w2 ⟨rfl, _, b2⟩
        have hf : Qm.esc m (c :: r) = none := by rw [Hesc.out, hq]
        have Hf := Lib.hid hf
        clear hf hq hnum
        go_wp2
        go_ret3
        exact esc_none Hf.out (fun B hB => (Hb1.out B hB).trans (b2 B hB))
      | some x =>
        obtain ⟨n, q⟩ := x
        have hn := HV.out n q hq
        rintro e w2 ⟨rfl, k2, b2⟩
        have k3 := Lib.hid (k2 n q rfl)
        obtain ⟨hval, hself⟩ := valid_w32 hn
        have hne := formOf_ne (W32 (n : Int))
        have HF := fun w => form_any (W32 (n : Int)) w
        by_cases hok : Um.okN n
        · have hf : Qm.esc m (c :: r) = some (n, true, q) := by rw [Hesc.out, hq]; exact if_pos hok
          have Hf := Lib.hid hf
          rw [hval.2 hok] at hne
          have hself' := Lib.hid (hself hok)
          clear hf hq k2 hnum hval hself hok
          dsimp only
          generalize W32 (n : Int) = N at hne HF hself' ⊢
          generalize formOf N = F at hne HF
          simp only [Bool.not_true] at hne
          have hne2 : (F.toList != []) = true := by simp only [bne, hne]; rfl
          go_wp2_with fail
          refine (HF _).mono ?_
          rintro e w3 ⟨rfl, rfl⟩
          go_wp2
          go_ret3
          rw [hself'.out]
          exact esc_said Hf.out k3.out (fun B hB => (Hb1.out B hB).trans (b2 B hB))
        · have hf : Qm.esc m (c :: r) = none := by rw [Hesc.out, hq]; exact if_neg hok
          have Hf := Lib.hid hf
          have hvf : Utf8.valid (W32 (n : Int)) = false := by
            cases hx : Utf8.valid (W32 (n : Int)) with
            | false => rfl
            | true => exact absurd (hval.1 hx) hok
          rw [hvf] at hne
          clear hf hq k2 hnum hval hself hok hvf
          dsimp only
          generalize W32 (n : Int) = N at hne HF ⊢
          generalize formOf N = F at hne HF
          simp only [Bool.not_false] at hne
          have hne2 : (F.toList != []) = false := by simp only [bne, hne]; rfl
          go_wp2_with fail
          refine (HF _).mono ?_
          rintro e w3 ⟨rfl, rfl⟩
          go_wp2
          go_ret3
          exact esc_none Hf.out (fun B hB => (Hb1.out B hB).trans (b2 B hB))
  rw [if_neg hC] at hesc
  have Hesc := Lib.hid hesc
  have hctl := fun w => control_any c.toNat hlt w
  unfold ctlV ctlB at hctl
  have dm := D m hA
  have d92 : ((c.toNat : Int) == 92) = false := D 92 h92
  have d48 : ((c.toNat : Int) == 48) = false := eq48 48 (by omega) (by omega)
  have d49 : ((c.toNat : Int) == 49) = false := eq48 49 (by omega) (by omega)
  have d50 : ((c.toNat : Int) == 50) = false := eq48 50 (by omega) (by omega)
  have d51 : ((c.toNat : Int) == 51) = false := eq48 51 (by omega) (by omega)
  have d52 : ((c.toNat : Int) == 52) = false := eq48 52 (by omega) (by omega)
  have d53 : ((c.toNat : Int) == 53) = false := eq48 53 (by omega) (by omega)
  have d54 : ((c.toNat : Int) == 54) = false := eq48 54 (by omega) (by omega)
  have d55 : ((c.toNat : Int) == 55) = false := eq48 55 (by omega) (by omega)
  have d85 : ((c.toNat : Int) == 85) = false := D 85 (by omega)
  have d117 : ((c.toNat : Int) == 117) = false := D 117 (by omega)
  have d120 : ((c.toNat : Int) == 120) = false := D 120 (by omega)
  cases hx : Qm.ctl c.toNat with
  | none =>
    have hf : Qm.esc m (c :: r) = none := by rw [Hesc.out, hx]
    have Hf := Lib.hid hf
    rw [hx] at hctl
    simp only [Option.isSome_none] at hctl
    clear hf hesc Hesc E8 E16 D eq48 HP hA h92 hB hC hx
    generalize c.toNat = C at *
    go_enter Tryz.func138, Tryz.ntmps138
    go_wp2_with fail
    refine hN.mono ?_
    rintro e w1 ⟨rfl, k1, b1⟩
    have Hk1 := Lib.hid k1
    have Hb1 := Lib.hid b1
    clear b1 k1 hN
    go_wp2_with fail
    refine (hctl _).mono ?_
    rintro e w2 ⟨rfl, rfl⟩
    go_wp2
    go_ret3
    exact esc_none Hf.out Hb1.out
  | some v =>
    have hf : Qm.esc m (c :: r) = some (v, true, r) := by rw [Hesc.out, hx]
    have Hf := Lib.hid hf
    rw [hx] at hctl
    simp only [Option.isSome_some] at hctl
    clear hf hesc Hesc E8 E16 D eq48 HP hA h92 hB hC hx
    generalize c.toNat = C at *
    go_enter Tryz.func138, Tryz.ntmps138
    go_wp2_with fail
    refine hN.mono ?_
    rintro e w1 ⟨rfl, k1, b1⟩
    have Hk1 := Lib.hid k1
    have Hb1 := Lib.hid b1
    clear b1 k1 hN
    go_wp2_with fail
    refine (hctl _).mono ?_
    rintro e w2 ⟨rfl, rfl⟩
    go_wp2
    go_ret3
    exact esc_said Hf.out Hk1.out Hb1.out

theorem escape_any (g : Nat) (s : ByteArray) (r T : List UInt8) (m : Nat) (w : World) (h : Rd w g s r T) (hm : m = 39 ∨ m = 34) (hs : s.size ≤ 4611686018427387000) :
    Calls Tryz.prog 138 #[.pointer (some ⟨g, 0, none⟩), .int .u8 m] w (EscP g s r T m w) := by
  match r, h with
  | [], h => exact esc_end g s T m w h hs
  | c :: r, h => exact esc_some g s c r T m w h hm hs
end Go.Proofs.YtklmiabgalanhaaGreatDoor

