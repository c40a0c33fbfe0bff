/- Contracts of the small methods of quoted's reader: one, next, say; control; class.Base of a byte. -/
import Derived.Test.YtdpngmhjdafdpaaRead
import Derived.Test.YtdpngmhjdafdpaaQuMath
import Derived.Lib.AppendStr
import Derived.Deep.QuietTactic
import Derived.BigQuiet
import Derived.RegionTactic
import Derived.Deep.OwnRows
import Derived.Deep.RegionLaw
import Derived.Deep.RegionWith
import Derived.BigRegion
import Derived.OwnWalk
import Derived.WalkSmall
namespace Go.Proofs.Ytdpngmhjdafdpaa
open Go.RowKit Em
set_option linter.unusedVariables false
set_option linter.unusedSimpArgs false

theorem grown_from {w w' : World} (h : Below w.heap.size w w') : w.grownBy w' none := ⟨h.os, h.tape, h.output, h.size, fun i hi _ => h.block i hi⟩
theorem own_below {w w' : World} {base : Nat} {e : TypeId} {size : Nat} {v : Value} {n : Nat} {xs : List Value} (h : w.ownsRow base e size v n xs) (hb : Below w.heap.size w w') : w'.ownsRow base e size v n xs :=
  h.kept (grown_from hb) (by cases v.ownBlock <;> simp)
theorem own_weaken {w : World} {base base' : Nat} {e : TypeId} {size : Nat} {v : Value} {n : Nat} {xs : List Value} (h : w.ownsRow base e size v n xs) (hb : base' ≤ base) : w.ownsRow base' e size v n xs := by
  refine ⟨h.1, ?_⟩
  rcases h.2 with h2 | ⟨g, cap, cur, a, b, c⟩
  · exact .inl h2
  · exact .inr ⟨g, cap, cur, a, by omega, c⟩
theorem own_far {w : World} {base : Nat} {e : TypeId} {size : Nat} {v : Value} {n : Nat} {xs : List Value} (h : w.ownsRow base e size v n xs) (a : Addr) (u : Value) (ha : a.block < base) : (w.setCell a u).ownsRow base e size v n xs := by
  refine ⟨h.1, ?_⟩
  rcases h.2 with h2 | ⟨g, cap, cur, hv, hb, hg, hr⟩
  · exact .inl h2
  · exact .inr ⟨g, cap, cur, hv, hb, (Below.heap_setCell _ _ _ _ (by omega)).trans hg, hr⟩

theorem below_drw {B : Nat} {w wr : World} (h : Below B w wr) (n : Nat) : Below B w (wr.drewN n) := ⟨h.os, h.tape, h.output, h.size, fun i hi => h.block i hi⟩

/-- The reader's block: its text, what is left of it, what it says. -/
structure Rd (w : World) (g : Nat) (s : ByteArray) (r T : List UInt8) : Prop where
  x : ∃ (p : Nat) (v : Value), p ≤ s.size ∧ (bl s).drop p = r ∧ w.heap[g]? = some (.cells #[.string s, .int .i64 p, v] 41 (0, 0)) ∧ w.ownsRow (g + 1) 5 1 v T.length (bCells T)

theorem Rd.keep {w w' : World} {g : Nat} {s : ByteArray} {r T : List UInt8} (h : Rd w g s r T) (hb : Below w.heap.size w w') : Rd w' g s r T := by
  obtain ⟨p, v, h1, h2, h3, h4⟩ := h.x
  exact ⟨p, v, h1, h2, (hb.block g (Array.getElem?_eq_some_iff.1 h3).1).trans h3, own_below h4 hb⟩
theorem Rd.draw {w : World} {g : Nat} {s : ByteArray} {r T : List UInt8} (h : Rd w g s r T) (n : Nat) : Rd (w.drewN n) g s r T := by
  obtain ⟨p, v, h1, h2, h3, h4⟩ := h.x
  exact ⟨p, v, h1, h2, h3, h4⟩
theorem Rd.lt {w : World} {g : Nat} {s : ByteArray} {r T : List UInt8} (h : Rd w g s r T) : g < w.heap.size := by
  obtain ⟨p, v, h1, h2, h3, h4⟩ := h.x
  exact (Array.getElem?_eq_some_iff.1 h3).1
/-- The cells, for the walks. -/
theorem Rd.cells {w : World} {g : Nat} {s : ByteArray} {r T : List UInt8} (h : Rd w g s r T) : ∃ (p : Nat) (v : Value), p ≤ s.size ∧ (bl s).drop p = r ∧ w.cell? ⟨g, 0, none⟩ = some (.string s) ∧ w.cell? ⟨g, 1, none⟩ = some (.int .i64 p) ∧ w.cell? ⟨g, 2, none⟩ = some v ∧ w.frozen? ⟨g, 1, none⟩ = false ∧ w.frozen? ⟨g, 2, none⟩ = false ∧ w.ownsRow (g + 1) 5 1 v T.length (bCells T) ∧ w.heap[g]? = some (.cells #[.string s, .int .i64 p, v] 41 (0, 0)) := by
  obtain ⟨p, v, h1, h2, h3, h4⟩ := h.x
  exact ⟨p, v, h1, h2, by rw [cell_of_row w g 0 _ _ _ h3]; rfl, by rw [cell_of_row w g 1 _ _ _ h3]; rfl, by rw [cell_of_row w g 2 _ _ _ h3]; rfl, frozen_of_row w g 1 _ _ h3, frozen_of_row w g 2 _ _ h3, h4, h3⟩
theorem Rd.setAt {w : World} {g : Nat} {s : ByteArray} {T : List UInt8} {p : Nat} {v : Value} (h3 : w.heap[g]? = some (.cells #[.string s, .int .i64 p, v] 41 (0, 0))) (h4 : w.ownsRow (g + 1) 5 1 v T.length (bCells T)) (q : Nat) (hq : q ≤ s.size) :
    Rd (w.setCell ⟨g, 1, none⟩ (.int .i64 q)) g s ((bl s).drop q) T :=
  ⟨q, v, hq, rfl, by rw [heap_setCell_same w g 1 _ _ _ h3]; rfl, own_far h4 _ _ (by simp)⟩

theorem bl_drop' (s : ByteArray) (p : Nat) (h : p < s.size) : (bl s).drop p = (s[p]'h) :: (bl s).drop (p + 1) := by
  have hl : p < (bl s).length := by rw [bl_size]; exact h
  rw [List.drop_eq_getElem_cons hl]
  rfl

/-- Does a byte stand ahead? -/
def hdN (b : Nat) : List UInt8 → Bool
  | [] => false
  | c :: _ => decide (c.toNat = b)

theorem hdN_at (s : ByteArray) (p : Nat) (h : p < s.size) (b : Nat) : hdN b ((bl s).drop p) = decide (byN s p = b) := by
  rw [bl_drop' s p h]
  unfold hdN
  rw [← byN_get s p h]

set_option maxHeartbeats 1000000 in
theorem one_is (g : Nat) (s : ByteArray) (r T : List UInt8) (b : Nat) (v : Bool) (w : World) (h : Rd w g s r T) (hb : b < 256) (hs : s.size ≤ 4611686018427387000) (hv : hdN b r = v) :
    Calls Try.prog 48 #[.pointer (some ⟨g, 0, none⟩), .int .u8 b] w fun e w' => e = .returned (.bool v) ∧ Rd w' g s (bif v then r.tail else r) T ∧ ∀ B, B ≤ g → Below B w w' := by
  obtain ⟨p, u, hp, hr, c0, c1, c2, f1, f2, ho, hh⟩ := h.cells
  have H := Lib.hid h
  have b0 : (0 : Int) ≤ (p : Int) := by omega
  clear h
  by_cases hps : p < s.size
  · have hlt : (p : Int) < (s.size : Int) := by omega
    have e1 := byN_get s p hps
    have l1 := byN_lt s p
    have hne : ((p : Int) == (s.size : Int)) = false := beq_eq_false_iff_ne.2 (by omega)
    rw [← hr, hdN_at s p hps] at hv
    have K1 := Lib.hid (Rd.setAt hh ho (p + 1) (by omega))
    have ht : r.tail = (bl s).drop (p + 1) := by rw [← hr, bl_drop' s p hps]; rfl
    have HT := Lib.hid ht
    have v1 : ((p + 1 : Nat) : Int) = (p : Int) + 1 := by push_cast; rfl
    rw [v1] at K1
    clear ht hr ho hh v1
    generalize byN s p = C at e1 l1 hv
    cases v with
    | true =>
      have hc : C = b := of_decide_eq_true hv
      subst hc
      have d1 : ((C : Int) != (C : Int)) = false := by simp
      have d2 : ((C : Int) == (C : Int)) = true := by simp
      clear hv
      go_enter Try.func48, Try.ntmps48
      go_wp2
      go_quiet (fail)
      go_wp2
      go_ret
      exact ⟨rfl, by rw [cond_true, HT.out]; exact K1.out.draw _, fun B hB => ((below_drw (Below.refl _ _) _).setCell hB _)⟩
    | false =>
      have hc : ¬ C = b := of_decide_eq_false hv
      have d1 : ((C : Int) != (b : Int)) = true := by simp; omega
      have d2 : ((C : Int) == (b : Int)) = false := beq_eq_false_iff_ne.2 (by omega)
      clear hv hc
      go_enter Try.func48, Try.ntmps48
      go_wp2
      go_quiet (fail)
      go_wp2
      go_ret
      exact ⟨rfl, H.out.draw _, fun B hB => below_drw (Below.refl _ _) _⟩
  · obtain rfl : p = s.size := by omega
    have hd0 : (bl s).drop s.size = [] := List.drop_eq_nil_of_le (by rw [bl_size]; omega)
    rw [hd0] at hr
    subst hr
    have : v = false := hv.symm
    subst this
    clear hd0
    go_enter Try.func48, Try.ntmps48
    go_wp2
    go_quiet (fail)
    go_wp2
    go_ret
    exact ⟨rfl, H.out.draw _, fun B hB => below_drw (Below.refl _ _) _⟩

theorem ret_bb {a c : Nat} {b d : Bool} (h : a = c) (h' : b = d) : Ending.returned (.tuple #[.int .u8 (a : Int), .bool b]) = .returned (.tuple #[.int .u8 (c : Int), .bool d]) := by rw [h, h']

/-- next, at the end. -/
theorem next_end (g : Nat) (s : ByteArray) (T : List UInt8) (w : World) (h : Rd w g s [] T) (hs : s.size ≤ 4611686018427387000) :
    Calls Try.prog 66 #[.pointer (some ⟨g, 0, none⟩)] w fun e w' => e = .returned (.tuple #[.int .u8 0, .bool false]) ∧ Rd w' g s [] T ∧ ∀ B, B ≤ g → Below B w w' := by
  obtain ⟨p, u, hp, hr, c0, c1, c2, f1, f2, ho, hh⟩ := h.cells
  have H := Lib.hid h
  have b0 : (0 : Int) ≤ (p : Int) := by omega
  have hps : p = s.size := by
    by_cases hlt : p < s.size
    · rw [bl_drop' s p hlt] at hr; cases hr
    · omega
  subst hps
  clear h hr ho hh
  go_enter Try.func66, Try.ntmps66
  go_wp2
  go_quiet (fail)
  go_wp2
  go_ret2
  exact ⟨rfl, H.out.draw _, fun B hB => below_drw (Below.refl _ _) _⟩

set_option maxHeartbeats 1000000 in
theorem next_some (g : Nat) (s : ByteArray) (c : UInt8) (r T : List UInt8) (w : World) (h : Rd w g s (c :: r) T) (hs : s.size ≤ 4611686018427387000) :
    Calls Try.prog 66 #[.pointer (some ⟨g, 0, none⟩)] w fun e w' => e = .returned (.tuple #[.int .u8 (c.toNat : Nat), .bool true]) ∧ Rd w' g s r T ∧ ∀ B, B ≤ g → Below B w w' := by
  obtain ⟨p, u, hp, hr, c0, c1, c2, f1, f2, ho, hh⟩ := h.cells
  have b0 : (0 : Int) ≤ (p : Int) := by omega
  have hps : p < s.size := by
    by_cases hlt : p < s.size
    · exact hlt
    · rw [List.drop_eq_nil_of_le (by rw [bl_size]; omega)] at hr; cases hr
  have hlt : (p : Int) < (s.size : Int) := by omega
  have hne : ((p : Int) == (s.size : Int)) = false := beq_eq_false_iff_ne.2 (by omega)
  rw [bl_drop' s p hps] at hr
  obtain ⟨hc, hr'⟩ := List.cons.inj hr
  have e1 : (s[p]'hps).toNat = c.toNat := by rw [hc]
  have l1 := c.toNat_lt
  have K1 := fun q => Lib.hid (Rd.setAt (w := w.drewN q) hh ho (p + 1) (by omega))
  have v1 : ((p + 1 : Nat) : Int) = (p : Int) + 1 := by push_cast; rfl
  simp only [hr', v1] at K1
  have k0 : (w.setCell ⟨g, 1, none⟩ (.int .i64 ((p : Int) + 1))).cell? ⟨g, 0, none⟩ = some (.string s) := by
    rw [cell_of_row _ g 0 _ _ _ (heap_setCell_same w g 1 _ _ _ hh)]; rfl
  have k1 : (w.setCell ⟨g, 1, none⟩ (.int .i64 ((p : Int) + 1))).cell? ⟨g, 1, none⟩ = some (.int .i64 ((p : Int) + 1)) := by
    rw [cell_of_row _ g 1 _ _ _ (heap_setCell_same w g 1 _ _ _ hh)]; rfl
  have w1 : IntKind.i64.wrap ((p : Int) + 1 - 1) = (p : Int) := by rw [IntKind.wrap_i64]; omega
  clear h hr ho hh v1 hr' hc
  generalize c.toNat = C at e1 l1 ⊢
  go_enter Try.func66, Try.ntmps66
  go_wp2
  go_quiet (fail)
  go_wp2
  go_quiet (fail)
  go_wp2
  go_ret2
  exact ⟨rfl, ((K1 _).out.draw _), fun B hB => below_drw (((below_drw (Below.refl _ _) _).setCell hB _)) _⟩

/-- control -/
def ctlV (n : Nat) : Int := match Qm.ctl n with | some v => (v : Int) | none => 0
def ctlB (n : Nat) : Bool := (Qm.ctl n).isSome

theorem control_any (n : Nat) (hn : n < 256) (w : World) :
    Calls Try.prog 73 #[.int .u8 n] w fun e w' => e = .returned (.tuple #[.int .i32 (ctlV n), .bool (ctlB n)]) ∧ w = w' := by
  by_cases h1 : n = 97
  · subst h1
    go_enter Try.func73, Try.ntmps73
    go_wp2
    go_ret2
    exact ⟨rfl, rfl⟩
  by_cases h2 : n = 98
  · subst h2
    go_enter Try.func73, Try.ntmps73
    go_wp2
    go_ret2
    exact ⟨rfl, rfl⟩
  by_cases h3 : n = 116
  · subst h3
    go_enter Try.func73, Try.ntmps73
    go_wp2
    go_ret2
    exact ⟨rfl, rfl⟩
  by_cases h4 : n = 110
  · subst h4
    go_enter Try.func73, Try.ntmps73
    go_wp2
    go_ret2
    exact ⟨rfl, rfl⟩
  by_cases h5 : n = 118
  · subst h5
    go_enter Try.func73, Try.ntmps73
    go_wp2
    go_ret2
    exact ⟨rfl, rfl⟩
  by_cases h6 : n = 102
  · subst h6
    go_enter Try.func73, Try.ntmps73
    go_wp2
    go_ret2
    exact ⟨rfl, rfl⟩
  by_cases h7 : n = 114
  · subst h7
    go_enter Try.func73, Try.ntmps73
    go_wp2
    go_ret2
    exact ⟨rfl, rfl⟩
  have hv : Qm.ctl n = none := by unfold Qm.ctl; rw [if_neg h1, if_neg h2, if_neg h3, if_neg h4, if_neg h5, if_neg h6, if_neg h7]
  have e1 : ctlV n = 0 := by unfold ctlV; rw [hv]
  have e2 : ctlB n = false := by unfold ctlB; rw [hv]; rfl
  rw [e1, e2]
  have D : ∀ k : Nat, n ≠ k → ((n : Int) == (k : Int)) = false := fun k h => beq_eq_false_iff_ne.2 (by omega)
  have d1 : ((n : Int) == 97) = false := D 97 h1
  have d2 : ((n : Int) == 98) = false := D 98 h2
  have d3 : ((n : Int) == 116) = false := D 116 h3
  have d4 : ((n : Int) == 110) = false := D 110 h4
  have d5 : ((n : Int) == 118) = false := D 118 h5
  have d6 : ((n : Int) == 102) = false := D 102 h6
  have d7 : ((n : Int) == 114) = false := D 114 h7
  clear D hv e1 e2
  go_enter Try.func73, Try.ntmps73
  go_wp2
  go_ret2
  exact ⟨rfl, rfl⟩

/-- What a byte says as a digit; -1: none. -/
def bsI (n : Nat) : Int := if 48 ≤ n ∧ n ≤ 57 then (n : Int) - 48 else if 97 ≤ n ∧ n ≤ 102 then (n : Int) - 97 + 10 else if 65 ≤ n ∧ n ≤ 70 then (n : Int) - 65 + 10 else -1
theorem bsI_dg (c : UInt8) : (Nm.dg c < 16 → bsI c.toNat = Nm.dg c) ∧ (¬ Nm.dg c < 16 → bsI c.toNat = -1) := by
  unfold bsI Nm.dg
  constructor
  · intro h
    repeat' split at h
    all_goals (repeat' split) <;> omega
  · intro h
    repeat' split at h
    all_goals (repeat' split) <;> omega

theorem base_byte (n : Nat) (hn : n < 256) (w : World) :
    Calls Try.prog 80 #[.int .i32 n] w fun e w' => e = .returned (.int .i64 (bsI n)) ∧ w = w' := by
  unfold bsI
  by_cases h1 : 48 ≤ n ∧ n ≤ 57
  · rw [if_pos h1]
    have a : (48 : Int) ≤ n := by omega
    have b : (n : Int) ≤ 57 := by omega
    go_enter Try.func80, Try.ntmps80
    go_wp2
    go_ret
    exact ⟨rfl, rfl⟩
  · rw [if_neg h1]
    by_cases h2 : 97 ≤ n ∧ n ≤ 102
    · rw [if_pos h2]
      have a : (97 : Int) ≤ n := by omega
      have b : (n : Int) ≤ 102 := by omega
      have c : ¬ (n : Int) ≤ 57 := by omega
      have c2 : (48 : Int) ≤ n := by omega
      have c3 : (65 : Int) ≤ n := by omega
      have c4 : ¬ (n : Int) ≤ 70 := by omega
      go_enter Try.func80, Try.ntmps80
      go_wp2
      go_ret
      exact ⟨rfl, rfl⟩
    · rw [if_neg h2]
      by_cases h3 : 65 ≤ n ∧ n ≤ 70
      · rw [if_pos h3]
        have a : (65 : Int) ≤ n := by omega
        have b : (n : Int) ≤ 70 := by omega
        have c : ¬ (n : Int) ≤ 57 := by omega
        have c2 : (48 : Int) ≤ n := by omega
        have c3 : ¬ (97 : Int) ≤ n := by omega
        go_enter Try.func80, Try.ntmps80
        go_wp2
        go_ret
        exact ⟨rfl, rfl⟩
      · rw [if_neg h3]
        go_enter Try.func80, Try.ntmps80
        go_wp2
        all_goals first | (exfalso; omega) | (go_ret; exact ⟨rfl, rfl⟩)
end Go.Proofs.Ytdpngmhjdafdpaa
