/- The laws' helper 'fixed' of layer 10: the document's example; two rows held against each other. -/
import Derived.Test.YtklmiabgalanhaaTrFnD
import Derived.Test.YtklmiabgalanhaaTrDep
namespace Go.Proofs.Ytklmiabgalanhaa
open Go.RowKit Km Tm
set_option maxRecDepth 100000
set_option linter.unusedVariables false

set_option maxHeartbeats 2000000 in
/-- Rows of the same integers are the same. -/
theorem ints_same (x y : Option Addr) (cx cy : Nat) (S : List Int) (bx bY : Nat) (w : World) (hx : w.ownsRow bx 3 1 (.slice x S.length cx) S.length (iRow S)) (hy : w.ownsRow bY 3 1 (.slice y S.length cy) S.length (iRow S)) (hn : S.length ≤ 4611686018427387904) :
    Calls Try.prog 22 #[.slice x S.length cx, .slice y S.length cy] w fun e w' => e = .returned (.bool true) ∧ ∃ d, w' = w.drewN d := by
  have hc : ∀ {z : Option Addr} {cz bz : Nat}, w.ownsRow bz 3 1 (.slice z S.length cz) S.length (iRow S) → ∀ i, (hi : i < S.length) → ∃ g, z = some ⟨g, 0, none⟩ ∧ w.cell? ⟨g, i, none⟩ = some (.int .i64 (S.getD i 0)) := by
    intro z cz bz h i hi
    rcases h.2 with ⟨hv, h0⟩ | ⟨g, cap, cur, hv, _⟩
    · omega
    · injection hv with v1 v2 v3
      subst v1
      exact ⟨g, rfl, owns_cell h (iRow_get (by rw [List.getElem?_eq_getElem hi]; simp [hi]))⟩
  have Hx := Lib.hid (hc hx)
  have Hy := Lib.hid (hc hy)
  clear hx hy hc
  generalize hN : S.length = n at *
  go_enter Try.func22, Try.ntmps22
  go_wp2
  go_loopw [5] (fun iv wr => ∃ i d : Nat, i ≤ n ∧ iv = .int .i64 i ∧ wr = w.drewN d) (fun iv _ => n - (intOf iv).toNat)
  case atStart => exact ⟨0, 0, by omega, rfl, rfl⟩
  case round =>
    obtain ⟨i, d, hi, rfl, rfl⟩ := hrel
    by_cases hlt : i < n
    · obtain ⟨g, rfl, d0⟩ := Hx.out i (by omega)
      obtain ⟨g2, rfl, e0⟩ := Hy.out i (by omega)
      generalize S.getD i 0 = V at d0 e0
      have b0 : (0 : Int) ≤ (i : Int) := by omega
      have b1 : (i : Int) < (n : Int) := by omega
      have v1 : ((V : Int) == V) = true := beq_self_eq_true _
      have v2 : ((V : Int) != V) = false := by rw [bne, v1]; rfl
      go_wp2
      go_quiet (fail)
      go_wp2
      go_roundw
      case rel => exact ⟨i + 1, _, by omega, by go_num, rfl⟩
      case measure => simp [intOf]; omega
    · have b1 : ¬ (i : Int) < (n : Int) := by omega
      go_wp2
      go_ret
      exact ⟨rfl, d, rfl⟩

/-- The document's example. -/
def L3 : List Nd := [⟨37, 2, 1, 0, 3⟩, ⟨26, 0, 0, 0, 1⟩, ⟨26, 0, 2, 2, 3⟩]
theorem l3_tr (N : Int) (h : uA (nthN L3) N 3 = some []) : Tr L3.length (nthN L3) N := tr_of_uA (n := 3) (by omega) h
theorem l3_yes : Tr L3.length (nthN L3) 3 := l3_tr 3 rfl
theorem l3_tm : TM L3 := l3_tr 131072 rfl
theorem l3_no : ¬ Tr L3.length (nthN L3) 2 := tr_no (n := 3) (i := 1) (by omega) rfl (by omega)
theorem l3_e0 : enL L3 0 = 3 := l3_tm.1.root
theorem l3_w1 : W 3 (Kx (nthN L3)) 1 1 = some 2 := (W_go (n := 3) (K := Kx (nthN L3)) (i := 1) (m := 0) (by omega) (by decide) (by decide)).trans (W_zero 2)
theorem l3_w2 : W 3 (Kx (nthN L3)) 2 1 = some 3 := (W_go (n := 3) (K := Kx (nthN L3)) (i := 2) (m := 0) (by omega) (by decide) (by decide)).trans (W_zero 3)
theorem l3_e1 : enL L3 1 = 2 := by unfold enL E; rw [show L3.length = 3 from rfl, l3_w1]; rfl
theorem l3_e2 : enL L3 2 = 3 := by unfold enL E; rw [show L3.length = 3 from rfl, l3_w2]; rfl
theorem l3_u (i : Nat) (hi : i < 3) : upL L3 i = abo (nthN L3) 131072 i := (abo_up l3_tm hi).symm
theorem l3_u0 : upL L3 0 = -1 := rfl
theorem l3_u1 : upL L3 1 = 0 := (l3_u 1 (by omega)).trans rfl
theorem l3_u2 : upL L3 2 = 0 := (l3_u 2 (by omega)).trans rfl
theorem l3_kids : kidL L3 0 = [1, 2] := by
  unfold kidL
  rw [kids_up l3_tm.1 (by decide)]
  show ([0, 1, 2].filter fun k => upL L3 k == (0 : Int)) = [1, 2]
  simp [l3_u0, l3_u1, l3_u2]
theorem l3_own : ownL L3 0 = [1] := by
  have h : ∀ t, mine L3 0 t = !([1, 2].any fun k => decide (has (nthN L3 k) t)) := fun t => by unfold mine; rw [l3_kids]
  unfold ownL ownT
  rw [show mine L3 0 = fun t => !([1, 2].any fun k => decide (has (nthN L3 k) t)) from funext h]
  rfl
theorem l3_over : over (nthN L3) 1 L3.length = 0 := rfl
theorem l3_dep : depL L3 = 2 := by
  have h0 := dD_root (U := upL L3) (i := 0) (by rw [l3_u0]; omega)
  have h1 := dD_step (upL_lt L3) (i := 1) (p := 0) l3_u1
  have h2 := dD_step (upL_lt L3) (i := 2) (p := 0) l3_u2
  unfold depL
  show max (max (max 0 (dD (upL L3) 0)) (dD (upL L3) 1)) (dD (upL L3) 2) = 2
  omega

set_option maxHeartbeats 4000000 in
theorem fixed_any (w : World) : Calls Try.prog 7 #[] w fun e w' => e = .returned (.bool true) ∧ Below w.heap.size w w' := by
  have hb0 := (Below.refl w.heap.size w).alloc (Nat.le_refl _) (.cells #[.int .u8 37, .int .i64 2, .int .i64 1, .int .i64 0, .int .i64 3, .int .u8 26, .int .i64 0, .int .i64 0, .int .i64 0, .int .i64 1, .int .u8 26, .int .i64 0, .int .i64 2, .int .i64 2, .int .i64 3] 35)
  have hn : Nw (w.alloc (.cells #[.int .u8 37, .int .i64 2, .int .i64 1, .int .i64 0, .int .i64 3, .int .u8 26, .int .i64 0, .int .i64 0, .int .i64 0, .int .i64 1, .int .u8 26, .int .i64 0, .int .i64 2, .int .i64 2, .int .i64 3] 35)) (some ⟨w.heap.size, 0, none⟩) L3 := by
    have ha := heap_alloc_new w (.cells #[.int .u8 37, .int .i64 2, .int .i64 1, .int .i64 0, .int .i64 3, .int .u8 26, .int .i64 0, .int .i64 0, .int .i64 0, .int .i64 1, .int .u8 26, .int .i64 0, .int .i64 2, .int .i64 2, .int .i64 3] 35)
    refine ⟨fun _ => ⟨w.heap.size, 0, rfl, by simp, fun i hi => ?_⟩, by decide, fun i hi => ?_⟩
    · have hi : i < 3 := hi
      have hc : i = 0 ∨ i = 1 ∨ i = 2 := by omega
      unfold At5
      rcases hc with rfl | rfl | rfl <;> (refine ⟨?_, ?_, ?_, ?_, ?_⟩ <;> (rw [cell_of_row _ _ _ _ _ _ ha]; rfl))
    · have hi : i < 3 := hi
      have hc : i = 0 ∨ i = 1 ∨ i = 2 := by omega
      rcases hc with rfl | rfl | rfl <;> decide
  have HN := Lib.hid hn
  have B0 := Lib.hid hb0
  clear hn hb0
  go_enter Try.func7, Try.ntmps7
  go_wp2_with fail
  refine (check_yes 3 (some ⟨w.heap.size, 0, none⟩) 3 L3 _ (by omega) (by omega) HN.out l3_yes).mono ?_
  rintro e w1 ⟨rfl, b1⟩
  have N1 := Lib.hid (HN.out.keep b1)
  have B1 := Lib.hid (B0.out.trans (b1.mono B0.out.size))
  clear b1
  go_wp2_with fail
  refine (check_no 2 (some ⟨w.heap.size, 0, none⟩) 3 L3 _ (by omega) (by omega) N1.out l3_no).mono ?_
  rintro e w2 ⟨rfl, b2⟩
  have N2 := Lib.hid (N1.out.keep b2)
  have B2 := Lib.hid (B1.out.trans (b2.mono B1.out.size))
  clear b2
  go_wp2_with fail
  refine (end_some 0 (some ⟨w.heap.size, 0, none⟩) 3 L3 _ N2.out (by decide) l3_tm).mono ?_
  rw [l3_e0]
  rintro e w3 ⟨rfl, b3⟩
  have N3 := Lib.hid (N2.out.keep b3)
  have B3 := Lib.hid (B2.out.trans (b3.mono B2.out.size))
  clear b3
  go_wp2_with fail
  refine (end_some 1 (some ⟨w.heap.size, 0, none⟩) 3 L3 _ N3.out (by decide) l3_tm).mono ?_
  rw [l3_e1]
  rintro e w4 ⟨rfl, b4⟩
  have N4 := Lib.hid (N3.out.keep b4)
  have B4 := Lib.hid (B3.out.trans (b4.mono B3.out.size))
  clear b4
  go_wp2_with fail
  refine (up_some 2 (some ⟨w.heap.size, 0, none⟩) 3 L3 _ N4.out (by decide) l3_tm).mono ?_
  rw [l3_u2]
  rintro e w5 ⟨rfl, b5⟩
  have N5 := Lib.hid (N4.out.keep b5)
  have B5 := Lib.hid (B4.out.trans (b5.mono B4.out.size))
  clear b5
  go_wp2_with fail
  refine (own_some 0 (some ⟨w.heap.size, 0, none⟩) 3 L3 _ N5.out (by decide) l3_tm).mono ?_
  rw [l3_own]
  rintro e w6 ⟨v, rfl, ho, b6⟩
  have N6 := Lib.hid (N5.out.keep b6)
  have B6 := Lib.hid (B5.out.trans (b6.mono B5.out.size))
  obtain ⟨y, cy, hv, _⟩ := owns_form ho
  subst hv
  have b7 := (Below.refl w6.heap.size w6).alloc (Nat.le_refl _) (.cells #[.int .i64 1] 3)
  have N7 := Lib.hid (N6.out.keep b7)
  have B7 := Lib.hid (B6.out.trans (b7.mono B6.out.size))
  have Ho := Lib.hid (ho.alloc (.cells #[.int .i64 1] 3))
  have ho1 : (w6.alloc (.cells #[.int .i64 1] 3)).ownsRow w6.heap.size 3 1 (.slice (some ⟨w6.heap.size, 0, none⟩) 1 1) 1 (iRow [1]) := ⟨rfl, .inr ⟨w6.heap.size, 1, _, rfl, Nat.le_refl _, heap_alloc_new w6 _, Nat.le_refl _, by unfold maxLen; omega, rfl, rfl⟩⟩
  have HI := Lib.hid (ints_same y (some ⟨w6.heap.size, 0, none⟩) cy 1 [1] _ _ _ Ho.out ho1 (by decide))
  clear b6 b7 ho ho1
  go_wp2_with fail
  refine HI.out.mono ?_
  rintro e w8 ⟨rfl, d8, hw8⟩
  have b8 : Below (w6.alloc (.cells #[.int .i64 1] 3)).heap.size (w6.alloc (.cells #[.int .i64 1] 3)) w8 := by rw [hw8]; exact below_draw (Below.refl _ _) _
  have N8 := Lib.hid (N7.out.keep b8)
  have B8 := Lib.hid (B7.out.trans (b8.mono B7.out.size))
  clear b8 hw8
  go_wp2_with fail
  refine (over_some 1 (some ⟨w.heap.size, 0, none⟩) 3 L3 _ N8.out l3_tm).mono ?_
  rw [l3_over]
  rintro e w9 ⟨rfl, b9⟩
  have N9 := Lib.hid (N8.out.keep b9)
  have B9 := Lib.hid (B8.out.trans (b9.mono B8.out.size))
  clear b9
  go_wp2_with fail
  refine (depth_some (some ⟨w.heap.size, 0, none⟩) 3 L3 _ N9.out l3_tm).mono ?_
  rw [l3_dep]
  rintro e w10 ⟨rfl, b10⟩
  have B10 := Lib.hid (B9.out.trans (b10.mono B9.out.size))
  clear b10
  go_wp2
  go_ret
  exact ⟨rfl, B10.out⟩
end Go.Proofs.Ytklmiabgalanhaa
