/- Contracts of span.trimmed and of the reference's Trimmed. Written by tools/gen_trim.py (one text for both). -/
import Derived.Test.YtckioinjgdjohaaEdUndo
import Derived.Test.YtckioinjgdjohaaEdTrimMath
import Derived.Deep.LoopGhost
import Derived.Lib.Strings
namespace Go.Proofs.Ytckioinjgdjohaa
open Go.RowKit Em

theorem empty_iff (s : ByteArray) : s.toList.isEmpty = decide (s.size = 0) := by
  rw [Lib.toList_data]
  cases h : s.data.toList with
  | nil => have : s.data.toList.length = 0 := by rw [h]; rfl
           rw [Array.length_toList] at this
           exact (decide_eq_true this).symm
  | cons a l => have : s.data.toList.length = l.length + 1 := by rw [h]; rfl
                rw [Array.length_toList] at this
                exact (decide_eq_false (show ¬ s.data.size = 0 by omega)).symm

/-- A block of the call's own that holds an edit. -/
def Box (w : World) (g : Nat) (f t : Int) (y : ByteArray) : Prop := w.heap[g]? = some (.cells #[.int .i64 f, .int .i64 t, .string y] 36 (0, 0))
theorem Box.c0 {w : World} {g : Nat} {f t : Int} {y : ByteArray} (h : Box w g f t y) : w.cell? ⟨g, 0, none⟩ = some (.int .i64 f) := by rw [cell_of_row w g 0 _ _ _ h]; rfl
theorem Box.c1 {w : World} {g : Nat} {f t : Int} {y : ByteArray} (h : Box w g f t y) : w.cell? ⟨g, 1, none⟩ = some (.int .i64 t) := by rw [cell_of_row w g 1 _ _ _ h]; rfl
theorem Box.c2 {w : World} {g : Nat} {f t : Int} {y : ByteArray} (h : Box w g f t y) : w.cell? ⟨g, 2, none⟩ = some (.string y) := by rw [cell_of_row w g 2 _ _ _ h]; rfl
theorem Box.free {w : World} {g : Nat} {f t : Int} {y : ByteArray} (h : Box w g f t y) (i : Nat) : w.frozen? ⟨g, i, none⟩ = false := frozen_of_row w g i _ _ h
theorem Box.set0 {w : World} {g : Nat} {f t f' : Int} {y : ByteArray} (h : Box w g f t y) : Box (w.setCell ⟨g, 0, none⟩ (.int .i64 f')) g f' t y := heap_setCell_same w g 0 _ _ _ h
theorem Box.set1 {w : World} {g : Nat} {f t t' : Int} {y : ByteArray} (h : Box w g f t y) : Box (w.setCell ⟨g, 1, none⟩ (.int .i64 t')) g f t' y := heap_setCell_same w g 1 _ _ _ h
theorem Box.set2 {w : World} {g : Nat} {f t : Int} {y y' : ByteArray} (h : Box w g f t y) : Box (w.setCell ⟨g, 2, none⟩ (.string y')) g f t y' := heap_setCell_same w g 2 _ _ _ h
theorem Box.far {w : World} {g : Nat} {f t : Int} {y : ByteArray} (h : Box w g f t y) {p : Addr} (hp : g ≠ p.block) (v : Value) : Box (w.setCell p v) g f t y := (Below.heap_setCell w p v g hp).trans h
theorem Box.draw {w : World} {g : Nat} {f t : Int} {y : ByteArray} (h : Box w g f t y) (n : Nat) : Box (w.drewN n) g f t y := h
theorem Box.keep {w w' : World} {g : Nat} {f t : Int} {y : ByteArray} (h : Box w g f t y) (hb : Below w.heap.size w w') : Box w' g f t y := (hb.block g (Array.getElem?_eq_some_iff.1 h).1).trans h

def edV (e : Ed) : Value := .agg #[.int .i64 e.f, .int .i64 e.t, .string e.x]
theorem bl_tail (y : ByteArray) : bl (y.extract 1 y.size) = (bl y).drop 1 := by rw [bl_extract, ← bl_size, List.take_length]
theorem bl_init (y : ByteArray) (n : Nat) : bl (y.extract 0 n) = (bl y).take n := by rw [bl_extract]; rfl
theorem trm_eq (s : ByteArray) (f t : Nat) (x : ByteArray) : trm s ⟨f, t, x⟩ = (let a := tr1 (bl s) t f (bl x); let b := tr2 (bl s) a.1 t a.2; (⟨(a.1 : Nat), (b.1 : Nat), ⟨b.2.toArray⟩⟩ : Ed)) := rfl
theorem trm_at {s : ByteArray} {f t f' : Nat} {x y : ByteArray} {E : Ed} (h : E = (let a := tr1 (bl s) t f (bl x); let b := tr2 (bl s) a.1 t a.2; (⟨(a.1 : Nat), (b.1 : Nat), ⟨b.2.toArray⟩⟩ : Ed))) (h1 : tr1 (bl s) t f (bl x) = (f', bl y)) :
    E = (⟨(f' : Nat), ((tr2 (bl s) f' t (bl y)).1 : Nat), ⟨(tr2 (bl s) f' t (bl y)).2.toArray⟩⟩ : Ed) := by rw [h, h1]
theorem trm_end {s : ByteArray} {t f' t' : Nat} {y z : ByteArray} {E : Ed} (h : E = (⟨(f' : Nat), ((tr2 (bl s) f' t (bl y)).1 : Nat), ⟨(tr2 (bl s) f' t (bl y)).2.toArray⟩⟩ : Ed)) (h1 : tr2 (bl s) f' t (bl y) = (t', bl z)) : E = ⟨f', t', z⟩ := by
  rw [h, h1]
  exact Ed.ext' rfl rfl (bl_inj (bl_of _))

set_option maxRecDepth 100000 in
set_option maxHeartbeats 4000000 in
theorem trimmed_any (s : ByteArray) (f0 t0 : Nat) (x : ByteArray) (w : World) (h1 : f0 ≤ t0) (h2 : t0 ≤ s.size) (h3 : s.size ≤ 4611686018427387904) (h4 : x.size ≤ 4611686018427387904) :
    Calls Try.prog 31 #[.string s, .agg #[.int .i64 f0, .int .i64 t0, .string x]] w fun e w' => e = .returned (edV (trm s ⟨f0, t0, x⟩)) ∧ Below w.heap.size w w' := by
  have hw0 : Box ((w.alloc (.cells #[.int .i64 f0, .int .i64 t0, .string x] 36)).alloc (.cells #[.int .i64 0, .int .i64 0, .string ByteArray.empty] 36)) w.heap.size f0 t0 x := heap_alloc2_old w _ _
  have hw1 : Box ((w.alloc (.cells #[.int .i64 f0, .int .i64 t0, .string x] 36)).alloc (.cells #[.int .i64 0, .int .i64 0, .string ByteArray.empty] 36)) (w.heap.size + 1) 0 0 ByteArray.empty := heap_alloc2_new w _ _
  have hw2 : Below w.heap.size w ((w.alloc (.cells #[.int .i64 f0, .int .i64 t0, .string x] 36)).alloc (.cells #[.int .i64 0, .int .i64 0, .string ByteArray.empty] 36)) := ((Below.refl _ _).alloc (Nat.le_refl _) _).alloc (by simp) _
  have HT := Lib.hid (trm_eq s f0 t0 x)
  go_enter Try.func31, Try.ntmps31
  go_wp2
  go_loopg [] t0 (fun kx wr => ∃ (f : Nat) (y : ByteArray), Box wr w.heap.size f t0 y ∧ Box wr (w.heap.size + 1) 0 0 ByteArray.empty ∧ f ≤ t0 ∧ t0 - f ≤ kx ∧ y.size ≤ 4611686018427387904 ∧ tr1 (bl s) t0 f (bl y) = tr1 (bl s) t0 f0 (bl x) ∧ Below w.heap.size w wr)
  case atStart => exact ⟨f0, x, hw0, hw1, h1, by omega, h4, rfl, hw2⟩
  case round =>
    obtain ⟨f, y, hbx, hby, hf, hkx, hy, htr, hb⟩ := hrel
    have Htr := Lib.hid htr
    have Hb := Lib.hid hb
    have Hbx := Lib.hid hbx
    have Hby := Lib.hid hby
    have k0 := hbx.c0
    have k1 := hbx.c1
    have k2 := hbx.c2
    have z0 := hbx.free 0
    have z2 := hbx.free 2
    clear htr hb hbx hby hw0 hw1 hw2
    by_cases c1 : f < t0
    · by_cases c2 : 0 < y.size
      · have e1 := byN_get s f (by omega)
        have e2 := byN_get y 0 c2
        have l1 := byN_lt s f
        have l2 := byN_lt y 0
        have d1 : decide (f < t0) = true := decide_eq_true c1
        have hem : y.toList.isEmpty = false := by rw [empty_iff, decide_eq_false (by omega)]
        have hem2 : (!y.toList.isEmpty) = true := by rw [hem]; rfl
        have hln : decide ((0 : Int) < (y.size : Int)) = true := decide_eq_true (by omega)
        have hln2 : decide (0 < y.size) = true := decide_eq_true (by omega)
        have b0 : (0 : Int) ≤ (f : Int) := by omega
        have b1 : (f : Int) < (s.size : Int) := by omega
        have b2 : (0 : Int) < (y.size : Int) := by omega
        cases hm : ((byN s f : Int) == (byN y 0 : Int)) with
        | true =>
          have hbe : (bl s)[f]? = (bl y)[0]? := (byN_iff (by omega) c2).1 (Int.ofNat_inj.1 (beq_iff_eq.1 hm))
          have hst := tr1_yes c1 (by rw [bl_size]; exact c2) hbe
          rw [← bl_tail] at hst
          have Hst := Lib.hid (hst.symm.trans Htr.out)
          clear hst hbe
          generalize byN s f = B1 at e1 l1 hm
          generalize byN y 0 = B2 at e2 l2 hm
          go_wp2
          go_quiet (fail)
          go_wp2
          go_roundg (t0 - (f + 1))
          case measure => omega
          case rel => exact ⟨f + 1, _, ((Hbx.out.draw nq).set0).set2, ((Hby.out.draw nq).far (by simp) _).far (by simp) _, by omega, by omega, by rw [ByteArray.size_extract]; omega, Hst.out, ((below_draw Hb.out nq).setCell (Nat.le_refl _) _).setCell (Nat.le_refl _) _⟩
        | false =>
          have hex : tr1 (bl s) t0 f (bl y) = (f, bl y) := tr1_no (fun h => by
            have := (byN_iff (by omega) c2).2 h
            rw [this, beq_self_eq_true] at hm; cases hm)
          have Hex := Lib.hid (Htr.out.symm.trans hex)
          clear hex
          generalize byN s f = B1 at e1 l1 hm
          generalize byN y 0 = B2 at e2 l2 hm
          go_wp2
          go_quiet (fail)
          clear d1 hem hem2 hln hln2 b0 b1 b2 e1 e2 l1 l2 hm c2 k0 k1 k2 z0 z2
          have hb2 := below_draw Hb.out nq
          have hbx2 := Hbx.out.draw nq
          have hby2 := Hby.out.draw nq
          have HT2 := Lib.hid (trm_at HT.out Hex.out)
          clear Hb Hbx Hby HT Hex Htr hkx c1
          generalize wr.drewN nq = W2 at hb2 hbx2 hby2
          go_wp2
          go_loopg [] t0 (fun kx wr => ∃ (t : Nat) (z : ByteArray), Box wr w.heap.size f t z ∧ Box wr (w.heap.size + 1) 0 0 ByteArray.empty ∧ f ≤ t ∧ t ≤ t0 ∧ t - f ≤ kx ∧ z.size ≤ 4611686018427387904 ∧ tr2 (bl s) f t (bl z) = tr2 (bl s) f t0 (bl y) ∧ Below w.heap.size w wr)
          case atStart => exact ⟨t0, y, hbx2, hby2, hf, Nat.le_refl _, by omega, hy, rfl, hb2⟩
          case round =>
            clear hb2 hbx2 hby2
            obtain ⟨t, z, hbx, hby, hft, htt, hkx, hz, htr, hb⟩ := hrel
            have Htr := Lib.hid htr
            have Hb := Lib.hid hb
            have Hbx := Lib.hid hbx
            have Hby := Lib.hid hby
            have k0 := hbx.c0
            have k1 := hbx.c1
            have k2 := hbx.c2
            have z0 := hbx.free 1
            have z2 := hbx.free 2
            have y0 := hby.free 0
            have y1 := hby.free 1
            have y2 := hby.free 2
            have x0 := hby.c0
            have x1 := hby.c1
            have x2 := hby.c2
            clear htr hb hbx hby
            by_cases c1 : f < t
            · by_cases c2 : 0 < z.size
              · have e1 := byN_get s (t - 1) (by omega)
                have e2 := byN_get z (z.size - 1) (by omega)
                have l1 := byN_lt s (t - 1)
                have l2 := byN_lt z (z.size - 1)
                have d1 : decide (f < t) = true := decide_eq_true c1
                have hem : z.toList.isEmpty = false := by rw [empty_iff, decide_eq_false (by omega)]
                have hem2 : (!z.toList.isEmpty) = true := by rw [hem]; rfl
                have hln : decide ((0 : Int) < (z.size : Int)) = true := decide_eq_true (by omega)
                have hln2 : decide (0 < z.size) = true := decide_eq_true (by omega)
                have b0 : (0 : Int) ≤ (t : Int) - 1 := by omega
                have b1 : (t : Int) - 1 < (s.size : Int) := by omega
                have b2 : (0 : Int) ≤ (z.size : Int) - 1 := by omega
                have b3 : (z.size : Int) - 1 < (z.size : Int) := by omega
                have b4 : (1 : Int) ≤ (t : Int) := by omega
                have b5 : (1 : Int) ≤ (z.size : Int) := by omega
                have b6 : 1 ≤ t := by omega
                have b7 : 1 ≤ z.size := by omega
                have w1 : IntKind.i64.wrap ((t : Int) - 1) = (t : Int) - 1 := IntWalk.i64_in _ (by omega)
                have w2 : IntKind.i64.wrap ((z.size : Int) - 1) = (z.size : Int) - 1 := IntWalk.i64_in _ (by omega)
                have w3 : ((t : Int) - 1).toNat = t - 1 := by omega
                have w4 : ((z.size : Int) - 1).toNat = z.size - 1 := by omega
                cases hm : ((byN s (t - 1) : Int) == (byN z (z.size - 1) : Int)) with
                | true =>
                  have hbe : (bl s)[t - 1]? = (bl z)[(bl z).length - 1]? := by rw [bl_size]; exact (byN_iff (by omega) (by omega)).1 (Int.ofNat_inj.1 (beq_iff_eq.1 hm))
                  have hst := tr2_yes c1 (by rw [bl_size]; exact c2) hbe
                  rw [← bl_init, bl_size] at hst
                  have Hst := Lib.hid (hst.symm.trans Htr.out)
                  clear hst hbe
                  generalize byN s (t - 1) = B1 at e1 l1 hm
                  generalize byN z (z.size - 1) = B2 at e2 l2 hm
                  go_wp2
                  go_quiet (fail)
                  clear w1 w2
                  go_wp2
                  go_roundg (t - 1 - f)
                  case measure => omega
                  case rel =>
                    have ec : (t : Int) - 1 = ((t - 1 : Nat) : Int) := by omega
                    rw [ec]
                    exact ⟨t - 1, _, ((Hbx.out.draw nq).set1).set2, ((Hby.out.draw nq).far (by simp) _).far (by simp) _, by omega, by omega, by omega, by rw [ByteArray.size_extract]; omega, Hst.out, ((below_draw Hb.out nq).setCell (Nat.le_refl _) _).setCell (Nat.le_refl _) _⟩
                | false =>
                  have hex : tr2 (bl s) f t (bl z) = (t, bl z) := tr2_no (by rw [bl_size]; exact c2) (fun h => by
                    rw [bl_size] at h
                    have := (byN_iff (by omega) (by omega)).2 h
                    rw [this, beq_self_eq_true] at hm; cases hm)
                  have hfin := trm_end HT2.out (Htr.out.symm.trans hex)
                  have Hfin := Lib.hid hfin
                  clear hex hfin
                  generalize byN s (t - 1) = B1 at e1 l1 hm
                  generalize byN z (z.size - 1) = B2 at e2 l2 hm
                  go_wp2
                  go_quiet (fail)
                  clear w1 w2
                  go_wp2
                  have hbf : Box _ (w.heap.size + 1) f t z := (((Hby.out.draw nq).set0 (f' := f)).set1 (t' := t)).set2 (y' := z)
                  have r0 := hbf.c0
                  have r1 := hbf.c1
                  have r2 := hbf.c2
                  refine bodyPost_ret (v := edV ⟨f, t, z⟩) ?_ ?_ ?_
                  · simp [edV, results, Try.results31, go_sem, r0, r1, r2]
                  · rfl
                  · exact ⟨by rw [Hfin.out], (((below_draw Hb.out nq).setCell (by simp) _).setCell (by simp) _).setCell (by simp) _⟩
              · have d1 : decide (f < t) = true := decide_eq_true c1
                have hem : z.toList.isEmpty = true := by rw [empty_iff, decide_eq_true (by omega)]
                have hem2 : (!z.toList.isEmpty) = false := by rw [hem]; rfl
                have hln : decide ((0 : Int) < (z.size : Int)) = false := decide_eq_false (by omega)
                have hln2 : decide (0 < z.size) = false := decide_eq_false (by omega)
                have hex : tr2 (bl s) f t (bl z) = (t, bl z) := by
                  have : bl z = [] := List.eq_nil_of_length_eq_zero (by rw [bl_size]; omega)
                  rw [this]; exact tr2_nil
                have hfin := trm_end HT2.out (Htr.out.symm.trans hex)
                have Hfin := Lib.hid hfin
                clear hex hfin
                go_wp2
                go_quiet (fail)
                go_wp2
                have hbf : Box _ (w.heap.size + 1) f t z := (((Hby.out.draw nq).set0 (f' := f)).set1 (t' := t)).set2 (y' := z)
                have r0 := hbf.c0
                have r1 := hbf.c1
                have r2 := hbf.c2
                refine bodyPost_ret (v := edV ⟨f, t, z⟩) ?_ ?_ ?_
                · simp [edV, results, Try.results31, go_sem, r0, r1, r2]
                · rfl
                · exact ⟨by rw [Hfin.out], (((below_draw Hb.out nq).setCell (by simp) _).setCell (by simp) _).setCell (by simp) _⟩
            · have d1 : decide (f < t) = false := decide_eq_false c1
              have hex : tr2 (bl s) f t (bl z) = (t, bl z) := tr2_end c1
              have hfin := trm_end HT2.out (Htr.out.symm.trans hex)
              have Hfin := Lib.hid hfin
              clear hex hfin
              go_wp2
              go_quiet (fail)
              go_wp2
              have hbf : Box _ (w.heap.size + 1) f t z := (((Hby.out.draw nq).set0 (f' := f)).set1 (t' := t)).set2 (y' := z)
              have r0 := hbf.c0
              have r1 := hbf.c1
              have r2 := hbf.c2
              refine bodyPost_ret (v := edV ⟨f, t, z⟩) ?_ ?_ ?_
              · simp [edV, results, Try.results31, go_sem, r0, r1, r2]
              · rfl
              · exact ⟨by rw [Hfin.out], (((below_draw Hb.out nq).setCell (by simp) _).setCell (by simp) _).setCell (by simp) _⟩
      · have d1 : decide (f < t0) = true := decide_eq_true c1
        have hem : y.toList.isEmpty = true := by rw [empty_iff, decide_eq_true (by omega)]
        have hem2 : (!y.toList.isEmpty) = false := by rw [hem]; rfl
        have hln : decide ((0 : Int) < (y.size : Int)) = false := decide_eq_false (by omega)
        have hln2 : decide (0 < y.size) = false := decide_eq_false (by omega)
        have hex : tr1 (bl s) t0 f (bl y) = (f, bl y) := by
          have : bl y = [] := List.eq_nil_of_length_eq_zero (by rw [bl_size]; omega)
          rw [this]; rfl
        have Hex := Lib.hid (Htr.out.symm.trans hex)
        clear hex
        go_wp2
        go_quiet (fail)
        clear d1 hem hem2 hln hln2 c2 k0 k1 k2 z0 z2
        have hb2 := below_draw Hb.out nq
        have hbx2 := Hbx.out.draw nq
        have hby2 := Hby.out.draw nq
        have HT2 := Lib.hid (trm_at HT.out Hex.out)
        clear Hb Hbx Hby HT Hex Htr hkx c1
        generalize wr.drewN nq = W2 at hb2 hbx2 hby2
        go_wp2
        go_loopg [] t0 (fun kx wr => ∃ (t : Nat) (z : ByteArray), Box wr w.heap.size f t z ∧ Box wr (w.heap.size + 1) 0 0 ByteArray.empty ∧ f ≤ t ∧ t ≤ t0 ∧ t - f ≤ kx ∧ z.size ≤ 4611686018427387904 ∧ tr2 (bl s) f t (bl z) = tr2 (bl s) f t0 (bl y) ∧ Below w.heap.size w wr)
        case atStart => exact ⟨t0, y, hbx2, hby2, hf, Nat.le_refl _, by omega, hy, rfl, hb2⟩
        case round =>
          clear hb2 hbx2 hby2
          obtain ⟨t, z, hbx, hby, hft, htt, hkx, hz, htr, hb⟩ := hrel
          have Htr := Lib.hid htr
          have Hb := Lib.hid hb
          have Hbx := Lib.hid hbx
          have Hby := Lib.hid hby
          have k0 := hbx.c0
          have k1 := hbx.c1
          have k2 := hbx.c2
          have z0 := hbx.free 1
          have z2 := hbx.free 2
          have y0 := hby.free 0
          have y1 := hby.free 1
          have y2 := hby.free 2
          have x0 := hby.c0
          have x1 := hby.c1
          have x2 := hby.c2
          clear htr hb hbx hby
          by_cases c1 : f < t
          · by_cases c2 : 0 < z.size
            · have e1 := byN_get s (t - 1) (by omega)
              have e2 := byN_get z (z.size - 1) (by omega)
              have l1 := byN_lt s (t - 1)
              have l2 := byN_lt z (z.size - 1)
              have d1 : decide (f < t) = true := decide_eq_true c1
              have hem : z.toList.isEmpty = false := by rw [empty_iff, decide_eq_false (by omega)]
              have hem2 : (!z.toList.isEmpty) = true := by rw [hem]; rfl
              have hln : decide ((0 : Int) < (z.size : Int)) = true := decide_eq_true (by omega)
              have hln2 : decide (0 < z.size) = true := decide_eq_true (by omega)
              have b0 : (0 : Int) ≤ (t : Int) - 1 := by omega
              have b1 : (t : Int) - 1 < (s.size : Int) := by omega
              have b2 : (0 : Int) ≤ (z.size : Int) - 1 := by omega
              have b3 : (z.size : Int) - 1 < (z.size : Int) := by omega
              have b4 : (1 : Int) ≤ (t : Int) := by omega
              have b5 : (1 : Int) ≤ (z.size : Int) := by omega
              have b6 : 1 ≤ t := by omega
              have b7 : 1 ≤ z.size := by omega
              have w1 : IntKind.i64.wrap ((t : Int) - 1) = (t : Int) - 1 := IntWalk.i64_in _ (by omega)
              have w2 : IntKind.i64.wrap ((z.size : Int) - 1) = (z.size : Int) - 1 := IntWalk.i64_in _ (by omega)
              have w3 : ((t : Int) - 1).toNat = t - 1 := by omega
              have w4 : ((z.size : Int) - 1).toNat = z.size - 1 := by omega
              cases hm : ((byN s (t - 1) : Int) == (byN z (z.size - 1) : Int)) with
              | true =>
                have hbe : (bl s)[t - 1]? = (bl z)[(bl z).length - 1]? := by rw [bl_size]; exact (byN_iff (by omega) (by omega)).1 (Int.ofNat_inj.1 (beq_iff_eq.1 hm))
                have hst := tr2_yes c1 (by rw [bl_size]; exact c2) hbe
                rw [← bl_init, bl_size] at hst
                have Hst := Lib.hid (hst.symm.trans Htr.out)
                clear hst hbe
                generalize byN s (t - 1) = B1 at e1 l1 hm
                generalize byN z (z.size - 1) = B2 at e2 l2 hm
                go_wp2
                go_quiet (fail)
                clear w1 w2
                go_wp2
                go_roundg (t - 1 - f)
                case measure => omega
                case rel =>
                  have ec : (t : Int) - 1 = ((t - 1 : Nat) : Int) := by omega
                  rw [ec]
                  exact ⟨t - 1, _, ((Hbx.out.draw nq).set1).set2, ((Hby.out.draw nq).far (by simp) _).far (by simp) _, by omega, by omega, by omega, by rw [ByteArray.size_extract]; omega, Hst.out, ((below_draw Hb.out nq).setCell (Nat.le_refl _) _).setCell (Nat.le_refl _) _⟩
              | false =>
                have hex : tr2 (bl s) f t (bl z) = (t, bl z) := tr2_no (by rw [bl_size]; exact c2) (fun h => by
                  rw [bl_size] at h
                  have := (byN_iff (by omega) (by omega)).2 h
                  rw [this, beq_self_eq_true] at hm; cases hm)
                have hfin := trm_end HT2.out (Htr.out.symm.trans hex)
                have Hfin := Lib.hid hfin
                clear hex hfin
                generalize byN s (t - 1) = B1 at e1 l1 hm
                generalize byN z (z.size - 1) = B2 at e2 l2 hm
                go_wp2
                go_quiet (fail)
                clear w1 w2
                go_wp2
                have hbf : Box _ (w.heap.size + 1) f t z := (((Hby.out.draw nq).set0 (f' := f)).set1 (t' := t)).set2 (y' := z)
                have r0 := hbf.c0
                have r1 := hbf.c1
                have r2 := hbf.c2
                refine bodyPost_ret (v := edV ⟨f, t, z⟩) ?_ ?_ ?_
                · simp [edV, results, Try.results31, go_sem, r0, r1, r2]
                · rfl
                · exact ⟨by rw [Hfin.out], (((below_draw Hb.out nq).setCell (by simp) _).setCell (by simp) _).setCell (by simp) _⟩
            · have d1 : decide (f < t) = true := decide_eq_true c1
              have hem : z.toList.isEmpty = true := by rw [empty_iff, decide_eq_true (by omega)]
              have hem2 : (!z.toList.isEmpty) = false := by rw [hem]; rfl
              have hln : decide ((0 : Int) < (z.size : Int)) = false := decide_eq_false (by omega)
              have hln2 : decide (0 < z.size) = false := decide_eq_false (by omega)
              have hex : tr2 (bl s) f t (bl z) = (t, bl z) := by
                have : bl z = [] := List.eq_nil_of_length_eq_zero (by rw [bl_size]; omega)
                rw [this]; exact tr2_nil
              have hfin := trm_end HT2.out (Htr.out.symm.trans hex)
              have Hfin := Lib.hid hfin
              clear hex hfin
              go_wp2
              go_quiet (fail)
              go_wp2
              have hbf : Box _ (w.heap.size + 1) f t z := (((Hby.out.draw nq).set0 (f' := f)).set1 (t' := t)).set2 (y' := z)
              have r0 := hbf.c0
              have r1 := hbf.c1
              have r2 := hbf.c2
              refine bodyPost_ret (v := edV ⟨f, t, z⟩) ?_ ?_ ?_
              · simp [edV, results, Try.results31, go_sem, r0, r1, r2]
              · rfl
              · exact ⟨by rw [Hfin.out], (((below_draw Hb.out nq).setCell (by simp) _).setCell (by simp) _).setCell (by simp) _⟩
          · have d1 : decide (f < t) = false := decide_eq_false c1
            have hex : tr2 (bl s) f t (bl z) = (t, bl z) := tr2_end c1
            have hfin := trm_end HT2.out (Htr.out.symm.trans hex)
            have Hfin := Lib.hid hfin
            clear hex hfin
            go_wp2
            go_quiet (fail)
            go_wp2
            have hbf : Box _ (w.heap.size + 1) f t z := (((Hby.out.draw nq).set0 (f' := f)).set1 (t' := t)).set2 (y' := z)
            have r0 := hbf.c0
            have r1 := hbf.c1
            have r2 := hbf.c2
            refine bodyPost_ret (v := edV ⟨f, t, z⟩) ?_ ?_ ?_
            · simp [edV, results, Try.results31, go_sem, r0, r1, r2]
            · rfl
            · exact ⟨by rw [Hfin.out], (((below_draw Hb.out nq).setCell (by simp) _).setCell (by simp) _).setCell (by simp) _⟩
    · have d1 : decide (f < t0) = false := decide_eq_false c1
      have hex : tr1 (bl s) t0 f (bl y) = (f, bl y) := tr1_end c1
      have Hex := Lib.hid (Htr.out.symm.trans hex)
      clear hex
      go_wp2
      go_quiet (fail)
      clear d1 k0 k1 k2 z0 z2
      have hb2 := below_draw Hb.out nq
      have hbx2 := Hbx.out.draw nq
      have hby2 := Hby.out.draw nq
      have HT2 := Lib.hid (trm_at HT.out Hex.out)
      clear Hb Hbx Hby HT Hex Htr hkx c1
      generalize wr.drewN nq = W2 at hb2 hbx2 hby2
      go_wp2
      go_loopg [] t0 (fun kx wr => ∃ (t : Nat) (z : ByteArray), Box wr w.heap.size f t z ∧ Box wr (w.heap.size + 1) 0 0 ByteArray.empty ∧ f ≤ t ∧ t ≤ t0 ∧ t - f ≤ kx ∧ z.size ≤ 4611686018427387904 ∧ tr2 (bl s) f t (bl z) = tr2 (bl s) f t0 (bl y) ∧ Below w.heap.size w wr)
      case atStart => exact ⟨t0, y, hbx2, hby2, hf, Nat.le_refl _, by omega, hy, rfl, hb2⟩
      case round =>
        clear hb2 hbx2 hby2
        obtain ⟨t, z, hbx, hby, hft, htt, hkx, hz, htr, hb⟩ := hrel
        have Htr := Lib.hid htr
        have Hb := Lib.hid hb
        have Hbx := Lib.hid hbx
        have Hby := Lib.hid hby
        have k0 := hbx.c0
        have k1 := hbx.c1
        have k2 := hbx.c2
        have z0 := hbx.free 1
        have z2 := hbx.free 2
        have y0 := hby.free 0
        have y1 := hby.free 1
        have y2 := hby.free 2
        have x0 := hby.c0
        have x1 := hby.c1
        have x2 := hby.c2
        clear htr hb hbx hby
        by_cases c1 : f < t
        · by_cases c2 : 0 < z.size
          · have e1 := byN_get s (t - 1) (by omega)
            have e2 := byN_get z (z.size - 1) (by omega)
            have l1 := byN_lt s (t - 1)
            have l2 := byN_lt z (z.size - 1)
            have d1 : decide (f < t) = true := decide_eq_true c1
            have hem : z.toList.isEmpty = false := by rw [empty_iff, decide_eq_false (by omega)]
            have hem2 : (!z.toList.isEmpty) = true := by rw [hem]; rfl
            have hln : decide ((0 : Int) < (z.size : Int)) = true := decide_eq_true (by omega)
            have hln2 : decide (0 < z.size) = true := decide_eq_true (by omega)
            have b0 : (0 : Int) ≤ (t : Int) - 1 := by omega
            have b1 : (t : Int) - 1 < (s.size : Int) := by omega
            have b2 : (0 : Int) ≤ (z.size : Int) - 1 := by omega
            have b3 : (z.size : Int) - 1 < (z.size : Int) := by omega
            have b4 : (1 : Int) ≤ (t : Int) := by omega
            have b5 : (1 : Int) ≤ (z.size : Int) := by omega
            have b6 : 1 ≤ t := by omega
            have b7 : 1 ≤ z.size := by omega
            have w1 : IntKind.i64.wrap ((t : Int) - 1) = (t : Int) - 1 := IntWalk.i64_in _ (by omega)
            have w2 : IntKind.i64.wrap ((z.size : Int) - 1) = (z.size : Int) - 1 := IntWalk.i64_in _ (by omega)
            have w3 : ((t : Int) - 1).toNat = t - 1 := by omega
            have w4 : ((z.size : Int) - 1).toNat = z.size - 1 := by omega
            cases hm : ((byN s (t - 1) : Int) == (byN z (z.size - 1) : Int)) with
            | true =>
              have hbe : (bl s)[t - 1]? = (bl z)[(bl z).length - 1]? := by rw [bl_size]; exact (byN_iff (by omega) (by omega)).1 (Int.ofNat_inj.1 (beq_iff_eq.1 hm))
              have hst := tr2_yes c1 (by rw [bl_size]; exact c2) hbe
              rw [← bl_init, bl_size] at hst
              have Hst := Lib.hid (hst.symm.trans Htr.out)
              clear hst hbe
              generalize byN s (t - 1) = B1 at e1 l1 hm
              generalize byN z (z.size - 1) = B2 at e2 l2 hm
              go_wp2
              go_quiet (fail)
              clear w1 w2
              go_wp2
              go_roundg (t - 1 - f)
              case measure => omega
              case rel =>
                have ec : (t : Int) - 1 = ((t - 1 : Nat) : Int) := by omega
                rw [ec]
                exact ⟨t - 1, _, ((Hbx.out.draw nq).set1).set2, ((Hby.out.draw nq).far (by simp) _).far (by simp) _, by omega, by omega, by omega, by rw [ByteArray.size_extract]; omega, Hst.out, ((below_draw Hb.out nq).setCell (Nat.le_refl _) _).setCell (Nat.le_refl _) _⟩
            | false =>
              have hex : tr2 (bl s) f t (bl z) = (t, bl z) := tr2_no (by rw [bl_size]; exact c2) (fun h => by
                rw [bl_size] at h
                have := (byN_iff (by omega) (by omega)).2 h
                rw [this, beq_self_eq_true] at hm; cases hm)
              have hfin := trm_end HT2.out (Htr.out.symm.trans hex)
              have Hfin := Lib.hid hfin
              clear hex hfin
              generalize byN s (t - 1) = B1 at e1 l1 hm
              generalize byN z (z.size - 1) = B2 at e2 l2 hm
              go_wp2
              go_quiet (fail)
              clear w1 w2
              go_wp2
              have hbf : Box _ (w.heap.size + 1) f t z := (((Hby.out.draw nq).set0 (f' := f)).set1 (t' := t)).set2 (y' := z)
              have r0 := hbf.c0
              have r1 := hbf.c1
              have r2 := hbf.c2
              refine bodyPost_ret (v := edV ⟨f, t, z⟩) ?_ ?_ ?_
              · simp [edV, results, Try.results31, go_sem, r0, r1, r2]
              · rfl
              · exact ⟨by rw [Hfin.out], (((below_draw Hb.out nq).setCell (by simp) _).setCell (by simp) _).setCell (by simp) _⟩
          · have d1 : decide (f < t) = true := decide_eq_true c1
            have hem : z.toList.isEmpty = true := by rw [empty_iff, decide_eq_true (by omega)]
            have hem2 : (!z.toList.isEmpty) = false := by rw [hem]; rfl
            have hln : decide ((0 : Int) < (z.size : Int)) = false := decide_eq_false (by omega)
            have hln2 : decide (0 < z.size) = false := decide_eq_false (by omega)
            have hex : tr2 (bl s) f t (bl z) = (t, bl z) := by
              have : bl z = [] := List.eq_nil_of_length_eq_zero (by rw [bl_size]; omega)
              rw [this]; exact tr2_nil
            have hfin := trm_end HT2.out (Htr.out.symm.trans hex)
            have Hfin := Lib.hid hfin
            clear hex hfin
            go_wp2
            go_quiet (fail)
            go_wp2
            have hbf : Box _ (w.heap.size + 1) f t z := (((Hby.out.draw nq).set0 (f' := f)).set1 (t' := t)).set2 (y' := z)
            have r0 := hbf.c0
            have r1 := hbf.c1
            have r2 := hbf.c2
            refine bodyPost_ret (v := edV ⟨f, t, z⟩) ?_ ?_ ?_
            · simp [edV, results, Try.results31, go_sem, r0, r1, r2]
            · rfl
            · exact ⟨by rw [Hfin.out], (((below_draw Hb.out nq).setCell (by simp) _).setCell (by simp) _).setCell (by simp) _⟩
        · have d1 : decide (f < t) = false := decide_eq_false c1
          have hex : tr2 (bl s) f t (bl z) = (t, bl z) := tr2_end c1
          have hfin := trm_end HT2.out (Htr.out.symm.trans hex)
          have Hfin := Lib.hid hfin
          clear hex hfin
          go_wp2
          go_quiet (fail)
          go_wp2
          have hbf : Box _ (w.heap.size + 1) f t z := (((Hby.out.draw nq).set0 (f' := f)).set1 (t' := t)).set2 (y' := z)
          have r0 := hbf.c0
          have r1 := hbf.c1
          have r2 := hbf.c2
          refine bodyPost_ret (v := edV ⟨f, t, z⟩) ?_ ?_ ?_
          · simp [edV, results, Try.results31, go_sem, r0, r1, r2]
          · rfl
          · exact ⟨by rw [Hfin.out], (((below_draw Hb.out nq).setCell (by simp) _).setCell (by simp) _).setCell (by simp) _⟩

set_option maxRecDepth 100000 in
set_option maxHeartbeats 4000000 in
theorem rtrimmed_any (s : ByteArray) (f0 t0 : Nat) (x : ByteArray) (w : World) (h1 : f0 ≤ t0) (h2 : t0 ≤ s.size) (h3 : s.size ≤ 4611686018427387904) (h4 : x.size ≤ 4611686018427387904) :
    Calls Try.prog 23 #[.string s, .agg #[.int .i64 f0, .int .i64 t0, .string x]] w fun e w' => e = .returned (edV (trm s ⟨f0, t0, x⟩)) ∧ Below w.heap.size w w' := by
  have hw0 : Box ((w.alloc (.cells #[.int .i64 f0, .int .i64 t0, .string x] 36)).alloc (.cells #[.int .i64 0, .int .i64 0, .string ByteArray.empty] 36)) w.heap.size f0 t0 x := heap_alloc2_old w _ _
  have hw1 : Box ((w.alloc (.cells #[.int .i64 f0, .int .i64 t0, .string x] 36)).alloc (.cells #[.int .i64 0, .int .i64 0, .string ByteArray.empty] 36)) (w.heap.size + 1) 0 0 ByteArray.empty := heap_alloc2_new w _ _
  have hw2 : Below w.heap.size w ((w.alloc (.cells #[.int .i64 f0, .int .i64 t0, .string x] 36)).alloc (.cells #[.int .i64 0, .int .i64 0, .string ByteArray.empty] 36)) := ((Below.refl _ _).alloc (Nat.le_refl _) _).alloc (by simp) _
  have HT := Lib.hid (trm_eq s f0 t0 x)
  go_enter Try.func23, Try.ntmps23
  go_wp2
  go_loopg [] t0 (fun kx wr => ∃ (f : Nat) (y : ByteArray), Box wr w.heap.size f t0 y ∧ Box wr (w.heap.size + 1) 0 0 ByteArray.empty ∧ f ≤ t0 ∧ t0 - f ≤ kx ∧ y.size ≤ 4611686018427387904 ∧ tr1 (bl s) t0 f (bl y) = tr1 (bl s) t0 f0 (bl x) ∧ Below w.heap.size w wr)
  case atStart => exact ⟨f0, x, hw0, hw1, h1, by omega, h4, rfl, hw2⟩
  case round =>
    obtain ⟨f, y, hbx, hby, hf, hkx, hy, htr, hb⟩ := hrel
    have Htr := Lib.hid htr
    have Hb := Lib.hid hb
    have Hbx := Lib.hid hbx
    have Hby := Lib.hid hby
    have k0 := hbx.c0
    have k1 := hbx.c1
    have k2 := hbx.c2
    have z0 := hbx.free 0
    have z2 := hbx.free 2
    clear htr hb hbx hby hw0 hw1 hw2
    by_cases c1 : f < t0
    · by_cases c2 : 0 < y.size
      · have e1 := byN_get s f (by omega)
        have e2 := byN_get y 0 c2
        have l1 := byN_lt s f
        have l2 := byN_lt y 0
        have d1 : decide (f < t0) = true := decide_eq_true c1
        have hem : y.toList.isEmpty = false := by rw [empty_iff, decide_eq_false (by omega)]
        have hem2 : (!y.toList.isEmpty) = true := by rw [hem]; rfl
        have hln : decide ((0 : Int) < (y.size : Int)) = true := decide_eq_true (by omega)
        have hln2 : decide (0 < y.size) = true := decide_eq_true (by omega)
        have b0 : (0 : Int) ≤ (f : Int) := by omega
        have b1 : (f : Int) < (s.size : Int) := by omega
        have b2 : (0 : Int) < (y.size : Int) := by omega
        cases hm : ((byN s f : Int) == (byN y 0 : Int)) with
        | true =>
          have hbe : (bl s)[f]? = (bl y)[0]? := (byN_iff (by omega) c2).1 (Int.ofNat_inj.1 (beq_iff_eq.1 hm))
          have hst := tr1_yes c1 (by rw [bl_size]; exact c2) hbe
          rw [← bl_tail] at hst
          have Hst := Lib.hid (hst.symm.trans Htr.out)
          clear hst hbe
          generalize byN s f = B1 at e1 l1 hm
          generalize byN y 0 = B2 at e2 l2 hm
          go_wp2
          go_quiet (fail)
          go_wp2
          go_roundg (t0 - (f + 1))
          case measure => omega
          case rel => exact ⟨f + 1, _, ((Hbx.out.draw nq).set0).set2, ((Hby.out.draw nq).far (by simp) _).far (by simp) _, by omega, by omega, by rw [ByteArray.size_extract]; omega, Hst.out, ((below_draw Hb.out nq).setCell (Nat.le_refl _) _).setCell (Nat.le_refl _) _⟩
        | false =>
          have hex : tr1 (bl s) t0 f (bl y) = (f, bl y) := tr1_no (fun h => by
            have := (byN_iff (by omega) c2).2 h
            rw [this, beq_self_eq_true] at hm; cases hm)
          have Hex := Lib.hid (Htr.out.symm.trans hex)
          clear hex
          generalize byN s f = B1 at e1 l1 hm
          generalize byN y 0 = B2 at e2 l2 hm
          go_wp2
          go_quiet (fail)
          clear d1 hem hem2 hln hln2 b0 b1 b2 e1 e2 l1 l2 hm c2 k0 k1 k2 z0 z2
          have hb2 := below_draw Hb.out nq
          have hbx2 := Hbx.out.draw nq
          have hby2 := Hby.out.draw nq
          have HT2 := Lib.hid (trm_at HT.out Hex.out)
          clear Hb Hbx Hby HT Hex Htr hkx c1
          generalize wr.drewN nq = W2 at hb2 hbx2 hby2
          go_wp2
          go_loopg [] t0 (fun kx wr => ∃ (t : Nat) (z : ByteArray), Box wr w.heap.size f t z ∧ Box wr (w.heap.size + 1) 0 0 ByteArray.empty ∧ f ≤ t ∧ t ≤ t0 ∧ t - f ≤ kx ∧ z.size ≤ 4611686018427387904 ∧ tr2 (bl s) f t (bl z) = tr2 (bl s) f t0 (bl y) ∧ Below w.heap.size w wr)
          case atStart => exact ⟨t0, y, hbx2, hby2, hf, Nat.le_refl _, by omega, hy, rfl, hb2⟩
          case round =>
            clear hb2 hbx2 hby2
            obtain ⟨t, z, hbx, hby, hft, htt, hkx, hz, htr, hb⟩ := hrel
            have Htr := Lib.hid htr
            have Hb := Lib.hid hb
            have Hbx := Lib.hid hbx
            have Hby := Lib.hid hby
            have k0 := hbx.c0
            have k1 := hbx.c1
            have k2 := hbx.c2
            have z0 := hbx.free 1
            have z2 := hbx.free 2
            have y0 := hby.free 0
            have y1 := hby.free 1
            have y2 := hby.free 2
            have x0 := hby.c0
            have x1 := hby.c1
            have x2 := hby.c2
            clear htr hb hbx hby
            by_cases c1 : f < t
            · by_cases c2 : 0 < z.size
              · have e1 := byN_get s (t - 1) (by omega)
                have e2 := byN_get z (z.size - 1) (by omega)
                have l1 := byN_lt s (t - 1)
                have l2 := byN_lt z (z.size - 1)
                have d1 : decide (f < t) = true := decide_eq_true c1
                have hem : z.toList.isEmpty = false := by rw [empty_iff, decide_eq_false (by omega)]
                have hem2 : (!z.toList.isEmpty) = true := by rw [hem]; rfl
                have hln : decide ((0 : Int) < (z.size : Int)) = true := decide_eq_true (by omega)
                have hln2 : decide (0 < z.size) = true := decide_eq_true (by omega)
                have b0 : (0 : Int) ≤ (t : Int) - 1 := by omega
                have b1 : (t : Int) - 1 < (s.size : Int) := by omega
                have b2 : (0 : Int) ≤ (z.size : Int) - 1 := by omega
                have b3 : (z.size : Int) - 1 < (z.size : Int) := by omega
                have b4 : (1 : Int) ≤ (t : Int) := by omega
                have b5 : (1 : Int) ≤ (z.size : Int) := by omega
                have b6 : 1 ≤ t := by omega
                have b7 : 1 ≤ z.size := by omega
                have w1 : IntKind.i64.wrap ((t : Int) - 1) = (t : Int) - 1 := IntWalk.i64_in _ (by omega)
                have w2 : IntKind.i64.wrap ((z.size : Int) - 1) = (z.size : Int) - 1 := IntWalk.i64_in _ (by omega)
                have w3 : ((t : Int) - 1).toNat = t - 1 := by omega
                have w4 : ((z.size : Int) - 1).toNat = z.size - 1 := by omega
                cases hm : ((byN s (t - 1) : Int) == (byN z (z.size - 1) : Int)) with
                | true =>
                  have hbe : (bl s)[t - 1]? = (bl z)[(bl z).length - 1]? := by rw [bl_size]; exact (byN_iff (by omega) (by omega)).1 (Int.ofNat_inj.1 (beq_iff_eq.1 hm))
                  have hst := tr2_yes c1 (by rw [bl_size]; exact c2) hbe
                  rw [← bl_init, bl_size] at hst
                  have Hst := Lib.hid (hst.symm.trans Htr.out)
                  clear hst hbe
                  generalize byN s (t - 1) = B1 at e1 l1 hm
                  generalize byN z (z.size - 1) = B2 at e2 l2 hm
                  go_wp2
                  go_quiet (fail)
                  clear w1 w2
                  go_wp2
                  go_roundg (t - 1 - f)
                  case measure => omega
                  case rel =>
                    have ec : (t : Int) - 1 = ((t - 1 : Nat) : Int) := by omega
                    rw [ec]
                    exact ⟨t - 1, _, ((Hbx.out.draw nq).set1).set2, ((Hby.out.draw nq).far (by simp) _).far (by simp) _, by omega, by omega, by omega, by rw [ByteArray.size_extract]; omega, Hst.out, ((below_draw Hb.out nq).setCell (Nat.le_refl _) _).setCell (Nat.le_refl _) _⟩
                | false =>
                  have hex : tr2 (bl s) f t (bl z) = (t, bl z) := tr2_no (by rw [bl_size]; exact c2) (fun h => by
                    rw [bl_size] at h
                    have := (byN_iff (by omega) (by omega)).2 h
                    rw [this, beq_self_eq_true] at hm; cases hm)
                  have hfin := trm_end HT2.out (Htr.out.symm.trans hex)
                  have Hfin := Lib.hid hfin
                  clear hex hfin
                  generalize byN s (t - 1) = B1 at e1 l1 hm
                  generalize byN z (z.size - 1) = B2 at e2 l2 hm
                  go_wp2
                  go_quiet (fail)
                  clear w1 w2
                  go_wp2
                  have hbf : Box _ (w.heap.size + 1) f t z := (((Hby.out.draw nq).set0 (f' := f)).set1 (t' := t)).set2 (y' := z)
                  have r0 := hbf.c0
                  have r1 := hbf.c1
                  have r2 := hbf.c2
                  refine bodyPost_ret (v := edV ⟨f, t, z⟩) ?_ ?_ ?_
                  · simp [edV, results, Try.results23, go_sem, r0, r1, r2]
                  · rfl
                  · exact ⟨by rw [Hfin.out], (((below_draw Hb.out nq).setCell (by simp) _).setCell (by simp) _).setCell (by simp) _⟩
              · have d1 : decide (f < t) = true := decide_eq_true c1
                have hem : z.toList.isEmpty = true := by rw [empty_iff, decide_eq_true (by omega)]
                have hem2 : (!z.toList.isEmpty) = false := by rw [hem]; rfl
                have hln : decide ((0 : Int) < (z.size : Int)) = false := decide_eq_false (by omega)
                have hln2 : decide (0 < z.size) = false := decide_eq_false (by omega)
                have hex : tr2 (bl s) f t (bl z) = (t, bl z) := by
                  have : bl z = [] := List.eq_nil_of_length_eq_zero (by rw [bl_size]; omega)
                  rw [this]; exact tr2_nil
                have hfin := trm_end HT2.out (Htr.out.symm.trans hex)
                have Hfin := Lib.hid hfin
                clear hex hfin
                go_wp2
                go_quiet (fail)
                go_wp2
                have hbf : Box _ (w.heap.size + 1) f t z := (((Hby.out.draw nq).set0 (f' := f)).set1 (t' := t)).set2 (y' := z)
                have r0 := hbf.c0
                have r1 := hbf.c1
                have r2 := hbf.c2
                refine bodyPost_ret (v := edV ⟨f, t, z⟩) ?_ ?_ ?_
                · simp [edV, results, Try.results23, go_sem, r0, r1, r2]
                · rfl
                · exact ⟨by rw [Hfin.out], (((below_draw Hb.out nq).setCell (by simp) _).setCell (by simp) _).setCell (by simp) _⟩
            · have d1 : decide (f < t) = false := decide_eq_false c1
              have hex : tr2 (bl s) f t (bl z) = (t, bl z) := tr2_end c1
              have hfin := trm_end HT2.out (Htr.out.symm.trans hex)
              have Hfin := Lib.hid hfin
              clear hex hfin
              go_wp2
              go_quiet (fail)
              go_wp2
              have hbf : Box _ (w.heap.size + 1) f t z := (((Hby.out.draw nq).set0 (f' := f)).set1 (t' := t)).set2 (y' := z)
              have r0 := hbf.c0
              have r1 := hbf.c1
              have r2 := hbf.c2
              refine bodyPost_ret (v := edV ⟨f, t, z⟩) ?_ ?_ ?_
              · simp [edV, results, Try.results23, go_sem, r0, r1, r2]
              · rfl
              · exact ⟨by rw [Hfin.out], (((below_draw Hb.out nq).setCell (by simp) _).setCell (by simp) _).setCell (by simp) _⟩
      · have d1 : decide (f < t0) = true := decide_eq_true c1
        have hem : y.toList.isEmpty = true := by rw [empty_iff, decide_eq_true (by omega)]
        have hem2 : (!y.toList.isEmpty) = false := by rw [hem]; rfl
        have hln : decide ((0 : Int) < (y.size : Int)) = false := decide_eq_false (by omega)
        have hln2 : decide (0 < y.size) = false := decide_eq_false (by omega)
        have hex : tr1 (bl s) t0 f (bl y) = (f, bl y) := by
          have : bl y = [] := List.eq_nil_of_length_eq_zero (by rw [bl_size]; omega)
          rw [this]; rfl
        have Hex := Lib.hid (Htr.out.symm.trans hex)
        clear hex
        go_wp2
        go_quiet (fail)
        clear d1 hem hem2 hln hln2 c2 k0 k1 k2 z0 z2
        have hb2 := below_draw Hb.out nq
        have hbx2 := Hbx.out.draw nq
        have hby2 := Hby.out.draw nq
        have HT2 := Lib.hid (trm_at HT.out Hex.out)
        clear Hb Hbx Hby HT Hex Htr hkx c1
        generalize wr.drewN nq = W2 at hb2 hbx2 hby2
        go_wp2
        go_loopg [] t0 (fun kx wr => ∃ (t : Nat) (z : ByteArray), Box wr w.heap.size f t z ∧ Box wr (w.heap.size + 1) 0 0 ByteArray.empty ∧ f ≤ t ∧ t ≤ t0 ∧ t - f ≤ kx ∧ z.size ≤ 4611686018427387904 ∧ tr2 (bl s) f t (bl z) = tr2 (bl s) f t0 (bl y) ∧ Below w.heap.size w wr)
        case atStart => exact ⟨t0, y, hbx2, hby2, hf, Nat.le_refl _, by omega, hy, rfl, hb2⟩
        case round =>
          clear hb2 hbx2 hby2
          obtain ⟨t, z, hbx, hby, hft, htt, hkx, hz, htr, hb⟩ := hrel
          have Htr := Lib.hid htr
          have Hb := Lib.hid hb
          have Hbx := Lib.hid hbx
          have Hby := Lib.hid hby
          have k0 := hbx.c0
          have k1 := hbx.c1
          have k2 := hbx.c2
          have z0 := hbx.free 1
          have z2 := hbx.free 2
          have y0 := hby.free 0
          have y1 := hby.free 1
          have y2 := hby.free 2
          have x0 := hby.c0
          have x1 := hby.c1
          have x2 := hby.c2
          clear htr hb hbx hby
          by_cases c1 : f < t
          · by_cases c2 : 0 < z.size
            · have e1 := byN_get s (t - 1) (by omega)
              have e2 := byN_get z (z.size - 1) (by omega)
              have l1 := byN_lt s (t - 1)
              have l2 := byN_lt z (z.size - 1)
              have d1 : decide (f < t) = true := decide_eq_true c1
              have hem : z.toList.isEmpty = false := by rw [empty_iff, decide_eq_false (by omega)]
              have hem2 : (!z.toList.isEmpty) = true := by rw [hem]; rfl
              have hln : decide ((0 : Int) < (z.size : Int)) = true := decide_eq_true (by omega)
              have hln2 : decide (0 < z.size) = true := decide_eq_true (by omega)
              have b0 : (0 : Int) ≤ (t : Int) - 1 := by omega
              have b1 : (t : Int) - 1 < (s.size : Int) := by omega
              have b2 : (0 : Int) ≤ (z.size : Int) - 1 := by omega
              have b3 : (z.size : Int) - 1 < (z.size : Int) := by omega
              have b4 : (1 : Int) ≤ (t : Int) := by omega
              have b5 : (1 : Int) ≤ (z.size : Int) := by omega
              have b6 : 1 ≤ t := by omega
              have b7 : 1 ≤ z.size := by omega
              have w1 : IntKind.i64.wrap ((t : Int) - 1) = (t : Int) - 1 := IntWalk.i64_in _ (by omega)
              have w2 : IntKind.i64.wrap ((z.size : Int) - 1) = (z.size : Int) - 1 := IntWalk.i64_in _ (by omega)
              have w3 : ((t : Int) - 1).toNat = t - 1 := by omega
              have w4 : ((z.size : Int) - 1).toNat = z.size - 1 := by omega
              cases hm : ((byN s (t - 1) : Int) == (byN z (z.size - 1) : Int)) with
              | true =>
                have hbe : (bl s)[t - 1]? = (bl z)[(bl z).length - 1]? := by rw [bl_size]; exact (byN_iff (by omega) (by omega)).1 (Int.ofNat_inj.1 (beq_iff_eq.1 hm))
                have hst := tr2_yes c1 (by rw [bl_size]; exact c2) hbe
                rw [← bl_init, bl_size] at hst
                have Hst := Lib.hid (hst.symm.trans Htr.out)
                clear hst hbe
                generalize byN s (t - 1) = B1 at e1 l1 hm
                generalize byN z (z.size - 1) = B2 at e2 l2 hm
                go_wp2
                go_quiet (fail)
                clear w1 w2
                go_wp2
                go_roundg (t - 1 - f)
                case measure => omega
                case rel =>
                  have ec : (t : Int) - 1 = ((t - 1 : Nat) : Int) := by omega
                  rw [ec]
                  exact ⟨t - 1, _, ((Hbx.out.draw nq).set1).set2, ((Hby.out.draw nq).far (by simp) _).far (by simp) _, by omega, by omega, by omega, by rw [ByteArray.size_extract]; omega, Hst.out, ((below_draw Hb.out nq).setCell (Nat.le_refl _) _).setCell (Nat.le_refl _) _⟩
              | false =>
                have hex : tr2 (bl s) f t (bl z) = (t, bl z) := tr2_no (by rw [bl_size]; exact c2) (fun h => by
                  rw [bl_size] at h
                  have := (byN_iff (by omega) (by omega)).2 h
                  rw [this, beq_self_eq_true] at hm; cases hm)
                have hfin := trm_end HT2.out (Htr.out.symm.trans hex)
                have Hfin := Lib.hid hfin
                clear hex hfin
                generalize byN s (t - 1) = B1 at e1 l1 hm
                generalize byN z (z.size - 1) = B2 at e2 l2 hm
                go_wp2
                go_quiet (fail)
                clear w1 w2
                go_wp2
                have hbf : Box _ (w.heap.size + 1) f t z := (((Hby.out.draw nq).set0 (f' := f)).set1 (t' := t)).set2 (y' := z)
                have r0 := hbf.c0
                have r1 := hbf.c1
                have r2 := hbf.c2
                refine bodyPost_ret (v := edV ⟨f, t, z⟩) ?_ ?_ ?_
                · simp [edV, results, Try.results23, go_sem, r0, r1, r2]
                · rfl
                · exact ⟨by rw [Hfin.out], (((below_draw Hb.out nq).setCell (by simp) _).setCell (by simp) _).setCell (by simp) _⟩
            · have d1 : decide (f < t) = true := decide_eq_true c1
              have hem : z.toList.isEmpty = true := by rw [empty_iff, decide_eq_true (by omega)]
              have hem2 : (!z.toList.isEmpty) = false := by rw [hem]; rfl
              have hln : decide ((0 : Int) < (z.size : Int)) = false := decide_eq_false (by omega)
              have hln2 : decide (0 < z.size) = false := decide_eq_false (by omega)
              have hex : tr2 (bl s) f t (bl z) = (t, bl z) := by
                have : bl z = [] := List.eq_nil_of_length_eq_zero (by rw [bl_size]; omega)
                rw [this]; exact tr2_nil
              have hfin := trm_end HT2.out (Htr.out.symm.trans hex)
              have Hfin := Lib.hid hfin
              clear hex hfin
              go_wp2
              go_quiet (fail)
              go_wp2
              have hbf : Box _ (w.heap.size + 1) f t z := (((Hby.out.draw nq).set0 (f' := f)).set1 (t' := t)).set2 (y' := z)
              have r0 := hbf.c0
              have r1 := hbf.c1
              have r2 := hbf.c2
              refine bodyPost_ret (v := edV ⟨f, t, z⟩) ?_ ?_ ?_
              · simp [edV, results, Try.results23, go_sem, r0, r1, r2]
              · rfl
              · exact ⟨by rw [Hfin.out], (((below_draw Hb.out nq).setCell (by simp) _).setCell (by simp) _).setCell (by simp) _⟩
          · have d1 : decide (f < t) = false := decide_eq_false c1
            have hex : tr2 (bl s) f t (bl z) = (t, bl z) := tr2_end c1
            have hfin := trm_end HT2.out (Htr.out.symm.trans hex)
            have Hfin := Lib.hid hfin
            clear hex hfin
            go_wp2
            go_quiet (fail)
            go_wp2
            have hbf : Box _ (w.heap.size + 1) f t z := (((Hby.out.draw nq).set0 (f' := f)).set1 (t' := t)).set2 (y' := z)
            have r0 := hbf.c0
            have r1 := hbf.c1
            have r2 := hbf.c2
            refine bodyPost_ret (v := edV ⟨f, t, z⟩) ?_ ?_ ?_
            · simp [edV, results, Try.results23, go_sem, r0, r1, r2]
            · rfl
            · exact ⟨by rw [Hfin.out], (((below_draw Hb.out nq).setCell (by simp) _).setCell (by simp) _).setCell (by simp) _⟩
    · have d1 : decide (f < t0) = false := decide_eq_false c1
      have hex : tr1 (bl s) t0 f (bl y) = (f, bl y) := tr1_end c1
      have Hex := Lib.hid (Htr.out.symm.trans hex)
      clear hex
      go_wp2
      go_quiet (fail)
      clear d1 k0 k1 k2 z0 z2
      have hb2 := below_draw Hb.out nq
      have hbx2 := Hbx.out.draw nq
      have hby2 := Hby.out.draw nq
      have HT2 := Lib.hid (trm_at HT.out Hex.out)
      clear Hb Hbx Hby HT Hex Htr hkx c1
      generalize wr.drewN nq = W2 at hb2 hbx2 hby2
      go_wp2
      go_loopg [] t0 (fun kx wr => ∃ (t : Nat) (z : ByteArray), Box wr w.heap.size f t z ∧ Box wr (w.heap.size + 1) 0 0 ByteArray.empty ∧ f ≤ t ∧ t ≤ t0 ∧ t - f ≤ kx ∧ z.size ≤ 4611686018427387904 ∧ tr2 (bl s) f t (bl z) = tr2 (bl s) f t0 (bl y) ∧ Below w.heap.size w wr)
      case atStart => exact ⟨t0, y, hbx2, hby2, hf, Nat.le_refl _, by omega, hy, rfl, hb2⟩
      case round =>
        clear hb2 hbx2 hby2
        obtain ⟨t, z, hbx, hby, hft, htt, hkx, hz, htr, hb⟩ := hrel
        have Htr := Lib.hid htr
        have Hb := Lib.hid hb
        have Hbx := Lib.hid hbx
        have Hby := Lib.hid hby
        have k0 := hbx.c0
        have k1 := hbx.c1
        have k2 := hbx.c2
        have z0 := hbx.free 1
        have z2 := hbx.free 2
        have y0 := hby.free 0
        have y1 := hby.free 1
        have y2 := hby.free 2
        have x0 := hby.c0
        have x1 := hby.c1
        have x2 := hby.c2
        clear htr hb hbx hby
        by_cases c1 : f < t
        · by_cases c2 : 0 < z.size
          · have e1 := byN_get s (t - 1) (by omega)
            have e2 := byN_get z (z.size - 1) (by omega)
            have l1 := byN_lt s (t - 1)
            have l2 := byN_lt z (z.size - 1)
            have d1 : decide (f < t) = true := decide_eq_true c1
            have hem : z.toList.isEmpty = false := by rw [empty_iff, decide_eq_false (by omega)]
            have hem2 : (!z.toList.isEmpty) = true := by rw [hem]; rfl
            have hln : decide ((0 : Int) < (z.size : Int)) = true := decide_eq_true (by omega)
            have hln2 : decide (0 < z.size) = true := decide_eq_true (by omega)
            have b0 : (0 : Int) ≤ (t : Int) - 1 := by omega
            have b1 : (t : Int) - 1 < (s.size : Int) := by omega
            have b2 : (0 : Int) ≤ (z.size : Int) - 1 := by omega
            have b3 : (z.size : Int) - 1 < (z.size : Int) := by omega
            have b4 : (1 : Int) ≤ (t : Int) := by omega
            have b5 : (1 : Int) ≤ (z.size : Int) := by omega
            have b6 : 1 ≤ t := by omega
            have b7 : 1 ≤ z.size := by omega
            have w1 : IntKind.i64.wrap ((t : Int) - 1) = (t : Int) - 1 := IntWalk.i64_in _ (by omega)
            have w2 : IntKind.i64.wrap ((z.size : Int) - 1) = (z.size : Int) - 1 := IntWalk.i64_in _ (by omega)
            have w3 : ((t : Int) - 1).toNat = t - 1 := by omega
            have w4 : ((z.size : Int) - 1).toNat = z.size - 1 := by omega
            cases hm : ((byN s (t - 1) : Int) == (byN z (z.size - 1) : Int)) with
            | true =>
              have hbe : (bl s)[t - 1]? = (bl z)[(bl z).length - 1]? := by rw [bl_size]; exact (byN_iff (by omega) (by omega)).1 (Int.ofNat_inj.1 (beq_iff_eq.1 hm))
              have hst := tr2_yes c1 (by rw [bl_size]; exact c2) hbe
              rw [← bl_init, bl_size] at hst
              have Hst := Lib.hid (hst.symm.trans Htr.out)
              clear hst hbe
              generalize byN s (t - 1) = B1 at e1 l1 hm
              generalize byN z (z.size - 1) = B2 at e2 l2 hm
              go_wp2
              go_quiet (fail)
              clear w1 w2
              go_wp2
              go_roundg (t - 1 - f)
              case measure => omega
              case rel =>
                have ec : (t : Int) - 1 = ((t - 1 : Nat) : Int) := by omega
                rw [ec]
                exact ⟨t - 1, _, ((Hbx.out.draw nq).set1).set2, ((Hby.out.draw nq).far (by simp) _).far (by simp) _, by omega, by omega, by omega, by rw [ByteArray.size_extract]; omega, Hst.out, ((below_draw Hb.out nq).setCell (Nat.le_refl _) _).setCell (Nat.le_refl _) _⟩
            | false =>
              have hex : tr2 (bl s) f t (bl z) = (t, bl z) := tr2_no (by rw [bl_size]; exact c2) (fun h => by
                rw [bl_size] at h
                have := (byN_iff (by omega) (by omega)).2 h
                rw [this, beq_self_eq_true] at hm; cases hm)
              have hfin := trm_end HT2.out (Htr.out.symm.trans hex)
              have Hfin := Lib.hid hfin
              clear hex hfin
              generalize byN s (t - 1) = B1 at e1 l1 hm
              generalize byN z (z.size - 1) = B2 at e2 l2 hm
              go_wp2
              go_quiet (fail)
              clear w1 w2
              go_wp2
              have hbf : Box _ (w.heap.size + 1) f t z := (((Hby.out.draw nq).set0 (f' := f)).set1 (t' := t)).set2 (y' := z)
              have r0 := hbf.c0
              have r1 := hbf.c1
              have r2 := hbf.c2
              refine bodyPost_ret (v := edV ⟨f, t, z⟩) ?_ ?_ ?_
              · simp [edV, results, Try.results23, go_sem, r0, r1, r2]
              · rfl
              · exact ⟨by rw [Hfin.out], (((below_draw Hb.out nq).setCell (by simp) _).setCell (by simp) _).setCell (by simp) _⟩
          · have d1 : decide (f < t) = true := decide_eq_true c1
            have hem : z.toList.isEmpty = true := by rw [empty_iff, decide_eq_true (by omega)]
            have hem2 : (!z.toList.isEmpty) = false := by rw [hem]; rfl
            have hln : decide ((0 : Int) < (z.size : Int)) = false := decide_eq_false (by omega)
            have hln2 : decide (0 < z.size) = false := decide_eq_false (by omega)
            have hex : tr2 (bl s) f t (bl z) = (t, bl z) := by
              have : bl z = [] := List.eq_nil_of_length_eq_zero (by rw [bl_size]; omega)
              rw [this]; exact tr2_nil
            have hfin := trm_end HT2.out (Htr.out.symm.trans hex)
            have Hfin := Lib.hid hfin
            clear hex hfin
            go_wp2
            go_quiet (fail)
            go_wp2
            have hbf : Box _ (w.heap.size + 1) f t z := (((Hby.out.draw nq).set0 (f' := f)).set1 (t' := t)).set2 (y' := z)
            have r0 := hbf.c0
            have r1 := hbf.c1
            have r2 := hbf.c2
            refine bodyPost_ret (v := edV ⟨f, t, z⟩) ?_ ?_ ?_
            · simp [edV, results, Try.results23, go_sem, r0, r1, r2]
            · rfl
            · exact ⟨by rw [Hfin.out], (((below_draw Hb.out nq).setCell (by simp) _).setCell (by simp) _).setCell (by simp) _⟩
        · have d1 : decide (f < t) = false := decide_eq_false c1
          have hex : tr2 (bl s) f t (bl z) = (t, bl z) := tr2_end c1
          have hfin := trm_end HT2.out (Htr.out.symm.trans hex)
          have Hfin := Lib.hid hfin
          clear hex hfin
          go_wp2
          go_quiet (fail)
          go_wp2
          have hbf : Box _ (w.heap.size + 1) f t z := (((Hby.out.draw nq).set0 (f' := f)).set1 (t' := t)).set2 (y' := z)
          have r0 := hbf.c0
          have r1 := hbf.c1
          have r2 := hbf.c2
          refine bodyPost_ret (v := edV ⟨f, t, z⟩) ?_ ?_ ?_
          · simp [edV, results, Try.results23, go_sem, r0, r1, r2]
          · rfl
          · exact ⟨by rw [Hfin.out], (((below_draw Hb.out nq).setCell (by simp) _).setCell (by simp) _).setCell (by simp) _⟩
end Go.Proofs.Ytckioinjgdjohaa
