/- Contract of nest.Of: the tokens, the partners of the brackets, or the first fault. -/
import Derived.Test.YtnkgbmnjehpkgabGreatNeMem
import Derived.Deep.CutRange
import Derived.Deep.RegionWith
import Derived.Deep.RegionHeld3
namespace Go.Proofs.YtnkgbmnjehpkgabGreat
open Go.RowKit Em
set_option maxRecDepth 100000
set_option linter.unusedVariables false

def clS (b : Nat) : ByteArray := if b = 40 then ⟨#[41]⟩ else if b = 91 then ⟨#[93]⟩ else ⟨#[125]⟩
theorem closer_any (b : Nat) (w : World) : Calls Tryz.prog 11 #[.int .u8 (b : Int)] w fun e w' => e = .returned (.string (clS b)) ∧ w = w' := by
  by_cases h1 : b = 40
  · subst h1
    go_enter Tryz.func11, Tryz.ntmps11
    go_wp2
    go_ret
    exact ⟨rfl, rfl⟩
  · by_cases h2 : b = 91
    · subst h2
      go_enter Tryz.func11, Tryz.ntmps11
      go_wp2
      go_ret
      exact ⟨rfl, rfl⟩
    · have n1 : ((b : Int) == 40) = false := beq_eq_false_iff_ne.2 (by omega)
      have n2 : ((b : Int) == 91) = false := beq_eq_false_iff_ne.2 (by omega)
      have e : clS b = ⟨#[125]⟩ := by unfold clS; rw [if_neg h1, if_neg h2]
      rw [e]
      clear h1 h2 e
      go_enter Tryz.func11, Tryz.ntmps11
      go_wp2
      go_ret
      exact ⟨rfl, rfl⟩

theorem one_byte {s : ByteArray} {F U : Nat} {c : UInt8} (h : bl (s.extract F U) = [c]) : F < s.size ∧ byN s F = c.toNat := by
  have h1 := congrArg List.length h
  rw [bl_size, ByteArray.size_extract] at h1
  simp at h1
  have hF : F < s.size := by omega
  refine ⟨hF, ?_⟩
  rw [← byN_get s F hF]
  have h2 := congrArg (fun l => l[0]?) h
  rw [cutT_ext] at h2
  unfold cutT at h2
  simp only [List.getElem?_drop, List.getElem?_cons_zero, Nat.add_zero] at h2
  rw [List.getElem?_take_of_lt (by omega), List.getElem?_eq_getElem (by rw [bl_size]; exact hF)] at h2
  have := Option.some.inj h2
  rw [← this]; rfl
theorem cl_cmp {B : Nat} {x : ByteArray} {y : List UInt8} {v u : Int} (ho : B = 40 ∧ u = 1 ∨ B = 91 ∧ u = 2 ∨ B = 123 ∧ u = 3) (hc : y = [41] ∧ v = -1 ∨ y = [93] ∧ v = -2 ∨ y = [125] ∧ v = -3) : ((clS B).toList == y) = decide (u + v = 0) := by
  rcases ho with ⟨rfl, rfl⟩ | ⟨rfl, rfl⟩ | ⟨rfl, rfl⟩ <;> rcases hc with ⟨rfl, rfl⟩ | ⟨rfl, rfl⟩ | ⟨rfl, rfl⟩ <;> rw [Lib.toList_data] <;> rfl

/-- What nest.Of answers. -/
def NstP (s : ByteArray) (w : World) (e : Ending) (w' : World) : Prop :=
  ∃ (x1 : Option Addr) (c1 : Nat) (x2 : Option Addr) (c2 : Nat), e = .returned (.tuple #[.slice x1 (nestT s).length c1, .slice x2 (nestT s).length c2, fauV (nestE s) (nestF s)]) ∧ TkI w' x1 (nestT s) ∧ IsF w' x2 (nestT s).length (nestP s) ∧ Below w.heap.size w w'

theorem nest_none (s : ByteArray) (w : World) (hm : Mx w) (h : (semA s).2.1 ≠ 0) : Calls Tryz.prog 5 #[.string s] w (NstP s w) := by
  have Hm := Lib.hid hm
  have H1 := fun w hm => semi_any s w hm
  unfold SemP at H1
  obtain ⟨n1, n2, n3, n4⟩ := nest_fault h
  unfold NstP
  rw [n1, n3, n4]
  have hne : faEq (semA s).2.1 (semA s).2.2 0 0 = false := by
    unfold faEq; rw [show ((semA s).2.1 == 0) = false from beq_eq_false_iff_ne.2 h]; rfl
  have m2 := guard_fau
  dsimp only [fauV] at H1
  generalize (semA s).2.1 = E at H1 hne ⊢
  generalize (semA s).2.2 = D at H1 hne ⊢
  generalize (semA s).1 = T at H1
  have q2 := fun w => run_equal_fau w E D 0 0
  rw [hne] at q2
  have H1 := Lib.hid H1
  have b0 := (Below.refl w.heap.size w).alloc (Nat.le_refl _) (.cells #[.int .i64 0, .int .i64 0] 27)
  have F0 : Hid (FBox (w.alloc (.cells #[.int .i64 0, .int .i64 0] 27)) w.heap.size 0 0) := Lib.hid (heap_alloc_new w _)
  have B0 := Lib.hid b0
  have Hm0 := Lib.hid (hm.keep b0)
  clear hm b0 hne n1 n2 n3 n4
  go_enter Tryz.func5, Tryz.ntmps5
  go_wp2_with fail
  refine (H1.out _ Hm0.out).mono ?_
  rintro e w1 ⟨v1, rfl, o1, b1⟩
  obtain ⟨x1, c1, rfl, i1, _⟩ := tkI_of_owns o1
  have hsz := b1.size
  simp at hsz
  have bb := B0.out.trans (b1.mono B0.out.size)
  have B1 := Lib.hid (bb.alloc bb.size (.cells #[.int .i64 E, .int .i64 D] 27))
  have T1 : Hid (FBox (w1.alloc (.cells #[.int .i64 E, .int .i64 D] 27)) w1.heap.size E D) := Lib.hid (heap_alloc_new w1 _)
  have F1 := Lib.hid ((F0.out.keep b1).alloc (.cells #[.int .i64 E, .int .i64 D] 27))
  have p0 := T1.out.c0
  have p1 := T1.out.c1
  have z0 := F1.out.free 0
  have z1 := F1.out.free 1
  have r0 := F1.out.c0
  have r1 := F1.out.c1
  clear b1 o1 i1 bb
  have hbf := F1.out.set E D
  have k0 := hbf.c0
  have k1 := hbf.c1
  clear hbf
  go_wp2
  go_region
  go_wp2
  refine bodyPost_ret (v := .tuple #[.slice none 0 0, .slice none 0 0, fauV E D]) ?_ ?_ ?_
  · simp [fauV, results, Tryz.results5, go_sem, k0, k1]
  · rfl
  · exact ⟨none, 0, none, 0, rfl, fun h => by simp at h, fun h => by omega, below_draw' (bset2 B1.out (Nat.le_refl _) _ _) 1⟩

set_option maxHeartbeats 8000000 in
theorem nest_good (s : ByteArray) (w : World) (hm : Mx w) (h : (semA s).2.1 = 0) : Calls Tryz.prog 5 #[.string s] w (NstP s w) := by
  have Hm := Lib.hid hm
  have H1 := fun w hm => semi_any s w hm
  unfold SemP at H1
  have hA : (allA s).2.1 = 0 := by
    unfold semA at h
    split at h
    · assumption
    · exact h
  have h2 : (semA s).2.2 = 0 := by unfold semA; rw [if_pos hA]
  have hT := refS_all s hA
  have hino : InO s.size (semA s).1 := by rw [← hT]; exact (refS_ino s _ s.size (allA_ord s) _ (Nat.le_refl _)).1
  have hlenT : (semA s).1.length ≤ 131072 := by rw [← hT]; have := refS_len s (allA s).1 (allA s).1.length; have := allA_most s; omega
  rw [h, h2] at H1
  dsimp only [fauV] at H1
  have m2 := guard_fau
  have q2 := fun w => run_equal_fau w 0 0 0 0
  rw [faEq_self] at q2
  have Hok := Lib.hid (fun st p m => nest_ok (s := s) (st := st) (p := p) (m := m) h)
  have Hbad := Lib.hid (fun c k => nest_bad (s := s) (c := c) (k := k) h)
  generalize (semA s).1 = T at *
  have H1 := Lib.hid H1
  have Hino := Lib.hid hino
  have b0 := (Below.refl w.heap.size w).alloc (Nat.le_refl _) (.cells #[.int .i64 0, .int .i64 0] 27)
  have F0 : Hid (FBox (w.alloc (.cells #[.int .i64 0, .int .i64 0] 27)) w.heap.size 0 0) := Lib.hid (heap_alloc_new w _)
  have B0 := Lib.hid b0
  have Hm0 := Lib.hid (hm.keep b0)
  clear hm b0 hino hT h h2 hA
  have hmk := fun w => run_make_row' (P := Tryz.prog) 24 3 (.int .i64 0) 8 Tryz.underlying24 (by kernel_rfl) rfl .i64 .i64 T.length (by omega) (by omega) w
  go_enter Tryz.func5, Tryz.ntmps5
  go_wp2_with fail
  refine (H1.out _ Hm0.out).mono ?_
  rintro e w1 ⟨v1, rfl, o1, b1⟩
  obtain ⟨x1, c1, rfl, i1, hb1⟩ := tkI_of_owns o1
  have hsz := b1.size
  simp at hsz
  have bb := B0.out.trans (b1.mono B0.out.size)
  have B1 := Lib.hid (bb.alloc bb.size (.cells #[.int .i64 0, .int .i64 0] 27))
  have T1 : Hid (FBox (w1.alloc (.cells #[.int .i64 0, .int .i64 0] 27)) w1.heap.size 0 0) := Lib.hid (heap_alloc_new w1 _)
  have F1 := Lib.hid ((F0.out.keep b1).alloc (.cells #[.int .i64 0, .int .i64 0] 27))
  have I1 := Lib.hid (i1.alloc (.cells #[.int .i64 0, .int .i64 0] 27))
  have p0 := T1.out.c0
  have p1 := T1.out.c1
  have hx1 : 0 < T.length → ∀ g, x1 = some ⟨g, 0, none⟩ → w.heap.size < g ∧ g < w1.heap.size + 1 := by
    intro hn g hg
    obtain ⟨g', hx, hg', _⟩ := i1 hn
    have h1 := hb1 g 0 hg
    simp at h1
    have : g = g' := by
      rw [hg] at hx
      have := Option.some.inj hx
      injection this
    omega
  have M0 : Hid (NeM w (((w1.alloc (.cells #[.int .i64 0, .int .i64 0] 27)).alloc (.cells (madeCells #[.int .i64 0] T.length) 3)).alloc (.cells Tryz.zeroCells39 39)) w.heap.size x1 T (w1.heap.size + 1) (w1.heap.size + 1 + 1) 3 39 (fun _ => 0) (fun _ => 0)) := by
    have hz : Tryz.zeroCells39 = Array.replicate 100 (.int .i64 0) := by kernel_rfl
    refine Lib.hid ⟨((I1.out.alloc _).alloc _), ((F1.out.alloc _).alloc _), ?_, ?_, (B1.out.alloc B1.out.size _).alloc (B1.out.alloc B1.out.size _).size _, Nat.le_refl _, by omega, by omega, hx1⟩
    · have h1 : RI ((w1.alloc (.cells #[.int .i64 0, .int .i64 0] 27)).alloc (.cells (madeCells #[.int .i64 0] T.length) 3)) (w1.heap.size + 1) 3 T.length (fun _ => 0) := by
        have ha := heap_alloc_new (w1.alloc (.cells #[.int .i64 0, .int .i64 0] 27)) (.cells (madeCells #[.int .i64 0] T.length) 3)
        rw [World.size_alloc] at ha
        refine ⟨_, ha, by rw [size_madeCells], fun k hk => ?_⟩
        rw [← Array.getElem?_toList, toList_madeCells_one, List.getElem?_replicate, if_pos hk]
      exact h1.alloc _
    · have ha := heap_alloc_new ((w1.alloc (.cells #[.int .i64 0, .int .i64 0] 27)).alloc (.cells (madeCells #[.int .i64 0] T.length) 3)) (.cells Tryz.zeroCells39 39)
      rw [World.size_alloc, World.size_alloc] at ha
      refine ⟨_, ha, by rw [hz]; simp, fun k hk => ?_⟩
      rw [hz, Array.getElem?_replicate, if_pos hk]
  clear b1 o1 i1 bb hx1 hb1 hsz
  go_wp2
  clear p0 p1
  generalize w1.heap.size + 1 + 1 = bo at M0 ⊢
  generalize w1.heap.size + 1 = bp at M0 ⊢
  generalize ((w1.alloc (.cells #[.int .i64 0, .int .i64 0] 27)).alloc (.cells (madeCells #[.int .i64 0] T.length) 3)).alloc (.cells Tryz.zeroCells39 39) = w0 at M0 ⊢
  go_loopw [9, 27] (fun dv iv wr => ∃ (i : Nat) (st : List Nat) (p : Nat → Int) (m : Nat) (O : Nat → Int), i ≤ T.length ∧ iv = .int .i64 i ∧ dv = .int .i64 ((st.length : Nat) : Int) ∧ Hid (nAt (nb s T) i = .ok st p m) ∧ Hid (Stk O st) ∧ Hid (NeM w wr w.heap.size x1 T bp bo 3 39 (fun k => if k < i then p k else 0) O)) (fun _ iv _ => T.length - (intOf iv).toNat)
  case atStart => exact ⟨0, [], fun _ => -1, 0, fun _ => 0, by omega, rfl, rfl, Lib.hid rfl, Lib.hid trivial, Lib.hid (M0.out.congP fun k _ => by simp)⟩
  case round =>
    obtain ⟨i, st, p, m, O, hi, rfl, rfl, HA, HS, HM⟩ := hrel
    have hNI := ni_at _ _ _ _ _ HA.out
    have hst100 : st.length ≤ 100 := by have := hNI.hm; omega
    have HNI := Lib.hid hNI
    clear hNI
    by_cases hlt : i < T.length
    · obtain ⟨g, rfl, hg, d0, d1, d2⟩ := HM.out.tk.cells (i := i) hlt
      have hat := ino_at Hino.out hlt
      have b0 : (0 : Int) ≤ (i : Int) := by omega
      have b1 : (i : Int) < (T.length : Int) := by omega
      have hbv : nb s T i = brk (bl (s.extract (nthT T i).f (nthT T i).t)) := by unfold nb; rw [cutT_ext]
      have hFk : (nthT T i).f = (nthT T i).f := rfl
      generalize hTe : nthT T i = X at d0 d1 d2 hat hbv
      obtain ⟨K, F, U⟩ := X
      dsimp only at d0 d1 d2 hat hbv
      have HTe := Lib.hid hTe
      obtain ⟨hat1, hat2⟩ := hat
      have l0 : (0 : Int) ≤ (F : Int) := by omega
      have l1 : (F : Int) ≤ (U : Int) := by omega
      have l2 : (U : Int) ≤ (s.size : Int) := by omega
      have M2 := HM.out.alloc (.cells #[.int .u8 K, .int .i64 F, .int .i64 U] 41)
      have hT2 : TBox (wr.alloc (.cells #[.int .u8 K, .int .i64 F, .int .i64 U] 41)) wr.heap.size K F U := heap_alloc_new wr _
      have z1 := M2.pr.cell hlt
      have z2 := M2.pr.free i
      have hbp : wr.heap.size ≠ bp := by have := HM.out.pr.lt; omega
      have M3 : Hid (NeM w ((wr.alloc (.cells #[.int .u8 K, .int .i64 F, .int .i64 U] 41)).setCell ⟨bp, i, none⟩ (.int .i64 (-1))) w.heap.size (some ⟨g, 0, none⟩) T bp bo 3 39 (upd (fun k => if k < i then p k else 0) i (-1)) O) := Lib.hid (M2.setP i (-1))
      have T3 : Hid (TBox ((wr.alloc (.cells #[.int .u8 K, .int .i64 F, .int .i64 U] 41)).setCell ⟨bp, i, none⟩ (.int .i64 (-1))) wr.heap.size K F U) := Lib.hid (hT2.far hbp _)
      have HFk := Lib.hid hFk
      clear hTe M2 hT2 hFk HM
      have hfault : ∀ (c : Nat) (w4 : World), nAt (nb s T) (i + 1) = .bad c i → Below w.heap.size w w4 → NstP s w (.returned (.tuple #[.slice none 0 0, .slice none 0 0, fauV c F])) w4 := by
        intro c w4 h hb
        have hf : nFin (nb s T) T.length = .bad c i := by unfold nFin; rw [nAt_bad h T.length hlt]
        obtain ⟨a1, a2, a3, a4⟩ := Hbad.out c i hf
        rw [HTe.out] at a4
        unfold NstP
        rw [a1, a3, a4]
        exact ⟨none, 0, none, 0, rfl, fun h => absurd h (by simp), fun h => absurd h (by simp), hb⟩
      have HFault := Lib.hid hfault
      have hnext := nAt_ok HA.out
      generalize hxs : s.extract F U = xs at hbv
      have Hxs := Lib.hid hxs
      clear hfault hxs
      go_upto_region 12 with fail
      rw [Hxs.out]
      generalize (wr.alloc (.cells #[.int .u8 K, .int .i64 F, .int .i64 U] 41)).setCell ⟨bp, i, none⟩ (.int .i64 (-1)) = w3 at M3 T3 ⊢
      clear z1 z2 d0 d1 d2 hg hbp
      generalize wr.heap.size = tb at T3 ⊢
      have t0 := T3.out.c0
      have t1 := T3.out.c1
      have t2 := T3.out.c2
      have r0 := M3.out.fb.c0
      have r1 := M3.out.fb.c1
      have z0 := M3.out.fb.free 0
      have z1 := M3.out.fb.free 1
      have hprev : ∀ k, k < T.length → upd (fun k => if k < i then p k else 0) i (-1) k = if k < i + 1 then p k else 0 := by
        intro k _
        by_cases e : k = i
        · subst e; rw [upd_same, if_pos (by omega), HNI.out.big _ (Nat.le_refl _)]
        · rw [upd_far _ _ e]
          by_cases h : k < i
          · rw [if_pos h, if_pos (by omega)]
          · rw [if_neg h, if_neg (by omega)]
      have Hprev := Lib.hid hprev
      clear hprev
      rcases brk_cases (bl xs) with ⟨hb0, e1, e2, e3, e4, e5, e6⟩ | ⟨hbp, ho⟩ | ⟨hbn, hc⟩
      · have Hn := Lib.hid (hnext.trans (step_rest (hbv.trans hb0)))
        have x1 : (xs.toList == [40]) = false := by rw [Lib.toList_data]; exact beq_eq_false_iff_ne.2 e1
        have x2 : (xs.toList == [91]) = false := by rw [Lib.toList_data]; exact beq_eq_false_iff_ne.2 e2
        have x3 : (xs.toList == [123]) = false := by rw [Lib.toList_data]; exact beq_eq_false_iff_ne.2 e3
        have x4 : (xs.toList == [41]) = false := by rw [Lib.toList_data]; exact beq_eq_false_iff_ne.2 e4
        have x5 : (xs.toList == [93]) = false := by rw [Lib.toList_data]; exact beq_eq_false_iff_ne.2 e5
        have x6 : (xs.toList == [125]) = false := by rw [Lib.toList_data]; exact beq_eq_false_iff_ne.2 e6
        clear e1 e2 e3 e4 e5 e6 hb0 hnext hbv
        go_wp2
        go_roundw
        case rel => exact ⟨i + 1, st, p, m, O, by omega, by go_num, rfl, Hn, HS, Lib.hid (M3.out.congP Hprev.out)⟩
        case measure => simp [intOf]; omega
      · have hbo : 0 < nb s T i := by rw [hbv]; exact hbp
        obtain ⟨L, hL⟩ : ∃ L, st.length = L := ⟨_, rfl⟩
        have HL := Lib.hid hL
        by_cases hl : st.length = 100
        · have Hn := Lib.hid (hnext.trans (step_deep hbo hl))
          have l100 : ((L : Int) == 100) = true := by rw [← hL, hl]; rfl
          have l100' : (L : Int) = 100 := by omega
          have hbf := M3.out.fb.set 6 F
          have k0 := hbf.c0
          have k1 := hbf.c1
          have Hb4 := Lib.hid (below_draw' (bset2 M3.out.be M3.out.o1 (.int .i64 6) (.int .i64 F)) 1)
          rw [hL]
          clear hbf hnext hbv hbo hL hbp hl
          rcases ho with ⟨hx, _⟩ | ⟨hx, _⟩ | ⟨hx, _⟩
          · obtain rfl : xs = ⟨#[40]⟩ := bl_inj hx
            clear hx
            go_wp2
            go_region
            go_wp2
            refine bodyPost_ret (v := .tuple #[.slice none 0 0, .slice none 0 0, fauV 6 F]) ?_ rfl (HFault.out 6 _ Hn.out Hb4.out)
            simp [fauV, results, Tryz.results5, go_sem, k0, k1]
          · obtain rfl : xs = ⟨#[91]⟩ := bl_inj hx
            clear hx
            go_wp2
            go_region
            go_wp2
            refine bodyPost_ret (v := .tuple #[.slice none 0 0, .slice none 0 0, fauV 6 F]) ?_ rfl (HFault.out 6 _ Hn.out Hb4.out)
            simp [fauV, results, Tryz.results5, go_sem, k0, k1]
          · obtain rfl : xs = ⟨#[123]⟩ := bl_inj hx
            clear hx
            go_wp2
            go_region
            go_wp2
            refine bodyPost_ret (v := .tuple #[.slice none 0 0, .slice none 0 0, fauV 6 F]) ?_ rfl (HFault.out 6 _ Hn.out Hb4.out)
            simp [fauV, results, Tryz.results5, go_sem, k0, k1]
        · have Hn := Lib.hid (hnext.trans (step_open hbo hl))
          have l100 : ((L : Int) == 100) = false := beq_eq_false_iff_ne.2 (by omega)
          have l0' : (0 : Int) ≤ (L : Int) := by omega
          have l1' : (L : Int) < 100 := by omega
          have k0 := M3.out.op.cell (k := L) (by omega)
          have k1 := M3.out.op.free L
          have M4 := Lib.hid ((M3.out.setO L (i : Int)).congP Hprev.out)
          have S4 := Lib.hid (HS.out.push i)
          rw [hL] at S4
          rw [hL]
          clear hnext hbv hbo hL hbp hl
          rcases ho with ⟨hx, _⟩ | ⟨hx, _⟩ | ⟨hx, _⟩
          · obtain rfl : xs = ⟨#[40]⟩ := bl_inj hx
            clear hx
            go_wp2
            go_roundw
            case rel => exact ⟨i + 1, i :: st, p, _, _, by omega, by go_num, by rw [List.length_cons, HL.out]; go_num, Hn, S4, M4⟩
            case measure => simp [intOf]; omega
          · obtain rfl : xs = ⟨#[91]⟩ := bl_inj hx
            clear hx
            go_wp2
            go_roundw
            case rel => exact ⟨i + 1, i :: st, p, _, _, by omega, by go_num, by rw [List.length_cons, HL.out]; go_num, Hn, S4, M4⟩
            case measure => simp [intOf]; omega
          · obtain rfl : xs = ⟨#[123]⟩ := bl_inj hx
            clear hx
            go_wp2
            go_roundw
            case rel => exact ⟨i + 1, i :: st, p, _, _, by omega, by go_num, by rw [List.length_cons, HL.out]; go_num, Hn, S4, M4⟩
            case measure => simp [intOf]; omega
      · have hbo : nb s T i < 0 := by rw [hbv]; exact hbn
        have hv : ∃ v, nb s T i = v ∧ (bl xs = [41] ∧ v = -1 ∨ bl xs = [93] ∧ v = -2 ∨ bl xs = [125] ∧ v = -3) := ⟨_, rfl, by rw [hbv]; exact hc⟩
        have hc' : bl xs = [41] ∨ bl xs = [93] ∨ bl xs = [125] := by
          rcases hc with h | h | h
          · exact .inl h.1
          · exact .inr (.inl h.1)
          · exact .inr (.inr h.1)
        cases st with
        | nil =>
          have Hn := Lib.hid (hnext.trans (step_none hbo))
          have hbf := M3.out.fb.set 5 F
          have k0 := hbf.c0
          have k1 := hbf.c1
          have Hb4 := Lib.hid (below_draw' (bset2 M3.out.be M3.out.o1 (.int .i64 5) (.int .i64 F)) 1)
          rw [show ((([] : List Nat).length : Nat) : Int) = 0 from rfl]
          clear hbf hnext hbv hbo hbn hc hv
          rcases hc' with hx | hx | hx
          · obtain rfl : xs = ⟨#[41]⟩ := bl_inj hx
            clear hx
            go_wp2
            go_region
            go_wp2
            refine bodyPost_ret (v := .tuple #[.slice none 0 0, .slice none 0 0, fauV 5 F]) ?_ rfl (HFault.out 5 _ Hn.out Hb4.out)
            simp [fauV, results, Tryz.results5, go_sem, k0, k1]
          · obtain rfl : xs = ⟨#[93]⟩ := bl_inj hx
            clear hx
            go_wp2
            go_region
            go_wp2
            refine bodyPost_ret (v := .tuple #[.slice none 0 0, .slice none 0 0, fauV 5 F]) ?_ rfl (HFault.out 5 _ Hn.out Hb4.out)
            simp [fauV, results, Tryz.results5, go_sem, k0, k1]
          · obtain rfl : xs = ⟨#[125]⟩ := bl_inj hx
            clear hx
            go_wp2
            go_region
            go_wp2
            refine bodyPost_ret (v := .tuple #[.slice none 0 0, .slice none 0 0, fauV 5 F]) ?_ rfl (HFault.out 5 _ Hn.out Hb4.out)
            simp [fauV, results, Tryz.results5, go_sem, k0, k1]
        | cons j r =>
          obtain ⟨hj1, hj2, hj3⟩ := HNI.out.s1 j (by simp)
          obtain ⟨hO, hS2⟩ := HS.out
          have hjT : j < T.length := by omega
          obtain ⟨g', hx', hg', f0, f1, f2⟩ := M3.out.tk.cells (i := j) hjT
          have hgg : g = g' := by
            have := Option.some.inj hx'
            injection this
          subst hgg
          have hbj : nb s T j = brk (bl (s.extract (nthT T j).f (nthT T j).t)) := by unfold nb; rw [cutT_ext]
          have hatj := ino_at Hino.out hjT
          generalize nthT T j = Y at f0 f1 f2 hbj hatj
          obtain ⟨Kj, Fj, Uj⟩ := Y
          dsimp only at f0 f1 f2 hbj hatj
          have hop : Fj < s.size ∧ (byN s Fj = 40 ∧ nb s T j = 1 ∨ byN s Fj = 91 ∧ nb s T j = 2 ∨ byN s Fj = 123 ∧ nb s T j = 3) := by
            rcases brk_cases (bl (s.extract Fj Uj)) with ⟨h, _⟩ | ⟨_, h⟩ | ⟨h, _⟩
            · omega
            · rcases h with ⟨h1, h2⟩ | ⟨h1, h2⟩ | ⟨h1, h2⟩
              · obtain ⟨a1, a2⟩ := one_byte h1; exact ⟨a1, .inl ⟨a2, by omega⟩⟩
              · obtain ⟨a1, a2⟩ := one_byte h1; exact ⟨a1, .inr (.inl ⟨a2, by omega⟩)⟩
              · obtain ⟨a1, a2⟩ := one_byte h1; exact ⟨a1, .inr (.inr ⟨a2, by omega⟩)⟩
            · omega
          obtain ⟨hFj, hop⟩ := hop
          obtain ⟨v, hv1, hv2⟩ := hv
          have hcc := cl_cmp (x := xs) hop hv2
          rw [← hv1] at hcc
          have y1 := byN_get s Fj hFj
          have HC := fun w => closer_any (byN s Fj) w
          generalize byN s Fj = BJ at y1 HC hcc
          generalize clS BJ = cb at HC hcc
          have HC := Lib.hid HC
          obtain ⟨L, hL⟩ : ∃ L, r.length = L := ⟨_, rfl⟩
          have HL := Lib.hid hL
          have hL100 : L < 100 := by rw [List.length_cons] at hst100; omega
          rw [hL] at hO
          have g0 := M3.out.op.cell (k := L) hL100
          rw [hO] at g0
          rw [show (((j :: r).length : Nat) : Int) = (L : Int) + 1 by rw [List.length_cons, hL]; rfl]
          have c0 : (0 : Int) ≤ (L : Int) := by omega
          have c1' : (L : Int) < 100 := by omega
          have c2 : ((L : Int) + 1 == 0) = false := beq_eq_false_iff_ne.2 (by omega)
          have c3 : IntKind.i64.wrap ((L : Int) + 1 - 1) = (L : Int) := by rw [IntKind.wrap_i64]; omega
          have c4 : (0 : Int) ≤ (j : Int) := by omega
          have c5 : (j : Int) < (T.length : Int) := by omega
          have c6 : (0 : Int) ≤ (Fj : Int) := by omega
          have c7 : (Fj : Int) < (s.size : Int) := by omega
          by_cases hm : nb s T j + nb s T i = 0
          · have Hn := Lib.hid (hnext.trans (step_shut hbo hm))
            rw [decide_eq_true hm] at hcc
            have S4 : Hid (Stk O r) := Lib.hid hS2
            have hij : ¬ i = j := by omega
            have hji : ¬ j = i := by omega
            have hbb := M3.out.o3
            have hpo : ¬ bp = bo := by omega
            have hop' : ¬ bo = bp := by omega
            clear hbb
            have k0 := M3.out.pr.cell (k := i) hlt
            have k1 := M3.out.pr.cell (k := j) hjT
            have k2 := M3.out.pr.free i
            have k3 := M3.out.pr.free j
            have M4 := Lib.hid ((((M3.out.setP i (j : Int)).setP j (i : Int)).drew).congP (q' := fun k => if k < i + 1 then upd (upd p i j) j i k else 0) (by
              intro k hk
              by_cases e1 : k = j
              · subst e1; rw [upd_same, if_pos (by omega), upd_same]
              · rw [upd_far _ _ e1, upd_far _ _ e1]
                by_cases e2 : k = i
                · subst e2; rw [upd_same, if_pos (by omega), upd_same]
                · rw [upd_far _ _ e2, Hprev.out k hk, upd_far p _ e2]))
            clear hnext hbv hbo hbn hc hm hv2 hv1 hop hj3 hbj hx' hO hS2
            rcases hc' with hx | hx | hx
            · obtain rfl : xs = ⟨#[41]⟩ := bl_inj hx
              rw [hx] at hcc
              clear hx
              have hcb : (cb.toList == [41]) = true := hcc
              have hcb2 : (cb.toList != [41]) = false := by rw [bne, hcb]; rfl
              clear hcc
              go_wp2_with fail
              refine (HC.out _).mono ?_
              rintro e w4 ⟨rfl, rfl⟩
              go_wp2
              go_region
              go_wp2
              go_roundw
              case rel => exact ⟨i + 1, r, _, m, O, by omega, by go_num, by rw [HL.out], Hn, S4, M4⟩
              case measure => simp [intOf]; omega
            · obtain rfl : xs = ⟨#[93]⟩ := bl_inj hx
              rw [hx] at hcc
              clear hx
              have hcb : (cb.toList == [93]) = true := hcc
              have hcb2 : (cb.toList != [93]) = false := by rw [bne, hcb]; rfl
              clear hcc
              go_wp2_with fail
              refine (HC.out _).mono ?_
              rintro e w4 ⟨rfl, rfl⟩
              go_wp2
              go_region
              go_wp2
              go_roundw
              case rel => exact ⟨i + 1, r, _, m, O, by omega, by go_num, by rw [HL.out], Hn, S4, M4⟩
              case measure => simp [intOf]; omega
            · obtain rfl : xs = ⟨#[125]⟩ := bl_inj hx
              rw [hx] at hcc
              clear hx
              have hcb : (cb.toList == [125]) = true := hcc
              have hcb2 : (cb.toList != [125]) = false := by rw [bne, hcb]; rfl
              clear hcc
              go_wp2_with fail
              refine (HC.out _).mono ?_
              rintro e w4 ⟨rfl, rfl⟩
              go_wp2
              go_region
              go_wp2
              go_roundw
              case rel => exact ⟨i + 1, r, _, m, O, by omega, by go_num, by rw [HL.out], Hn, S4, M4⟩
              case measure => simp [intOf]; omega
          · have Hn := Lib.hid (hnext.trans (step_wrong hbo hm))
            rw [decide_eq_false hm] at hcc
            have hbf := M3.out.fb.set 5 F
            have k0 := hbf.c0
            have k1 := hbf.c1
            have Hb4 := Lib.hid (below_draw' (bset2 M3.out.be M3.out.o1 (.int .i64 5) (.int .i64 F)) 1)
            clear hbf hnext hbv hbo hbn hc hm hv2 hv1 hop hj3 hbj hx' hO hS2
            rcases hc' with hx | hx | hx
            · obtain rfl : xs = ⟨#[41]⟩ := bl_inj hx
              rw [hx] at hcc
              clear hx
              have hcb : (cb.toList == [41]) = false := hcc
              have hcb2 : (cb.toList != [41]) = true := by rw [bne, hcb]; rfl
              clear hcc
              go_wp2_with fail
              refine (HC.out _).mono ?_
              rintro e w4 ⟨rfl, rfl⟩
              go_wp2
              go_region
              go_wp2
              refine bodyPost_ret (v := .tuple #[.slice none 0 0, .slice none 0 0, fauV 5 F]) ?_ rfl (HFault.out 5 _ Hn.out Hb4.out)
              simp [fauV, results, Tryz.results5, go_sem, k0, k1]
            · obtain rfl : xs = ⟨#[93]⟩ := bl_inj hx
              rw [hx] at hcc
              clear hx
              have hcb : (cb.toList == [93]) = false := hcc
              have hcb2 : (cb.toList != [93]) = true := by rw [bne, hcb]; rfl
              clear hcc
              go_wp2_with fail
              refine (HC.out _).mono ?_
              rintro e w4 ⟨rfl, rfl⟩
              go_wp2
              go_region
              go_wp2
              refine bodyPost_ret (v := .tuple #[.slice none 0 0, .slice none 0 0, fauV 5 F]) ?_ rfl (HFault.out 5 _ Hn.out Hb4.out)
              simp [fauV, results, Tryz.results5, go_sem, k0, k1]
            · obtain rfl : xs = ⟨#[125]⟩ := bl_inj hx
              rw [hx] at hcc
              clear hx
              have hcb : (cb.toList == [125]) = false := hcc
              have hcb2 : (cb.toList != [125]) = true := by rw [bne, hcb]; rfl
              clear hcc
              go_wp2_with fail
              refine (HC.out _).mono ?_
              rintro e w4 ⟨rfl, rfl⟩
              go_wp2
              go_region
              go_wp2
              refine bodyPost_ret (v := .tuple #[.slice none 0 0, .slice none 0 0, fauV 5 F]) ?_ rfl (HFault.out 5 _ Hn.out Hb4.out)
              simp [fauV, results, Tryz.results5, go_sem, k0, k1]
    · have hie : i = T.length := by omega
      subst hie
      have b1 : ¬ (T.length : Int) < (T.length : Int) := by omega
      have M3 := HM
      have r0 := M3.out.fb.c0
      have r1 := M3.out.fb.c1
      have z0 := M3.out.fb.free 0
      have z1 := M3.out.fb.free 1
      cases st with
      | nil =>
        have hf : nFin (nb s T) T.length = .ok [] p m := by unfold nFin; rw [HA.out]
        obtain ⟨a1, a2, a3, a4, a5⟩ := Hok.out [] p m hf
        have HR := Lib.hid (fun w' (h1 : TkI w' x1 T) (h2 : IsF w' (some ⟨bp, 0, none⟩) T.length p) (h3 : Below w.heap.size w w') => (by unfold NstP; rw [a1, a2, a4, a5]; exact ⟨x1, c1, some ⟨bp, 0, none⟩, T.length, rfl, h1, h2, h3⟩ : NstP s w (.returned (.tuple #[.slice x1 T.length c1, .slice (some ⟨bp, 0, none⟩) T.length T.length, fauV 0 0])) w'))
        have hbf := M3.out.fb.set 0 0
        have k0 := hbf.c0
        have k1 := hbf.c1
        have e4 := M3.out.o1; have e2 := M3.out.o2; have e3 := M3.out.o3; have e5 := M3.out.o4
        have Hb4 := Lib.hid (bset2 M3.out.be M3.out.o1 (.int .i64 0) (.int .i64 0))
        have HT4 := Lib.hid ((M3.out.tk.far (p := ⟨w.heap.size, 0, none⟩) (fun hn g hg => by have := e5 hn g hg; show g ≠ w.heap.size; omega) (.int .i64 0)).far (p := ⟨w.heap.size, 1, none⟩) (fun hn g hg => by have := e5 hn g hg; show g ≠ w.heap.size; omega) (.int .i64 0))
        have HP4 := Lib.hid (isF_of_ri (((M3.out.pr.cong (q' := p) (fun k hk => if_pos hk)).far (p := ⟨w.heap.size, 0, none⟩) (show bp ≠ w.heap.size by omega) (.int .i64 0)).far (p := ⟨w.heap.size, 1, none⟩) (show bp ≠ w.heap.size by omega) (.int .i64 0)))
        rw [show ((([] : List Nat).length : Nat) : Int) = 0 from rfl]
        clear hbf hf a1 a2 a3 a4 a5 e4 e2 e3 e5
        go_wp2
        refine bodyPost_ret (v := .tuple #[.slice x1 T.length c1, .slice (some ⟨bp, 0, none⟩) T.length T.length, fauV 0 0]) ?_ rfl (HR.out _ HT4.out HP4.out Hb4.out)
        simp [fauV, results, Tryz.results5, go_sem, k0, k1]
      | cons j r =>
        have hf : nFin (nb s T) T.length = .bad 5 j := by unfold nFin; rw [HA.out]
        obtain ⟨a1, a2, a3, a4⟩ := Hbad.out 5 j hf
        obtain ⟨hj1, hj2, hj3⟩ := HNI.out.s1 j (by simp)
        obtain ⟨hO, hS2⟩ := HS.out
        obtain ⟨g, rfl, hg, f0, f1, f2⟩ := M3.out.tk.cells (i := j) hj1
        generalize nthT T j = Y at f0 f1 f2 a4
        obtain ⟨Kj, Fj, Uj⟩ := Y
        dsimp only at f0 f1 f2 a4
        have HR := Lib.hid (fun w' (h3 : Below w.heap.size w w') => (by unfold NstP; rw [a1, a3, a4]; exact ⟨none, 0, none, 0, rfl, fun h => absurd h (by simp), fun h => absurd h (by simp), h3⟩ : NstP s w (.returned (.tuple #[.slice none 0 0, .slice none 0 0, fauV 5 Fj])) w'))
        obtain ⟨L, hL⟩ : ∃ L, r.length = L := ⟨_, rfl⟩
        have hL100 : L < 100 := by rw [List.length_cons] at hst100; omega
        rw [hL] at hO
        have g0 := M3.out.op.cell (k := L) hL100
        rw [hO] at g0
        rw [show (((j :: r).length : Nat) : Int) = (L : Int) + 1 by rw [List.length_cons, hL]; rfl]
        have c0 : (0 : Int) ≤ (L : Int) := by omega
        have c1' : (L : Int) < 100 := by omega
        have c2 : (0 : Int) < (L : Int) + 1 := by omega
        have c3 : IntKind.i64.wrap ((L : Int) + 1 - 1) = (L : Int) := by rw [IntKind.wrap_i64]; omega
        have c4 : (0 : Int) ≤ (j : Int) := by omega
        have c5 : (j : Int) < (T.length : Int) := by omega
        have hbf := M3.out.fb.set 5 Fj
        have k0 := hbf.c0
        have k1 := hbf.c1
        have Hb4 := Lib.hid (below_draw' (bset2 M3.out.be M3.out.o1 (.int .i64 5) (.int .i64 Fj)) 1)
        clear hbf hf a1 a2 a3 a4 hO hS2 hj1 hj2 hj3
        go_wp2
        go_region
        go_wp2
        refine bodyPost_ret (v := .tuple #[.slice none 0 0, .slice none 0 0, fauV 5 Fj]) ?_ rfl (HR.out _ Hb4.out)
        simp [fauV, results, Tryz.results5, go_sem, k0, k1]
theorem nest_any (s : ByteArray) (w : World) (hm : Mx w) : Calls Tryz.prog 5 #[.string s] w (NstP s w) := by
  by_cases h : (semA s).2.1 = 0
  · exact nest_good s w hm h
  · exact nest_none s w hm h
end Go.Proofs.YtnkgbmnjehpkgabGreat

