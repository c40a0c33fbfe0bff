/- The walk of the law NestWrapped. -/
import Derived.Test.YtnkgbmnjehpkgabNeLawA
import Derived.Test.YtnkgbmnjehpkgabNeWr
namespace Go.Proofs.Ytnkgbmnjehpkgab
open Go.RowKit Em
set_option maxRecDepth 100000
set_option linter.unusedVariables false

def wrapS (s : ByteArray) : ByteArray := (⟨#[40]⟩ : ByteArray) ++ s ++ (⟨#[10, 41]⟩ : ByteArray)
theorem wrapS_bl (s : ByteArray) : bl (wrapS s) = 40 :: (bl s ++ [10, 41]) := by
  unfold wrapS bl
  rw [ByteArray.data_append, ByteArray.data_append, Array.toList_append, Array.toList_append]
  rfl
theorem wrapS_size (s : ByteArray) : (wrapS s).size = s.size + 3 := by
  rw [← bl_size, wrapS_bl, List.length_cons, List.length_append, bl_size]; rfl

set_option maxHeartbeats 16000000 in
theorem walk_NestWrapped (s : ByteArray) (w : World) (hs : s.size ≤ 140737488351232) (hm : Mx w) :
    Calls Try.prog 4 #[.string s] w fun e w' => e = .returned (.bool true) ∧ Below w.heap.size w w' := by
  have Hm := Lib.hid hm
  have H1 := fun w hm => nest_any s w hm
  have H2 := fun w hm => depth_any s w hm
  unfold NstP at H1
  have m2 := guard_fau
  clear hm
  have hlen := nestT_len s
  rcases nest_cases s with ⟨p, m, hs0, hn, a1, a2, a3, a4, a5⟩ | ⟨hE, a3, a1⟩
  · rw [a1] at hlen
    rw [a1, a2, a4, a5] at H1
    rw [a3, a4, a5] at H2
    dsimp only [fauV] at H1 H2
    have q2 := fun w => run_equal_fau w 0 0 0 0
    rw [faEq_self] at q2
    have hW := fun i hi => within (ne_end hn) (i := i) hi
    have hm100 := (ni_at _ _ _ _ _ hn).hm.2
    by_cases hc : s.size ≤ 65533 ∧ ¬ (2 < s.size ∧ bl (s.extract 0 3) = [239, 187, 191])
    · obtain ⟨hc1, hc2⟩ := hc
      have hwr := wrapped_nest hs0 hn hc2 (wrapS_bl s) (by rw [wrapS_size]; omega)
      have H3 := fun w hm => nest_any (wrapS s) w hm
      have H4 := fun w hm => depth_any (wrapS s) w hm
      unfold NstP at H3
      dsimp only [fauV] at H3 H4
      have z0 : ¬ (65533 : Int) < (s.size : Int) := by omega
      have z0' : decide ((65533 : Int) < (s.size : Int)) = false := decide_eq_false z0
      have hgs : (2 < s.size ∧ ((s.extract 0 3).toList == [239, 187, 191]) = false) ∨ ¬ 2 < s.size := by
        by_cases h2 : 2 < s.size
        · refine .inl ⟨h2, ?_⟩
          rw [Lib.toList_data]
          exact beq_eq_false_iff_ne.2 (fun e => hc2 ⟨h2, e⟩)
        · exact .inr h2
      have r1 : (Op.stringOp .add (⟨#[40]⟩ : ByteArray) s).run Try.prog = fun w => .ok (.string ((⟨#[40]⟩ : ByteArray) ++ s)) w := funext fun w => run_string_add_sum w _ _ (by show 1 + _ ≤ _; omega)
      have r2 : (Op.stringOp .add ((⟨#[40]⟩ : ByteArray) ++ s) (⟨#[10, 41]⟩ : ByteArray)).run Try.prog = fun w => .ok (.string (wrapS s)) w := funext fun w => run_string_add_sum w _ _ (by rw [ByteArray.size_append]; show 1 + _ + 2 ≤ _; omega)
      generalize wrapS s = V at H3 H4 hwr r2
      clear hc2
      generalize (semA s).1 = T at *
      have hE4 : (m = 100 ∧ nestE V = 6) ∨ (m ≤ 99 ∧ nestE V = 0 ∧ nestF V = 0) := by
        rcases hwr with ⟨h1, h2, _⟩ | ⟨h1, _, h2, h3, _⟩
        · exact .inl ⟨h1, h2⟩
        · exact .inr ⟨h1, h2, h3⟩
      have H1 := Lib.hid H1
      have H2 := Lib.hid H2
      have H3 := Lib.hid H3
      have H4 := Lib.hid H4
      have HW := Lib.hid hW
      have Hwr := Lib.hid hwr
      clear hW hn a1 a2 a3 a4 a5 hs0 hwr
      go_enter Try.func4, Try.ntmps4
      go_wp2_with fail
      refine (H1.out _ Hm.out).mono ?_
      rintro e w1 ⟨x1, c1, x2, c2, rfl, i1, i2, b1⟩
      have B1 := Lib.hid (b1.alloc b1.size (.cells #[.int .i64 0, .int .i64 0] 26))
      have T1 : Hid (FBox (w1.alloc (.cells #[.int .i64 0, .int .i64 0] 26)) w1.heap.size 0 0) := Lib.hid (heap_alloc_new w1 _)
      have I1 := Lib.hid (i1.keep ((Below.refl _ _).alloc (Nat.le_refl _) (.cells #[.int .i64 0, .int .i64 0] 26)))
      have I2 := Lib.hid (i2.keep ((Below.refl _ _).alloc (Nat.le_refl _) (.cells #[.int .i64 0, .int .i64 0] 26)))
      clear b1 i1 i2
      go_wp2_with fail
      refine (H2.out _ (Hm.out.keep B1.out)).mono ?_
      rintro e w2 ⟨rfl, b2⟩
      have b2' := B1.out.trans (b2.mono B1.out.size)
      have a2 := (Below.refl w2.heap.size w2).alloc (Nat.le_refl _) (.cells #[.int .i64 0, .int .i64 0] 26)
      have B2 := Lib.hid (b2'.alloc b2'.size (.cells #[.int .i64 0, .int .i64 0] 26))
      have S1 := Lib.hid ((T1.out.keep b2).alloc (.cells #[.int .i64 0, .int .i64 0] 26))
      have J1 := Lib.hid ((I1.out.keep b2).keep a2)
      have J2 := Lib.hid ((I2.out.keep b2).keep a2)
      clear b2 b2' a2
      go_wp2_with fail
      refine (fixed9_any _ (Hm.out.keep B2.out)).mono ?_
      rintro e w3 ⟨rfl, b3⟩
      have B3 := Lib.hid (B2.out.trans (b3.mono B2.out.size))
      have y1 := S1.out.keep b3
      have p0 := y1.c0
      have p1 := y1.c1
      have K1 := Lib.hid (J1.out.keep b3)
      have K2 := Lib.hid (J2.out.keep b3)
      clear b3 y1
      rcases hgs with ⟨g1, g2⟩ | g1
      case' inl =>
        have u1 : (2 : Int) < (s.size : Int) := by omega
        have u2 : (3 : Int) ≤ (s.size : Int) := by omega
        have u3 : ((s.extract 0 3).toList == [239, 187, 191]) = false := g2
      case' inr =>
        have u1 : ¬ (2 : Int) < (s.size : Int) := by omega
        have u2 : decide ((2 : Int) < (s.size : Int)) = false := decide_eq_false u1
        have u3 : ¬ 2 < s.size := g1
      all_goals (
        go_wp2_with fail
        refine (H3.out _ (Hm.out.keep B3.out)).mono ?_
        rintro e w4 ⟨x3, c3, x4, c4, rfl, i3, i4, b4⟩
        clear p0 p1 u1 u2 u3 g1
        have b4' := B3.out.trans (b4.mono B3.out.size)
        have a4 := (Below.refl w4.heap.size w4).alloc (Nat.le_refl _) (.cells #[.int .i64 (nestE V), .int .i64 (nestF V)] 26)
        have B4 := Lib.hid (b4'.alloc b4'.size (.cells #[.int .i64 (nestE V), .int .i64 (nestF V)] 26))
        have T4 : Hid (FBox (w4.alloc (.cells #[.int .i64 (nestE V), .int .i64 (nestF V)] 26)) w4.heap.size (nestE V) (nestF V)) := Lib.hid (heap_alloc_new w4 _)
        have L1 := Lib.hid ((K1.out.keep b4).keep a4)
        have L2 := Lib.hid ((K2.out.keep b4).keep a4)
        have L3 := Lib.hid (i3.keep a4)
        have L4 := Lib.hid (i4.keep a4)
        clear b4 b4' a4 i3 i4
        rcases Hwr.out with ⟨hm, hE, hT0⟩ | ⟨hm, hN, hE, hF, hM, hP0, hP⟩
        · rw [hE] at B4 T4 L1 L2 L3 L4
          rw [hE, hT0]
          have m100 : ((m : Int) == 100) = true := by rw [hm]; rfl
          have f0 := T4.out.c0
          have f1 := T4.out.c1
          have e6 : ((6 : Int) == 6) = true := rfl
          clear Hwr hE4
          go_wp2
          go_ret
          exact ⟨by first | rfl | simp, B4.out⟩
        · rw [hE, hF] at B4 T4 L1 L2 L3 L4
          rw [hE, hF]
          have m100 : ((m : Int) == 100) = false := beq_eq_false_iff_ne.2 (by omega)
          have H4' := H4.out
          rw [hE, hF, hM] at H4'
          rw [show ((m + 1 : Nat) : Int) = (m : Int) + 1 from rfl] at H4'
          have H4 := Lib.hid H4'
          have f0 := T4.out.c0
          have f1 := T4.out.c1
          have HP := Lib.hid hP
          have L4' := L4.out
          obtain ⟨N3, hN3⟩ : ∃ N3, (nestT V).length = N3 := ⟨_, rfl⟩
          rw [hN3] at L4' hN
          have hL3' : ∀ w, TkI w x3 (nestT V) → TkI w x3 (nestT V) := fun _ h => h
          rw [hN3]
          generalize nestT V = M at L3 HP hN3
          generalize nestP V = Q at L4' HP hP0
          have L4 := Lib.hid L4'
          have HN3 := Lib.hid hN3
          clear Hwr hE4 H4' hP hE hF hM L4' hL3'
          go_wp2_with fail
          refine (H4.out _ (Hm.out.keep B4.out)).mono ?_
          rintro e w5 ⟨rfl, b5⟩
          have b5' := B4.out.trans (b5.mono B4.out.size)
          have a5 := (Below.refl w5.heap.size w5).alloc (Nat.le_refl _) (.cells #[.int .i64 0, .int .i64 0] 26)
          have B5 := Lib.hid (b5'.alloc b5'.size (.cells #[.int .i64 0, .int .i64 0] 26))
          have T5 : Hid (FBox (w5.alloc (.cells #[.int .i64 0, .int .i64 0] 26)) w5.heap.size 0 0) := Lib.hid (heap_alloc_new w5 _)
          have S5 := Lib.hid ((T4.out.keep b5).alloc (.cells #[.int .i64 0, .int .i64 0] 26))
          have N1 := Lib.hid ((L1.out.keep b5).keep a5)
          have N2 := Lib.hid ((L2.out.keep b5).keep a5)
          have N3' := Lib.hid ((L3.out.keep b5).keep a5)
          have N4 := Lib.hid ((L4.out.keep b5).keep a5)
          clear b5 b5' a5 f0 f1
          have f0 := S5.out.c0
          have f1 := S5.out.c1
          have f2 := T5.out.c0
          have f3 := T5.out.c1
          have hN3' : (N3 : Int) = (T.length : Int) + 3 := by rw [hN]; rfl
          have v1 : ((N3 : Int) == (T.length : Int) + 3) = true := by rw [hN3']; exact beq_self_eq_true _
          have v2 : ((N3 : Int) != (T.length : Int) + 3) = false := by rw [bne, v1]; rfl
          have v3 : IntKind.i64.wrap ((T.length : Int) + 3) = (T.length : Int) + 3 := by rw [IntKind.wrap_i64]; omega
          have v4 : IntKind.i64.wrap ((T.length : Int) + 1) = (T.length : Int) + 1 := by rw [IntKind.wrap_i64]; omega
          have v5 : IntKind.i64.wrap ((m : Int) + 1) = (m : Int) + 1 := by rw [IntKind.wrap_i64]; omega
          have v6 : ((N3 : Int) == (N3 : Int)) = true := beq_self_eq_true _
          have v7 : ((N3 : Int) != (N3 : Int)) = false := by rw [bne, v6]; rfl
          have v8 : ((m : Int) + 1 == (m : Int) + 1) = true := beq_self_eq_true _
          have v9 : ((m : Int) + 1 != (m : Int) + 1) = false := by rw [bne, v8]; rfl
          have v10 : ((T.length : Int) + 1 == (T.length : Int) + 1) = true := beq_self_eq_true _
          have v11 : ((T.length : Int) + 1 != (T.length : Int) + 1) = false := by rw [bne, v10]; rfl
          have v12 : (0 : Int) < (N3 : Int) := by omega
          obtain ⟨gq, rfl, hgq, hq0⟩ := N4.out.cells (i := 0) (by omega)
          rw [hP0] at hq0
          have n1 : (N3 : Int) ≤ (T.length : Int) + 3 := by omega
          have n2 : (T.length : Int) + 3 ≤ (N3 : Int) := by omega
          clear hP0 hN hN3'
          go_wp2
          clear f0 f1 f2 f3 hq0 v1 v2 v3 v4 v5 v6 v7 v8 v9 v10 v11 v12 hgq
          generalize w5.alloc (.cells #[.int .i64 0, .int .i64 0] 26) = w6 at B5 N1 N2 N3' N4 ⊢
          go_loopw [13] (fun iv wr => ∃ i q : Nat, i ≤ T.length ∧ iv = .int .i64 i ∧ wr = w6.drewN q) (fun iv _ => T.length - (intOf iv).toNat)
          case atStart => exact ⟨0, 0, by omega, rfl, rfl⟩
          case round =>
            obtain ⟨i, q, hi, rfl, rfl⟩ := hrel
            by_cases hlt : i < T.length
            · obtain ⟨g, rfl, hg, d0, d1, d2⟩ := N1.out.cells (i := i) hlt
              obtain ⟨g2', rfl, hg2, e0, e1, e2⟩ := N3'.out.cells (i := i + 1) (by rw [HN3.out]; omega)
              obtain ⟨g3, rfl, hg3, k0⟩ := N2.out.cells (i := i) hlt
              obtain ⟨g4, hx4, hg4, k1⟩ := N4.out.cells (i := i + 1) (by omega)
              have hgg : gq = g4 := by
                have := Option.some.inj hx4
                injection this
              subst hgg
              obtain ⟨hQ, hK⟩ := HP.out i hlt
              rw [hK] at e0
              rw [hQ] at k1
              generalize (nthT T i).k = K at d0 e0
              have b0 : (0 : Int) ≤ (i : Int) := by omega
              have b1 : (i : Int) < (T.length : Int) := by omega
              have b2 : (0 : Int) ≤ (i : Int) + 1 := by omega
              have b3 : (i : Int) + 1 < (N3 : Int) := by omega
              have hT1 : ((i : Int) + 1).toNat = i + 1 := by omega
              have t1 : ((K : Int) == (K : Int)) = true := beq_self_eq_true _
              have t2 : ((K : Int) != (K : Int)) = false := by rw [bne, t1]; rfl
              clear hQ hK hx4
              rcases HW.out i hlt with h | ⟨j, hj1, hj2, hj3, hj4, hj5⟩
              · rw [h, if_pos rfl] at k1
                rw [h] at k0
                clear h
                go_wp2
                go_quiet (fail)
                go_wp2
                go_roundw
                case rel => exact ⟨i + 1, _, by omega, by go_num, rfl⟩
                case measure => simp [intOf]; omega
              · rw [hj3, if_neg (by omega)] at k1
                rw [hj3] at k0
                have u1 : ((j : Int) == -1) = false := beq_eq_false_iff_ne.2 (by omega)
                have u2 : ((j : Int) != -1) = true := by rw [bne, u1]; rfl
                have u3 : IntKind.i64.wrap ((j : Int) + 1) = (j : Int) + 1 := by rw [IntKind.wrap_i64]; omega
                have u4 : ((j : Int) + 1 == (j : Int) + 1) = true := beq_self_eq_true _
                have u5 : ((j : Int) + 1 != (j : Int) + 1) = false := by rw [bne, u4]; rfl
                clear hj3 hj4 hj5
                go_wp2
                go_quiet (fail)
                go_wp2
                go_roundw
                case rel => exact ⟨i + 1, _, by omega, by go_num, rfl⟩
                case measure => simp [intOf]; omega
            · have hie : i = T.length := by omega
              subst hie
              have b1 : ¬ (T.length : Int) < (T.length : Int) := by omega
              go_wp2
              go_ret
              exact ⟨rfl, below_drw B5.out q⟩)
    · generalize (semA s).1 = T at *
      have H1 := Lib.hid H1
      have H2 := Lib.hid H2
      clear hW hn a1 a2 a3 a4 a5 hs0
      by_cases h6 : s.size ≤ 65533
      · have z0 : ¬ (65533 : Int) < (s.size : Int) := by omega
        have z0' : decide ((65533 : Int) < (s.size : Int)) = false := decide_eq_false z0
        have hb : 2 < s.size ∧ bl (s.extract 0 3) = [239, 187, 191] := by
          by_cases h : 2 < s.size ∧ bl (s.extract 0 3) = [239, 187, 191]
          · exact h
          · exact absurd ⟨h6, h⟩ hc
        obtain ⟨hb1, hb2⟩ := hb
        have u1 : (2 : Int) < (s.size : Int) := by omega
        have u2 : (3 : Int) ≤ (s.size : Int) := by omega
        have u3 : ((s.extract 0 3).toList == [239, 187, 191]) = true := by rw [Lib.toList_data]; exact beq_iff_eq.2 hb2
        clear hc h6 hb1 hb2
        go_enter Try.func4, Try.ntmps4
        go_wp2_with fail
        refine (H1.out _ Hm.out).mono ?_
        rintro e w1 ⟨x1, c1, x2, c2, rfl, i1, i2, b1⟩
        have B1 := Lib.hid (b1.alloc b1.size (.cells #[.int .i64 0, .int .i64 0] 26))
        have T1 : Hid (FBox (w1.alloc (.cells #[.int .i64 0, .int .i64 0] 26)) w1.heap.size 0 0) := Lib.hid (heap_alloc_new w1 _)
        clear b1 i1 i2
        go_wp2_with fail
        refine (H2.out _ (Hm.out.keep B1.out)).mono ?_
        rintro e w2 ⟨rfl, b2⟩
        have b2' := B1.out.trans (b2.mono B1.out.size)
        have B2 := Lib.hid (b2'.alloc b2'.size (.cells #[.int .i64 0, .int .i64 0] 26))
        have S1 := Lib.hid ((T1.out.keep b2).alloc (.cells #[.int .i64 0, .int .i64 0] 26))
        clear b2 b2'
        go_wp2_with fail
        refine (fixed9_any _ (Hm.out.keep B2.out)).mono ?_
        rintro e w3 ⟨rfl, b3⟩
        have B3 := Lib.hid (B2.out.trans (b3.mono B2.out.size))
        have y1 := S1.out.keep b3
        have p0 := y1.c0
        have p1 := y1.c1
        clear b3 y1
        go_wp2_with fail
        refine (fixed9_any _ (Hm.out.keep B3.out)).mono ?_
        rintro e w4 ⟨rfl, b4⟩
        have B4 := Lib.hid (B3.out.trans (b4.mono B3.out.size))
        clear b4 p0 p1
        go_wp2
        go_ret
        exact ⟨rfl, B4.out⟩
      · have z0 : (65533 : Int) < (s.size : Int) := by omega
        clear hc h6
        go_enter Try.func4, Try.ntmps4
        go_wp2_with fail
        refine (H1.out _ Hm.out).mono ?_
        rintro e w1 ⟨x1, c1, x2, c2, rfl, i1, i2, b1⟩
        have B1 := Lib.hid (b1.alloc b1.size (.cells #[.int .i64 0, .int .i64 0] 26))
        have T1 : Hid (FBox (w1.alloc (.cells #[.int .i64 0, .int .i64 0] 26)) w1.heap.size 0 0) := Lib.hid (heap_alloc_new w1 _)
        clear b1 i1 i2
        go_wp2_with fail
        refine (H2.out _ (Hm.out.keep B1.out)).mono ?_
        rintro e w2 ⟨rfl, b2⟩
        have b2' := B1.out.trans (b2.mono B1.out.size)
        have B2 := Lib.hid (b2'.alloc b2'.size (.cells #[.int .i64 0, .int .i64 0] 26))
        have S1 := Lib.hid ((T1.out.keep b2).alloc (.cells #[.int .i64 0, .int .i64 0] 26))
        clear b2 b2'
        go_wp2_with fail
        refine (fixed9_any _ (Hm.out.keep B2.out)).mono ?_
        rintro e w3 ⟨rfl, b3⟩
        have B3 := Lib.hid (B2.out.trans (b3.mono B2.out.size))
        have y1 := S1.out.keep b3
        have p0 := y1.c0
        have p1 := y1.c1
        clear b3 y1
        go_wp2_with fail
        refine (fixed9_any _ (Hm.out.keep B3.out)).mono ?_
        rintro e w4 ⟨rfl, b4⟩
        have B4 := Lib.hid (B3.out.trans (b4.mono B3.out.size))
        clear b4 p0 p1
        go_wp2
        go_ret
        exact ⟨rfl, B4.out⟩
  · rw [a1] at H1
    rw [a3] at H2
    have hne : faEq (nestE s) (nestF s) 0 0 = false := by
      unfold faEq; rw [show (nestE s == 0) = false from beq_eq_false_iff_ne.2 hE]; rfl
    dsimp only [fauV] at H1 H2
    generalize nestE s = E at H1 H2 hne hE
    generalize nestF s = D at H1 H2 hne
    have q2 := fun w => run_equal_fau w E D 0 0
    rw [hne] at q2
    have H1 := Lib.hid H1
    have H2 := Lib.hid H2
    clear hne a1 a3 hlen hE
    go_enter Try.func4, Try.ntmps4
    go_wp2_with fail
    refine (H1.out _ Hm.out).mono ?_
    rintro e w1 ⟨x1, c1, x2, c2, rfl, i1, i2, b1⟩
    have B1 := Lib.hid (b1.alloc b1.size (.cells #[.int .i64 E, .int .i64 D] 26))
    have T1 : Hid (FBox (w1.alloc (.cells #[.int .i64 E, .int .i64 D] 26)) w1.heap.size E D) := Lib.hid (heap_alloc_new w1 _)
    clear b1 i1 i2
    go_wp2_with fail
    refine (H2.out _ (Hm.out.keep B1.out)).mono ?_
    rintro e w2 ⟨rfl, b2⟩
    have b2' := B1.out.trans (b2.mono B1.out.size)
    have B2 := Lib.hid (b2'.alloc b2'.size (.cells #[.int .i64 E, .int .i64 D] 26))
    have S1 := Lib.hid ((T1.out.keep b2).alloc (.cells #[.int .i64 E, .int .i64 D] 26))
    clear b2 b2'
    go_wp2_with fail
    refine (fixed9_any _ (Hm.out.keep B2.out)).mono ?_
    rintro e w3 ⟨rfl, b3⟩
    have B3 := Lib.hid (B2.out.trans (b3.mono B2.out.size))
    have y1 := S1.out.keep b3
    have p0 := y1.c0
    have p1 := y1.c1
    clear b3 y1
    go_wp2_with fail
    refine (fixed9_any _ (Hm.out.keep B3.out)).mono ?_
    rintro e w4 ⟨rfl, b4⟩
    have B4 := Lib.hid (B3.out.trans (b4.mono B3.out.size))
    clear b4 p0 p1
    go_wp2
    go_ret
    exact ⟨rfl, B4.out⟩
end Go.Proofs.Ytnkgbmnjehpkgab

