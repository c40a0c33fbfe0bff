/- The laws' helper 'inside'; the walk of the law SemiTokens. -/
import Derived.Test.YtnkgbmnjehpkgaaSeTokMath
import Derived.Test.YtnkgbmnjehpkgaaGZ
namespace Go.Proofs.Ytnkgbmnjehpkgaa
open Go.RowKit Em
set_option maxRecDepth 100000
set_option linter.unusedVariables false

set_option maxHeartbeats 2000000 in
theorem inside_any (s : ByteArray) (T : List Sc.Tk) (x : Option Addr) (c : Nat) (w : World) (hx : TkI w x T) (ho : InO s.size T) (hl : T.length ≤ 1000000) :
    Calls Try.prog 20 #[.string s, .slice x T.length c] w fun e w' => e = .returned (.bool true) ∧ ∃ q, w' = w.drewN q := by
  have Hx := Lib.hid hx
  have Ho := Lib.hid ho
  clear hx ho
  go_enter Try.func20, Try.ntmps20
  go_wp2
  go_loopw [5, 6] (fun at' iv wr => ∃ i a q : Nat, i ≤ T.length ∧ iv = .int .i64 i ∧ at' = .int .i64 a ∧ (i < T.length → a ≤ (nthT T i).f) ∧ wr = w.drewN q) (fun _ iv _ => T.length - (intOf iv).toNat)
  case atStart => exact ⟨0, 0, 0, by omega, rfl, rfl, fun _ => Nat.zero_le _, rfl⟩
  case round =>
    obtain ⟨i, a, q, hi, rfl, rfl, ha, rfl⟩ := hrel
    by_cases hlt : i < T.length
    · obtain ⟨g, rfl, hg, d0, d1, d2⟩ := Hx.out.cells (i := i) hlt
      have hat := ino_at Ho.out hlt
      have hnx := fun h => ino_next (i := i) Ho.out h
      have ha' := ha hlt
      have b0 : (0 : Int) ≤ (i : Int) := by omega
      have b1 : (i : Int) < (T.length : Int) := by omega
      generalize (nthT T i).f = F at d1 ha' hat
      generalize (nthT T i).t = U at d2 hat hnx
      have n1 : ¬ F < a := by omega
      have n2 : ¬ U < F := by omega
      have n3 : ¬ s.size < U := by omega
      have i1 : ¬ (F : Int) < (a : Int) := by omega
      have i2 : ¬ (U : Int) < (F : Int) := by omega
      have i3 : ¬ (s.size : Int) < (U : Int) := by omega
      clear ha
      go_wp2
      go_quiet (fail)
      go_wp2
      go_roundw
      case rel => exact ⟨i + 1, U, _, by omega, by go_num, rfl, fun h => hnx h, rfl⟩
      case measure => simp [intOf]; omega
    · have b1 : ¬ (i : Int) < (T.length : Int) := by omega
      go_wp2
      go_ret
      exact ⟨rfl, q, rfl⟩

set_option maxHeartbeats 8000000 in
theorem walk_SemiTokens (s : ByteArray) (w : World) (hs : s.size ≤ 140737488351232) (hm : Mx w) :
    Calls Try.prog 10 #[.string s] w fun e w' => e = .returned (.bool true) ∧ Below w.heap.size w w' := by
  have Hm := Lib.hid hm
  have H1 := fun w hm => all_scan s w hm
  have H2 := fun w hm => semi_any s w hm
  unfold AllP at H1
  unfold SemP at H2
  have m1 := guard_tok
  have m2 := guard_fau
  clear hm
  rcases allA_fault s with ⟨e1, e2⟩ | ⟨e1, e2⟩
  · have hord := allA_ord s
    have hmost := allA_most s
    have hsize := allA_ok_size e1
    have hT := refS_all s e1
    have hsem2 : (semA s).2.1 = 0 ∧ (semA s).2.2 = 0 := by unfold semA; rw [if_pos e1]; exact ⟨rfl, rfl⟩
    rw [e1, e2] at H1
    rw [hsem2.1, hsem2.2] at H2
    dsimp only [fauV] at H1 H2
    generalize (semA s).1 = T at H2 hT
    generalize (allA s).1 = A at H1 hord hmost hT
    have hino : InO s.size T := by rw [← hT]; exact (refS_ino s A s.size hord _ (Nat.le_refl _)).1
    have hlenT : T.length ≤ 131072 := by rw [← hT]; have := refS_len s A A.length; omega
    have H1 := Lib.hid H1
    have H2 := Lib.hid H2
    have Hord := Lib.hid hord
    have HT := Lib.hid hT
    have Hino := Lib.hid hino
    have q1 := fun w => run_equal_fau w 0 0 0 0
    rw [faEq_self] at q1
    clear hord hT hino hsem2 e1 e2
    go_enter Try.func10, Try.ntmps10
    go_wp2_with fail
    refine (H1.out _ Hm.out).mono ?_
    rintro e w1 ⟨v1, rfl, o1, b1⟩
    obtain ⟨x1, c1, rfl, i1, _⟩ := tkI_of_owns o1
    have B1 := Lib.hid (b1.alloc b1.size (.cells #[.int .i64 0, .int .i64 0] 28))
    have a1 := (Below.refl w1.heap.size w1).alloc (Nat.le_refl _) (.cells #[.int .i64 0, .int .i64 0] 28)
    have T1 : Hid (FBox (w1.alloc (.cells #[.int .i64 0, .int .i64 0] 28)) w1.heap.size 0 0) := Lib.hid (heap_alloc_new w1 _)
    have I1 := Lib.hid (i1.keep a1)
    clear b1 o1 i1 a1
    go_wp2_with fail
    refine (H2.out _ (Hm.out.keep B1.out)).mono ?_
    rintro e w2 ⟨v2, rfl, o2, b2⟩
    obtain ⟨x2, c2, rfl, i2, _⟩ := tkI_of_owns o2
    have b2' := B1.out.trans (b2.mono B1.out.size)
    have a2 := (Below.refl w2.heap.size w2).alloc (Nat.le_refl _) (.cells #[.int .i64 0, .int .i64 0] 28)
    have B2 := Lib.hid (b2'.alloc b2'.size (.cells #[.int .i64 0, .int .i64 0] 28))
    have T2 : Hid (FBox (w2.alloc (.cells #[.int .i64 0, .int .i64 0] 28)) w2.heap.size 0 0) := Lib.hid (heap_alloc_new w2 _)
    have S1 := Lib.hid ((T1.out.keep b2).alloc (.cells #[.int .i64 0, .int .i64 0] 28))
    have J1 := Lib.hid ((I1.out.keep b2).keep a2)
    have J2 := Lib.hid (i2.keep a2)
    clear b2 b2' o2 i2 a2
    go_wp2_with fail
    refine (fixed8_any _ (Hm.out.keep B2.out)).mono ?_
    rintro e w3 ⟨rfl, b3⟩
    have B3 := Lib.hid (B2.out.trans (b3.mono B2.out.size))
    have y1 := S1.out.keep b3
    have y2 := T2.out.keep b3
    have p0 := y1.c0
    have p1 := y1.c1
    have q0 := y2.c0
    have q1' := y2.c1
    have K1 := Lib.hid (J1.out.keep b3)
    have K2 := Lib.hid (J2.out.keep b3)
    clear b3 y1 y2
    go_wp2_with fail
    refine (inside_any s T x2 c2 _ K2.out Hino.out (by omega)).mono ?_
    rintro e w4 ⟨rfl, nq, rfl⟩
    have L1 : Hid (∀ q, TkI (w3.drewN q) x1 A) := Lib.hid (fun q => K1.out)
    have L2 : Hid (∀ q, TkI (w3.drewN q) x2 T) := Lib.hid (fun q => K2.out)
    clear p0 p1 q0 q1'
    go_wp2
    go_loopw [7, 8] (fun kv iv wr => ∃ i q : Nat, i ≤ A.length ∧ iv = .int .i64 i ∧ kv = .int .i64 (((refS s A i).length : Nat) : Int) ∧ wr = w3.drewN q) (fun _ iv _ => A.length - (intOf iv).toNat)
    case atStart => exact ⟨0, nq, by omega, rfl, rfl, rfl⟩
    case round =>
      obtain ⟨i, q, hi, rfl, rfl, rfl⟩ := hrel
      by_cases hlt : i < A.length
      · obtain ⟨g, rfl, hg, d0, d1, d2⟩ := K1.out.cells (i := i) hlt
        have b0 : (0 : Int) ≤ (i : Int) := by omega
        have b1 : (i : Int) < (A.length : Int) := by omega
        have hat := ord_at Hord.out hlt
        cases hsil : silent (nthT A i).k with
        | true =>
          have hsame := refS_silent (s := s) hsil
          generalize (nthT A i).k = K at d0 hsil
          have hK : K = 10 ∨ K = 11 ∨ K = 12 := of_decide_eq_true hsil
          clear hsil
          rcases hK with rfl | rfl | rfl
          all_goals
            go_wp2
            go_roundw
            case rel => exact ⟨i + 1, q, by omega, by go_num, by rw [hsame], rfl⟩
            case measure => simp [intOf]; omega
        | false =>
          obtain ⟨hk, hnth, hcase⟩ := tok_here s A T s.size Hord.out HT.out i hlt hsil
          have hnk : ¬ ((nthT A i).k = 10 ∨ (nthT A i).k = 11 ∨ (nthT A i).k = 12) := of_decide_eq_false hsil
          obtain ⟨g2, rfl, hg2, e0, e1, e2⟩ := K2.out.cells (i := (refS s A i).length) hk
          rw [hnth] at e0 e1 e2
          have HE := fun w => ends_any (nthT A i).k (s.extract (nthT A i).f (nthT A i).t) w
          rw [cutT_ext] at HE
          have hcells2 := fun h => K2.out.cells (i := (refS s A i).length + 1) h
          have hrel : ∀ m : Nat, (refS s A (i + 1)).length = (refS s A i).length + m → Value.int .i64 (((refS s A i).length + m : Nat) : Int) = .int .i64 (((refS s A (i + 1)).length : Nat) : Int) := fun m h => by rw [h]
          have Hrel := Lib.hid hrel
          clear hsil hrel hnth
          generalize (refS s A i).length = k at hk hcase e0 e1 e2 hcells2 Hrel
          generalize nthT A i = X at d0 d1 d2 e0 e1 e2 hat hnk HE hcase
          obtain ⟨K, F, U⟩ := X
          dsimp only at d0 d1 d2 e0 e1 e2 hat hnk HE hcase
          have n10 : ((K : Int) == 10) = false := beq_eq_false_iff_ne.2 (by omega)
          have n11 : ((K : Int) == 11) = false := beq_eq_false_iff_ne.2 (by omega)
          have n12 : ((K : Int) == 12) = false := beq_eq_false_iff_ne.2 (by omega)
          have c0 : (0 : Int) ≤ (k : Int) := by omega
          have c1 : (k : Int) < (T.length : Int) := by omega
          have c2 : ((k : Int) == (T.length : Int)) = false := beq_eq_false_iff_ne.2 (by omega)
          have c3 : (k == T.length) = false := beq_eq_false_iff_ne.2 (by omega)
          have hq := fun w => run_equal_tok w K F U K F U
          rw [tkEq_self] at hq
          rcases hcase with ⟨hm, hk1, hn1, hend⟩ | ⟨hm, hlast | ⟨hk1, hne⟩⟩
          · obtain ⟨g3, hx3, hg3, f0, f1, f2⟩ := hcells2 hk1
            rw [hn1] at f0 f1 f2
            dsimp only at f0 f1 f2
            have hgg : g2 = g3 := by
              have := Option.some.inj hx3
              injection this
            subst hgg
            rw [hend] at HE
            have HE := Lib.hid HE
            have HX := Lib.hid (Hrel.out 2 (by omega))
            have hq2 := fun w => run_equal_tok w 9 U U 9 U U
            rw [tkEq_self] at hq2
            have g0 : (0 : Int) ≤ (k : Int) + 1 := by omega
            have g1 : (k : Int) + 1 < (T.length : Int) := by omega
            have hT1 : ((k : Int) + 1).toNat = k + 1 := by omega
            have l0 : (0 : Int) ≤ (F : Int) := by omega
            have l1 : (F : Int) ≤ (U : Int) := by omega
            have l2 : (U : Int) ≤ (s.size : Int) := by omega
            have l3 : F ≤ U := by omega
            clear hend hx3 hn1 hcells2
            go_wp2
            go_quiet (fail)
            go_wp2
            go_quiet (fail)
            go_wp2
            go_quiet ((go_at_call 17; exact (HE.out _).mono fun e w' h => ⟨h.1, _, h.2.symm⟩))
            go_wp2
            go_roundw
            case rel => exact ⟨i + 1, _, by omega, by go_num, (by go_num : _ = Value.int .i64 ((k + 2 : Nat) : Int)).trans HX.out, rfl⟩
            case measure => simp [intOf]; omega
          · have HX := Lib.hid (Hrel.out 1 (by omega))
            have g1 : ¬ (k : Int) + 1 < (T.length : Int) := by omega
            have g2' : ¬ k + 1 < T.length := by omega
            have g3' : decide ((k : Int) + 1 < (T.length : Int)) = false := decide_eq_false g1
            have g4' : decide (k + 1 < T.length) = false := decide_eq_false g2'
            clear hlast
            clear hcells2 HE
            go_wp2
            go_quiet (fail)
            go_wp2
            go_quiet (fail)
            go_wp2
            go_roundw
            case rel => exact ⟨i + 1, _, by omega, by go_num, (by go_num : _ = Value.int .i64 ((k + 1 : Nat) : Int)).trans HX.out, rfl⟩
            case measure => simp [intOf]; omega
          · obtain ⟨g3, hx3, hg3, f0, f1, f2⟩ := hcells2 hk1
            have hgg : g2 = g3 := by
              have := Option.some.inj hx3
              injection this
            subst hgg
            generalize (nthT T (k + 1)).f = F2 at f1 hne
            generalize (nthT T (k + 1)).t = U2 at f2 hne
            have HX := Lib.hid (Hrel.out 1 (by omega))
            have g0 : (0 : Int) ≤ (k : Int) + 1 := by omega
            have g1 : (k : Int) + 1 < (T.length : Int) := by omega
            have hT1 : ((k : Int) + 1).toNat = k + 1 := by omega
            have t1 : ((F2 : Int) == (U2 : Int)) = false := beq_eq_false_iff_ne.2 (by omega)
            have t2 : (F2 == U2) = false := beq_eq_false_iff_ne.2 (by omega)
            clear hx3 hcells2 HE
            go_wp2
            go_quiet (fail)
            go_wp2
            go_quiet (fail)
            go_wp2
            go_roundw
            case rel => exact ⟨i + 1, _, by omega, by go_num, (by go_num : _ = Value.int .i64 ((k + 1 : Nat) : Int)).trans HX.out, rfl⟩
            case measure => simp [intOf]; omega
      · have hie : i = A.length := by omega
        subst hie
        have hfin := congrArg List.length HT.out
        rw [hfin]
        have b1 : ¬ (A.length : Int) < (A.length : Int) := by omega
        go_wp2
        go_ret
        exact ⟨by simp, below_draw' B3.out _⟩
  · have hsem : semA s = ([], (allA s).2.1, (allA s).2.2) := if_neg e1
    rw [e2] at H1
    rw [hsem] at H2
    have hne : faEq (allA s).2.1 (allA s).2.2 0 0 = false := by
      unfold faEq; rw [show ((allA s).2.1 == 0) = false from beq_eq_false_iff_ne.2 e1]; rfl
    dsimp only [fauV] at H1 H2
    generalize (allA s).2.1 = E at H1 H2 hne
    generalize (allA s).2.2 = D at H1 H2 hne
    have q1 := fun w => run_equal_fau w E D E D
    have q2 := fun w => run_equal_fau w E D 0 0
    rw [faEq_self] at q1
    rw [hne] at q2
    have H1 := Lib.hid H1
    have H2 := Lib.hid H2
    clear hsem e1 e2 hne
    go_enter Try.func10, Try.ntmps10
    go_wp2_with fail
    refine (H1.out _ Hm.out).mono ?_
    rintro e w1 ⟨v1, rfl, o1, b1⟩
    obtain ⟨x1, c1, rfl, i1, _⟩ := tkI_of_owns o1
    have B1 := Lib.hid (b1.alloc b1.size (.cells #[.int .i64 E, .int .i64 D] 28))
    have T1 : Hid (FBox (w1.alloc (.cells #[.int .i64 E, .int .i64 D] 28)) w1.heap.size E D) := Lib.hid (heap_alloc_new w1 _)
    clear b1 o1 i1
    go_wp2_with fail
    refine (H2.out _ (Hm.out.keep B1.out)).mono ?_
    rintro e w2 ⟨v2, rfl, o2, b2⟩
    obtain ⟨x2, c2, rfl, i2, _⟩ := tkI_of_owns o2
    have b2' := B1.out.trans (b2.mono B1.out.size)
    have B2 := Lib.hid (b2'.alloc b2'.size (.cells #[.int .i64 E, .int .i64 D] 28))
    have T2 : Hid (FBox (w2.alloc (.cells #[.int .i64 E, .int .i64 D] 28)) w2.heap.size E D) := Lib.hid (heap_alloc_new w2 _)
    have S1 := Lib.hid ((T1.out.keep b2).alloc (.cells #[.int .i64 E, .int .i64 D] 28))
    clear b2 b2' o2 i2
    go_wp2_with fail
    refine (fixed8_any _ (Hm.out.keep B2.out)).mono ?_
    rintro e w3 ⟨rfl, b3⟩
    have B3 := Lib.hid (B2.out.trans (b3.mono B2.out.size))
    have y1 := Lib.hid (S1.out.keep b3)
    have y2 := Lib.hid (T2.out.keep b3)
    have p0 := y1.out.c0
    have p1 := y1.out.c1
    have q0 := y2.out.c0
    have q1' := y2.out.c1
    clear b3
    go_wp2_with fail
    refine (fixed8_any _ (Hm.out.keep B3.out)).mono ?_
    rintro e w4 ⟨rfl, b4⟩
    have B4 := Lib.hid (B3.out.trans (b4.mono B3.out.size))
    have z1 := y1.out.keep b4
    have z2 := y2.out.keep b4
    have r0 := z1.c0
    have r1 := z1.c1
    have r2 := z2.c0
    have r3 := z2.c1
    clear b4 z1 z2 p0 p1 q0 q1'
    go_wp2
    go_ret
    exact ⟨rfl, B4.out⟩
end Go.Proofs.Ytnkgbmnjehpkgaa

