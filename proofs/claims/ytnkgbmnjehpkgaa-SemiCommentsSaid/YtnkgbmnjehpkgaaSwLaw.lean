/- The walk of the law SemiWritten. -/
import Derived.Test.YtnkgbmnjehpkgaaSwAlike
namespace Go.Proofs.Ytnkgbmnjehpkgaa
open Go.RowKit Em
set_option maxRecDepth 100000
set_option linter.unusedVariables false

/-- The text put together, so far. -/
def wrS (s : ByteArray) (T : List Sc.Tk) (i : Nat) : ByteArray := txt (wr (toksOf s (T.take i)))
theorem wrS_step (s : ByteArray) (T : List Sc.Tk) {i : Nat} (hi : i < T.length) : wrS s T i ++ ((⟨#[32]⟩ : ByteArray) ++ tokS s (nthT T i).k (nthT T i).f (nthT T i).t) = wrS s T (i + 1) := by
  apply bl_inj
  unfold wrS
  rw [txt_bl, take_succ T i hi]
  have e : ∀ a b : ByteArray, bl (a ++ b) = bl a ++ bl b := fun a b => by unfold bl; rw [ByteArray.data_append, Array.toList_append]
  rw [e, e, tokS_bl, txt_bl]
  unfold toksOf
  rw [List.map_append, wr_append]
  simp [wr, tokX, bl]

set_option maxHeartbeats 8000000 in
theorem walk_SemiWritten (s : ByteArray) (w : World) (hs : s.size ≤ 140737488351232) (hm : Mx w) :
    Calls Try.prog 9 #[.string s] w fun e w' => e = .returned (.bool true) ∧ Below w.heap.size w w' := by
  have Hm := Lib.hid hm
  have H1 := fun w hm => semi_any s w hm
  unfold SemP at H1
  have m1 := guard_tok
  have m2 := guard_fau
  clear hm
  by_cases e0 : (allA s).2.1 = 0
  · have hA2 : (semA s).2.1 = 0 ∧ (semA s).2.2 = 0 := by unfold semA; rw [if_pos e0]; exact ⟨rfl, rfl⟩
    have q2 := fun w => run_equal_fau w 0 0 0 0
    rw [faEq_self] at q2
    rw [hA2.1, hA2.2] at H1
    dsimp only [fauV] at H1
    by_cases h4 : s.size ≤ 4000
    · have hsm : ¬ (4000 : Int) < (s.size : Int) := by omega
      have hT := refS_all s e0
      have hordA := allA_ord s
      have hino : InO s.size (semA s).1 := by rw [← hT]; exact (refS_ino s _ s.size hordA _ (Nat.le_refl _)).1
      have hlenT : (semA s).1.length ≤ 131072 := by rw [← hT]; have := refS_len s (allA s).1 (allA s).1.length; have := allA_most s; omega
      obtain ⟨_, hcat⟩ := ch_all e0
      have hwl : (wr (toksOf s (semA s).1)).length ≤ 16000 := by
        rw [toks_all e0]
        have := wr_len (tksOf s (allA s).1) (fun x hx => (alone_all e0 x hx).ne)
        rw [hcat, bl_size] at this
        omega
      have hjz : ∀ i, (wrS s (semA s).1 i).size ≤ 16000 := by
        intro i
        unfold wrS
        rw [txt_size]
        have e : toksOf s ((semA s).1.take i) = (toksOf s (semA s).1).take i := by unfold toksOf; rw [List.map_take]
        rw [e]
        exact Nat.le_trans (wr_take _ _) hwl
      have hfull : bl (wrS s (semA s).1 (semA s).1.length) = wr (toksOf s (semA s).1) := by
        unfold wrS; rw [txt_bl, List.take_length]
      obtain ⟨k1, k2, k3⟩ := written_all (t := wrS s (semA s).1 (semA s).1.length) e0 hfull (by have := hjz (semA s).1.length; omega)
      have hM2 : (semA (wrS s (semA s).1 (semA s).1.length)).2.1 = 0 ∧ (semA (wrS s (semA s).1 (semA s).1.length)).2.2 = 0 := by
        unfold semA at *; rw [if_pos k1]; exact ⟨rfl, rfl⟩
      have hordM := allA_ord (wrS s (semA s).1 (semA s).1.length)
      have hinoM : InO (wrS s (semA s).1 (semA s).1.length).size (semA (wrS s (semA s).1 (semA s).1.length)).1 := by
        rw [← refS_all _ k1]; exact (refS_ino _ _ _ hordM _ (Nat.le_refl _)).1
      have H2 := fun w hm => semi_any (wrS s (semA s).1 (semA s).1.length) w hm
      unfold SemP at H2
      rw [hM2.1, hM2.2] at H2
      dsimp only [fauV] at H2
      have hlenM : (semA (wrS s (semA s).1 (semA s).1.length)).1.length = (semA s).1.length := by
        have := congrArg List.length k2
        unfold toksOf at this
        rwa [List.length_map, List.length_map] at this
      generalize (semA (wrS s (semA s).1 (semA s).1.length)).1 = M at H2 k2 k3 hinoM hlenM
      clear hT hwl hfull k1 hM2 hordM hcat hordA hA2
      generalize (semA s).1 = T at *
      have hstep := fun i hi => wrS_step s T (i := i) hi
      have H1 := Lib.hid H1
      have H2 := Lib.hid H2
      have Hstep := Lib.hid hstep
      have Hjz := Lib.hid hjz
      have Hino := Lib.hid hino
      have HinoM := Lib.hid hinoM
      have K2 := Lib.hid k2
      have K3 := Lib.hid k3
      have HlM := Lib.hid hlenM
      clear hstep hjz hino hinoM k2 k3 hlenM e0
      go_enter Try.func9, Try.ntmps9
      go_wp2_with fail
      refine (H1.out _ Hm.out).mono ?_
      rintro e w1 ⟨v1, rfl, o1, b1⟩
      obtain ⟨x1, c1, rfl, i1, _⟩ := tkI_of_owns o1
      have B1 := Lib.hid (b1.alloc b1.size (.cells #[.int .i64 0, .int .i64 0] 28))
      have a1 := (Below.refl w1.heap.size w1).alloc (Nat.le_refl _) (.cells #[.int .i64 0, .int .i64 0] 28)
      have T1 : Hid (FBox (w1.alloc (.cells #[.int .i64 0, .int .i64 0] 28)) w1.heap.size 0 0) := Lib.hid (heap_alloc_new w1 _)
      have I1 := Lib.hid (i1.keep a1)
      clear b1 o1 i1 a1
      go_wp2_with fail
      refine (fixed8_any _ (Hm.out.keep B1.out)).mono ?_
      rintro e w3 ⟨rfl, b3⟩
      have B3 := Lib.hid (B1.out.trans (b3.mono B1.out.size))
      have y1 := T1.out.keep b3
      have p0 := y1.c0
      have p1 := y1.c1
      have K1 := Lib.hid (I1.out.keep b3)
      clear b3 y1
      go_wp2_with fail
      refine (inside_any s T x1 c1 _ K1.out Hino.out (by omega)).mono ?_
      rintro e w4 ⟨rfl, nq, rfl⟩
      have B4 := Lib.hid (below_drw B3.out nq)
      have L1 : Hid (TkI (w3.drewN nq) x1 T) := Lib.hid K1.out
      clear p0 p1
      generalize w3.drewN nq = w4 at B4 L1 ⊢
      go_wp2
      go_loopw [5, 6] (fun tv iv wr => ∃ i : Nat, i ≤ T.length ∧ iv = .int .i64 i ∧ tv = .string (wrS s T i) ∧ Below w4.heap.size w4 wr) (fun _ iv _ => T.length - (intOf iv).toNat)
      case atStart => exact ⟨0, by omega, rfl, rfl, Below.refl _ _⟩
      case round =>
        obtain ⟨i, hi, rfl, rfl, hb⟩ := hrel
        have HB := Lib.hid hb
        by_cases hlt : i < T.length
        · obtain ⟨g, rfl, hg, d0, d1, d2⟩ := (L1.out.keep hb).cells (i := i) hlt
          have b0 : (0 : Int) ≤ (i : Int) := by omega
          have b1 : (i : Int) < (T.length : Int) := by omega
          have hat := ino_at Hino.out hlt
          have hjn := Hstep.out i hlt
          generalize nthT T i = X at d0 d1 d2 hat hjn
          obtain ⟨K, F, U⟩ := X
          dsimp only at d0 d1 d2 hat hjn
          have Hjn := Lib.hid hjn
          have HE := fun w => text_any s K F U w hat.1 hat.2
          have z1 := tokS_size s K F U
          have z2 := Hjz.out i
          have r1 : (Op.stringOp .add (⟨#[32]⟩ : ByteArray) (tokS s K F U)).run Try.prog = fun w => .ok (.string ((⟨#[32]⟩ : ByteArray) ++ tokS s K F U)) w := funext fun w => run_string_add_sum w _ _ (by show 1 + _ ≤ _; omega)
          have r2 : (Op.stringOp .add (wrS s T i) ((⟨#[32]⟩ : ByteArray) ++ tokS s K F U)).run Try.prog = fun w => .ok (.string (wrS s T i ++ ((⟨#[32]⟩ : ByteArray) ++ tokS s K F U))) w := funext fun w => run_string_add_sum w _ _ (by rw [ByteArray.size_append]; show _ + (1 + _) ≤ _; omega)
          generalize tokS s K F U = xs at HE Hjn r1 r2
          have HE := Lib.hid HE
          clear z1 z2 hjn hb hat
          go_wp2_with fail
          refine (HE.out _).mono ?_
          rintro e w5 ⟨rfl, b5⟩
          have HB5 := Lib.hid (HB.out.trans (b5.mono HB.out.size))
          clear b5
          go_wp2
          go_roundw
          case rel => exact ⟨i + 1, by omega, by go_num, by rw [← Hjn.out], HB5.out⟩
          case measure => simp [intOf]; omega
        · have hie : i = T.length := by omega
          subst hie
          have b1 : ¬ (T.length : Int) < (T.length : Int) := by omega
          have B5 := Lib.hid (B4.out.trans (hb.mono B4.out.size))
          have L5 := Lib.hid (L1.out.keep hb)
          clear hb
          go_wp2_with fail
          refine (H2.out _ (Hm.out.keep B5.out)).mono ?_
          rintro e w6 ⟨v2, rfl, o2, b2⟩
          obtain ⟨x2, c2, rfl, i2, _⟩ := tkI_of_owns o2
          have b2' := B5.out.trans (b2.mono B5.out.size)
          have a2 := (Below.refl w6.heap.size w6).alloc (Nat.le_refl _) (.cells #[.int .i64 0, .int .i64 0] 28)
          have B6 := Lib.hid (b2'.alloc b2'.size (.cells #[.int .i64 0, .int .i64 0] 28))
          have J1 := Lib.hid ((L5.out.keep b2).keep a2)
          have J2 := Lib.hid (i2.keep a2)
          have hF : FBox (w6.alloc (.cells #[.int .i64 0, .int .i64 0] 28)) w6.heap.size 0 0 := heap_alloc_new w6 _
          have HF := Lib.hid hF
          clear b2 b2' o2 i2 a2 hF
          generalize hV : wrS s T T.length = V at HinoM K2 ⊢
          have hMl : M.length ≤ 131072 := by rw [HlM.out]; omega
          go_wp2
          generalize w6.alloc (.cells #[.int .i64 0, .int .i64 0] 28) = w7 at B6 J1 J2 HF ⊢
          go_loopw [9] (fun iv wr => ∃ i q : Nat, i ≤ M.length ∧ iv = .int .i64 i ∧ wr = w7.drewN q) (fun iv _ => M.length - (intOf iv).toNat)
          case atStart => exact ⟨0, 0, by omega, rfl, rfl⟩
          case round =>
            obtain ⟨i, q, hi, rfl, rfl⟩ := hrel
            by_cases hlt : i < M.length
            · obtain ⟨g, rfl, hg, d0, d1, d2⟩ := J2.out.cells (i := i) hlt
              have b0 : (0 : Int) ≤ (i : Int) := by omega
              have b1 : (i : Int) < (M.length : Int) := by omega
              have hne := K3.out (nthT M i) (by rw [nthT_get hlt]; exact List.getElem_mem _)
              generalize (nthT M i).f = F at d1 hne
              generalize (nthT M i).t = U at d2 hne
              have t1 : ((U : Int) == (F : Int)) = false := beq_eq_false_iff_ne.2 (by omega)
              have t2 : (U == F) = false := beq_eq_false_iff_ne.2 (by omega)
              go_wp2
              go_quiet (fail)
              go_wp2
              go_roundw
              case rel => exact ⟨i + 1, _, by omega, by go_num, rfl⟩
              case measure => simp [intOf]; omega
            · have hie : i = M.length := by omega
              subst hie
              have b1 : ¬ (M.length : Int) < (M.length : Int) := by omega
              have f0 : (w7.drewN q).cell? ⟨w6.heap.size, 0, none⟩ = _ := HF.out.c0
              have f1 : (w7.drewN q).cell? ⟨w6.heap.size, 1, none⟩ = _ := HF.out.c1
              have B7 := Lib.hid (below_drw B6.out q)
              have M1 : Hid (TkI (w7.drewN q) x1 T) := Lib.hid J1.out
              have M2 : Hid (TkI (w7.drewN q) x2 M) := Lib.hid J2.out
              generalize w7.drewN q = w8 at B7 M1 M2 f0 f1 ⊢
              go_wp2_with fail
              refine (alike_any s V T M x1 x2 c1 c2 _ M1.out M2.out Hino.out HinoM.out K2.out.symm (by omega)).mono ?_
              rintro e w9 ⟨rfl, b9⟩
              have B9 := Lib.hid (B7.out.trans (b9.mono B7.out.size))
              clear b9 f0 f1
              go_wp2
              go_ret
              exact ⟨by simp, B9.out⟩
    · have h4 : (4000 : Int) < (s.size : Int) := by omega
      generalize (semA s).1 = T at H1
      have H1 := Lib.hid H1
      clear e0 hA2
      go_enter Try.func9, Try.ntmps9
      go_wp2_with fail
      refine (H1.out _ Hm.out).mono ?_
      rintro e w1 ⟨v1, rfl, o1, b1⟩
      obtain ⟨x1, c1, rfl, i1, _⟩ := tkI_of_owns o1
      have B1 := Lib.hid (b1.alloc b1.size (.cells #[.int .i64 0, .int .i64 0] 28))
      have T1 : Hid (FBox (w1.alloc (.cells #[.int .i64 0, .int .i64 0] 28)) w1.heap.size 0 0) := Lib.hid (heap_alloc_new w1 _)
      clear b1 o1 i1
      go_wp2_with fail
      refine (fixed8_any _ (Hm.out.keep B1.out)).mono ?_
      rintro e w3 ⟨rfl, b3⟩
      have B3 := Lib.hid (B1.out.trans (b3.mono B1.out.size))
      have y1 := T1.out.keep b3
      have p0 := y1.c0
      have p1 := y1.c1
      clear b3 y1
      go_wp2_with fail
      refine (fixed8_any _ (Hm.out.keep B3.out)).mono ?_
      rintro e w4 ⟨rfl, b4⟩
      have B4 := Lib.hid (B3.out.trans (b4.mono B3.out.size))
      clear b4 p0 p1
      go_wp2
      go_ret
      exact ⟨rfl, B4.out⟩
  · have hsem : semA s = ([], (allA s).2.1, (allA s).2.2) := if_neg e0
    rw [hsem] at H1
    have hne : faEq (allA s).2.1 (allA s).2.2 0 0 = false := by
      unfold faEq; rw [show ((allA s).2.1 == 0) = false from beq_eq_false_iff_ne.2 e0]; rfl
    dsimp only [fauV] at H1
    generalize (allA s).2.1 = E at H1 hne
    generalize (allA s).2.2 = D at H1 hne
    have q2 := fun w => run_equal_fau w E D 0 0
    rw [hne] at q2
    have H1 := Lib.hid H1
    clear e0 hne hsem
    go_enter Try.func9, Try.ntmps9
    go_wp2_with fail
    refine (H1.out _ Hm.out).mono ?_
    rintro e w1 ⟨v1, rfl, o1, b1⟩
    obtain ⟨x1, c1, rfl, i1, _⟩ := tkI_of_owns o1
    have B1 := Lib.hid (b1.alloc b1.size (.cells #[.int .i64 E, .int .i64 D] 28))
    have T1 : Hid (FBox (w1.alloc (.cells #[.int .i64 E, .int .i64 D] 28)) w1.heap.size E D) := Lib.hid (heap_alloc_new w1 _)
    clear b1 o1 i1
    go_wp2_with fail
    refine (fixed8_any _ (Hm.out.keep B1.out)).mono ?_
    rintro e w3 ⟨rfl, b3⟩
    have B3 := Lib.hid (B1.out.trans (b3.mono B1.out.size))
    have y1 := T1.out.keep b3
    have p0 := y1.c0
    have p1 := y1.c1
    clear b3 y1
    go_wp2_with fail
    refine (fixed8_any _ (Hm.out.keep B3.out)).mono ?_
    rintro e w4 ⟨rfl, b4⟩
    have B4 := Lib.hid (B3.out.trans (b4.mono B3.out.size))
    clear b4 p0 p1
    go_wp2
    go_ret
    exact ⟨rfl, B4.out⟩
end Go.Proofs.Ytnkgbmnjehpkgaa

