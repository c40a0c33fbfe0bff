/- The walk of the law SemiComments. -/
import Derived.Test.YtnkgbmnjehpkgaaSwRow
namespace Go.Proofs.Ytnkgbmnjehpkgaa
open Go.RowKit Em
set_option maxRecDepth 100000
set_option linter.unusedVariables false

set_option maxHeartbeats 8000000 in
theorem walk_SemiComments (s : ByteArray) (w : World) (hs : s.size ≤ 140737488351232) (hm : Mx w) :
    Calls Try.prog 8 #[.string s] w fun e w' => e = .returned (.bool true) ∧ Below w.heap.size w w' := by
  have Hm := Lib.hid hm
  have H1 := fun w hm => all_scan s w hm
  have H2 := fun w hm => semi_any s w hm
  unfold AllP at H1
  unfold SemP at H2
  have m1 := guard_tok
  have m2 := guard_fau
  clear hm
  rcases allA_fault s with ⟨e1, e2⟩ | ⟨e1, e2⟩
  · have hord := allA_ord s
    have hmost := allA_most s
    have hsize := allA_ok_size e1
    have hT := refS_all s e1
    have hsem2 : (semA s).2.1 = 0 ∧ (semA s).2.2 = 0 := by unfold semA; rw [if_pos e1]; exact ⟨rfl, rfl⟩
    have hino : InO s.size (semA s).1 := by rw [← hT]; exact (refS_ino s _ s.size hord _ (Nat.le_refl _)).1
    have hlenT : (semA s).1.length ≤ 131072 := by rw [← hT]; have := refS_len s (allA s).1 (allA s).1.length; omega
    have hcl := fun i => cmL_len e1 i
    have hV : bl (txt (cmL s (allA s).1 (allA s).1.length)) = cv (tksOf s (allA s).1) := by rw [txt_bl]; unfold cmL; rw [List.take_length]
    have hVs : (txt (cmL s (allA s).1 (allA s).1.length)).size ≤ 65536 := by rw [txt_size]; have := hcl (allA s).1.length; omega
    obtain ⟨k1, k2⟩ := comments_all e1 hV hVs
    have hM2 : (semA (txt (cmL s (allA s).1 (allA s).1.length))).2.1 = 0 ∧ (semA (txt (cmL s (allA s).1 (allA s).1.length))).2.2 = 0 := by
      unfold semA at *; rw [if_pos k1]; exact ⟨rfl, rfl⟩
    have hinoM : InO (txt (cmL s (allA s).1 (allA s).1.length)).size (semA (txt (cmL s (allA s).1 (allA s).1.length))).1 := by
      rw [← refS_all _ k1]; exact (refS_ino _ _ _ (allA_ord _) _ (Nat.le_refl _)).1
    have H3 := fun w hm => semi_any (txt (cmL s (allA s).1 (allA s).1.length)) w hm
    unfold SemP at H3
    rw [hM2.1, hM2.2] at H3
    rw [e1, e2] at H1
    rw [hsem2.1, hsem2.2] at H2
    dsimp only [fauV] at H1 H2 H3
    have hstep := fun i hi => cmL_step s (allA s).1 (i := i) hi
    generalize (semA (txt (cmL s (allA s).1 (allA s).1.length))).1 = M at H3 k2 hinoM
    clear hV hM2 k1 hsem2 hT
    generalize (semA s).1 = T at *
    generalize (allA s).1 = A at *
    have hinoA := ino_of hord
    have Hord := Lib.hid hord
    have HinoA := Lib.hid hinoA
    have Hino := Lib.hid hino
    have HinoM := Lib.hid hinoM
    have H1 := Lib.hid H1
    have H2 := Lib.hid H2
    have H3 := Lib.hid H3
    have K2 := Lib.hid k2
    have Hstep := Lib.hid hstep
    have Hcl := Lib.hid hcl
    have q1 := fun w => run_equal_fau w 0 0 0 0
    rw [faEq_self] at q1
    clear hord hinoA hino hinoM k2 hstep hcl e1 e2 hVs
    go_enter Try.func8, Try.ntmps8
    go_wp2_with fail
    refine (H1.out _ Hm.out).mono ?_
    rintro e w1 ⟨v1, rfl, o1, b1⟩
    obtain ⟨x1, c1, rfl, i1, _⟩ := tkI_of_owns o1
    have B1 := Lib.hid (b1.alloc b1.size (.cells #[.int .i64 0, .int .i64 0] 28))
    have a1 := (Below.refl w1.heap.size w1).alloc (Nat.le_refl _) (.cells #[.int .i64 0, .int .i64 0] 28)
    have T1 : Hid (FBox (w1.alloc (.cells #[.int .i64 0, .int .i64 0] 28)) w1.heap.size 0 0) := Lib.hid (heap_alloc_new w1 _)
    have I1 := Lib.hid (i1.keep a1)
    clear b1 o1 i1 a1
    go_wp2_with fail
    refine (H2.out _ (Hm.out.keep B1.out)).mono ?_
    rintro e w2 ⟨v2, rfl, o2, b2⟩
    obtain ⟨x2, c2, rfl, i2, _⟩ := tkI_of_owns o2
    have b2' := B1.out.trans (b2.mono B1.out.size)
    have a2 := (Below.refl w2.heap.size w2).alloc (Nat.le_refl _) (.cells #[.int .i64 0, .int .i64 0] 28)
    have B2 := Lib.hid (b2'.alloc b2'.size (.cells #[.int .i64 0, .int .i64 0] 28))
    have T2 : Hid (FBox (w2.alloc (.cells #[.int .i64 0, .int .i64 0] 28)) w2.heap.size 0 0) := Lib.hid (heap_alloc_new w2 _)
    have S1 := Lib.hid ((T1.out.keep b2).alloc (.cells #[.int .i64 0, .int .i64 0] 28))
    have J1 := Lib.hid ((I1.out.keep b2).keep a2)
    have J2 := Lib.hid (i2.keep a2)
    clear b2 b2' o2 i2 a2
    go_wp2_with fail
    refine (fixed8_any _ (Hm.out.keep B2.out)).mono ?_
    rintro e w3 ⟨rfl, b3⟩
    have B3 := Lib.hid (B2.out.trans (b3.mono B2.out.size))
    have y1 := S1.out.keep b3
    have y2 := T2.out.keep b3
    have p0 := y1.c0
    have p1 := y1.c1
    have q0 := y2.c0
    have q1' := y2.c1
    have K1 := Lib.hid (J1.out.keep b3)
    have K2' := Lib.hid (J2.out.keep b3)
    clear b3 y1 y2
    go_wp2_with fail
    refine (inside_any s A x1 c1 _ K1.out HinoA.out (by omega)).mono ?_
    rintro e w4 ⟨rfl, nq, rfl⟩
    clear p0 p1 q0 q1'
    have L1 : Hid (TkI (w3.drewN nq) x1 A) := Lib.hid K1.out
    have L2 : Hid (TkI (w3.drewN nq) x2 T) := Lib.hid K2'.out
    have B4 := Lib.hid (below_drw B3.out nq)
    generalize w3.drewN nq = w4 at L1 L2 B4 ⊢
    go_wp2_with fail
    refine (inside_any s T x2 c2 _ L2.out Hino.out (by omega)).mono ?_
    rintro e w5 ⟨rfl, nq2, rfl⟩
    have M1 : Hid (TkI (w4.drewN nq2) x1 A) := Lib.hid L1.out
    have M2 : Hid (TkI (w4.drewN nq2) x2 T) := Lib.hid L2.out
    have B5 := Lib.hid (below_drw B4.out nq2)
    generalize w4.drewN nq2 = w5 at M1 M2 B5 ⊢
    go_wp2
    go_loopw [7, 8] (fun v iv wr => ∃ i : Nat, i ≤ A.length ∧ iv = .int .i64 i ∧ wr.ownsRow w5.heap.size 5 1 v (cmL s A i).length (bCells (cmL s A i)) ∧ Below w5.heap.size w5 wr) (fun _ iv _ => A.length - (intOf iv).toNat)
    case atStart => exact ⟨0, by omega, rfl, World.ownsRow_nil _ _ _ _, Below.refl _ _⟩
    case round =>
      obtain ⟨i, hi, rfl, ho, hb⟩ := hrel
      have HO := Lib.hid ho
      have HB := Lib.hid hb
      have M1r := Lib.hid (M1.out.keep hb)
      by_cases hlt : i < A.length
      · obtain ⟨g, rfl, hg, d0, d1, d2⟩ := M1r.out.cells (i := i) hlt
        have b0 : (0 : Int) ≤ (i : Int) := by omega
        have b1 : (i : Int) < (A.length : Int) := by omega
        have hat := ord_at Hord.out hlt
        have hst := Hstep.out i hlt
        have hcl := Hcl.out i
        have htk := M1r.out
        generalize hTe : nthT A i = X at d0 d1 d2 hat hst
        obtain ⟨K, F, U⟩ := X
        dsimp only at d0 d1 d2 hat hst
        have HTe := Lib.hid hTe
        have hbx : bl (s.extract F U) = cutT s F U := cutT_ext s F U
        have hsx : (s.extract F U).size = U - F := by rw [ByteArray.size_extract]; omega
        rw [← hbx] at hst
        have l0 : (0 : Int) ≤ (F : Int) := by omega
        have l1 : (F : Int) ≤ (U : Int) := by omega
        have l2 : (U : Int) ≤ (s.size : Int) := by omega
        obtain ⟨hat1, hat2⟩ := hat
        generalize hxs : s.extract F U = xs at hst hsx
        have Hxs := Lib.hid hxs
        have hxl : xs.size ≤ 65536 := by omega
        have Hst := Lib.hid hst
        clear hst hTe hbx hxs htk ho hb
        go_wp2
        go_quiet (fail)
        rw [Hxs.out]
        have Q1 : Hid ((wr.drewN nq).ownsRow w5.heap.size 5 1 u7 (cmL s A i).length (bCells (cmL s A i))) := Lib.hid HO.out
        have Q2 : Hid (Below w5.heap.size w5 (wr.drewN nq)) := Lib.hid (below_drw HB.out nq)
        have Q3 : Hid (TkI (wr.drewN nq) (some ⟨g, 0, none⟩) A) := Lib.hid M1r.out
        clear d0 d1 d2 hg
        generalize wr.drewN nq = w6 at Q1 Q2 Q3 ⊢
        go_wp2
        go_loopw [10, 11] (fun cc kv wl => ∃ k : Nat, k ≤ xs.size ∧ kv = .int .i64 k ∧ cc = .int .u8 ((nlC ((bl xs).take k) : Nat) : Int) ∧ wl = w6) (fun _ kv _ => xs.size - (intOf kv).toNat)
        case atStart => exact ⟨0, by omega, rfl, rfl, rfl⟩
        case round =>
          obtain ⟨k, hk, rfl, rfl, rfl⟩ := hrel
          by_cases hlt2 : k < xs.size
          · have e1 := byN_get xs k hlt2
            have l1 := byN_lt xs k
            have c0 : (0 : Int) ≤ (k : Int) := by omega
            have c1 : (k : Int) < (xs.size : Int) := by omega
            by_cases h10 : byN xs k = 10
            · have Hn := Lib.hid (nlC_yes hlt2 h10)
              rw [h10] at e1
              clear h10 l1
              go_wp2
              go_roundw
              case rel => exact ⟨k + 1, by omega, by go_num, by rw [Hn.out]; rfl, by first | trivial | rfl⟩
              case measure => simp [intOf]; omega
            · have Hn := Lib.hid (nlC_no hlt2 h10)
              have t10 : ((byN xs k : Int) == 10) = false := beq_eq_false_iff_ne.2 (by omega)
              generalize byN xs k = B at e1 l1 h10 t10
              go_wp2
              go_roundw
              case rel => exact ⟨k + 1, by omega, by go_num, by rw [Hn.out], by first | trivial | rfl⟩
              case measure => simp [intOf]; omega
          · have hke : k = xs.size := by omega
            subst hke
            have c1 : ¬ (xs.size : Int) < (xs.size : Int) := by omega
            rw [List.take_of_length_le (by rw [bl_size]; omega)]
            have hst := Hst.out
            obtain ⟨g', hx', hg', f0, f1, f2⟩ := Q3.out.cells (i := i) hlt
            rw [HTe.out] at f0 f1 f2
            dsimp only at f0 f1 f2
            have hgg : g = g' := by
              have := Option.some.inj hx'
              injection this
            subst hgg
            clear hx'
            by_cases h11 : K = 11
            · subst h11
              rw [cvT_yes (.inl rfl), show cvD 11 (bl xs) = 10 from rfl] at hst
              obtain ⟨y, cc, w7, hrun, hown, hb7⟩ := app_lit w5 _ w5.heap.size u7 (cmL s A i) [10] [.int .u8 10] 1 rfl rfl Q1.out (by omega) Q2.out (Nat.le_refl _)
              rw [← hst] at hown
              have hl2 : (cmL s A i).length + 1 = (cmL s A (i + 1)).length := by rw [hst, List.length_append]; rfl
              rw [hl2] at hrun
              obtain ⟨N2, hN2⟩ : ∃ N2, (cmL s A (i + 1)).length = N2 := ⟨_, rfl⟩
              rw [hN2] at hrun hown
              have HN2 := Lib.hid hN2
              have Hown := Lib.hid hown
              have Hb7 := Lib.hid hb7
              clear hown hb7 hst hN2
              go_wp2_with (at_builtin; refine wpList_append_run rfl _ _ _ _ rfl rfl rfl hrun ?_)
              all_goals (
                go_roundw
                case rel => exact ⟨i + 1, by omega, by go_num, by rw [HN2.out]; exact Hown.out, Hb7.out⟩
                case measure => simp [intOf]; omega)
            · by_cases h12 : K = 12
              · subst h12
                rw [cvT_yes (.inr rfl)] at hst
                have hcs : [Value.int .u8 ((nlC (bl xs) : Nat) : Int)] = bCells [cvD 12 (bl xs)] := by unfold bCells; rw [List.map_cons, List.map_nil, nlC_cvD]
                generalize nlC (bl xs) = NC at hcs ⊢
                generalize cvD 12 (bl xs) = DC at hcs hst
                obtain ⟨y, cc, w7, hrun, hown, hb7⟩ := app_lit w5 _ w5.heap.size u7 (cmL s A i) [DC] [.int .u8 (NC : Int)] 1 hcs rfl Q1.out (by omega) Q2.out (Nat.le_refl _)
                rw [← hst] at hown
                have hl2 : (cmL s A i).length + 1 = (cmL s A (i + 1)).length := by rw [hst, List.length_append]; rfl
                rw [hl2] at hrun
                clear hcs
                obtain ⟨N2, hN2⟩ : ∃ N2, (cmL s A (i + 1)).length = N2 := ⟨_, rfl⟩
                rw [hN2] at hrun hown
                have HN2 := Lib.hid hN2
                have Hown := Lib.hid hown
                have Hb7 := Lib.hid hb7
                clear hown hb7 hst hN2
                go_wp2_with (at_builtin; refine wpList_append_run rfl _ _ _ _ rfl rfl rfl hrun ?_)
                all_goals (
                  go_roundw
                  case rel => exact ⟨i + 1, by omega, by go_num, by rw [HN2.out]; exact Hown.out, Hb7.out⟩
                  case measure => simp [intOf]; omega)
              · have n11 : ((K : Int) == 11) = false := beq_eq_false_iff_ne.2 (by omega)
                have n12 : ((K : Int) == 12) = false := beq_eq_false_iff_ne.2 (by omega)
                rw [cvT_no (by omega)] at hst
                obtain ⟨y, cc, w7, hrun, hown, hb7⟩ := app_str w5 _ w5.heap.size u7 (cmL s A i) xs Q1.out (by omega) Q2.out (Nat.le_refl _)
                rw [← hst] at hown hrun
                obtain ⟨N2, hN2⟩ : ∃ N2, (cmL s A (i + 1)).length = N2 := ⟨_, rfl⟩
                rw [hN2] at hrun hown
                have HN2 := Lib.hid hN2
                have Hown := Lib.hid hown
                have Hb7 := Lib.hid hb7
                clear hown hb7 hst hN2
                go_wp2_with (at_builtin; refine wpList_append_run rfl _ _ _ _ rfl rfl rfl hrun ?_)
                all_goals (
                  go_roundw
                  case rel => exact ⟨i + 1, by omega, by go_num, by rw [HN2.out]; exact Hown.out, Hb7.out⟩
                  case measure => simp [intOf]; omega)
      · have hie : i = A.length := by omega
        subst hie
        have b1 : ¬ (A.length : Int) < (A.length : Int) := by omega
        have hcl := Hcl.out A.length
        obtain ⟨y, cc, rfl, hc⟩ := conv_own HO.out
        have hcv := hc 0
        simp only [World.drewN_zero] at hcv
        have hn1 : ¬ (65536 : Int) < ((cmL s A A.length).length : Int) := by omega
        have M2r := Lib.hid (M2.out.keep hb)
        have B6 := Lib.hid (B5.out.trans (hb.mono B5.out.size))
        clear hc hb ho
        obtain ⟨N2, hN2⟩ : ∃ N2, (cmL s A A.length).length = N2 := ⟨_, rfl⟩
        have HO2 : Hid (wr.ownsRow w5.heap.size 5 1 (.slice y N2 cc) (cmL s A A.length).length (bCells (cmL s A A.length))) := Lib.hid (by rw [← hN2]; exact HO.out)
        rw [hN2] at hcv hn1 ⊢
        have HN2 := Lib.hid hN2
        clear hN2 HO
        go_wp2_with fail
        refine (H3.out _ (Hm.out.keep B6.out)).mono ?_
        rintro e w8 ⟨v3, rfl, o3, b8⟩
        obtain ⟨x3, c3, rfl, i3, _⟩ := tkI_of_owns o3
        have b8' := B6.out.trans (b8.mono B6.out.size)
        have a3 := (Below.refl w8.heap.size w8).alloc (Nat.le_refl _) (.cells #[.int .i64 0, .int .i64 0] 28)
        have B8 := Lib.hid (b8'.alloc b8'.size (.cells #[.int .i64 0, .int .i64 0] 28))
        have N1 := Lib.hid ((M2r.out.keep b8).keep a3)
        have N3 := Lib.hid (i3.keep a3)
        have hF : FBox (w8.alloc (.cells #[.int .i64 0, .int .i64 0] 28)) w8.heap.size 0 0 := heap_alloc_new w8 _
        have f0 := hF.c0
        have f1 := hF.c1
        obtain ⟨y', cc', e', hc2⟩ := conv_own ((own_below HO2.out b8).alloc (.cells #[.int .i64 0, .int .i64 0] 28))
        rw [HN2.out] at e' hc2
        obtain ⟨rfl, rfl⟩ : y = y' ∧ cc = cc' := by cases e'; exact ⟨rfl, rfl⟩
        have hcv2 := hc2 0
        simp only [World.drewN_zero] at hcv2
        clear b8 b8' o3 i3 a3 hF hcv hc2 e'
        generalize txt (cmL s A A.length) = V at HinoM K2 hcv2
        go_wp2_with fail
        refine (alike_any s V T M x2 x3 c2 c3 _ N1.out N3.out Hino.out HinoM.out K2.out.symm (by omega)).mono ?_
        rintro e w10 ⟨rfl, b10⟩
        have B10 := Lib.hid (B8.out.trans (b10.mono B8.out.size))
        clear b10 f0 f1 hcv2
        go_wp2
        go_ret
        exact ⟨by simp, B10.out⟩
  · have hsem : semA s = ([], (allA s).2.1, (allA s).2.2) := if_neg e1
    rw [e2] at H1
    rw [hsem] at H2
    have hne : faEq (allA s).2.1 (allA s).2.2 0 0 = false := by
      unfold faEq; rw [show ((allA s).2.1 == 0) = false from beq_eq_false_iff_ne.2 e1]; rfl
    dsimp only [fauV] at H1 H2
    generalize (allA s).2.1 = E at H1 H2 hne
    generalize (allA s).2.2 = D at H1 H2 hne
    have q1 := fun w => run_equal_fau w E D E D
    have q2 := fun w => run_equal_fau w E D 0 0
    rw [faEq_self] at q1
    rw [hne] at q2
    have H1 := Lib.hid H1
    have H2 := Lib.hid H2
    clear hsem e1 e2 hne
    go_enter Try.func8, Try.ntmps8
    go_wp2_with fail
    refine (H1.out _ Hm.out).mono ?_
    rintro e w1 ⟨v1, rfl, o1, b1⟩
    obtain ⟨x1, c1, rfl, i1, _⟩ := tkI_of_owns o1
    have B1 := Lib.hid (b1.alloc b1.size (.cells #[.int .i64 E, .int .i64 D] 28))
    have T1 : Hid (FBox (w1.alloc (.cells #[.int .i64 E, .int .i64 D] 28)) w1.heap.size E D) := Lib.hid (heap_alloc_new w1 _)
    clear b1 o1 i1
    go_wp2_with fail
    refine (H2.out _ (Hm.out.keep B1.out)).mono ?_
    rintro e w2 ⟨v2, rfl, o2, b2⟩
    obtain ⟨x2, c2, rfl, i2, _⟩ := tkI_of_owns o2
    have b2' := B1.out.trans (b2.mono B1.out.size)
    have B2 := Lib.hid (b2'.alloc b2'.size (.cells #[.int .i64 E, .int .i64 D] 28))
    have T2 : Hid (FBox (w2.alloc (.cells #[.int .i64 E, .int .i64 D] 28)) w2.heap.size E D) := Lib.hid (heap_alloc_new w2 _)
    have S1 := Lib.hid ((T1.out.keep b2).alloc (.cells #[.int .i64 E, .int .i64 D] 28))
    clear b2 b2' o2 i2
    go_wp2_with fail
    refine (fixed8_any _ (Hm.out.keep B2.out)).mono ?_
    rintro e w3 ⟨rfl, b3⟩
    have B3 := Lib.hid (B2.out.trans (b3.mono B2.out.size))
    have y1 := Lib.hid (S1.out.keep b3)
    have y2 := Lib.hid (T2.out.keep b3)
    have p0 := y1.out.c0
    have p1 := y1.out.c1
    have q0 := y2.out.c0
    have q1' := y2.out.c1
    clear b3
    go_wp2_with fail
    refine (fixed8_any _ (Hm.out.keep B3.out)).mono ?_
    rintro e w4 ⟨rfl, b4⟩
    have B4 := Lib.hid (B3.out.trans (b4.mono B3.out.size))
    have z1 := y1.out.keep b4
    have z2 := y2.out.keep b4
    have r0 := z1.c0
    have r1 := z1.c1
    have r2 := z2.c0
    have r3 := z2.c1
    clear b4 z1 z2 p0 p1 q0 q1'
    go_wp2
    go_ret
    exact ⟨rfl, B4.out⟩
end Go.Proofs.Ytnkgbmnjehpkgaa

