/- The walk of the law ScanWhole. -/
import Derived.Test.YtnkgbmnjehpkgaaScWhMath
import Derived.Test.YtnkgbmnjehpkgaaGV
import Derived.Deep.CutRange
import Derived.Deep.RegionWith
namespace Go.Proofs.Ytnkgbmnjehpkgaa
open Go.RowKit Em
set_option maxRecDepth 100000
set_option linter.unusedVariables false

set_option maxHeartbeats 8000000 in
theorem walk_ScanWhole (s : ByteArray) (w : World) (hs : s.size ≤ 140737488351232) (hm : Mx w) :
    Calls Try.prog 4 #[.string s] w fun e w' => e = .returned (.bool true) ∧ Below w.heap.size w w' := by
  have Hm := Lib.hid hm
  have H1 := fun w hm => all_scan s w hm
  unfold AllP at H1
  have m1 := guard_tok
  have m2 := guard_fau
  clear hm
  by_cases e1 : (allA s).2.1 = 0
  · have e2 : (allA s).2.2 = 0 := by
      rcases allA_fault s with ⟨_, h⟩ | ⟨h, _⟩
      · exact h
      · exact absurd e1 h
    have hord := allA_ord s
    have hmost := allA_most s
    have hsize := allA_ok_size e1
    have hself := fun t ht => allA_self e1 t ht
    have hend := allA_end e1
    have hat := fun i hi => allA_at (s := s) (i := i) hi
    rw [e1, e2] at H1
    dsimp only [fauV] at H1
    generalize (allA s).1 = A at H1 hord hmost hself hend hat
    have H1 := Lib.hid H1
    have Hord := Lib.hid hord
    have Hself := Lib.hid hself
    have Hat := Lib.hid hat
    have q1 := fun w => run_equal_fau w 0 0 0 0
    rw [faEq_self] at q1
    clear hord hself hat e1 e2
    go_enter Try.func4, Try.ntmps4
    go_wp2_with fail
    refine (H1.out _ Hm.out).mono ?_
    rintro e w1 ⟨v1, rfl, o1, b1⟩
    obtain ⟨x1, c1, rfl, i1, _⟩ := tkI_of_owns o1
    have B1 := Lib.hid (b1.alloc b1.size (.cells #[.int .i64 0, .int .i64 0] 28))
    have a1 := (Below.refl w1.heap.size w1).alloc (Nat.le_refl _) (.cells #[.int .i64 0, .int .i64 0] 28)
    have T1 : Hid (FBox (w1.alloc (.cells #[.int .i64 0, .int .i64 0] 28)) w1.heap.size 0 0) := Lib.hid (heap_alloc_new w1 _)
    have I1 := Lib.hid (i1.keep a1)
    clear b1 o1 i1 a1
    go_wp2_with fail
    refine (fixed7_any _ (Hm.out.keep B1.out)).mono ?_
    rintro e w3 ⟨rfl, b3⟩
    have B3 := Lib.hid (B1.out.trans (b3.mono B1.out.size))
    have y1 := T1.out.keep b3
    have p0 := y1.c0
    have p1 := y1.c1
    have K1 := Lib.hid (I1.out.keep b3)
    clear b3 y1
    go_wp2
    clear p0 p1
    go_loopw [5, 6] (fun av iv wr => ∃ i : Nat, i ≤ A.length ∧ iv = .int .i64 i ∧ av = .int .i64 ((atI A i : Nat) : Int) ∧ Below w3.heap.size w3 wr) (fun _ iv _ => A.length - (intOf iv).toNat)
    case atStart => exact ⟨0, by omega, rfl, rfl, Below.refl _ _⟩
    case round =>
      obtain ⟨i, hi, rfl, rfl, hb⟩ := hrel
      by_cases hlt : i < A.length
      · have Kr := K1.out.keep hb
        obtain ⟨g, rfl, hg, d0, d1, d2⟩ := Kr.cells (i := i) hlt
        have b0 : (0 : Int) ≤ (i : Int) := by omega
        have b1 : (i : Int) < (A.length : Int) := by omega
        have hat := ord_at Hord.out hlt
        rw [← Hat.out i hlt]
        have hone := Hself.out _ (show nthT A i ∈ A by rw [nthT_get hlt]; exact List.getElem_mem _)
        have hnxt : (nthT A i).t = atI A (i + 1) := rfl
        have Mr := Lib.hid (Hm.out.keep (B3.out.trans (hb.mono B3.out.size)))
        have HBr := Lib.hid hb
        generalize hTe : nthT A i = X at d0 d1 d2 hat hone hnxt ⊢
        obtain ⟨K, F, U⟩ := X
        dsimp only at d0 d1 d2 hat hone hnxt ⊢
        have HTe := Lib.hid hTe
        have H2 := fun w hm => scone_any (s.extract F U) 0 w (by
          have : (s.extract F U).size ≤ s.size := by rw [ByteArray.size_extract]; omega
          omega) hm
        rw [hone] at H2
        obtain ⟨M, hM⟩ : ∃ M : Nat, U - F = M := ⟨_, rfl⟩
        rw [hM] at H2
        dsimp only [tokV] at H2
        have H2 := Lib.hid H2
        have Hnx := Lib.hid hnxt
        have l0 : (0 : Int) ≤ (F : Int) := by omega
        have l1 : (F : Int) ≤ (U : Int) := by omega
        have l2 : (U : Int) ≤ (s.size : Int) := by omega
        have l3 : F ≤ U := by omega
        have n1 : ¬ (U : Int) ≤ (F : Int) := by omega
        have n2 : ¬ (s.size : Int) < (U : Int) := by omega
        have n3 : ¬ U ≤ F := by omega
        have n4 : ¬ s.size < U := by omega
        have hsub : (U : Int) - (F : Int) = (M : Int) := by omega
        obtain ⟨hat1, hat2⟩ := hat
        clear hone hnxt hTe hb
        by_cases h400 : i < 400
        · have i400 : (i : Int) < 400 := by omega
          have T7 : TBox (wr.alloc (.cells #[.int .u8 0, .int .i64 0, .int .i64 0] 32)).drew wr.heap.size 0 0 0 := one_box wr
          go_upto_region 12 with fail
          go_cut [7, 8] from 44 to 121 (fun v7 v8 wx => ∃ bt : Nat, v7 = .pointer (some ⟨bt, 0, none⟩) ∧ v8 = .int .i64 0 ∧ TBox wx bt K 0 M ∧ Below w3.heap.size w3 wx)
          case first =>
            go_region_with (go_at_call 15; refine (H2.out _ ?_).mono ?_; (first | exact Mr.out | exact Mr.out.keep (below_drw ((Below.refl _ _).alloc (Nat.le_refl _) _) 1)); rintro e w8 ⟨rfl, hb8⟩; (first | (have T8 := T7.keep hb8; have k0 := T8.c0; have k1 := T8.c1; have k2 := T8.c2; have f0 := T8.free 0; have f1 := T8.free 1; have f2 := T8.free 2) | skip))
            all_goals
              go_wp2_with fail
              go_meet
              first
                | exact ⟨wr.heap.size, rfl, rfl, T8.set K 0 M, bset3 (HBr.out.trans (((below_drw ((Below.refl wr.heap.size wr).alloc (Nat.le_refl _) _) 1).trans (hb8.mono (by simp))).mono HBr.out.size)) HBr.out.size _ _ _⟩
                | exact ⟨w8.heap.size, rfl, rfl, heap_alloc_new w8 _, (HBr.out.trans (((below_drw (Below.refl wr.heap.size wr) 1).trans hb8).mono HBr.out.size)).alloc (by have := HBr.out.size; have := hb8.size; simp at this; omega) _⟩
          case rest =>
            obtain ⟨bt, rfl, rfl, T6, hb9⟩ := hcut
            obtain ⟨g', hx', hg', f0, f1, f2⟩ := (K1.out.keep hb9).cells (i := i) hlt
            rw [HTe.out] at f0 f1 f2
            dsimp only at f0 f1 f2
            have hgg : g = g' := by
              have := Option.some.inj hx'
              injection this
            subst hgg
            have t0 := T6.c0
            have t1 := T6.c1
            have t2 := T6.c2
            have hq := fun w => run_equal_tok w K 0 M K 0 M
            rw [tkEq_self] at hq
            have HB9 := Lib.hid hb9
            have hwr : IntKind.i64.wrap (M : Int) = (M : Int) := by rw [IntKind.wrap_i64]; omega
            clear T6 hb9 hx' T7
            go_wp2
            go_quiet (fail)
            go_wp2
            go_roundw
            case rel => exact ⟨i + 1, by omega, by go_num, by rw [← Hnx.out], below_drw HB9.out _⟩
            case measure => simp [intOf]; omega
        · have i400 : ¬ (i : Int) < 400 := by omega
          go_wp2
          go_roundw
          case rel => exact ⟨i + 1, by omega, by go_num, by rw [← Hnx.out], HBr.out⟩
          case measure => simp [intOf]; omega
      · have hie : i = A.length := by omega
        subst hie
        rw [hend]
        have b1 : ¬ (A.length : Int) < (A.length : Int) := by omega
        have HBr := Lib.hid (B3.out.trans (hb.mono B3.out.size))
        clear hb
        go_wp2
        go_ret
        exact ⟨by simp, HBr.out⟩
  · have hf := allA_fault_in e1
    have hnil : (allA s).1 = [] := by
      rcases allA_fault s with ⟨h, _⟩ | ⟨_, h⟩
      · exact absurd h e1
      · exact h
    rw [hnil] at H1
    have hne : faEq (allA s).2.1 (allA s).2.2 0 0 = false := by
      unfold faEq; rw [show ((allA s).2.1 == 0) = false from beq_eq_false_iff_ne.2 e1]; rfl
    have hd : ((allA s).2.1 == 0) = false := beq_eq_false_iff_ne.2 e1
    have hd2 : ((allA s).2.1 != 0) = true := by rw [bne, hd]; rfl
    have hE : ¬ (allA s).2.1 = 0 := e1
    dsimp only [fauV] at H1
    generalize (allA s).2.1 = E at H1 hne hd hd2 hE
    generalize (allA s).2.2 = D at H1 hne hf
    have q2 := fun w => run_equal_fau w E D 0 0
    rw [hne] at q2
    obtain ⟨hf1, hf2⟩ := hf
    have H1 := Lib.hid H1
    clear hnil e1 hne
    go_enter Try.func4, Try.ntmps4
    go_wp2_with fail
    refine (H1.out _ Hm.out).mono ?_
    rintro e w1 ⟨v1, rfl, o1, b1⟩
    obtain ⟨x1, c1, rfl, i1, _⟩ := tkI_of_owns o1
    have B1 := Lib.hid (b1.alloc b1.size (.cells #[.int .i64 E, .int .i64 D] 28))
    have T1 : Hid (FBox (w1.alloc (.cells #[.int .i64 E, .int .i64 D] 28)) w1.heap.size E D) := Lib.hid (heap_alloc_new w1 _)
    clear b1 o1 i1
    go_wp2_with fail
    refine (fixed7_any _ (Hm.out.keep B1.out)).mono ?_
    rintro e w3 ⟨rfl, b3⟩
    have B3 := Lib.hid (B1.out.trans (b3.mono B1.out.size))
    have y1 := Lib.hid (T1.out.keep b3)
    have p0 := y1.out.c0
    have p1 := y1.out.c1
    clear b3
    go_wp2_with fail
    refine (fixed7_any _ (Hm.out.keep B3.out)).mono ?_
    rintro e w4 ⟨rfl, b4⟩
    have B4 := Lib.hid (B3.out.trans (b4.mono B3.out.size))
    have z1 := y1.out.keep b4
    have r0 := z1.c0
    have r1 := z1.c1
    clear b4 z1 p0 p1
    go_wp2
    go_ret
    exact ⟨by first | rfl | (simp; done) | (simp [hf1, hf2]; done) | (simp; omega), B4.out⟩
end Go.Proofs.Ytnkgbmnjehpkgaa

