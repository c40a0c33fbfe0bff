/- The walk of the law NestPairs. -/
import Derived.Test.YtnkgbmnjehpkgabGreatNeRNest
namespace Go.Proofs.YtnkgbmnjehpkgabGreat
open Go.RowKit Em
set_option maxRecDepth 100000
set_option linter.unusedVariables false

set_option maxHeartbeats 8000000 in
theorem walk_NestPairs (s : ByteArray) (w : World) (hs : s.size ≤ 140737488351232) (hm : Mx w) :
    Calls Tryz.prog 3 #[.string s] w fun e w' => e = .returned (.bool true) ∧ Below w.heap.size w w' := by
  have Hm := Lib.hid hm
  by_cases hbig : 2000 < s.size
  · have h1 : (2000 : Int) < (s.size : Int) := by omega
    have H0 := Lib.hid (fixed9_any w hm)
    clear hm hbig
    go_enter Tryz.func3, Tryz.ntmps3
    go_wp2_with fail
    refine H0.out.mono ?_
    rintro e w1 ⟨rfl, b1⟩
    go_wp2
    go_ret
    exact ⟨rfl, b1⟩
  · have h1 : ¬ (2000 : Int) < (s.size : Int) := by omega
    have H1 := fun w hm => nest_any s w hm
    have H2 := fun w hm => depth_any s w hm
    have H3 := fun w => rnest_any s w
    have hlen := nestT_len s
    unfold NstP at H1
    unfold RnP at H3
    dsimp only [fauV] at H1 H2 H3
    generalize nestT s = T at *
    generalize nestP s = p at *
    generalize nestM s = m at *
    generalize nestE s = e1 at *
    generalize nestF s = e2 at *
    have H1 := Lib.hid H1
    have H2 := Lib.hid H2
    have H3 := Lib.hid H3
    have hq := fun w => run_equal_fau w e1 e2 e1 e2
    rw [faEq_self] at hq
    have hg := guard_fau
    have hmm : ((m : Int) == (m : Int)) = true := beq_self_eq_true _
    clear hm hbig
    go_enter Tryz.func3, Tryz.ntmps3
    go_wp2_with fail
    refine (H1.out _ Hm.out).mono ?_
    rintro e w1 ⟨x1, c1, x2, c2, rfl, i1, i2, b1⟩
    have B1 := Lib.hid (b1.alloc b1.size (.cells #[.int .i64 e1, .int .i64 e2] 27))
    have a1 := (Below.refl w1.heap.size w1).alloc (Nat.le_refl _) (.cells #[.int .i64 e1, .int .i64 e2] 27)
    have T1 : Hid (FBox (w1.alloc (.cells #[.int .i64 e1, .int .i64 e2] 27)) w1.heap.size e1 e2) := Lib.hid (heap_alloc_new w1 _)
    have I1 := Lib.hid (i1.keep a1)
    have I2 := Lib.hid (i2.keep a1)
    clear b1 i1 i2 a1
    go_wp2_with fail
    refine (H2.out _ (Hm.out.keep B1.out)).mono ?_
    rintro e w2 ⟨rfl, b2⟩
    have b2' := B1.out.trans (b2.mono B1.out.size)
    have a2 := (Below.refl w2.heap.size w2).alloc (Nat.le_refl _) (.cells #[.int .i64 e1, .int .i64 e2] 27)
    have B2 := Lib.hid (b2'.alloc b2'.size (.cells #[.int .i64 e1, .int .i64 e2] 27))
    have T2 : Hid (FBox (w2.alloc (.cells #[.int .i64 e1, .int .i64 e2] 27)) w2.heap.size e1 e2) := Lib.hid (heap_alloc_new w2 _)
    have S1 := Lib.hid ((T1.out.keep b2).alloc (.cells #[.int .i64 e1, .int .i64 e2] 27))
    have J1 := Lib.hid ((I1.out.keep b2).keep a2)
    have J2 := Lib.hid ((I2.out.keep b2).keep a2)
    clear b2 b2' a2
    go_wp2_with fail
    refine (H3.out _).mono ?_
    rintro e w3 ⟨x3, c3, x4, c4, rfl, i3, i4, b3⟩
    have b3' := B2.out.trans (b3.mono B2.out.size)
    have a3 := (Below.refl w3.heap.size w3).alloc (Nat.le_refl _) (.cells #[.int .i64 e1, .int .i64 e2] 27)
    have B3 := Lib.hid (b3'.alloc b3'.size (.cells #[.int .i64 e1, .int .i64 e2] 27))
    have T3 : Hid (FBox (w3.alloc (.cells #[.int .i64 e1, .int .i64 e2] 27)) w3.heap.size e1 e2) := Lib.hid (heap_alloc_new w3 _)
    have S2 := Lib.hid ((S1.out.keep b3).alloc (.cells #[.int .i64 e1, .int .i64 e2] 27))
    have S3 := Lib.hid ((T2.out.keep b3).alloc (.cells #[.int .i64 e1, .int .i64 e2] 27))
    have K1 := Lib.hid ((J1.out.keep b3).keep a3)
    have K2 := Lib.hid ((J2.out.keep b3).keep a3)
    have K3 := Lib.hid (i3.keep a3)
    have K4 := Lib.hid (i4.keep a3)
    clear b3 b3' a3 i3 i4
    go_wp2_with fail
    refine (fixed9_any _ (Hm.out.keep B3.out)).mono ?_
    rintro e w4 ⟨rfl, b4⟩
    have B4 := Lib.hid (B3.out.trans (b4.mono B3.out.size))
    have y1 := S2.out.keep b4
    have y2 := S3.out.keep b4
    have y3 := T3.out.keep b4
    have p0 := y1.c0
    have p1 := y1.c1
    have p2 := y2.c0
    have p3 := y2.c1
    have p4 := y3.c0
    have p5 := y3.c1
    have L1 := Lib.hid (K1.out.keep b4)
    have L2 := Lib.hid (K2.out.keep b4)
    have L3 := Lib.hid (K3.out.keep b4)
    have L4 := Lib.hid (K4.out.keep b4)
    clear b4 y1 y2 y3
    go_wp2_with fail
    refine (same_tk x1 x3 c1 c3 T _ L1.out L3.out (by omega)).mono ?_
    rintro e w5 ⟨rfl, b5⟩
    have B5 := Lib.hid (B4.out.trans (b5.mono B4.out.size))
    have M2 := Lib.hid (L2.out.keep b5)
    have M4 := Lib.hid (L4.out.keep b5)
    clear b5 p0 p1 p2 p3 p4 p5
    go_wp2_with fail
    refine (ints_any x2 x4 c2 c4 T.length p p _ M2.out M4.out (fun _ _ => rfl) (by omega)).mono ?_
    rintro e w6 ⟨rfl, d, rfl⟩
    have B6 := Lib.hid (below_drw B5.out d)
    go_wp2
    go_ret
    exact ⟨by simp, B6.out⟩
end Go.Proofs.YtnkgbmnjehpkgabGreat

