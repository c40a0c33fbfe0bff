/- The walk of the law SemiPuts. -/
import Derived.Test.YtnkgbmnjehpkgaaGreatSeROf
namespace Go.Proofs.YtnkgbmnjehpkgaaGreat
open Go.RowKit Em
set_option maxRecDepth 100000
set_option linter.unusedVariables false

theorem semA_len (s : ByteArray) : (semA s).1.length ≤ 131072 := by
  unfold semA
  split
  · have h1 := semis_len s (kept (allA s).1) (kept (allA s).1).length
    have h2 := kept_len (allA s).1
    have h3 := allA_most s
    dsimp only
    omega
  · simp

set_option maxHeartbeats 4000000 in
theorem walk_SemiPuts (s : ByteArray) (w : World) (hs : s.size ≤ 140737488351232) (hm : Mx w) :
    Calls Tryz.prog 6 #[.string s] w fun e w' => e = .returned (.bool true) ∧ Below w.heap.size w w' := by
  have Hm := Lib.hid hm
  by_cases hbig : 2000 < s.size
  · have h1 : (2000 : Int) < (s.size : Int) := by omega
    have H0 := Lib.hid (fixed8_any w hm)
    clear hm hbig
    go_enter Tryz.func6, Tryz.ntmps6
    go_wp2_with fail
    refine H0.out.mono ?_
    rintro e w1 ⟨rfl, b1⟩
    go_wp2
    go_ret
    exact ⟨rfl, b1⟩
  · have h1 : ¬ (2000 : Int) < (s.size : Int) := by omega
    have H1 := Lib.hid (fun w hm => semi_any s w hm)
    have H2 := Lib.hid (fun w => rsemi_any s w)
    have hlen := semA_len s
    unfold SemP at H1 H2
    dsimp only [fauV] at H1 H2
    generalize (semA s).1 = L at H1 H2 hlen
    generalize (semA s).2.1 = e1 at H1 H2
    generalize (semA s).2.2 = e2 at H1 H2
    have hq := fun w => run_equal_fau w e1 e2 e1 e2
    rw [faEq_self] at hq
    have hg := guard_fau
    clear hm hbig
    go_enter Tryz.func6, Tryz.ntmps6
    go_wp2_with fail
    refine (H1.out _ Hm.out).mono ?_
    rintro e w1 ⟨v1, rfl, o1, b1⟩
    obtain ⟨x1, c1, rfl, i1, _⟩ := tkI_of_owns o1
    have B1 := Lib.hid (b1.alloc b1.size (.cells #[.int .i64 e1, .int .i64 e2] 31))
    have a1 := (Below.refl w1.heap.size w1).alloc (Nat.le_refl _) (.cells #[.int .i64 e1, .int .i64 e2] 31)
    have T1 : Hid (FBox (w1.alloc (.cells #[.int .i64 e1, .int .i64 e2] 31)) w1.heap.size e1 e2) := Lib.hid (heap_alloc_new w1 _)
    have I1 := Lib.hid (i1.keep a1)
    clear b1 o1 i1 a1
    go_wp2_with fail
    refine (H2.out _).mono ?_
    rintro e w2 ⟨v2, rfl, o2, b2⟩
    obtain ⟨x2, c2, rfl, i2, _⟩ := tkI_of_owns o2
    have b2' := B1.out.trans (b2.mono B1.out.size)
    have a2 := (Below.refl w2.heap.size w2).alloc (Nat.le_refl _) (.cells #[.int .i64 e1, .int .i64 e2] 31)
    have B2 := Lib.hid (b2'.alloc b2'.size (.cells #[.int .i64 e1, .int .i64 e2] 31))
    have T2 : Hid (FBox (w2.alloc (.cells #[.int .i64 e1, .int .i64 e2] 31)) w2.heap.size e1 e2) := Lib.hid (heap_alloc_new w2 _)
    have S1 := Lib.hid ((T1.out.keep b2).alloc (.cells #[.int .i64 e1, .int .i64 e2] 31))
    have J1 := Lib.hid ((I1.out.keep b2).keep a2)
    have J2 := Lib.hid (i2.keep a2)
    clear b2 b2' o2 i2 a2
    go_wp2_with fail
    refine (fixed8_any _ (Hm.out.keep B2.out)).mono ?_
    rintro e w3 ⟨rfl, b3⟩
    have B3 := Lib.hid (B2.out.trans (b3.mono B2.out.size))
    have y1 := S1.out.keep b3
    have y2 := T2.out.keep b3
    have p0 := y1.c0
    have p1 := y1.c1
    have q0 := y2.c0
    have q1 := y2.c1
    have K1 := J1.out.keep b3
    have K2 := J2.out.keep b3
    clear b3 y1 y2
    go_wp2_with fail
    refine (same_tk x1 x2 c1 c2 L _ K1 K2 (by omega)).mono ?_
    rintro e w4 ⟨rfl, b4⟩
    have B4 := Lib.hid (B3.out.trans (b4.mono B3.out.size))
    clear b4 K1 K2
    go_wp2
    go_ret
    exact ⟨rfl, B4.out⟩
end Go.Proofs.YtnkgbmnjehpkgaaGreat

