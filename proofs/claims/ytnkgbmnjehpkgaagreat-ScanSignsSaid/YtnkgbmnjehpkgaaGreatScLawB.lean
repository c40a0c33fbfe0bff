/- The walks of the laws ScanOnes, ScanAlls. -/
import Derived.Test.YtnkgbmnjehpkgaaGreatGX
namespace Go.Proofs.YtnkgbmnjehpkgaaGreat
open Go.RowKit Em
set_option maxRecDepth 100000
set_option linter.unusedVariables false

theorem oneV_form (s : ByteArray) (a : Int) : ∃ k f t e : Int, oneV s a = .tuple #[.agg #[.int .u8 k, .int .i64 f, .int .i64 t], .int .i64 e] := by
  unfold oneV
  split
  · exact ⟨_, _, _, _, rfl⟩
  · split
    · exact ⟨_, _, _, _, rfl⟩
    · split
      · exact ⟨_, _, _, _, rfl⟩
      · exact ⟨_, _, _, _, rfl⟩

theorem walk_ScanOnes (s : ByteArray) (a : Int) (w : World) (hs : s.size ≤ 140737488351232) (ha : (Lit.int .i64 a).wf = true) (hm : Mx w) :
    Calls Tryz.prog 3 #[.string s, .int .i64 a] w fun e w' => e = .returned (.bool true) ∧ Below w.heap.size w w' := by
  have Hm := Lib.hid hm
  by_cases hbig : 3000 < s.size
  · have h1 : (3000 : Int) < (s.size : Int) := by omega
    have H0 := Lib.hid (fixed7_any w hm)
    clear hm
    go_enter Tryz.func3, Tryz.ntmps3
    go_wp2_with fail
    refine H0.out.mono ?_
    rintro e w1 ⟨rfl, b1⟩
    go_wp2
    go_ret
    exact ⟨rfl, b1⟩
  · have h1 : ¬ (3000 : Int) < (s.size : Int) := by omega
    have H1 := Lib.hid (fun w hm => scone_any s a w (by omega) hm)
    have H2 := Lib.hid (fun w => rone_any s a w (by omega))
    obtain ⟨k, f, t, x, hv⟩ := oneV_form s a
    rw [hv] at H1 H2
    have hq := fun w => run_equal_tok w k f t k f t
    rw [tkEq_self] at hq
    have hg := guard_tok
    clear hm hv
    go_enter Tryz.func3, Tryz.ntmps3
    go_wp2_with fail
    refine (H1.out _ Hm.out).mono ?_
    rintro e w1 ⟨rfl, b1⟩
    have B1 := Lib.hid (b1.alloc b1.size (.cells #[.int .u8 k, .int .i64 f, .int .i64 t] 24))
    have T1 : Hid (TBox (w1.alloc (.cells #[.int .u8 k, .int .i64 f, .int .i64 t] 24)) w1.heap.size k f t) := Lib.hid (heap_alloc_new w1 _)
    clear b1
    go_wp2_with fail
    refine (H2.out _).mono ?_
    rintro e w2 ⟨rfl, b2⟩
    have b2' := B1.out.trans (b2.mono B1.out.size)
    have B2 := Lib.hid (b2'.alloc b2'.size (.cells #[.int .u8 k, .int .i64 f, .int .i64 t] 24))
    have T2 : Hid (TBox (w2.alloc (.cells #[.int .u8 k, .int .i64 f, .int .i64 t] 24)) w2.heap.size k f t) := Lib.hid (heap_alloc_new w2 _)
    have S1 := Lib.hid ((T1.out.keep b2).alloc (.cells #[.int .u8 k, .int .i64 f, .int .i64 t] 24))
    clear b2 b2'
    go_wp2_with fail
    refine (fixed7_any _ (Hm.out.keep B2.out)).mono ?_
    rintro e w3 ⟨rfl, b3⟩
    have B3 := Lib.hid (B2.out.trans (b3.mono B2.out.size))
    have x1 := S1.out.keep b3
    have x2 := T2.out.keep b3
    have p0 := x1.c0
    have p1 := x1.c1
    have p2 := x1.c2
    have q0 := x2.c0
    have q1 := x2.c1
    have q2 := x2.c2
    clear b3 x1 x2
    go_wp2
    go_ret
    exact ⟨by simp, B3.out⟩

theorem allA_len (s : ByteArray) : (allA s).1.length ≤ 65536 := by
  unfold allA
  split
  · simp
  · rename_i h
    split
    · simp
    · split
      · have : ∀ f p l, (Sc.lexs isW f p l).1.length ≤ f := by
          intro f
          induction f with
          | zero => intro p l; simp [Sc.lexs]
          | succ f ih =>
            intro p l
            rw [Sc.lexs]
            split
            · simp
            · split
              · simp
              · simp only [List.length_cons]
                have := ih (p + (Sc.lex isW l).2) (l.drop (Sc.lex isW l).2)
                omega
        have := this s.size 0 (bl s)
        dsimp only
        omega
      · simp

set_option maxHeartbeats 2000000 in
theorem walk_ScanAlls (s : ByteArray) (w : World) (hs : s.size ≤ 140737488351232) (hm : Mx w) :
    Calls Tryz.prog 4 #[.string s] w fun e w' => e = .returned (.bool true) ∧ Below w.heap.size w w' := by
  have Hm := Lib.hid hm
  by_cases hbig : 3000 < s.size ∧ s.size ≤ 65536
  · have h1 : (3000 : Int) < (s.size : Int) := by omega
    have h2 : (s.size : Int) ≤ 65536 := by omega
    have H0 := Lib.hid (fixed7_any w hm)
    clear hm hbig
    go_enter Tryz.func4, Tryz.ntmps4
    go_wp2_with fail
    refine H0.out.mono ?_
    rintro e w1 ⟨rfl, b1⟩
    go_wp2
    go_ret
    exact ⟨rfl, b1⟩
  · have H1 := Lib.hid (fun w hm => all_scan s w hm)
    have H2 := Lib.hid (fun w => rall_scan s w)
    have hlen := allA_len s
    unfold AllP at H1 H2
    dsimp only [fauV] at H1 H2
    generalize (allA s).1 = L at H1 H2 hlen
    generalize (allA s).2.1 = e1 at H1 H2
    generalize (allA s).2.2 = e2 at H1 H2
    have hq := fun w => run_equal_fau w e1 e2 e1 e2
    rw [faEq_self] at hq
    have hg := guard_fau
    have hcase : (¬ (3000 : Int) < (s.size : Int)) ∨ ((3000 : Int) < (s.size : Int) ∧ ¬ (s.size : Int) ≤ 65536) := by omega
    clear hm hbig
    rcases hcase with h1 | ⟨h1, h2⟩
    all_goals
      go_enter Tryz.func4, Tryz.ntmps4
      go_wp2_with fail
      refine (H1.out _ Hm.out).mono ?_
      rintro e w1 ⟨v1, rfl, o1, b1⟩
      obtain ⟨x1, c1, rfl, i1, _⟩ := tkI_of_owns o1
      have B1 := Lib.hid (b1.alloc b1.size (.cells #[.int .i64 e1, .int .i64 e2] 31))
      have a1 := (Below.refl w1.heap.size w1).alloc (Nat.le_refl _) (.cells #[.int .i64 e1, .int .i64 e2] 31)
      have T1 : Hid (FBox (w1.alloc (.cells #[.int .i64 e1, .int .i64 e2] 31)) w1.heap.size e1 e2) := Lib.hid (heap_alloc_new w1 _)
      have I1 := Lib.hid (i1.keep a1)
      clear b1 o1 i1 a1
      go_wp2_with fail
      refine (H2.out _).mono ?_
      rintro e w2 ⟨v2, rfl, o2, b2⟩
      obtain ⟨x2, c2, rfl, i2, _⟩ := tkI_of_owns o2
      have b2' := B1.out.trans (b2.mono B1.out.size)
      have a2 := (Below.refl w2.heap.size w2).alloc (Nat.le_refl _) (.cells #[.int .i64 e1, .int .i64 e2] 31)
      have B2 := Lib.hid (b2'.alloc b2'.size (.cells #[.int .i64 e1, .int .i64 e2] 31))
      have T2 : Hid (FBox (w2.alloc (.cells #[.int .i64 e1, .int .i64 e2] 31)) w2.heap.size e1 e2) := Lib.hid (heap_alloc_new w2 _)
      have S1 := Lib.hid ((T1.out.keep b2).alloc (.cells #[.int .i64 e1, .int .i64 e2] 31))
      have J1 := Lib.hid ((I1.out.keep b2).keep a2)
      have J2 := Lib.hid (i2.keep a2)
      clear b2 b2' o2 i2 a2
      go_wp2_with fail
      refine (fixed7_any _ (Hm.out.keep B2.out)).mono ?_
      rintro e w3 ⟨rfl, b3⟩
      have B3 := Lib.hid (B2.out.trans (b3.mono B2.out.size))
      have y1 := S1.out.keep b3
      have y2 := T2.out.keep b3
      have K1 := Lib.hid (J1.out.keep b3)
      have K2 := Lib.hid (J2.out.keep b3)
      have p0 := y1.c0
      have p1 := y1.c1
      have q0 := y2.c0
      have q1 := y2.c1
      clear b3 y1 y2
      go_wp2_with fail
      refine (same_tk x1 x2 c1 c2 L _ K1.out K2.out (by omega)).mono ?_
      rintro e w4 ⟨rfl, b4⟩
      have B4 := Lib.hid (B3.out.trans (b4.mono B3.out.size))
      clear b4
      go_wp2
      go_ret
      exact ⟨rfl, B4.out⟩
end Go.Proofs.YtnkgbmnjehpkgaaGreat

