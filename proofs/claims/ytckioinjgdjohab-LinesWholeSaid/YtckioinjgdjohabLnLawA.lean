/- The walks of the laws LinesStarts, LinesTexts, LinesPlaces, LinesOffs. -/
import Derived.Test.YtckioinjgdjohabLnFixed
namespace Go.Proofs.Ytckioinjgdjohab
open Go.RowKit Em

set_option maxHeartbeats 2000000 in
theorem walk_LinesStarts (s : ByteArray) (w : World) (hs' : s.size ≤ 1048576) :
    Calls Try.prog 3 #[.string s] w fun e w' => e = .returned (.bool true) ∧ Below w.heap.size w w' := by
  have hs : s.size ≤ 1099511627776 := by omega
  have hm := starts_most s
  have H1 := Lib.hid (fun w => starts_any s w hs)
  have H2 := Lib.hid (fun w => rstarts_any s w hs)
  have H3 := Lib.hid (fun w => count_any s w hs)
  generalize starts (bl s) = S at H1 H2 H3 hm
  go_enter Try.func3, Try.ntmps3
  go_wp2_with fail
  refine (H1.out w).mono ?_
  rintro e w1 ⟨v1, rfl, o1, b1⟩
  obtain ⟨x1, c1, rfl, r1⟩ := rowN_of_owns o1
  have R1 := Lib.hid r1
  have B1 := Lib.hid b1
  clear o1 r1 b1
  go_wp2_with fail
  refine (fixed_any w1).mono ?_
  rintro e w2 ⟨rfl, b2⟩
  have R2 := Lib.hid (R1.out.keep b2)
  have B2 := Lib.hid (B1.out.trans (b2.mono B1.out.size))
  clear b2
  go_wp2_with fail
  refine (H2.out w2).mono ?_
  rintro e w3 ⟨v3, rfl, o3, b3⟩
  obtain ⟨x3, c3, rfl, r3⟩ := rowN_of_owns o3
  have R3 := Lib.hid (R2.out.keep b3)
  have Q3 := Lib.hid r3
  have B3 := Lib.hid (B2.out.trans (b3.mono B2.out.size))
  clear o3 r3 b3
  go_wp2_with fail
  refine (ints_any x1 x3 c1 c3 S w3 R3.out Q3.out (by omega)).mono ?_
  rintro e w4 ⟨rfl, b4⟩
  have B4 := Lib.hid (B3.out.trans (b4.mono B3.out.size))
  clear b4
  go_wp2_with fail
  refine (H3.out w4).mono ?_
  rintro e w5 ⟨rfl, rfl⟩
  go_wp2
  go_ret
  exact ⟨rfl, B4.out⟩

set_option maxHeartbeats 2000000 in
theorem walk_LinesTexts (s : ByteArray) (n : Int) (w : World) (hs' : s.size ≤ 1048576) (_ : (Lit.int .i64 n).wf = true) :
    Calls Try.prog 4 #[.string s, .int .i64 n] w fun e w' => e = .returned (.bool true) ∧ Below w.heap.size w w' := by
  have hs : s.size ≤ 1099511627776 := by omega
  have H1 := Lib.hid (fun w => line_any s n w hs)
  have H2 := Lib.hid (fun w => rline_any s n w hs)
  generalize linT s n = T at H1 H2
  generalize linE s n = E at H1 H2
  go_enter Try.func4, Try.ntmps4
  go_wp2_with fail
  refine (H1.out w).mono ?_
  rintro e w1 ⟨rfl, b1⟩
  have B1 := Lib.hid b1
  clear b1
  go_wp2_with fail
  refine (H2.out w1).mono ?_
  rintro e w2 ⟨rfl, b2⟩
  have B2 := Lib.hid (B1.out.trans (b2.mono B1.out.size))
  clear b2
  go_wp2_with fail
  refine (fixed_any w2).mono ?_
  rintro e w3 ⟨rfl, b3⟩
  have B3 := Lib.hid (B2.out.trans (b3.mono B2.out.size))
  clear b3
  go_wp2
  go_ret
  exact ⟨rfl, B3.out⟩

/-- At's answer, taken apart. -/
theorem atV_form (s : ByteArray) (o : Int) : ∃ l c e : Int, atV s o = .tuple #[.agg #[.int .i64 l, .int .i64 c], .int .i64 e] := by
  unfold atV
  split
  · exact ⟨0, 0, 1, rfl⟩
  · exact ⟨_, _, 0, rfl⟩

set_option maxHeartbeats 2000000 in
theorem walk_LinesPlaces (s : ByteArray) (o : Int) (w : World) (hs' : s.size ≤ 1048576) (_ : (Lit.int .i64 o).wf = true) :
    Calls Try.prog 5 #[.string s, .int .i64 o] w fun e w' => e = .returned (.bool true) ∧ Below w.heap.size w w' := by
  have hs : s.size ≤ 1099511627776 := by omega
  have H1 := Lib.hid (fun w => at_any s o w hs)
  have H2 := Lib.hid (fun w => rat_any s o w hs)
  obtain ⟨l, c, E, hv⟩ := atV_form s o
  rw [hv] at H1 H2
  clear hv
  have hm := guard_pos
  have hq := fun w => same_pos w l c
  go_enter Try.func5, Try.ntmps5
  go_wp2_with fail
  refine (H1.out w).mono ?_
  rintro e w1 ⟨rfl, b1⟩
  have p1 : PBox (w1.alloc (.cells #[.int .i64 l, .int .i64 c] 33)) w1.heap.size l c := heap_alloc_new w1 _
  have P1 := Lib.hid p1
  have B1 := Lib.hid (b1.alloc b1.size (.cells #[.int .i64 l, .int .i64 c] 33))
  clear b1 p1
  go_wp2_with fail
  refine (H2.out _).mono ?_
  rintro e w2 ⟨rfl, b2⟩
  have p2 : PBox (w2.alloc (.cells #[.int .i64 l, .int .i64 c] 33)) w2.heap.size l c := heap_alloc_new w2 _
  have P2 := Lib.hid ((P1.out.keep b2).keep ((Below.refl w2.heap.size w2).alloc (Nat.le_refl _) (.cells #[.int .i64 l, .int .i64 c] 33)))
  have Q2 := Lib.hid p2
  have B2' := B1.out.trans (b2.mono B1.out.size)
  have B2 := Lib.hid (B2'.alloc B2'.size (.cells #[.int .i64 l, .int .i64 c] 33))
  clear b2 p2 B2'
  go_wp2_with fail
  refine (fixed_any _).mono ?_
  rintro e w3 ⟨rfl, b3⟩
  have k0 := (P2.out.keep b3).c0
  have k1 := (P2.out.keep b3).c1
  have j0 := (Q2.out.keep b3).c0
  have j1 := (Q2.out.keep b3).c1
  have B3 := Lib.hid (B2.out.trans (b3.mono B2.out.size))
  clear b3
  go_wp2
  go_ret
  exact ⟨rfl, B3.out⟩

set_option maxHeartbeats 2000000 in
theorem walk_LinesOffs (s : ByteArray) (l c : Int) (w : World) (hs' : s.size ≤ 1048576) (_ : (Lit.int .i64 l).wf = true) (hc : (Lit.int .i64 c).wf = true) :
    Calls Try.prog 6 #[.string s, .agg #[.int .i64 l, .int .i64 c]] w fun e w' => e = .returned (.bool true) ∧ Below w.heap.size w w' := by
  have hs : s.size ≤ 1099511627776 := by omega
  have hcm : c ≤ 9223372036854775807 := by simp [Lit.wf] at hc; omega
  have H1 := Lib.hid (fun w => off_any s l c w hs)
  have H2 := Lib.hid (fun w => roff_any s l c w hs hcm)
  generalize offR s l c = T at H1 H2
  generalize offE s l c = E at H1 H2
  clear hc
  have P0 : Hid (PBox (w.alloc (.cells #[.int .i64 l, .int .i64 c] 33)) w.heap.size l c) := Lib.hid (heap_alloc_new w _)
  have B0 := Lib.hid ((Below.refl w.heap.size w).alloc (Nat.le_refl _) (.cells #[.int .i64 l, .int .i64 c] 33))
  go_enter Try.func6, Try.ntmps6
  go_wp2_with fail
  refine (H1.out _).mono ?_
  rintro e w1 ⟨rfl, b1⟩
  have k0 := (P0.out.keep b1).c0
  have k1 := (P0.out.keep b1).c1
  have B1 := Lib.hid (B0.out.trans (b1.mono (by simp)))
  clear b1
  go_wp2_with fail
  refine (H2.out w1).mono ?_
  rintro e w2 ⟨rfl, b2⟩
  have B2 := Lib.hid (B1.out.trans (b2.mono B1.out.size))
  clear b2
  go_wp2_with fail
  refine (fixed_any w2).mono ?_
  rintro e w3 ⟨rfl, b3⟩
  have B3 := Lib.hid (B2.out.trans (b3.mono B2.out.size))
  clear b3
  go_wp2
  go_ret
  exact ⟨rfl, B3.out⟩
end Go.Proofs.Ytckioinjgdjohab
