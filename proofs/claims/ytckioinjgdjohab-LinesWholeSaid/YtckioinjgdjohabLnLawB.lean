/- The walks of the laws LinesBack, LinesOrder. -/
import Derived.Test.YtckioinjgdjohabLnLawA
namespace Go.Proofs.Ytckioinjgdjohab
open Go.RowKit Em

/-- A place of the text is found again. -/
theorem off_at (s : ByteArray) (o : Nat) (h : o ≤ s.size) : offR s (ln (bl s) o : Nat) ((o : Int) - (bg (bl s) o : Nat) + 1) = o ∧ offE s (ln (bl s) o : Nat) ((o : Int) - (bg (bl s) o : Nat) + 1) = 0 := by
  have hol : o ≤ (bl s).length := by rw [bl_size]; exact h
  have h1 := ln_pos (bl s) o
  have h2 := ln_le (bl s) o hol
  have h3 := starts_bg (bl s) o hol
  have h4 := bg_le (bl s) o
  have hsp := line_spec s (ln (bl s) o - 1) (by omega)
  rw [show ln (bl s) o - 1 + 1 = ln (bl s) o by omega] at hsp
  obtain ⟨a1, a2, _, _, a5⟩ := hsp
  have hfin : o ≤ fin (starts (bl s)) (ln (bl s) o) s.size := by
    by_cases hc : ln (bl s) o < (starts (bl s)).length
    · have := (starts_side (bl s) o hol (ln (bl s) o) hc)
      have := a5 hc
      omega
    · unfold fin; rw [if_neg hc]; exact h
  have hgood : ¬ offBad s (ln (bl s) o : Nat) ((o : Int) - (bg (bl s) o : Nat) + 1) := by
    unfold offBad
    rw [Int.toNat_natCast, h3]
    omega
  unfold offR offE
  rw [if_neg hgood, if_neg hgood, Int.toNat_natCast, h3]
  exact ⟨by omega, rfl⟩

/-- A line and a column are found again. -/
theorem at_off (s : ByteArray) (l c : Int) (h : ¬ offBad s l c) : 0 ≤ offR s l c ∧ offR s l c ≤ s.size ∧ ((ln (bl s) (offR s l c).toNat : Nat) : Int) = l ∧ offR s l c - (bg (bl s) (offR s l c).toNat : Nat) + 1 = c := by
  have hr : offR s l c = (nthN (starts (bl s)) (l.toNat - 1) : Nat) + c - 1 := if_neg h
  unfold offBad at h
  obtain ⟨i, rfl⟩ : ∃ i : Nat, l = (i : Int) + 1 := ⟨(l - 1).toNat, by omega⟩
  rw [show ((i : Int) + 1).toNat = i + 1 by omega, show i + 1 - 1 = i by omega] at h hr
  have hi : i < (starts (bl s)).length := by omega
  obtain ⟨a1, a2, _, _, a5⟩ := line_spec s i hi
  obtain ⟨o, ho⟩ : ∃ o : Nat, offR s ((i : Int) + 1) c = o := ⟨(offR s ((i : Int) + 1) c).toNat, by omega⟩
  have hos : o ≤ s.size := by omega
  have hol : o ≤ (bl s).length := by rw [bl_size]; exact hos
  have b1 := starts_side (bl s) o hol i hi
  have hln : ln (bl s) o = i + 1 := by
    have h1 := ln_le (bl s) o hol
    have h2 : i < ln (bl s) o := b1.1 (by omega)
    by_cases hc : i + 1 < (starts (bl s)).length
    · have h3 := starts_side (bl s) o hol (i + 1) hc
      have h4 := a5 hc
      omega
    · omega
  have hbg := starts_bg (bl s) o hol
  rw [hln, show i + 1 - 1 = i by omega] at hbg
  rw [ho, Int.toNat_natCast, hln, ← hbg]
  omega

theorem atV_good {s : ByteArray} {o : Int} (h0 : 0 ≤ o) (h1 : o ≤ s.size) : atV s o = .tuple #[.agg #[.int .i64 (ln (bl s) o.toNat : Nat), .int .i64 (o - (bg (bl s) o.toNat : Nat) + 1)], .int .i64 0] := if_neg (by omega)
theorem atV_bad {s : ByteArray} {o : Int} (h : o < 0 ∨ (s.size : Int) < o) : atV s o = .tuple #[.agg #[.int .i64 0, .int .i64 0], .int .i64 1] := if_pos h

/-- The second half of LinesBack: a line and a column, there and back. -/
theorem off_back (s : ByteArray) (l c : Int) : (offE s l c = 1 ∧ offR s l c = 0) ∨ (offE s l c = 0 ∧ ∃ o : Nat, offR s l c = o ∧ o ≤ s.size ∧ atV s o = .tuple #[.agg #[.int .i64 l, .int .i64 c], .int .i64 0]) := by
  by_cases h : offBad s l c
  · exact .inl ⟨if_pos h, if_pos h⟩
  · obtain ⟨h1, h2, h3, h4⟩ := at_off s l c h
    refine .inr ⟨if_neg h, (offR s l c).toNat, by omega, by omega, ?_⟩
    rw [show (((offR s l c).toNat : Nat) : Int) = offR s l c by omega, atV_good h1 h2, h3, h4]

set_option maxRecDepth 100000 in
set_option maxHeartbeats 8000000 in
theorem walk_LinesBack (s : ByteArray) (o : Int) (l c : Int) (w : World) (hs' : s.size ≤ 1048576) (_ : (Lit.int .i64 o).wf = true) (_ : (Lit.int .i64 l).wf = true) (_ : (Lit.int .i64 c).wf = true) :
    Calls Try.prog 7 #[.string s, .int .i64 o, .agg #[.int .i64 l, .int .i64 c]] w fun e w' => e = .returned (.bool true) ∧ Below w.heap.size w w' := by
  have hs : s.size ≤ 1099511627776 := by omega
  have H1 := Lib.hid (fun w => at_any s o w hs)
  have H2 := Lib.hid (fun w => off_any s l c w hs)
  have H3 := Lib.hid (fun (o : Int) w => at_any s o w hs)
  have H4 := Lib.hid (fun (l c : Int) w => off_any s l c w hs)
  have P0 : Hid (PBox (w.alloc (.cells #[.int .i64 l, .int .i64 c] 33)) w.heap.size l c) := Lib.hid (heap_alloc_new w _)
  have B0 := Lib.hid ((Below.refl w.heap.size w).alloc (Nat.le_refl _) (.cells #[.int .i64 l, .int .i64 c] 33))
  have hm := guard_pos
  have hq := fun w => same_pos w l c
  have TailE := off_back s l c
  -- what stands behind the first half, at any world that keeps the argument
  have hAt : (0 ≤ o ∧ o ≤ s.size ∧ ∃ (L C : Int), atV s o = .tuple #[.agg #[.int .i64 L, .int .i64 C], .int .i64 0] ∧ offR s L C = o ∧ offE s L C = 0) ∨ ((o < 0 ∨ (s.size : Int) < o) ∧ atV s o = .tuple #[.agg #[.int .i64 0, .int .i64 0], .int .i64 1]) := by
    by_cases h : o < 0 ∨ (s.size : Int) < o
    · exact .inr ⟨h, atV_bad h⟩
    · obtain ⟨k, rfl⟩ := Int.eq_ofNat_of_zero_le (show 0 ≤ o by omega)
      obtain ⟨e1, e2⟩ := off_at s k (by omega)
      exact .inl ⟨by omega, by omega, _, _, atV_good (by omega) (by omega), e1, e2⟩
  have HA := Lib.hid hAt
  have HT := Lib.hid TailE
  clear hAt TailE
  go_enter Try.func7, Try.ntmps7
  go_wp2_with fail
  refine (fixed_any _).mono ?_
  rintro e w1 ⟨rfl, b1⟩
  have P1 := Lib.hid (P0.out.keep b1)
  have B1 := Lib.hid (B0.out.trans (b1.mono (by simp)))
  clear b1
  rcases HA.out with ⟨o1, o2, L, C, hv, hr, he⟩ | ⟨hbad, hv⟩
  · have HV := Lib.hid hv
    have HX := Lib.hid (H4.out L C)
    rw [hr, he] at HX
    rw [hv] at H1
    clear hv hr he
    go_wp2_with fail
    refine (H1.out w1).mono ?_
    rintro e w2 ⟨rfl, b2⟩
    have p2 : PBox (w2.alloc (.cells #[.int .i64 L, .int .i64 C] 33)) w2.heap.size L C := heap_alloc_new w2 _
    have k0 := p2.c0
    have k1 := p2.c1
    have P2 := Lib.hid ((P1.out.keep b2).keep ((Below.refl w2.heap.size w2).alloc (Nat.le_refl _) (.cells #[.int .i64 L, .int .i64 C] 33)))
    have B2' := B1.out.trans (b2.mono B1.out.size)
    have B2 := Lib.hid (B2'.alloc B2'.size (.cells #[.int .i64 L, .int .i64 C] 33))
    clear b2 p2 B2'
    go_wp2_with fail
    refine (HX.out _).mono ?_
    rintro e w3 ⟨rfl, b3⟩
    have j0 := (P2.out.keep b3).c0
    have j1 := (P2.out.keep b3).c1
    have P3 := Lib.hid (P2.out.keep b3)
    have B3 := Lib.hid (B2.out.trans (b3.mono B2.out.size))
    clear b3 k0 k1
    rcases HT.out with ⟨t1, t2⟩ | ⟨t1, q, t2, t3, t4⟩
    · rw [t1, t2] at H2
      clear t1 t2
      go_wp2_with fail
      refine (H2.out w3).mono ?_
      rintro e w4 ⟨rfl, b4⟩
      have B4 := Lib.hid (B3.out.trans (b4.mono B3.out.size))
      clear b4
      go_wp2
      go_ret
      exact ⟨rfl, B4.out⟩
    · rw [t1, t2] at H2
      have HY := Lib.hid (H3.out q)
      rw [t4] at HY
      clear t1 t2 t4
      go_wp2_with fail
      refine (H2.out w3).mono ?_
      rintro e w4 ⟨rfl, b4⟩
      have P4 := Lib.hid (P3.out.keep b4)
      have B4 := Lib.hid (B3.out.trans (b4.mono B3.out.size))
      clear b4
      go_wp2_with fail
      refine (HY.out w4).mono ?_
      rintro e w5 ⟨rfl, b5⟩
      have p5 : PBox (w5.alloc (.cells #[.int .i64 l, .int .i64 c] 33)) w5.heap.size l c := heap_alloc_new w5 _
      have z0 := p5.c0
      have z1 := p5.c1
      have p6 := (P4.out.keep b5).keep ((Below.refl w5.heap.size w5).alloc (Nat.le_refl _) (.cells #[.int .i64 l, .int .i64 c] 33))
      have y0 := p6.c0
      have y1 := p6.c1
      have B5' := B4.out.trans (b5.mono B4.out.size)
      have B5 := Lib.hid (B5'.alloc B5'.size (.cells #[.int .i64 l, .int .i64 c] 33))
      clear b5 p5 p6 B5' j0 j1
      go_wp2
      go_ret
      exact ⟨rfl, B5.out⟩
  · rw [hv] at H1
    clear hv
    go_wp2_with fail
    refine (H1.out w1).mono ?_
    rintro e w2 ⟨rfl, b2⟩
    have p3 := ((P1.out.keep b2).keep ((Below.refl w2.heap.size w2).alloc (Nat.le_refl _) (.cells #[.int .i64 0, .int .i64 0] 33)))
    have j0 := p3.c0
    have j1 := p3.c1
    have P3 := Lib.hid p3
    have B2' := B1.out.trans (b2.mono B1.out.size)
    have B3 := Lib.hid (B2'.alloc B2'.size (.cells #[.int .i64 0, .int .i64 0] 33))
    clear b2 B2' p3
    have hor : o < 0 ∨ (0 ≤ o ∧ (s.size : Int) < o) := by omega
    rcases hor with hn | ⟨hn1, hn2⟩
    all_goals
      rcases HT.out with ⟨t1, t2⟩ | ⟨t1, q, t2, t3, t4⟩
      · rw [t1, t2] at H2
        clear t1 t2
        go_wp2_with fail
        refine (H2.out _).mono ?_
        rintro e w4 ⟨rfl, b4⟩
        have B4 := Lib.hid (B3.out.trans (b4.mono B3.out.size))
        clear b4
        go_wp2
        go_ret
        exact ⟨rfl, B4.out⟩
      · rw [t1, t2] at H2
        have HY := Lib.hid (H3.out q)
        rw [t4] at HY
        clear t1 t2 t4
        go_wp2_with fail
        refine (H2.out _).mono ?_
        rintro e w4 ⟨rfl, b4⟩
        have P4 := Lib.hid (P3.out.keep b4)
        have B4 := Lib.hid (B3.out.trans (b4.mono B3.out.size))
        clear b4
        go_wp2_with fail
        refine (HY.out w4).mono ?_
        rintro e w5 ⟨rfl, b5⟩
        have p5 : PBox (w5.alloc (.cells #[.int .i64 l, .int .i64 c] 33)) w5.heap.size l c := heap_alloc_new w5 _
        have z0 := p5.c0
        have z1 := p5.c1
        have p6 := (P4.out.keep b5).keep ((Below.refl w5.heap.size w5).alloc (Nat.le_refl _) (.cells #[.int .i64 l, .int .i64 c] 33))
        have y0 := p6.c0
        have y1 := p6.c1
        have B5' := B4.out.trans (b5.mono B4.out.size)
        have B5 := Lib.hid (B5'.alloc B5'.size (.cells #[.int .i64 l, .int .i64 c] 33))
        clear b5 p5 p6 B5' j0 j1
        go_wp2
        go_ret
        exact ⟨rfl, B5.out⟩
end Go.Proofs.Ytckioinjgdjohab
