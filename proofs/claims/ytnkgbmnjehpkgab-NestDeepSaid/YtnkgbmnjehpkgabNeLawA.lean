/- The walk of the law NestWithin. -/
import Derived.Test.YtnkgbmnjehpkgabNeDep
namespace Go.Proofs.Ytnkgbmnjehpkgab
open Go.RowKit Em
set_option maxRecDepth 100000
set_option linter.unusedVariables false

/-- What the partners are. -/
theorem within {b : Nat → Int} {n : Nat} {p : Nat → Int} (h : NE b n p) {i : Nat} (hi : i < n) : p i = -1 ∨ ∃ j : Nat, j < n ∧ j ≠ i ∧ p i = j ∧ p j = i ∧ ∀ k, i < k → k < j → p k = -1 ∨ ((i : Int) < p k ∧ p k < j) := by
  rcases Int.lt_trichotomy (b i) 0 with hb | hb | hb
  · obtain ⟨j, h1, h2, h3⟩ := h.cl i hi hb
    exact .inr ⟨j, by omega, by omega, h2, h3, fun k h4 h5 => by omega⟩
  · exact .inl (h.zr i hi hb)
  · obtain ⟨c, h1, h2, h3, h4⟩ := h.op i hi hb
    exact .inr ⟨c, h2, by omega, h3, h4, h.ins i c h1 h2 h3⟩

set_option maxHeartbeats 8000000 in
theorem walk_NestWithin (s : ByteArray) (w : World) (hs : s.size ≤ 140737488351232) (hm : Mx w) :
    Calls Try.prog 3 #[.string s] w fun e w' => e = .returned (.bool true) ∧ Below w.heap.size w w' := by
  have Hm := Lib.hid hm
  have H1 := fun w hm => nest_any s w hm
  unfold NstP at H1
  have m2 := guard_fau
  clear hm
  have hlen := nestT_len s
  rcases nest_cases s with ⟨p, m, hs0, hn, a1, a2, a3, a4, a5⟩ | ⟨hE, a3, a1⟩
  · rw [a1] at hlen
    rw [a1, a2, a4, a5] at H1
    dsimp only [fauV] at H1
    have q2 := fun w => run_equal_fau w 0 0 0 0
    rw [faEq_self] at q2
    have hW := fun i hi => within (ne_end hn) (i := i) hi
    generalize (semA s).1 = T at *
    have H1 := Lib.hid H1
    have HW := Lib.hid hW
    clear hW hn a1 a2 a3 a4 a5 hs0
    go_enter Try.func3, Try.ntmps3
    go_wp2_with fail
    refine (H1.out _ Hm.out).mono ?_
    rintro e w1 ⟨x1, c1, x2, c2, rfl, i1, i2, b1⟩
    have B1 := Lib.hid (b1.alloc b1.size (.cells #[.int .i64 0, .int .i64 0] 26))
    have T1 : Hid (FBox (w1.alloc (.cells #[.int .i64 0, .int .i64 0] 26)) w1.heap.size 0 0) := Lib.hid (heap_alloc_new w1 _)
    have I2 := Lib.hid (i2.keep ((Below.refl _ _).alloc (Nat.le_refl _) (.cells #[.int .i64 0, .int .i64 0] 26)))
    clear b1 i1 i2
    go_wp2_with fail
    refine (fixed9_any _ (Hm.out.keep B1.out)).mono ?_
    rintro e w3 ⟨rfl, b3⟩
    have B3 := Lib.hid (B1.out.trans (b3.mono B1.out.size))
    have y1 := T1.out.keep b3
    have p0 := y1.c0
    have p1 := y1.c1
    have K2 := Lib.hid (I2.out.keep b3)
    clear b3 y1
    go_wp2
    clear p0 p1
    go_loopw [6] (fun iv wr => ∃ i q : Nat, i ≤ T.length ∧ iv = .int .i64 i ∧ wr = w3.drewN q) (fun iv _ => T.length - (intOf iv).toNat)
    case atStart => exact ⟨0, 0, by omega, rfl, rfl⟩
    case round =>
      obtain ⟨i, q, hi, rfl, rfl⟩ := hrel
      by_cases hlt : i < T.length
      · have b0 : (0 : Int) ≤ (i : Int) := by omega
        have b1 : (i : Int) < (T.length : Int) := by omega
        obtain ⟨g, rfl, hg, d0⟩ := K2.out.cells hlt
        rcases HW.out i hlt with h | ⟨j, hj1, hj2, hj3, hj4, hj5⟩
        · rw [h] at d0
          clear h
          go_wp2
          go_roundw
          case rel => exact ⟨i + 1, q, by omega, by go_num, rfl⟩
          case measure => simp [intOf]; omega
        · obtain ⟨g', hx', hg', e0⟩ := K2.out.cells hj1
          have hgg : g = g' := by
            have := Option.some.inj hx'
            injection this
          subst hgg
          rw [hj3] at d0
          rw [hj4] at e0
          have t1 : ((j : Int) == -1) = false := beq_eq_false_iff_ne.2 (by omega)
          have t2 : ¬ (j : Int) < 0 := by omega
          have t3 : ¬ (T.length : Int) ≤ (j : Int) := by omega
          have t4 : ((i : Int) == (i : Int)) = true := beq_self_eq_true _
          have t5 : ((i : Int) != (i : Int)) = false := by rw [bne, t4]; rfl
          have t6 : ((j : Int) == (i : Int)) = false := beq_eq_false_iff_ne.2 (by omega)
          have b2 : (0 : Int) ≤ (j : Int) := by omega
          have b3 : (j : Int) < (T.length : Int) := by omega
          have H5 := Lib.hid hj5
          clear hj3 hj4 hj5 hx'
          go_wp2
          go_loopw [7] (fun kv wr => ∃ k q : Nat, i < k ∧ k ≤ T.length ∧ kv = .int .i64 k ∧ wr = w3.drewN q) (fun kv _ => T.length - (intOf kv).toNat)
          case atStart => exact ⟨i + 1, q, by omega, by omega, by go_num, rfl⟩
          case round =>
            obtain ⟨k, q, hk1, hk2, rfl, rfl⟩ := hrel
            have c0 : (0 : Int) ≤ (k : Int) := by omega
            by_cases hkj : k < j
            · have hkn : k < T.length := by omega
              have c1 : (k : Int) < (T.length : Int) := by omega
              have c2 : (k : Int) < (j : Int) := by omega
              have c3 : IntKind.i64.wrap ((k : Int) - (i : Int)) = (k : Int) - (i : Int) := by rw [IntKind.wrap_i64]; omega
              by_cases h300 : k - i < 300
              · have c4 : (k : Int) - (i : Int) < 300 := by omega
                obtain ⟨g', hx', hg', f0⟩ := K2.out.cells hkn
                have hgg : g = g' := by
                  have := Option.some.inj hx'
                  injection this
                subst hgg
                clear hx'
                rcases H5.out k hk1 hkj with h | ⟨h1, h2⟩
                · rw [h] at f0
                  clear h
                  go_wp2
                  go_quiet (fail)
                  go_wp2
                  go_roundw
                  case rel => exact ⟨k + 1, _, by omega, by omega, by go_num, rfl⟩
                  case measure => simp [intOf]; omega
                · generalize p k = V at f0 h1 h2
                  have u1 : ((V : Int) == -1) = false := beq_eq_false_iff_ne.2 (by omega)
                  have u2 : ((V : Int) != -1) = true := by rw [bne, u1]; rfl
                  have u3 : ¬ V ≤ (i : Int) := by omega
                  have u4 : ¬ (j : Int) ≤ V := by omega
                  have u5 : decide (V ≤ (i : Int)) = false := decide_eq_false u3
                  have u6 : decide ((j : Int) ≤ V) = false := decide_eq_false u4
                  go_wp2
                  go_quiet (fail)
                  go_wp2
                  go_roundw
                  case rel => exact ⟨k + 1, _, by omega, by omega, by go_num, rfl⟩
                  case measure => simp [intOf]; omega
              · have c4 : ¬ (k : Int) - (i : Int) < 300 := by omega
                go_wp2
                go_roundw
                case rel => exact ⟨i + 1, q, by omega, by go_num, rfl⟩
                case measure => simp [intOf]; omega
            · have c2 : ¬ (k : Int) < (j : Int) := by omega
              have c5 : decide ((k : Int) < (j : Int)) = false := decide_eq_false c2
              go_wp2
              go_roundw
              case rel => exact ⟨i + 1, q, by omega, by go_num, rfl⟩
              case measure => simp [intOf]; omega
      · have hie : i = T.length := by omega
        subst hie
        have b1 : ¬ (T.length : Int) < (T.length : Int) := by omega
        go_wp2
        go_ret
        exact ⟨rfl, below_drw B3.out q⟩
  · rw [a1] at H1
    have hne : faEq (nestE s) (nestF s) 0 0 = false := by
      unfold faEq; rw [show (nestE s == 0) = false from beq_eq_false_iff_ne.2 hE]; rfl
    dsimp only [fauV] at H1
    generalize nestE s = E at H1 hne hE
    generalize nestF s = D at H1 hne
    have q2 := fun w => run_equal_fau w E D 0 0
    rw [hne] at q2
    have H1 := Lib.hid H1
    have e1 : (E == 0) = false := beq_eq_false_iff_ne.2 hE
    have e2 : (E != 0) = true := by rw [bne, e1]; rfl
    clear hne a1 a3 hlen
    go_enter Try.func3, Try.ntmps3
    go_wp2_with fail
    refine (H1.out _ Hm.out).mono ?_
    rintro e w1 ⟨x1, c1, x2, c2, rfl, i1, i2, b1⟩
    have B1 := Lib.hid (b1.alloc b1.size (.cells #[.int .i64 E, .int .i64 D] 26))
    have T1 : Hid (FBox (w1.alloc (.cells #[.int .i64 E, .int .i64 D] 26)) w1.heap.size E D) := Lib.hid (heap_alloc_new w1 _)
    clear b1 i1 i2
    go_wp2_with fail
    refine (fixed9_any _ (Hm.out.keep B1.out)).mono ?_
    rintro e w3 ⟨rfl, b3⟩
    have B3 := Lib.hid (B1.out.trans (b3.mono B1.out.size))
    have y1 := Lib.hid (T1.out.keep b3)
    have p0 := y1.out.c0
    have p1 := y1.out.c1
    clear b3
    go_wp2_with fail
    refine (fixed9_any _ (Hm.out.keep B3.out)).mono ?_
    rintro e w4 ⟨rfl, b4⟩
    have B4 := Lib.hid (B3.out.trans (b4.mono B3.out.size))
    have z1 := y1.out.keep b4
    have r0 := z1.c0
    have r1 := z1.c1
    clear b4 z1 p0 p1
    go_wp2
    go_ret
    exact ⟨by first | rfl | simp, B4.out⟩
end Go.Proofs.Ytnkgbmnjehpkgab

