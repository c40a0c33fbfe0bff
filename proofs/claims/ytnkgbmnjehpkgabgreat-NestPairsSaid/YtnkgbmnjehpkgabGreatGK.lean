/- Contracts of the reference's Run and Scan of numbers. -/
import Derived.Test.YtnkgbmnjehpkgabGreatGJ
namespace Go.Proofs.YtnkgbmnjehpkgabGreat
open Go.RowKit Em
set_option maxRecDepth 100000
set_option linter.unusedVariables false
set_option linter.unusedSimpArgs false

theorem lt_true (s : ByteArray) (j : Nat) : Nm.lt true (s.get! j) = decide (byN s j = 112 ∨ byN s j = 80) := decide_eq_decide.2 (by rw [byte_is, byte_is]; exact Iff.rfl)
theorem lt_false (s : ByteArray) (j : Nat) : Nm.lt false (s.get! j) = decide (byN s j = 101 ∨ byN s j = 69) := decide_eq_decide.2 (by rw [byte_is, byte_is]; exact Iff.rfl)

/-- No number begins. -/
theorem rrun_no (s : ByteArray) (at' : Int) (w : World) (hs : s.size ≤ 4611686018427387000) (hb : begB s at' = false) :
    Calls Tryz.prog 63 #[.string s, .int .i64 at'] w fun e w' => e = .returned (.int .i64 at') ∧ w = w' := by
  by_cases h0 : at' < 0
  · clear hb
    go_enter Tryz.func63, Tryz.ntmps63
    go_wp2
    all_goals (go_ret; exact ⟨rfl, rfl⟩)
  · by_cases h1 : (s.size : Int) ≤ at'
    · clear hb
      go_enter Tryz.func63, Tryz.ntmps63
      go_wp2
      all_goals (go_ret; exact ⟨rfl, rfl⟩)
    · obtain ⟨k, rfl⟩ := Int.eq_ofNat_of_zero_le (show 0 ≤ at' by omega)
      have hk : k < s.size := by omega
      have b0 : (0 : Int) ≤ (k : Int) := by omega
      have b1 : (k : Int) < (s.size : Int) := by omega
      have e1 := byN_get s k hk
      have l1 := byN_lt s k
      unfold begB at hb
      rw [if_neg (by omega), Int.toNat_natCast, begins_spell s k hk] at hb
      have HD := fun w => nrdigit_any (byN s k) 10 l1 (by omega) w
      by_cases hc : byN s k = 46
      · rw [if_pos hc] at hb
        rw [hc] at e1 HD
        clear hc l1
        have HD' : ∀ w, Calls Tryz.prog 82 #[.int .u8 46, .int .i64 10] w fun e w' => e = .returned (.bool false) ∧ w = w' := HD
        clear HD
        by_cases h2 : k + 1 < s.size
        · have b2 : (k : Int) + 1 < (s.size : Int) := by omega
          have b3 : (0 : Int) ≤ (k : Int) + 1 := by omega
          have b4 : ((k : Int) + 1 == (s.size : Int)) = false := beq_eq_false_iff_ne.2 (by omega)
          have e2 := byN_get s (k + 1) h2
          have l2 := byN_lt s (k + 1)
          rw [hd_at s (k + 1) 10 h2] at hb
          have H2 := fun w => nrdigit_any (byN s (k + 1)) 10 l2 (by omega) w
          have hf : decide (dgN (byN s (k + 1)) < 10) = false := by
            have := of_decide_eq_false hb
            exact decide_eq_false (by omega)
          rw [hf] at H2
          clear hf hb
          generalize byN s (k + 1) = B at e2 l2 H2
          go_enter Tryz.func63, Tryz.ntmps63
          go_wp2_with fail
          refine (HD' _).mono ?_
          rintro e w' ⟨rfl, rfl⟩
          go_wp2_with fail
          refine (H2 _).mono ?_
          rintro e w' ⟨rfl, rfl⟩
          go_wp2
          go_ret
          exact ⟨rfl, rfl⟩
        · have b4 : ((k : Int) + 1 == (s.size : Int)) = true := by simp; omega
          clear hb
          go_enter Tryz.func63, Tryz.ntmps63
          go_wp2_with fail
          refine (HD' _).mono ?_
          rintro e w' ⟨rfl, rfl⟩
          go_wp2
          all_goals (go_ret; exact ⟨rfl, rfl⟩)
      · rw [if_neg hc] at hb
        rw [hb] at HD
        have d1 : ((byN s k : Int) != 46) = true := by simp; omega
        have d2 : ((byN s k : Int) == 46) = false := beq_eq_false_iff_ne.2 (by omega)
        clear hc hb
        generalize byN s k = B at e1 l1 d1 d2 HD
        go_enter Tryz.func63, Tryz.ntmps63
        go_wp2_with fail
        refine (HD _).mono ?_
        rintro e w' ⟨rfl, rfl⟩
        go_wp2
        all_goals (go_ret; exact ⟨rfl, rfl⟩)

set_option maxRecDepth 100000 in
set_option maxHeartbeats 8000000 in
theorem rrun_loop_true (s : ByteArray) (p : Nat) (w : World) (hs : s.size ≤ 4611686018427387000) (hp : p < s.size) (hx : hdB (s.extract p s.size) 120 88 = true) (hbeg : Nm.begins ((bl s).drop p) = true) :
    Calls Tryz.prog 63 #[.string s, .int .i64 p] w fun e w' => e = .returned (.int .i64 ((p + Nm.runOf ((bl s).drop p) : Nat) : Int)) ∧ w = w' := by
  have K16 := fun w => headed_any (s.extract p s.size) 120 88 w (by omega) (by omega)
  have hpf := pfx16 (s.extract p s.size)
  rw [bl_from] at hpf
  have hexd : decide (Nm.pfx ((bl s).drop p) = 16) = true := by rw [← hx, Bool.eq_iff_iff, decide_eq_true_eq]; exact hpf
  have hf := run_first s p hp
  rw [hexd] at hf
  rw [hx] at K16
  have hb0 : (0 : Int) ≤ (p : Int) := by omega
  have hb1 : (p : Int) < (s.size : Int) := by omega
  have hb1' : (p : Int) ≤ (s.size : Int) := by omega
  have e1 := byN_get s p hp
  have l1 := byN_lt s p
  rw [begins_spell s p hp] at hbeg
  have hin0 : innerN (byN s p) = true := by
    by_cases hc : byN s p = 46
    · rw [hc]; rfl
    · rw [if_neg hc] at hbeg
      have := of_decide_eq_true hbeg
      exact Nm.inner_dig (c := s.get! p) (by show dgN (byN s p) < 16; omega)
  have Hf := Lib.hid hf
  have Hin0 := Lib.hid hin0
  have HD := fun w => nrdigit_any (byN s p) 10 l1 (by omega) w
  clear hf hin0 hexd hpf hx
  -- the entry: two ways
  have enter : ∀ (Q : Prop), Q → Q := fun _ q => q
  by_cases hc : byN s p = 46
  · rw [if_pos hc] at hbeg
    have h2 : p + 1 < s.size := by
      by_cases h : p + 1 < s.size
      · exact h
      · rw [bl_over s (p + 1) h] at hbeg; cases hbeg
    have b2 : (p : Int) + 1 < (s.size : Int) := by omega
    have b3 : (0 : Int) ≤ (p : Int) + 1 := by omega
    have b4 : ((p : Int) + 1 == (s.size : Int)) = false := beq_eq_false_iff_ne.2 (by omega)
    have e2 := byN_get s (p + 1) h2
    have l2 := byN_lt s (p + 1)
    rw [hd_at s (p + 1) 10 h2] at hbeg
    have H2 := fun w => nrdigit_any (byN s (p + 1)) 10 l2 (by omega) w
    have hf : decide (dgN (byN s (p + 1)) < 10) = true := by
      have := of_decide_eq_true hbeg
      exact decide_eq_true (by omega)
    rw [hf] at H2
    rw [hc] at e1 HD
    have HD' : ∀ w, Calls Tryz.prog 82 #[.int .u8 46, .int .i64 10] w fun e w' => e = .returned (.bool false) ∧ w = w' := HD
    clear HD hf hbeg hc
    generalize byN s (p + 1) = B2 at e2 l2 H2
    go_enter Tryz.func63, Tryz.ntmps63
    go_wp2_with fail
    refine (HD' _).mono ?_
    rintro e w' ⟨rfl, rfl⟩
    go_wp2_with fail
    refine (H2 _).mono ?_
    rintro e w' ⟨rfl, rfl⟩
    clear H2 HD' e2 b4 b2 b3 e1 l1 l2
    go_wp2_with fail
    refine (K16 _).mono ?_
    rintro e w' ⟨rfl, rfl⟩
    clear K16
    go_wp2
    go_loop [6] (fun i => ∃ k : Nat, p ≤ k ∧ k ≤ s.size ∧ i = .int .i64 k ∧ (k = p ∨ (p < k ∧ p + Nm.runOf ((bl s).drop p) = k + Nm.runLen true (s.get! (k - 1)) ((bl s).drop k)))) (fun i => s.size - (intOf i).toNat)
    case atStart => exact ⟨p, by omega, by omega, rfl, .inl rfl⟩
    case round =>
      obtain ⟨k, hpk, hk, rfl, hin⟩ := hrel
      have Hin := Lib.hid hin
      clear hin
      by_cases hlt : k < s.size
      · have b0 : (0 : Int) ≤ (k : Int) := by omega
        have b1 : (k : Int) < (s.size : Int) := by omega
        have e1 := byN_get s k hlt
        have l1 := byN_lt s k
        have hst := fun q => run_step s true k q hlt
        obtain ⟨j, hj⟩ : ∃ j, k - 1 = j := ⟨k - 1, rfl⟩
        have hnx : ∀ V, (k = p → innerN (byN s k) = true) → (innerN (byN s k) || (Nm.lt true (s.get! j) && decide (byN s k = 43 ∨ byN s k = 45))) = V → V = true → (k + 1 = p ∨ (p < k + 1 ∧ p + Nm.runOf ((bl s).drop p) = (k + 1) + Nm.runLen true (s.get! (k + 1 - 1)) ((bl s).drop (k + 1)))) := by
          intro V _ h hV
          subst hV
          refine .inr ⟨by omega, ?_⟩
          rcases Hin.out with h1 | ⟨h1, h2⟩
          · subst h1; rw [Hf.out, Nat.add_sub_cancel]; omega
          · rw [h2, hst, hj, if_pos h, Nat.add_sub_cancel]; omega
        have hex' : innerN (byN s k) = false → (Nm.lt true (s.get! j) && decide (byN s k = 43 ∨ byN s k = 45)) = false → k = p + Nm.runOf ((bl s).drop p) := by
          intro h0 h
          rcases Hin.out with h1 | ⟨h1, h2⟩
          · rw [h1] at h0; rw [Hin0.out] at h0; cases h0
          · rw [h2, hst, hj, if_neg (by rw [h0, h]; simp)]; omega
        have hgt : innerN (byN s k) = false → p < k := by
          intro h0
          rcases Hin.out with h1 | ⟨h1, h2⟩
          · rw [h1] at h0; rw [Hin0.out] at h0; cases h0
          · exact h1
        rw [lt_true] at hnx hex'
        have NX := Lib.hid hnx
        have EX := Lib.hid hex'
        have GT := Lib.hid hgt
        clear hnx hex' hgt hst Hin
        have iw := inner_ways (byN s k)
        generalize byN s k = B at e1 l1 NX EX GT iw
        rcases iw with ⟨hv, hw⟩ | ⟨hv, hw⟩
        · have NXF := Lib.hid (NX.out true (fun _ => hv) (by rw [hv]; rfl) rfl)
          clear NX EX GT hv
          rcases hw with ⟨q1, q2⟩ | ⟨q1, q2⟩ | ⟨q1, q2⟩ | rfl | rfl
          · skip
            have f0 : (97 : Int) ≤ B := by omega
            have f1 : (B : Int) ≤ 122 := by omega
            have f2 : (48 : Int) ≤ B := by omega
            have f3 : ¬ (B : Int) ≤ 57 := by omega
            have f4 : (65 : Int) ≤ B := by omega
            have f5 : ¬ (B : Int) ≤ 90 := by omega
            have g0 : ((B : Int) == 95) = false := beq_eq_false_iff_ne.2 (by omega)
            have g1 : ((B : Int) == 46) = false := beq_eq_false_iff_ne.2 (by omega)
            go_wp2
            go_round
            case rel => exact ⟨k + 1, by omega, by omega, by go_num, NXF.out⟩
            case measure => simp [intOf]; omega
          · skip
            have f0 : (65 : Int) ≤ B := by omega
            have f1 : (B : Int) ≤ 90 := by omega
            have f2 : (48 : Int) ≤ B := by omega
            have f3 : ¬ (B : Int) ≤ 57 := by omega
            have f4 : ¬ (97 : Int) ≤ B := by omega
            have g0 : ((B : Int) == 95) = false := beq_eq_false_iff_ne.2 (by omega)
            have g1 : ((B : Int) == 46) = false := beq_eq_false_iff_ne.2 (by omega)
            go_wp2
            go_round
            case rel => exact ⟨k + 1, by omega, by omega, by go_num, NXF.out⟩
            case measure => simp [intOf]; omega
          · skip
            have f0 : (48 : Int) ≤ B := by omega
            have f1 : (B : Int) ≤ 57 := by omega
            have f2 : ¬ (97 : Int) ≤ B := by omega
            have f3 : ¬ (65 : Int) ≤ B := by omega
            have g0 : ((B : Int) == 95) = false := beq_eq_false_iff_ne.2 (by omega)
            have g1 : ((B : Int) == 46) = false := beq_eq_false_iff_ne.2 (by omega)
            go_wp2
            go_round
            case rel => exact ⟨k + 1, by omega, by omega, by go_num, NXF.out⟩
            case measure => simp [intOf]; omega
          · skip
            go_wp2
            go_round
            case rel => exact ⟨k + 1, by omega, by omega, by go_num, NXF.out⟩
            case measure => simp [intOf]; omega
          · skip
            go_wp2
            go_round
            case rel => exact ⟨k + 1, by omega, by omega, by go_num, NXF.out⟩
            case measure => simp [intOf]; omega
        · have hgt := GT.out hv
          have hgt2 : (p : Int) < (k : Int) := by omega
          have hjs : j < s.size := by omega
          have cp : (k : Int) - 1 = (j : Int) := by omega
          have c2 : (0 : Int) ≤ (j : Int) := by omega
          have c3 : (j : Int) < (s.size : Int) := by omega
          have ej := byN_get s j hjs
          have lj := byN_lt s j
          generalize byN s j = C at ej lj NX EX
          have Hv := Lib.hid hv
          clear hv GT hj
          rcases hw with ⟨q1, q2⟩ | ⟨q1, q2⟩ | ⟨q1, q2, q3⟩ | q1
          · skip
            have f0 : ¬ (48 : Int) ≤ B := by omega
            have f1 : ¬ (97 : Int) ≤ B := by omega
            have f2 : ¬ (65 : Int) ≤ B := by omega
            have g0 : ((B : Int) == 95) = false := beq_eq_false_iff_ne.2 (by omega)
            have g1 : ((B : Int) == 46) = false := beq_eq_false_iff_ne.2 (by omega)
            by_cases hB : B = 43
            · subst hB
              by_cases hA : C = 112
              · have NXF := Lib.hid (NX.out true (fun h => absurd h (by omega)) (by rw [Hv.out, hA]; rfl) rfl)
                subst hA
                clear NX EX
                go_wp2
                go_round
                case rel => exact ⟨k + 1, by omega, by omega, by go_num, NXF.out⟩
                case measure => simp [intOf]; omega
              · have m1 : ((C : Int) == 112) = false := beq_eq_false_iff_ne.2 (by omega)
                by_cases hA2 : C = 80
                · have NXF := Lib.hid (NX.out true (fun h => absurd h (by omega)) (by rw [Hv.out, hA2]; rfl) rfl)
                  subst hA2
                  clear NX EX
                  go_wp2
                  go_round
                  case rel => exact ⟨k + 1, by omega, by omega, by go_num, NXF.out⟩
                  case measure => simp [intOf]; omega
                · have m2 : ((C : Int) == 80) = false := beq_eq_false_iff_ne.2 (by omega)
                  have hfin := EX.out Hv.out (by simp [hA, hA2])
                  have Hfin := Lib.hid hfin
                  clear hfin NX EX hA hA2
                  go_wp2
                  go_ret
                  exact ⟨ret_i64n Hfin.out, rfl⟩
            · have d1 : ((B : Int) == 43) = false := beq_eq_false_iff_ne.2 (by omega)
              by_cases hB2 : B = 45
              · subst hB2
                by_cases hA : C = 112
                · have NXF := Lib.hid (NX.out true (fun h => absurd h (by omega)) (by rw [Hv.out, hA]; rfl) rfl)
                  subst hA
                  clear NX EX
                  go_wp2
                  go_round
                  case rel => exact ⟨k + 1, by omega, by omega, by go_num, NXF.out⟩
                  case measure => simp [intOf]; omega
                · have m1 : ((C : Int) == 112) = false := beq_eq_false_iff_ne.2 (by omega)
                  by_cases hA2 : C = 80
                  · have NXF := Lib.hid (NX.out true (fun h => absurd h (by omega)) (by rw [Hv.out, hA2]; rfl) rfl)
                    subst hA2
                    clear NX EX
                    go_wp2
                    go_round
                    case rel => exact ⟨k + 1, by omega, by omega, by go_num, NXF.out⟩
                    case measure => simp [intOf]; omega
                  · have m2 : ((C : Int) == 80) = false := beq_eq_false_iff_ne.2 (by omega)
                    have hfin := EX.out Hv.out (by simp [hA, hA2])
                    have Hfin := Lib.hid hfin
                    clear hfin NX EX hA hA2
                    go_wp2
                    go_ret
                    exact ⟨ret_i64n Hfin.out, rfl⟩
              · have d2 : ((B : Int) == 45) = false := beq_eq_false_iff_ne.2 (by omega)
                have hfin := EX.out Hv.out (by simp [hB, hB2])
                have Hfin := Lib.hid hfin
                clear hfin NX EX hB hB2
                go_wp2
                go_ret
                exact ⟨ret_i64n Hfin.out, rfl⟩
          · skip
            have f0 : (48 : Int) ≤ B := by omega
            have f1 : ¬ (B : Int) ≤ 57 := by omega
            have f2 : ¬ (97 : Int) ≤ B := by omega
            have f3 : ¬ (65 : Int) ≤ B := by omega
            have g0 : ((B : Int) == 95) = false := beq_eq_false_iff_ne.2 (by omega)
            have g1 : ((B : Int) == 46) = false := beq_eq_false_iff_ne.2 (by omega)
            have d1 : ((B : Int) == 43) = false := beq_eq_false_iff_ne.2 (by omega)
            have d2 : ((B : Int) == 45) = false := beq_eq_false_iff_ne.2 (by omega)
            have hfin := EX.out Hv.out (by simp; omega)
            have Hfin := Lib.hid hfin
            clear hfin NX EX
            go_wp2
            go_ret
            exact ⟨ret_i64n Hfin.out, rfl⟩
          · skip
            have f0 : (48 : Int) ≤ B := by omega
            have f1 : ¬ (B : Int) ≤ 57 := by omega
            have f2 : ¬ (97 : Int) ≤ B := by omega
            have f3 : (65 : Int) ≤ B := by omega
            have f4 : ¬ (B : Int) ≤ 90 := by omega
            have g0 : ((B : Int) == 95) = false := beq_eq_false_iff_ne.2 (by omega)
            have g1 : ((B : Int) == 46) = false := beq_eq_false_iff_ne.2 (by omega)
            have d1 : ((B : Int) == 43) = false := beq_eq_false_iff_ne.2 (by omega)
            have d2 : ((B : Int) == 45) = false := beq_eq_false_iff_ne.2 (by omega)
            have hfin := EX.out Hv.out (by simp; omega)
            have Hfin := Lib.hid hfin
            clear hfin NX EX
            go_wp2
            go_ret
            exact ⟨ret_i64n Hfin.out, rfl⟩
          · skip
            have f0 : (48 : Int) ≤ B := by omega
            have f1 : ¬ (B : Int) ≤ 57 := by omega
            have f2 : (97 : Int) ≤ B := by omega
            have f3 : ¬ (B : Int) ≤ 122 := by omega
            have f4 : (65 : Int) ≤ B := by omega
            have f5 : ¬ (B : Int) ≤ 90 := by omega
            have g0 : ((B : Int) == 95) = false := beq_eq_false_iff_ne.2 (by omega)
            have g1 : ((B : Int) == 46) = false := beq_eq_false_iff_ne.2 (by omega)
            have d1 : ((B : Int) == 43) = false := beq_eq_false_iff_ne.2 (by omega)
            have d2 : ((B : Int) == 45) = false := beq_eq_false_iff_ne.2 (by omega)
            have hfin := EX.out Hv.out (by simp; omega)
            have Hfin := Lib.hid hfin
            clear hfin NX EX
            go_wp2
            go_ret
            exact ⟨ret_i64n Hfin.out, rfl⟩
      · obtain rfl : k = s.size := by omega
        have hfin : s.size = p + Nm.runOf ((bl s).drop p) := by
          rcases Hin.out with h1 | ⟨h1, h2⟩
          · omega
          · rw [h2, bl_over s s.size (by omega)]; simp [Nm.runLen]
        have Hfin := Lib.hid hfin
        clear hfin Hin
        go_wp2
        go_ret
        exact ⟨ret_i64n Hfin.out, rfl⟩
  · rw [if_neg hc] at hbeg
    rw [hbeg] at HD
    have d1 : ((byN s p : Int) != 46) = true := by simp; omega
    have d2 : ((byN s p : Int) == 46) = false := beq_eq_false_iff_ne.2 (by omega)
    clear hc hbeg
    generalize byN s p = B0 at e1 l1 d1 d2 HD
    go_enter Tryz.func63, Tryz.ntmps63
    go_wp2_with fail
    refine (HD _).mono ?_
    rintro e w' ⟨rfl, rfl⟩
    clear HD e1 l1 d1 d2
    go_wp2_with fail
    refine (K16 _).mono ?_
    rintro e w' ⟨rfl, rfl⟩
    clear K16
    go_wp2
    go_loop [6] (fun i => ∃ k : Nat, p ≤ k ∧ k ≤ s.size ∧ i = .int .i64 k ∧ (k = p ∨ (p < k ∧ p + Nm.runOf ((bl s).drop p) = k + Nm.runLen true (s.get! (k - 1)) ((bl s).drop k)))) (fun i => s.size - (intOf i).toNat)
    case atStart => exact ⟨p, by omega, by omega, rfl, .inl rfl⟩
    case round =>
      obtain ⟨k, hpk, hk, rfl, hin⟩ := hrel
      have Hin := Lib.hid hin
      clear hin
      by_cases hlt : k < s.size
      · have b0 : (0 : Int) ≤ (k : Int) := by omega
        have b1 : (k : Int) < (s.size : Int) := by omega
        have e1 := byN_get s k hlt
        have l1 := byN_lt s k
        have hst := fun q => run_step s true k q hlt
        obtain ⟨j, hj⟩ : ∃ j, k - 1 = j := ⟨k - 1, rfl⟩
        have hnx : ∀ V, (k = p → innerN (byN s k) = true) → (innerN (byN s k) || (Nm.lt true (s.get! j) && decide (byN s k = 43 ∨ byN s k = 45))) = V → V = true → (k + 1 = p ∨ (p < k + 1 ∧ p + Nm.runOf ((bl s).drop p) = (k + 1) + Nm.runLen true (s.get! (k + 1 - 1)) ((bl s).drop (k + 1)))) := by
          intro V _ h hV
          subst hV
          refine .inr ⟨by omega, ?_⟩
          rcases Hin.out with h1 | ⟨h1, h2⟩
          · subst h1; rw [Hf.out, Nat.add_sub_cancel]; omega
          · rw [h2, hst, hj, if_pos h, Nat.add_sub_cancel]; omega
        have hex' : innerN (byN s k) = false → (Nm.lt true (s.get! j) && decide (byN s k = 43 ∨ byN s k = 45)) = false → k = p + Nm.runOf ((bl s).drop p) := by
          intro h0 h
          rcases Hin.out with h1 | ⟨h1, h2⟩
          · rw [h1] at h0; rw [Hin0.out] at h0; cases h0
          · rw [h2, hst, hj, if_neg (by rw [h0, h]; simp)]; omega
        have hgt : innerN (byN s k) = false → p < k := by
          intro h0
          rcases Hin.out with h1 | ⟨h1, h2⟩
          · rw [h1] at h0; rw [Hin0.out] at h0; cases h0
          · exact h1
        rw [lt_true] at hnx hex'
        have NX := Lib.hid hnx
        have EX := Lib.hid hex'
        have GT := Lib.hid hgt
        clear hnx hex' hgt hst Hin
        have iw := inner_ways (byN s k)
        generalize byN s k = B at e1 l1 NX EX GT iw
        rcases iw with ⟨hv, hw⟩ | ⟨hv, hw⟩
        · have NXF := Lib.hid (NX.out true (fun _ => hv) (by rw [hv]; rfl) rfl)
          clear NX EX GT hv
          rcases hw with ⟨q1, q2⟩ | ⟨q1, q2⟩ | ⟨q1, q2⟩ | rfl | rfl
          · skip
            have f0 : (97 : Int) ≤ B := by omega
            have f1 : (B : Int) ≤ 122 := by omega
            have f2 : (48 : Int) ≤ B := by omega
            have f3 : ¬ (B : Int) ≤ 57 := by omega
            have f4 : (65 : Int) ≤ B := by omega
            have f5 : ¬ (B : Int) ≤ 90 := by omega
            have g0 : ((B : Int) == 95) = false := beq_eq_false_iff_ne.2 (by omega)
            have g1 : ((B : Int) == 46) = false := beq_eq_false_iff_ne.2 (by omega)
            go_wp2
            go_round
            case rel => exact ⟨k + 1, by omega, by omega, by go_num, NXF.out⟩
            case measure => simp [intOf]; omega
          · skip
            have f0 : (65 : Int) ≤ B := by omega
            have f1 : (B : Int) ≤ 90 := by omega
            have f2 : (48 : Int) ≤ B := by omega
            have f3 : ¬ (B : Int) ≤ 57 := by omega
            have f4 : ¬ (97 : Int) ≤ B := by omega
            have g0 : ((B : Int) == 95) = false := beq_eq_false_iff_ne.2 (by omega)
            have g1 : ((B : Int) == 46) = false := beq_eq_false_iff_ne.2 (by omega)
            go_wp2
            go_round
            case rel => exact ⟨k + 1, by omega, by omega, by go_num, NXF.out⟩
            case measure => simp [intOf]; omega
          · skip
            have f0 : (48 : Int) ≤ B := by omega
            have f1 : (B : Int) ≤ 57 := by omega
            have f2 : ¬ (97 : Int) ≤ B := by omega
            have f3 : ¬ (65 : Int) ≤ B := by omega
            have g0 : ((B : Int) == 95) = false := beq_eq_false_iff_ne.2 (by omega)
            have g1 : ((B : Int) == 46) = false := beq_eq_false_iff_ne.2 (by omega)
            go_wp2
            go_round
            case rel => exact ⟨k + 1, by omega, by omega, by go_num, NXF.out⟩
            case measure => simp [intOf]; omega
          · skip
            go_wp2
            go_round
            case rel => exact ⟨k + 1, by omega, by omega, by go_num, NXF.out⟩
            case measure => simp [intOf]; omega
          · skip
            go_wp2
            go_round
            case rel => exact ⟨k + 1, by omega, by omega, by go_num, NXF.out⟩
            case measure => simp [intOf]; omega
        · have hgt := GT.out hv
          have hgt2 : (p : Int) < (k : Int) := by omega
          have hjs : j < s.size := by omega
          have cp : (k : Int) - 1 = (j : Int) := by omega
          have c2 : (0 : Int) ≤ (j : Int) := by omega
          have c3 : (j : Int) < (s.size : Int) := by omega
          have ej := byN_get s j hjs
          have lj := byN_lt s j
          generalize byN s j = C at ej lj NX EX
          have Hv := Lib.hid hv
          clear hv GT hj
          rcases hw with ⟨q1, q2⟩ | ⟨q1, q2⟩ | ⟨q1, q2, q3⟩ | q1
          · skip
            have f0 : ¬ (48 : Int) ≤ B := by omega
            have f1 : ¬ (97 : Int) ≤ B := by omega
            have f2 : ¬ (65 : Int) ≤ B := by omega
            have g0 : ((B : Int) == 95) = false := beq_eq_false_iff_ne.2 (by omega)
            have g1 : ((B : Int) == 46) = false := beq_eq_false_iff_ne.2 (by omega)
            by_cases hB : B = 43
            · subst hB
              by_cases hA : C = 112
              · have NXF := Lib.hid (NX.out true (fun h => absurd h (by omega)) (by rw [Hv.out, hA]; rfl) rfl)
                subst hA
                clear NX EX
                go_wp2
                go_round
                case rel => exact ⟨k + 1, by omega, by omega, by go_num, NXF.out⟩
                case measure => simp [intOf]; omega
              · have m1 : ((C : Int) == 112) = false := beq_eq_false_iff_ne.2 (by omega)
                by_cases hA2 : C = 80
                · have NXF := Lib.hid (NX.out true (fun h => absurd h (by omega)) (by rw [Hv.out, hA2]; rfl) rfl)
                  subst hA2
                  clear NX EX
                  go_wp2
                  go_round
                  case rel => exact ⟨k + 1, by omega, by omega, by go_num, NXF.out⟩
                  case measure => simp [intOf]; omega
                · have m2 : ((C : Int) == 80) = false := beq_eq_false_iff_ne.2 (by omega)
                  have hfin := EX.out Hv.out (by simp [hA, hA2])
                  have Hfin := Lib.hid hfin
                  clear hfin NX EX hA hA2
                  go_wp2
                  go_ret
                  exact ⟨ret_i64n Hfin.out, rfl⟩
            · have d1 : ((B : Int) == 43) = false := beq_eq_false_iff_ne.2 (by omega)
              by_cases hB2 : B = 45
              · subst hB2
                by_cases hA : C = 112
                · have NXF := Lib.hid (NX.out true (fun h => absurd h (by omega)) (by rw [Hv.out, hA]; rfl) rfl)
                  subst hA
                  clear NX EX
                  go_wp2
                  go_round
                  case rel => exact ⟨k + 1, by omega, by omega, by go_num, NXF.out⟩
                  case measure => simp [intOf]; omega
                · have m1 : ((C : Int) == 112) = false := beq_eq_false_iff_ne.2 (by omega)
                  by_cases hA2 : C = 80
                  · have NXF := Lib.hid (NX.out true (fun h => absurd h (by omega)) (by rw [Hv.out, hA2]; rfl) rfl)
                    subst hA2
                    clear NX EX
                    go_wp2
                    go_round
                    case rel => exact ⟨k + 1, by omega, by omega, by go_num, NXF.out⟩
                    case measure => simp [intOf]; omega
                  · have m2 : ((C : Int) == 80) = false := beq_eq_false_iff_ne.2 (by omega)
                    have hfin := EX.out Hv.out (by simp [hA, hA2])
                    have Hfin := Lib.hid hfin
                    clear hfin NX EX hA hA2
                    go_wp2
                    go_ret
                    exact ⟨ret_i64n Hfin.out, rfl⟩
              · have d2 : ((B : Int) == 45) = false := beq_eq_false_iff_ne.2 (by omega)
                have hfin := EX.out Hv.out (by simp [hB, hB2])
                have Hfin := Lib.hid hfin
                clear hfin NX EX hB hB2
                go_wp2
                go_ret
                exact ⟨ret_i64n Hfin.out, rfl⟩
          · skip
            have f0 : (48 : Int) ≤ B := by omega
            have f1 : ¬ (B : Int) ≤ 57 := by omega
            have f2 : ¬ (97 : Int) ≤ B := by omega
            have f3 : ¬ (65 : Int) ≤ B := by omega
            have g0 : ((B : Int) == 95) = false := beq_eq_false_iff_ne.2 (by omega)
            have g1 : ((B : Int) == 46) = false := beq_eq_false_iff_ne.2 (by omega)
            have d1 : ((B : Int) == 43) = false := beq_eq_false_iff_ne.2 (by omega)
            have d2 : ((B : Int) == 45) = false := beq_eq_false_iff_ne.2 (by omega)
            have hfin := EX.out Hv.out (by simp; omega)
            have Hfin := Lib.hid hfin
            clear hfin NX EX
            go_wp2
            go_ret
            exact ⟨ret_i64n Hfin.out, rfl⟩
          · skip
            have f0 : (48 : Int) ≤ B := by omega
            have f1 : ¬ (B : Int) ≤ 57 := by omega
            have f2 : ¬ (97 : Int) ≤ B := by omega
            have f3 : (65 : Int) ≤ B := by omega
            have f4 : ¬ (B : Int) ≤ 90 := by omega
            have g0 : ((B : Int) == 95) = false := beq_eq_false_iff_ne.2 (by omega)
            have g1 : ((B : Int) == 46) = false := beq_eq_false_iff_ne.2 (by omega)
            have d1 : ((B : Int) == 43) = false := beq_eq_false_iff_ne.2 (by omega)
            have d2 : ((B : Int) == 45) = false := beq_eq_false_iff_ne.2 (by omega)
            have hfin := EX.out Hv.out (by simp; omega)
            have Hfin := Lib.hid hfin
            clear hfin NX EX
            go_wp2
            go_ret
            exact ⟨ret_i64n Hfin.out, rfl⟩
          · skip
            have f0 : (48 : Int) ≤ B := by omega
            have f1 : ¬ (B : Int) ≤ 57 := by omega
            have f2 : (97 : Int) ≤ B := by omega
            have f3 : ¬ (B : Int) ≤ 122 := by omega
            have f4 : (65 : Int) ≤ B := by omega
            have f5 : ¬ (B : Int) ≤ 90 := by omega
            have g0 : ((B : Int) == 95) = false := beq_eq_false_iff_ne.2 (by omega)
            have g1 : ((B : Int) == 46) = false := beq_eq_false_iff_ne.2 (by omega)
            have d1 : ((B : Int) == 43) = false := beq_eq_false_iff_ne.2 (by omega)
            have d2 : ((B : Int) == 45) = false := beq_eq_false_iff_ne.2 (by omega)
            have hfin := EX.out Hv.out (by simp; omega)
            have Hfin := Lib.hid hfin
            clear hfin NX EX
            go_wp2
            go_ret
            exact ⟨ret_i64n Hfin.out, rfl⟩
      · obtain rfl : k = s.size := by omega
        have hfin : s.size = p + Nm.runOf ((bl s).drop p) := by
          rcases Hin.out with h1 | ⟨h1, h2⟩
          · omega
          · rw [h2, bl_over s s.size (by omega)]; simp [Nm.runLen]
        have Hfin := Lib.hid hfin
        clear hfin Hin
        go_wp2
        go_ret
        exact ⟨ret_i64n Hfin.out, rfl⟩

set_option maxRecDepth 100000 in
set_option maxHeartbeats 8000000 in
theorem rrun_loop_false (s : ByteArray) (p : Nat) (w : World) (hs : s.size ≤ 4611686018427387000) (hp : p < s.size) (hx : hdB (s.extract p s.size) 120 88 = false) (hbeg : Nm.begins ((bl s).drop p) = true) :
    Calls Tryz.prog 63 #[.string s, .int .i64 p] w fun e w' => e = .returned (.int .i64 ((p + Nm.runOf ((bl s).drop p) : Nat) : Int)) ∧ w = w' := by
  have K16 := fun w => headed_any (s.extract p s.size) 120 88 w (by omega) (by omega)
  have hpf := pfx16 (s.extract p s.size)
  rw [bl_from] at hpf
  have hexd : decide (Nm.pfx ((bl s).drop p) = 16) = false := by rw [← hx, Bool.eq_iff_iff, decide_eq_true_eq]; exact hpf
  have hf := run_first s p hp
  rw [hexd] at hf
  rw [hx] at K16
  have hb0 : (0 : Int) ≤ (p : Int) := by omega
  have hb1 : (p : Int) < (s.size : Int) := by omega
  have hb1' : (p : Int) ≤ (s.size : Int) := by omega
  have e1 := byN_get s p hp
  have l1 := byN_lt s p
  rw [begins_spell s p hp] at hbeg
  have hin0 : innerN (byN s p) = true := by
    by_cases hc : byN s p = 46
    · rw [hc]; rfl
    · rw [if_neg hc] at hbeg
      have := of_decide_eq_true hbeg
      exact Nm.inner_dig (c := s.get! p) (by show dgN (byN s p) < 16; omega)
  have Hf := Lib.hid hf
  have Hin0 := Lib.hid hin0
  have HD := fun w => nrdigit_any (byN s p) 10 l1 (by omega) w
  clear hf hin0 hexd hpf hx
  -- the entry: two ways
  have enter : ∀ (Q : Prop), Q → Q := fun _ q => q
  by_cases hc : byN s p = 46
  · rw [if_pos hc] at hbeg
    have h2 : p + 1 < s.size := by
      by_cases h : p + 1 < s.size
      · exact h
      · rw [bl_over s (p + 1) h] at hbeg; cases hbeg
    have b2 : (p : Int) + 1 < (s.size : Int) := by omega
    have b3 : (0 : Int) ≤ (p : Int) + 1 := by omega
    have b4 : ((p : Int) + 1 == (s.size : Int)) = false := beq_eq_false_iff_ne.2 (by omega)
    have e2 := byN_get s (p + 1) h2
    have l2 := byN_lt s (p + 1)
    rw [hd_at s (p + 1) 10 h2] at hbeg
    have H2 := fun w => nrdigit_any (byN s (p + 1)) 10 l2 (by omega) w
    have hf : decide (dgN (byN s (p + 1)) < 10) = true := by
      have := of_decide_eq_true hbeg
      exact decide_eq_true (by omega)
    rw [hf] at H2
    rw [hc] at e1 HD
    have HD' : ∀ w, Calls Tryz.prog 82 #[.int .u8 46, .int .i64 10] w fun e w' => e = .returned (.bool false) ∧ w = w' := HD
    clear HD hf hbeg hc
    generalize byN s (p + 1) = B2 at e2 l2 H2
    go_enter Tryz.func63, Tryz.ntmps63
    go_wp2_with fail
    refine (HD' _).mono ?_
    rintro e w' ⟨rfl, rfl⟩
    go_wp2_with fail
    refine (H2 _).mono ?_
    rintro e w' ⟨rfl, rfl⟩
    clear H2 HD' e2 b4 b2 b3 e1 l1 l2
    go_wp2_with fail
    refine (K16 _).mono ?_
    rintro e w' ⟨rfl, rfl⟩
    clear K16
    go_wp2
    go_loop [6] (fun i => ∃ k : Nat, p ≤ k ∧ k ≤ s.size ∧ i = .int .i64 k ∧ (k = p ∨ (p < k ∧ p + Nm.runOf ((bl s).drop p) = k + Nm.runLen false (s.get! (k - 1)) ((bl s).drop k)))) (fun i => s.size - (intOf i).toNat)
    case atStart => exact ⟨p, by omega, by omega, rfl, .inl rfl⟩
    case round =>
      obtain ⟨k, hpk, hk, rfl, hin⟩ := hrel
      have Hin := Lib.hid hin
      clear hin
      by_cases hlt : k < s.size
      · have b0 : (0 : Int) ≤ (k : Int) := by omega
        have b1 : (k : Int) < (s.size : Int) := by omega
        have e1 := byN_get s k hlt
        have l1 := byN_lt s k
        have hst := fun q => run_step s false k q hlt
        obtain ⟨j, hj⟩ : ∃ j, k - 1 = j := ⟨k - 1, rfl⟩
        have hnx : ∀ V, (k = p → innerN (byN s k) = true) → (innerN (byN s k) || (Nm.lt false (s.get! j) && decide (byN s k = 43 ∨ byN s k = 45))) = V → V = true → (k + 1 = p ∨ (p < k + 1 ∧ p + Nm.runOf ((bl s).drop p) = (k + 1) + Nm.runLen false (s.get! (k + 1 - 1)) ((bl s).drop (k + 1)))) := by
          intro V _ h hV
          subst hV
          refine .inr ⟨by omega, ?_⟩
          rcases Hin.out with h1 | ⟨h1, h2⟩
          · subst h1; rw [Hf.out, Nat.add_sub_cancel]; omega
          · rw [h2, hst, hj, if_pos h, Nat.add_sub_cancel]; omega
        have hex' : innerN (byN s k) = false → (Nm.lt false (s.get! j) && decide (byN s k = 43 ∨ byN s k = 45)) = false → k = p + Nm.runOf ((bl s).drop p) := by
          intro h0 h
          rcases Hin.out with h1 | ⟨h1, h2⟩
          · rw [h1] at h0; rw [Hin0.out] at h0; cases h0
          · rw [h2, hst, hj, if_neg (by rw [h0, h]; simp)]; omega
        have hgt : innerN (byN s k) = false → p < k := by
          intro h0
          rcases Hin.out with h1 | ⟨h1, h2⟩
          · rw [h1] at h0; rw [Hin0.out] at h0; cases h0
          · exact h1
        rw [lt_false] at hnx hex'
        have NX := Lib.hid hnx
        have EX := Lib.hid hex'
        have GT := Lib.hid hgt
        clear hnx hex' hgt hst Hin
        have iw := inner_ways (byN s k)
        generalize byN s k = B at e1 l1 NX EX GT iw
        rcases iw with ⟨hv, hw⟩ | ⟨hv, hw⟩
        · have NXF := Lib.hid (NX.out true (fun _ => hv) (by rw [hv]; rfl) rfl)
          clear NX EX GT hv
          rcases hw with ⟨q1, q2⟩ | ⟨q1, q2⟩ | ⟨q1, q2⟩ | rfl | rfl
          · skip
            have f0 : (97 : Int) ≤ B := by omega
            have f1 : (B : Int) ≤ 122 := by omega
            have f2 : (48 : Int) ≤ B := by omega
            have f3 : ¬ (B : Int) ≤ 57 := by omega
            have f4 : (65 : Int) ≤ B := by omega
            have f5 : ¬ (B : Int) ≤ 90 := by omega
            have g0 : ((B : Int) == 95) = false := beq_eq_false_iff_ne.2 (by omega)
            have g1 : ((B : Int) == 46) = false := beq_eq_false_iff_ne.2 (by omega)
            go_wp2
            go_round
            case rel => exact ⟨k + 1, by omega, by omega, by go_num, NXF.out⟩
            case measure => simp [intOf]; omega
          · skip
            have f0 : (65 : Int) ≤ B := by omega
            have f1 : (B : Int) ≤ 90 := by omega
            have f2 : (48 : Int) ≤ B := by omega
            have f3 : ¬ (B : Int) ≤ 57 := by omega
            have f4 : ¬ (97 : Int) ≤ B := by omega
            have g0 : ((B : Int) == 95) = false := beq_eq_false_iff_ne.2 (by omega)
            have g1 : ((B : Int) == 46) = false := beq_eq_false_iff_ne.2 (by omega)
            go_wp2
            go_round
            case rel => exact ⟨k + 1, by omega, by omega, by go_num, NXF.out⟩
            case measure => simp [intOf]; omega
          · skip
            have f0 : (48 : Int) ≤ B := by omega
            have f1 : (B : Int) ≤ 57 := by omega
            have f2 : ¬ (97 : Int) ≤ B := by omega
            have f3 : ¬ (65 : Int) ≤ B := by omega
            have g0 : ((B : Int) == 95) = false := beq_eq_false_iff_ne.2 (by omega)
            have g1 : ((B : Int) == 46) = false := beq_eq_false_iff_ne.2 (by omega)
            go_wp2
            go_round
            case rel => exact ⟨k + 1, by omega, by omega, by go_num, NXF.out⟩
            case measure => simp [intOf]; omega
          · skip
            go_wp2
            go_round
            case rel => exact ⟨k + 1, by omega, by omega, by go_num, NXF.out⟩
            case measure => simp [intOf]; omega
          · skip
            go_wp2
            go_round
            case rel => exact ⟨k + 1, by omega, by omega, by go_num, NXF.out⟩
            case measure => simp [intOf]; omega
        · have hgt := GT.out hv
          have hgt2 : (p : Int) < (k : Int) := by omega
          have hjs : j < s.size := by omega
          have cp : (k : Int) - 1 = (j : Int) := by omega
          have c2 : (0 : Int) ≤ (j : Int) := by omega
          have c3 : (j : Int) < (s.size : Int) := by omega
          have ej := byN_get s j hjs
          have lj := byN_lt s j
          generalize byN s j = C at ej lj NX EX
          have Hv := Lib.hid hv
          clear hv GT hj
          rcases hw with ⟨q1, q2⟩ | ⟨q1, q2⟩ | ⟨q1, q2, q3⟩ | q1
          · skip
            have f0 : ¬ (48 : Int) ≤ B := by omega
            have f1 : ¬ (97 : Int) ≤ B := by omega
            have f2 : ¬ (65 : Int) ≤ B := by omega
            have g0 : ((B : Int) == 95) = false := beq_eq_false_iff_ne.2 (by omega)
            have g1 : ((B : Int) == 46) = false := beq_eq_false_iff_ne.2 (by omega)
            by_cases hB : B = 43
            · subst hB
              by_cases hA : C = 101
              · have NXF := Lib.hid (NX.out true (fun h => absurd h (by omega)) (by rw [Hv.out, hA]; rfl) rfl)
                subst hA
                clear NX EX
                go_wp2
                go_round
                case rel => exact ⟨k + 1, by omega, by omega, by go_num, NXF.out⟩
                case measure => simp [intOf]; omega
              · have m1 : ((C : Int) == 101) = false := beq_eq_false_iff_ne.2 (by omega)
                by_cases hA2 : C = 69
                · have NXF := Lib.hid (NX.out true (fun h => absurd h (by omega)) (by rw [Hv.out, hA2]; rfl) rfl)
                  subst hA2
                  clear NX EX
                  go_wp2
                  go_round
                  case rel => exact ⟨k + 1, by omega, by omega, by go_num, NXF.out⟩
                  case measure => simp [intOf]; omega
                · have m2 : ((C : Int) == 69) = false := beq_eq_false_iff_ne.2 (by omega)
                  have hfin := EX.out Hv.out (by simp [hA, hA2])
                  have Hfin := Lib.hid hfin
                  clear hfin NX EX hA hA2
                  go_wp2
                  go_ret
                  exact ⟨ret_i64n Hfin.out, rfl⟩
            · have d1 : ((B : Int) == 43) = false := beq_eq_false_iff_ne.2 (by omega)
              by_cases hB2 : B = 45
              · subst hB2
                by_cases hA : C = 101
                · have NXF := Lib.hid (NX.out true (fun h => absurd h (by omega)) (by rw [Hv.out, hA]; rfl) rfl)
                  subst hA
                  clear NX EX
                  go_wp2
                  go_round
                  case rel => exact ⟨k + 1, by omega, by omega, by go_num, NXF.out⟩
                  case measure => simp [intOf]; omega
                · have m1 : ((C : Int) == 101) = false := beq_eq_false_iff_ne.2 (by omega)
                  by_cases hA2 : C = 69
                  · have NXF := Lib.hid (NX.out true (fun h => absurd h (by omega)) (by rw [Hv.out, hA2]; rfl) rfl)
                    subst hA2
                    clear NX EX
                    go_wp2
                    go_round
                    case rel => exact ⟨k + 1, by omega, by omega, by go_num, NXF.out⟩
                    case measure => simp [intOf]; omega
                  · have m2 : ((C : Int) == 69) = false := beq_eq_false_iff_ne.2 (by omega)
                    have hfin := EX.out Hv.out (by simp [hA, hA2])
                    have Hfin := Lib.hid hfin
                    clear hfin NX EX hA hA2
                    go_wp2
                    go_ret
                    exact ⟨ret_i64n Hfin.out, rfl⟩
              · have d2 : ((B : Int) == 45) = false := beq_eq_false_iff_ne.2 (by omega)
                have hfin := EX.out Hv.out (by simp [hB, hB2])
                have Hfin := Lib.hid hfin
                clear hfin NX EX hB hB2
                go_wp2
                go_ret
                exact ⟨ret_i64n Hfin.out, rfl⟩
          · skip
            have f0 : (48 : Int) ≤ B := by omega
            have f1 : ¬ (B : Int) ≤ 57 := by omega
            have f2 : ¬ (97 : Int) ≤ B := by omega
            have f3 : ¬ (65 : Int) ≤ B := by omega
            have g0 : ((B : Int) == 95) = false := beq_eq_false_iff_ne.2 (by omega)
            have g1 : ((B : Int) == 46) = false := beq_eq_false_iff_ne.2 (by omega)
            have d1 : ((B : Int) == 43) = false := beq_eq_false_iff_ne.2 (by omega)
            have d2 : ((B : Int) == 45) = false := beq_eq_false_iff_ne.2 (by omega)
            have hfin := EX.out Hv.out (by simp; omega)
            have Hfin := Lib.hid hfin
            clear hfin NX EX
            go_wp2
            go_ret
            exact ⟨ret_i64n Hfin.out, rfl⟩
          · skip
            have f0 : (48 : Int) ≤ B := by omega
            have f1 : ¬ (B : Int) ≤ 57 := by omega
            have f2 : ¬ (97 : Int) ≤ B := by omega
            have f3 : (65 : Int) ≤ B := by omega
            have f4 : ¬ (B : Int) ≤ 90 := by omega
            have g0 : ((B : Int) == 95) = false := beq_eq_false_iff_ne.2 (by omega)
            have g1 : ((B : Int) == 46) = false := beq_eq_false_iff_ne.2 (by omega)
            have d1 : ((B : Int) == 43) = false := beq_eq_false_iff_ne.2 (by omega)
            have d2 : ((B : Int) == 45) = false := beq_eq_false_iff_ne.2 (by omega)
            have hfin := EX.out Hv.out (by simp; omega)
            have Hfin := Lib.hid hfin
            clear hfin NX EX
            go_wp2
            go_ret
            exact ⟨ret_i64n Hfin.out, rfl⟩
          · skip
            have f0 : (48 : Int) ≤ B := by omega
            have f1 : ¬ (B : Int) ≤ 57 := by omega
            have f2 : (97 : Int) ≤ B := by omega
            have f3 : ¬ (B : Int) ≤ 122 := by omega
            have f4 : (65 : Int) ≤ B := by omega
            have f5 : ¬ (B : Int) ≤ 90 := by omega
            have g0 : ((B : Int) == 95) = false := beq_eq_false_iff_ne.2 (by omega)
            have g1 : ((B : Int) == 46) = false := beq_eq_false_iff_ne.2 (by omega)
            have d1 : ((B : Int) == 43) = false := beq_eq_false_iff_ne.2 (by omega)
            have d2 : ((B : Int) == 45) = false := beq_eq_false_iff_ne.2 (by omega)
            have hfin := EX.out Hv.out (by simp; omega)
            have Hfin := Lib.hid hfin
            clear hfin NX EX
            go_wp2
            go_ret
            exact ⟨ret_i64n Hfin.out, rfl⟩
      · obtain rfl : k = s.size := by omega
        have hfin : s.size = p + Nm.runOf ((bl s).drop p) := by
          rcases Hin.out with h1 | ⟨h1, h2⟩
          · omega
          · rw [h2, bl_over s s.size (by omega)]; simp [Nm.runLen]
        have Hfin := Lib.hid hfin
        clear hfin Hin
        go_wp2
        go_ret
        exact ⟨ret_i64n Hfin.out, rfl⟩
  · rw [if_neg hc] at hbeg
    rw [hbeg] at HD
    have d1 : ((byN s p : Int) != 46) = true := by simp; omega
    have d2 : ((byN s p : Int) == 46) = false := beq_eq_false_iff_ne.2 (by omega)
    clear hc hbeg
    generalize byN s p = B0 at e1 l1 d1 d2 HD
    go_enter Tryz.func63, Tryz.ntmps63
    go_wp2_with fail
    refine (HD _).mono ?_
    rintro e w' ⟨rfl, rfl⟩
    clear HD e1 l1 d1 d2
    go_wp2_with fail
    refine (K16 _).mono ?_
    rintro e w' ⟨rfl, rfl⟩
    clear K16
    go_wp2
    go_loop [6] (fun i => ∃ k : Nat, p ≤ k ∧ k ≤ s.size ∧ i = .int .i64 k ∧ (k = p ∨ (p < k ∧ p + Nm.runOf ((bl s).drop p) = k + Nm.runLen false (s.get! (k - 1)) ((bl s).drop k)))) (fun i => s.size - (intOf i).toNat)
    case atStart => exact ⟨p, by omega, by omega, rfl, .inl rfl⟩
    case round =>
      obtain ⟨k, hpk, hk, rfl, hin⟩ := hrel
      have Hin := Lib.hid hin
      clear hin
      by_cases hlt : k < s.size
      · have b0 : (0 : Int) ≤ (k : Int) := by omega
        have b1 : (k : Int) < (s.size : Int) := by omega
        have e1 := byN_get s k hlt
        have l1 := byN_lt s k
        have hst := fun q => run_step s false k q hlt
        obtain ⟨j, hj⟩ : ∃ j, k - 1 = j := ⟨k - 1, rfl⟩
        have hnx : ∀ V, (k = p → innerN (byN s k) = true) → (innerN (byN s k) || (Nm.lt false (s.get! j) && decide (byN s k = 43 ∨ byN s k = 45))) = V → V = true → (k + 1 = p ∨ (p < k + 1 ∧ p + Nm.runOf ((bl s).drop p) = (k + 1) + Nm.runLen false (s.get! (k + 1 - 1)) ((bl s).drop (k + 1)))) := by
          intro V _ h hV
          subst hV
          refine .inr ⟨by omega, ?_⟩
          rcases Hin.out with h1 | ⟨h1, h2⟩
          · subst h1; rw [Hf.out, Nat.add_sub_cancel]; omega
          · rw [h2, hst, hj, if_pos h, Nat.add_sub_cancel]; omega
        have hex' : innerN (byN s k) = false → (Nm.lt false (s.get! j) && decide (byN s k = 43 ∨ byN s k = 45)) = false → k = p + Nm.runOf ((bl s).drop p) := by
          intro h0 h
          rcases Hin.out with h1 | ⟨h1, h2⟩
          · rw [h1] at h0; rw [Hin0.out] at h0; cases h0
          · rw [h2, hst, hj, if_neg (by rw [h0, h]; simp)]; omega
        have hgt : innerN (byN s k) = false → p < k := by
          intro h0
          rcases Hin.out with h1 | ⟨h1, h2⟩
          · rw [h1] at h0; rw [Hin0.out] at h0; cases h0
          · exact h1
        rw [lt_false] at hnx hex'
        have NX := Lib.hid hnx
        have EX := Lib.hid hex'
        have GT := Lib.hid hgt
        clear hnx hex' hgt hst Hin
        have iw := inner_ways (byN s k)
        generalize byN s k = B at e1 l1 NX EX GT iw
        rcases iw with ⟨hv, hw⟩ | ⟨hv, hw⟩
        · have NXF := Lib.hid (NX.out true (fun _ => hv) (by rw [hv]; rfl) rfl)
          clear NX EX GT hv
          rcases hw with ⟨q1, q2⟩ | ⟨q1, q2⟩ | ⟨q1, q2⟩ | rfl | rfl
          · skip
            have f0 : (97 : Int) ≤ B := by omega
            have f1 : (B : Int) ≤ 122 := by omega
            have f2 : (48 : Int) ≤ B := by omega
            have f3 : ¬ (B : Int) ≤ 57 := by omega
            have f4 : (65 : Int) ≤ B := by omega
            have f5 : ¬ (B : Int) ≤ 90 := by omega
            have g0 : ((B : Int) == 95) = false := beq_eq_false_iff_ne.2 (by omega)
            have g1 : ((B : Int) == 46) = false := beq_eq_false_iff_ne.2 (by omega)
            go_wp2
            go_round
            case rel => exact ⟨k + 1, by omega, by omega, by go_num, NXF.out⟩
            case measure => simp [intOf]; omega
          · skip
            have f0 : (65 : Int) ≤ B := by omega
            have f1 : (B : Int) ≤ 90 := by omega
            have f2 : (48 : Int) ≤ B := by omega
            have f3 : ¬ (B : Int) ≤ 57 := by omega
            have f4 : ¬ (97 : Int) ≤ B := by omega
            have g0 : ((B : Int) == 95) = false := beq_eq_false_iff_ne.2 (by omega)
            have g1 : ((B : Int) == 46) = false := beq_eq_false_iff_ne.2 (by omega)
            go_wp2
            go_round
            case rel => exact ⟨k + 1, by omega, by omega, by go_num, NXF.out⟩
            case measure => simp [intOf]; omega
          · skip
            have f0 : (48 : Int) ≤ B := by omega
            have f1 : (B : Int) ≤ 57 := by omega
            have f2 : ¬ (97 : Int) ≤ B := by omega
            have f3 : ¬ (65 : Int) ≤ B := by omega
            have g0 : ((B : Int) == 95) = false := beq_eq_false_iff_ne.2 (by omega)
            have g1 : ((B : Int) == 46) = false := beq_eq_false_iff_ne.2 (by omega)
            go_wp2
            go_round
            case rel => exact ⟨k + 1, by omega, by omega, by go_num, NXF.out⟩
            case measure => simp [intOf]; omega
          · skip
            go_wp2
            go_round
            case rel => exact ⟨k + 1, by omega, by omega, by go_num, NXF.out⟩
            case measure => simp [intOf]; omega
          · skip
            go_wp2
            go_round
            case rel => exact ⟨k + 1, by omega, by omega, by go_num, NXF.out⟩
            case measure => simp [intOf]; omega
        · have hgt := GT.out hv
          have hgt2 : (p : Int) < (k : Int) := by omega
          have hjs : j < s.size := by omega
          have cp : (k : Int) - 1 = (j : Int) := by omega
          have c2 : (0 : Int) ≤ (j : Int) := by omega
          have c3 : (j : Int) < (s.size : Int) := by omega
          have ej := byN_get s j hjs
          have lj := byN_lt s j
          generalize byN s j = C at ej lj NX EX
          have Hv := Lib.hid hv
          clear hv GT hj
          rcases hw with ⟨q1, q2⟩ | ⟨q1, q2⟩ | ⟨q1, q2, q3⟩ | q1
          · skip
            have f0 : ¬ (48 : Int) ≤ B := by omega
            have f1 : ¬ (97 : Int) ≤ B := by omega
            have f2 : ¬ (65 : Int) ≤ B := by omega
            have g0 : ((B : Int) == 95) = false := beq_eq_false_iff_ne.2 (by omega)
            have g1 : ((B : Int) == 46) = false := beq_eq_false_iff_ne.2 (by omega)
            by_cases hB : B = 43
            · subst hB
              by_cases hA : C = 101
              · have NXF := Lib.hid (NX.out true (fun h => absurd h (by omega)) (by rw [Hv.out, hA]; rfl) rfl)
                subst hA
                clear NX EX
                go_wp2
                go_round
                case rel => exact ⟨k + 1, by omega, by omega, by go_num, NXF.out⟩
                case measure => simp [intOf]; omega
              · have m1 : ((C : Int) == 101) = false := beq_eq_false_iff_ne.2 (by omega)
                by_cases hA2 : C = 69
                · have NXF := Lib.hid (NX.out true (fun h => absurd h (by omega)) (by rw [Hv.out, hA2]; rfl) rfl)
                  subst hA2
                  clear NX EX
                  go_wp2
                  go_round
                  case rel => exact ⟨k + 1, by omega, by omega, by go_num, NXF.out⟩
                  case measure => simp [intOf]; omega
                · have m2 : ((C : Int) == 69) = false := beq_eq_false_iff_ne.2 (by omega)
                  have hfin := EX.out Hv.out (by simp [hA, hA2])
                  have Hfin := Lib.hid hfin
                  clear hfin NX EX hA hA2
                  go_wp2
                  go_ret
                  exact ⟨ret_i64n Hfin.out, rfl⟩
            · have d1 : ((B : Int) == 43) = false := beq_eq_false_iff_ne.2 (by omega)
              by_cases hB2 : B = 45
              · subst hB2
                by_cases hA : C = 101
                · have NXF := Lib.hid (NX.out true (fun h => absurd h (by omega)) (by rw [Hv.out, hA]; rfl) rfl)
                  subst hA
                  clear NX EX
                  go_wp2
                  go_round
                  case rel => exact ⟨k + 1, by omega, by omega, by go_num, NXF.out⟩
                  case measure => simp [intOf]; omega
                · have m1 : ((C : Int) == 101) = false := beq_eq_false_iff_ne.2 (by omega)
                  by_cases hA2 : C = 69
                  · have NXF := Lib.hid (NX.out true (fun h => absurd h (by omega)) (by rw [Hv.out, hA2]; rfl) rfl)
                    subst hA2
                    clear NX EX
                    go_wp2
                    go_round
                    case rel => exact ⟨k + 1, by omega, by omega, by go_num, NXF.out⟩
                    case measure => simp [intOf]; omega
                  · have m2 : ((C : Int) == 69) = false := beq_eq_false_iff_ne.2 (by omega)
                    have hfin := EX.out Hv.out (by simp [hA, hA2])
                    have Hfin := Lib.hid hfin
                    clear hfin NX EX hA hA2
                    go_wp2
                    go_ret
                    exact ⟨ret_i64n Hfin.out, rfl⟩
              · have d2 : ((B : Int) == 45) = false := beq_eq_false_iff_ne.2 (by omega)
                have hfin := EX.out Hv.out (by simp [hB, hB2])
                have Hfin := Lib.hid hfin
                clear hfin NX EX hB hB2
                go_wp2
                go_ret
                exact ⟨ret_i64n Hfin.out, rfl⟩
          · skip
            have f0 : (48 : Int) ≤ B := by omega
            have f1 : ¬ (B : Int) ≤ 57 := by omega
            have f2 : ¬ (97 : Int) ≤ B := by omega
            have f3 : ¬ (65 : Int) ≤ B := by omega
            have g0 : ((B : Int) == 95) = false := beq_eq_false_iff_ne.2 (by omega)
            have g1 : ((B : Int) == 46) = false := beq_eq_false_iff_ne.2 (by omega)
            have d1 : ((B : Int) == 43) = false := beq_eq_false_iff_ne.2 (by omega)
            have d2 : ((B : Int) == 45) = false := beq_eq_false_iff_ne.2 (by omega)
            have hfin := EX.out Hv.out (by simp; omega)
            have Hfin := Lib.hid hfin
            clear hfin NX EX
            go_wp2
            go_ret
            exact ⟨ret_i64n Hfin.out, rfl⟩
          · skip
            have f0 : (48 : Int) ≤ B := by omega
            have f1 : ¬ (B : Int) ≤ 57 := by omega
            have f2 : ¬ (97 : Int) ≤ B := by omega
            have f3 : (65 : Int) ≤ B := by omega
            have f4 : ¬ (B : Int) ≤ 90 := by omega
            have g0 : ((B : Int) == 95) = false := beq_eq_false_iff_ne.2 (by omega)
            have g1 : ((B : Int) == 46) = false := beq_eq_false_iff_ne.2 (by omega)
            have d1 : ((B : Int) == 43) = false := beq_eq_false_iff_ne.2 (by omega)
            have d2 : ((B : Int) == 45) = false := beq_eq_false_iff_ne.2 (by omega)
            have hfin := EX.out Hv.out (by simp; omega)
            have Hfin := Lib.hid hfin
            clear hfin NX EX
            go_wp2
            go_ret
            exact ⟨ret_i64n Hfin.out, rfl⟩
          · skip
            have f0 : (48 : Int) ≤ B := by omega
            have f1 : ¬ (B : Int) ≤ 57 := by omega
            have f2 : (97 : Int) ≤ B := by omega
            have f3 : ¬ (B : Int) ≤ 122 := by omega
            have f4 : (65 : Int) ≤ B := by omega
            have f5 : ¬ (B : Int) ≤ 90 := by omega
            have g0 : ((B : Int) == 95) = false := beq_eq_false_iff_ne.2 (by omega)
            have g1 : ((B : Int) == 46) = false := beq_eq_false_iff_ne.2 (by omega)
            have d1 : ((B : Int) == 43) = false := beq_eq_false_iff_ne.2 (by omega)
            have d2 : ((B : Int) == 45) = false := beq_eq_false_iff_ne.2 (by omega)
            have hfin := EX.out Hv.out (by simp; omega)
            have Hfin := Lib.hid hfin
            clear hfin NX EX
            go_wp2
            go_ret
            exact ⟨ret_i64n Hfin.out, rfl⟩
      · obtain rfl : k = s.size := by omega
        have hfin : s.size = p + Nm.runOf ((bl s).drop p) := by
          rcases Hin.out with h1 | ⟨h1, h2⟩
          · omega
          · rw [h2, bl_over s s.size (by omega)]; simp [Nm.runLen]
        have Hfin := Lib.hid hfin
        clear hfin Hin
        go_wp2
        go_ret
        exact ⟨ret_i64n Hfin.out, rfl⟩

theorem ret_3 {a a' : Nat} {b b' c c' : Int} (h1 : a = a') (h2 : b = b') (h3 : c = c') : Ending.returned (.tuple #[.int .u8 (a : Int), .int .i64 b, .int .i64 c]) = .returned (.tuple #[.int .u8 (a' : Int), .int .i64 b', .int .i64 c']) := by rw [h1, h2, h3]

theorem rrun_yes (s : ByteArray) (k : Nat) (w : World) (hs : s.size ≤ 4611686018427387000) (hk : k < s.size) (hb : Nm.begins ((bl s).drop k) = true) :
    Calls Tryz.prog 63 #[.string s, .int .i64 k] w fun e w' => e = .returned (.int .i64 ((k + Nm.runOf ((bl s).drop k) : Nat) : Int)) ∧ w = w' := by
  cases hx : hdB (s.extract k s.size) 120 88 with
  | true => exact rrun_loop_true s k w hs hk hx hb
  | false => exact rrun_loop_false s k w hs hk hx hb

set_option maxHeartbeats 2000000 in
theorem rscan_any (s : ByteArray) (at' : Int) (w : World) (hs : s.size ≤ 4611686018427387000) :
    Calls Tryz.prog 39 #[.string s, .int .i64 at'] w fun e w' => e = .returned (.tuple #[.int .u8 (scanK s at' : Nat), .int .i64 (scanT s at'), .int .i64 (scanE s at')]) ∧ w = w' := by
  cases hb : begB s at' with
  | false =>
    have HR := fun w => rrun_no s at' w hs hb
    have k0 : scanK s at' = 0 := by unfold scanK; rw [hb]; rfl
    have t0 : scanT s at' = 0 := by unfold scanT; rw [if_pos k0]
    have e0 : scanE s at' = 15 := by unfold scanE; rw [hb]; rfl
    rw [k0, t0, e0]
    clear hb k0 t0 e0
    go_enter Tryz.func39, Tryz.ntmps39
    go_wp2_with fail
    refine (HR _).mono ?_
    rintro e w' ⟨rfl, rfl⟩
    go_wp2
    go_ret3
    exact ⟨rfl, rfl⟩
  | true =>
    obtain ⟨k, rfl, hk, hbeg⟩ := begB_at hb
    have b0 : (0 : Int) ≤ (k : Int) := by omega
    have b1 : (k : Int) ≤ (s.size : Int) := by omega
    have HR := fun w => rrun_yes s k w hs hk hbeg
    have hle : Nm.runOf ((bl s).drop k) ≤ s.size - k := by have := Nm.runOf_le ((bl s).drop k); rw [List.length_drop, bl_size] at this; exact this
    have hpos := Nm.runOf_pos hbeg
    have HK := fun w => rkind_any (s.extract k (k + Nm.runOf ((bl s).drop k))) w (Nat.le_trans (size_ext _ _ _) hs)
    rw [ext_run] at HK
    have ek : scanK s k = Nm.kind (((bl s).drop k).take (Nm.runOf ((bl s).drop k))) := by unfold scanK; rw [hb, if_pos rfl, Int.toNat_natCast]
    have et : scanT s k = if scanK s k = 0 then 0 else (k : Int) + Nm.runOf ((bl s).drop k) := by unfold scanT; rw [Int.toNat_natCast]
    have ee : scanE s k = if scanK s k = 0 then 4 else 0 := by unfold scanE; rw [hb, if_pos rfl]
    rw [← ek] at HK
    have hks : scanK s k < 256 := by rw [ek]; exact kind_small _
    clear ek hb hbeg
    generalize Nm.runOf ((bl s).drop k) = n at HR HK hle et hpos
    obtain ⟨m, hm⟩ : ∃ m, k + n = m := ⟨_, rfl⟩
    rw [hm] at HR HK
    have hkn : (k : Int) + (n : Int) = (m : Int) := by omega
    have b2 : (k : Int) ≤ (m : Int) := by omega
    have b3 : (m : Int) ≤ (s.size : Int) := by omega
    have d0 : ((m : Int) == (k : Int)) = false := beq_eq_false_iff_ne.2 (by omega)
    rw [hkn] at et
    clear hkn hm
    by_cases h0 : scanK s k = 0
    · rw [if_pos h0] at et ee
      rw [et, ee, h0]
      rw [h0] at HK
      clear et ee h0 hks
      go_enter Tryz.func39, Tryz.ntmps39
      go_wp2_with fail
      refine (HR _).mono ?_
      rintro e w' ⟨rfl, rfl⟩
      go_wp2_with fail
      refine (HK _).mono ?_
      rintro e w' ⟨rfl, rfl⟩
      go_wp2
      go_ret3
      exact ⟨rfl, rfl⟩
    · rw [if_neg h0] at et ee
      rw [et, ee]
      have d1 : ((scanK s k : Int) == 0) = false := beq_eq_false_iff_ne.2 (by omega)
      clear et ee h0
      generalize scanK s k = K at HK d1 hks ⊢
      go_enter Tryz.func39, Tryz.ntmps39
      go_wp2_with fail
      refine (HR _).mono ?_
      rintro e w' ⟨rfl, rfl⟩
      go_wp2_with fail
      refine (HK _).mono ?_
      rintro e w' ⟨rfl, rfl⟩
      go_wp2
      go_ret3
      exact ⟨rfl, rfl⟩
end Go.Proofs.YtnkgbmnjehpkgabGreat

