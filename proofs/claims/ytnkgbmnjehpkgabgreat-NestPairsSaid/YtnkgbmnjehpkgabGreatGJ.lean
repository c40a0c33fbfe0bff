/- Contracts of number.Scan and of what it calls; the reference's Run and Scan. -/
import Derived.Test.YtnkgbmnjehpkgabGreatGI
namespace Go.Proofs.YtnkgbmnjehpkgabGreat
open Go.RowKit Em
set_option maxRecDepth 100000
set_option linter.unusedVariables false
set_option linter.unusedSimpArgs false

def innerN (n : Nat) : Bool := decide ((97 ≤ n ∧ n ≤ 122) ∨ (65 ≤ n ∧ n ≤ 90) ∨ (48 ≤ n ∧ n ≤ 57) ∨ n = 95 ∨ n = 46)
theorem innerN_eq (s : ByteArray) (k : Nat) : Nm.inner (s.get! k) = innerN (byN s k) := rfl

/-- Where a number lies, for the walks. -/
theorem inner_ways (n : Nat) : (innerN n = true ∧ ((97 ≤ n ∧ n ≤ 122) ∨ (65 ≤ n ∧ n ≤ 90) ∨ (48 ≤ n ∧ n ≤ 57) ∨ n = 95 ∨ n = 46)) ∨ (innerN n = false ∧ ((n < 48 ∧ n ≠ 46) ∨ (58 ≤ n ∧ n ≤ 64) ∨ (91 ≤ n ∧ n ≤ 96 ∧ n ≠ 95) ∨ 123 ≤ n)) := by
  by_cases h : (97 ≤ n ∧ n ≤ 122) ∨ (65 ≤ n ∧ n ≤ 90) ∨ (48 ≤ n ∧ n ≤ 57) ∨ n = 95 ∨ n = 46
  · exact .inl ⟨decide_eq_true h, h⟩
  · exact .inr ⟨decide_eq_false h, by omega⟩

/-- number.inner -/
theorem inner_any (n : Nat) (hn : n < 256) (w : World) :
    Calls Tryz.prog 97 #[.int .u8 n] w fun e w' => e = .returned (.bool (innerN n)) ∧ w = w' := by
  rcases inner_ways n with ⟨hv, hw⟩ | ⟨hv, hw⟩
  · rw [hv]; clear hv
    rcases hw with ⟨q1, q2⟩ | ⟨q1, q2⟩ | ⟨q1, q2⟩ | rfl | rfl
    · skip
      have f0 : (97 : Int) ≤ n := by omega
      have f1 : (n : Int) ≤ 122 := by omega
      have f2 : (48 : Int) ≤ n := by omega
      have f3 : ¬ (n : Int) ≤ 57 := by omega
      have f4 : (65 : Int) ≤ n := by omega
      have f5 : ¬ (n : Int) ≤ 90 := by omega
      have g0 : ((n : Int) == 95) = false := beq_eq_false_iff_ne.2 (by omega)
      have g1 : ((n : Int) == 46) = false := beq_eq_false_iff_ne.2 (by omega)
      go_enter Tryz.func97, Tryz.ntmps97
      go_wp2
      go_ret
      exact ⟨rfl, rfl⟩
    · skip
      have f0 : (65 : Int) ≤ n := by omega
      have f1 : (n : Int) ≤ 90 := by omega
      have f2 : (48 : Int) ≤ n := by omega
      have f3 : ¬ (n : Int) ≤ 57 := by omega
      have f4 : ¬ (97 : Int) ≤ n := by omega
      have g0 : ((n : Int) == 95) = false := beq_eq_false_iff_ne.2 (by omega)
      have g1 : ((n : Int) == 46) = false := beq_eq_false_iff_ne.2 (by omega)
      go_enter Tryz.func97, Tryz.ntmps97
      go_wp2
      go_ret
      exact ⟨rfl, rfl⟩
    · skip
      have f0 : (48 : Int) ≤ n := by omega
      have f1 : (n : Int) ≤ 57 := by omega
      have f2 : ¬ (97 : Int) ≤ n := by omega
      have f3 : ¬ (65 : Int) ≤ n := by omega
      have g0 : ((n : Int) == 95) = false := beq_eq_false_iff_ne.2 (by omega)
      have g1 : ((n : Int) == 46) = false := beq_eq_false_iff_ne.2 (by omega)
      go_enter Tryz.func97, Tryz.ntmps97
      go_wp2
      go_ret
      exact ⟨rfl, rfl⟩
    · skip
      go_enter Tryz.func97, Tryz.ntmps97
      go_wp2
      go_ret
      exact ⟨rfl, rfl⟩
    · skip
      go_enter Tryz.func97, Tryz.ntmps97
      go_wp2
      go_ret
      exact ⟨rfl, rfl⟩
  · rw [hv]; clear hv
    rcases hw with ⟨q1, q2⟩ | ⟨q1, q2⟩ | ⟨q1, q2, q3⟩ | q1
    · skip
      have f0 : ¬ (48 : Int) ≤ n := by omega
      have f1 : ¬ (97 : Int) ≤ n := by omega
      have f2 : ¬ (65 : Int) ≤ n := by omega
      have g0 : ((n : Int) == 95) = false := beq_eq_false_iff_ne.2 (by omega)
      have g1 : ((n : Int) == 46) = false := beq_eq_false_iff_ne.2 (by omega)
      go_enter Tryz.func97, Tryz.ntmps97
      go_wp2
      go_ret
      exact ⟨rfl, rfl⟩
    · skip
      have f0 : (48 : Int) ≤ n := by omega
      have f1 : ¬ (n : Int) ≤ 57 := by omega
      have f2 : ¬ (97 : Int) ≤ n := by omega
      have f3 : ¬ (65 : Int) ≤ n := by omega
      have g0 : ((n : Int) == 95) = false := beq_eq_false_iff_ne.2 (by omega)
      have g1 : ((n : Int) == 46) = false := beq_eq_false_iff_ne.2 (by omega)
      go_enter Tryz.func97, Tryz.ntmps97
      go_wp2
      go_ret
      exact ⟨rfl, rfl⟩
    · skip
      have f0 : (48 : Int) ≤ n := by omega
      have f1 : ¬ (n : Int) ≤ 57 := by omega
      have f2 : ¬ (97 : Int) ≤ n := by omega
      have f3 : (65 : Int) ≤ n := by omega
      have f4 : ¬ (n : Int) ≤ 90 := by omega
      have g0 : ((n : Int) == 95) = false := beq_eq_false_iff_ne.2 (by omega)
      have g1 : ((n : Int) == 46) = false := beq_eq_false_iff_ne.2 (by omega)
      go_enter Tryz.func97, Tryz.ntmps97
      go_wp2
      go_ret
      exact ⟨rfl, rfl⟩
    · skip
      have f0 : (48 : Int) ≤ n := by omega
      have f1 : ¬ (n : Int) ≤ 57 := by omega
      have f2 : (97 : Int) ≤ n := by omega
      have f3 : ¬ (n : Int) ≤ 122 := by omega
      have f4 : (65 : Int) ≤ n := by omega
      have f5 : ¬ (n : Int) ≤ 90 := by omega
      have g0 : ((n : Int) == 95) = false := beq_eq_false_iff_ne.2 (by omega)
      have g1 : ((n : Int) == 46) = false := beq_eq_false_iff_ne.2 (by omega)
      go_enter Tryz.func97, Tryz.ntmps97
      go_wp2
      go_ret
      exact ⟨rfl, rfl⟩

/-- Does a number begin at a place? -/
def begB (s : ByteArray) (at' : Int) : Bool := if at' < 0 ∨ (s.size : Int) ≤ at' then false else Nm.begins ((bl s).drop at'.toNat)

theorem begins_spell (s : ByteArray) (k : Nat) (hk : k < s.size) : Nm.begins ((bl s).drop k) = if byN s k = 46 then Nm.hd 10 ((bl s).drop (k + 1)) else decide (dgN (byN s k) < 10) := by
  rw [bl_drop s k hk, get_eq s k hk, Nm.begins]
  simp only [byte_is]
  show (if byN s k = 46 then _ else _) = _
  rw [← dgN_eq]; rfl

set_option maxHeartbeats 2000000 in
theorem nbegins_any (s : ByteArray) (at' : Int) (w : World) (hs : s.size ≤ 4611686018427387000) :
    Calls Tryz.prog 75 #[.string s, .int .i64 at'] w fun e w' => e = .returned (.bool (begB s at')) ∧ w = w' := by
  unfold begB
  by_cases h0 : at' < 0
  · rw [if_pos (.inl h0)]
    go_enter Tryz.func75, Tryz.ntmps75
    go_wp2
    go_ret
    exact ⟨rfl, rfl⟩
  · by_cases h1 : (s.size : Int) ≤ at'
    · rw [if_pos (.inr h1)]
      go_enter Tryz.func75, Tryz.ntmps75
      go_wp2
      go_ret
      exact ⟨rfl, rfl⟩
    · rw [if_neg (by omega)]
      obtain ⟨k, rfl⟩ := Int.eq_ofNat_of_zero_le (show 0 ≤ at' by omega)
      rw [Int.toNat_natCast]
      have hk : k < s.size := by omega
      have b0 : (0 : Int) ≤ (k : Int) := by omega
      have b1 : (k : Int) < (s.size : Int) := by omega
      have e1 := byN_get s k hk
      have l1 := byN_lt s k
      rw [begins_spell s k hk]
      by_cases hc : byN s k = 46
      · rw [if_pos hc]
        rw [hc] at e1
        clear hc l1
        by_cases h2 : k + 1 < s.size
        · have b2 : (k : Int) + 1 < (s.size : Int) := by omega
          have b3 : (0 : Int) ≤ (k : Int) + 1 := by omega
          have e2 := byN_get s (k + 1) h2
          have l2 := byN_lt s (k + 1)
          rw [hd_at s (k + 1) 10 h2]
          generalize byN s (k + 1) = B at e2 l2 ⊢
          have HD := fun w => ndigit_any B l2 w
          have hx := dgN_le B
          generalize dgN B = D at HD hx
          go_enter Tryz.func75, Tryz.ntmps75
          go_wp2_with fail
          refine (HD _).mono ?_
          rintro e w' ⟨rfl, rfl⟩
          go_wp2
          go_ret
          exact ⟨nret_bool (decide_eq_decide.2 (by omega)), rfl⟩
        · have b2 : ¬ (k : Int) + 1 < (s.size : Int) := by omega
          rw [bl_over s (k + 1) h2]
          go_enter Tryz.func75, Tryz.ntmps75
          go_wp2
          go_ret
          exact ⟨rfl, rfl⟩
      · rw [if_neg hc]
        have d1 : ((byN s k : Int) == 46) = false := beq_eq_false_iff_ne.2 (by omega)
        clear hc
        generalize byN s k = B at e1 l1 d1 ⊢
        have HD := fun w => ndigit_any B l1 w
        have hx := dgN_le B
        generalize dgN B = D at HD hx
        go_enter Tryz.func75, Tryz.ntmps75
        go_wp2_with fail
        refine (HD _).mono ?_
        rintro e w' ⟨rfl, rfl⟩
        go_wp2
        go_ret
        exact ⟨nret_bool (decide_eq_decide.2 (by omega)), rfl⟩

/-- The letters of a power. -/
def powS (hex : Bool) : ByteArray := if hex = true then ⟨#[112, 80]⟩ else ⟨#[101, 69]⟩
theorem pow_iff (hex : Bool) (c : UInt8) : decide (0 ≤ Lib.indexByte (bl (powS hex)) c) = Nm.lt hex c := by
  cases hex with
  | true => exact (inS2 112 80 [c])
  | false => exact (inS2 101 69 [c])

theorem run_step (s : ByteArray) (hex : Bool) (k : Nat) (p : UInt8) (h : k < s.size) : Nm.runLen hex p ((bl s).drop k) = if (innerN (byN s k) || (Nm.lt hex p && decide (byN s k = 43 ∨ byN s k = 45))) = true then 1 + Nm.runLen hex (s.get! k) ((bl s).drop (k + 1)) else 0 := by
  rw [bl_drop s k h, get_eq s k h, Nm.runLen]
  have : Nm.on hex p (s.get! k) = (innerN (byN s k) || (Nm.lt hex p && decide (byN s k = 43 ∨ byN s k = 45))) := by
    unfold Nm.on Nm.sign
    rw [innerN_eq]
    congr 2
    exact decide_eq_decide.2 (by rw [byte_is, byte_is]; exact Iff.rfl)
  rw [this]
theorem run_first (s : ByteArray) (p : Nat) (h : p < s.size) : Nm.runOf ((bl s).drop p) = 1 + Nm.runLen (decide (Nm.pfx ((bl s).drop p) = 16)) (s.get! p) ((bl s).drop (p + 1)) := by
  have e := bl_drop s p h
  rw [get_eq s p h] at e
  conv => lhs; rw [e]
  simp only [Nm.runOf]
  rw [← e]
theorem ret_i64n {a b : Nat} (h : a = b) : Ending.returned (.int .i64 (a : Int)) = .returned (.int .i64 (b : Int)) := by rw [h]

set_option maxHeartbeats 4000000 in
/-- number.run -/
theorem run_any (s : ByteArray) (w : World) (h1 : 0 < s.size) (hs : s.size ≤ 4611686018427387000) :
    Calls Tryz.prog 76 #[.string s] w fun e w' => e = .returned (.int .i64 (Nm.runOf (bl s) : Nat)) ∧ w = w' := by
  have HP := fun w => nprefix_any s w
  have hf := run_first s 0 h1
  rw [List.drop_zero] at hf
  obtain ⟨hex, hx⟩ : ∃ hex, decide (Nm.pfx (bl s) = 16) = hex := ⟨_, rfl⟩
  rw [hx] at hf
  have Hf := Lib.hid hf
  have body : ∀ (w : World) (a : Act), True := fun _ _ => trivial
  clear hf body
  have e16 : ((Nm.pfx (bl s) : Int) == 16) = hex := by rw [← hx, Bool.eq_iff_iff, beq_iff_eq, decide_eq_true_eq]; omega
  clear hx
  generalize Nm.pfx (bl s) = P at HP e16
  have hcl : (1 : Int) ≤ (s.size : Int) := by omega
  cases hex with
  | true =>
    go_enter Tryz.func76, Tryz.ntmps76
    go_wp2_with fail
    refine (HP _).mono ?_
    rintro e w' ⟨rfl, rfl⟩
    clear HP
    go_wp2
    go_loop [4] (fun i => ∃ k : Nat, 1 ≤ k ∧ k ≤ s.size ∧ i = .int .i64 k ∧ Nm.runOf (bl s) = k + Nm.runLen true (s.get! (k - 1)) ((bl s).drop k)) (fun i => s.size - (intOf i).toNat)
    case atStart => exact ⟨1, by omega, by omega, rfl, Hf.out⟩
    case round =>
      obtain ⟨k, hk1, hk, rfl, hin⟩ := hrel
      have Hin := Lib.hid hin
      clear hin
      by_cases hlt : k < s.size
      · obtain ⟨j, hj⟩ : ∃ j, k - 1 = j := ⟨k - 1, rfl⟩
        have hjs : j < s.size := by omega
        have cp : (k : Int) - 1 = (j : Int) := by omega
        have c2 : (0 : Int) ≤ (j : Int) := by omega
        have c3 : (j : Int) < (s.size : Int) := by omega
        have b0 : (0 : Int) ≤ (k : Int) := by omega
        have b1 : (k : Int) < (s.size : Int) := by omega
        have e1 := byN_get s k hlt
        have l1 := byN_lt s k
        have ej := byN_get s j hjs
        have lj := byN_lt s j
        have HX := fun w => index_any (powS true) (byN s j : Int) w
        rw [byte_back s j hjs, get_eq s j hjs] at HX
        have hpi := pow_iff true (s.get! j)
        have hst := run_step s true k (s.get! (k - 1)) hlt
        rw [hj] at hst
        have HI := fun w => inner_any (byN s k) l1 w
        have Hin2 := Lib.hid (hj ▸ Hin.out)
        clear Hin hj
        generalize Lib.indexByte (bl (powS true)) (s.get! j) = X at HX hpi
        generalize byN s j = C at ej lj HX
        have hnx : (innerN (byN s k) || (Nm.lt true (s.get! j) && decide (byN s k = 43 ∨ byN s k = 45))) = true → Nm.runOf (bl s) = (k + 1) + Nm.runLen true (s.get! (k + 1 - 1)) ((bl s).drop (k + 1)) := by
          intro h
          have := Hin2.out
          rw [hst, if_pos h] at this
          rw [this, Nat.add_sub_cancel]; omega
        have hex' : (innerN (byN s k) || (Nm.lt true (s.get! j) && decide (byN s k = 43 ∨ byN s k = 45))) = false → k = Nm.runOf (bl s) := by
          intro h
          have := Hin2.out
          rw [hst, h, if_neg (by simp)] at this
          omega
        rw [← hpi] at hnx hex'
        have NX := Lib.hid hnx
        have EX := Lib.hid hex'
        clear hnx hex' hst hpi Hin2
        generalize byN s k = B at e1 l1 HI NX EX
        generalize innerN B = V at HI NX EX
        unfold powS at HX
        simp only [if_true, if_false, Bool.false_eq_true] at HX
        cases V with
        | true =>
          go_wp2_with fail
          refine (HX _).mono ?_
          rintro e w' ⟨rfl, rfl⟩
          go_wp2_with fail
          refine (HI _).mono ?_
          rintro e w' ⟨rfl, rfl⟩
          go_wp2
          go_round
          case rel => exact ⟨k + 1, by omega, by omega, by go_num, NX.out (rfl)⟩
          case measure => simp [intOf]; omega
        | false =>
          by_cases hX : 0 ≤ X
          · have hX2 : ¬ X < 0 := by omega
            by_cases hB : B = 43
            · subst hB
              go_wp2_with fail
              refine (HX _).mono ?_
              rintro e w' ⟨rfl, rfl⟩
              go_wp2_with fail
              refine (HI _).mono ?_
              rintro e w' ⟨rfl, rfl⟩
              go_wp2
              go_round
              case rel => exact ⟨k + 1, by omega, by omega, by go_num, NX.out (by simp [hX])⟩
              case measure => simp [intOf]; omega
            · have d1 : ((B : Int) == 43) = false := beq_eq_false_iff_ne.2 (by omega)
              by_cases hB2 : B = 45
              · subst hB2
                go_wp2_with fail
                refine (HX _).mono ?_
                rintro e w' ⟨rfl, rfl⟩
                go_wp2_with fail
                refine (HI _).mono ?_
                rintro e w' ⟨rfl, rfl⟩
                go_wp2
                go_round
                case rel => exact ⟨k + 1, by omega, by omega, by go_num, NX.out (by simp [hX])⟩
                case measure => simp [intOf]; omega
              · have d2 : ((B : Int) == 45) = false := beq_eq_false_iff_ne.2 (by omega)
                have hfin := EX.out (by simp [hB, hB2])
                have Hfin := Lib.hid hfin
                clear hfin
                go_wp2_with fail
                refine (HX _).mono ?_
                rintro e w' ⟨rfl, rfl⟩
                go_wp2_with fail
                refine (HI _).mono ?_
                rintro e w' ⟨rfl, rfl⟩
                go_wp2
                go_ret
                exact ⟨ret_i64n Hfin.out, rfl⟩
          · have hX2 : X < 0 := by omega
            have hfin := EX.out (by simp [hX])
            have Hfin := Lib.hid hfin
            clear hfin
            go_wp2_with fail
            refine (HX _).mono ?_
            rintro e w' ⟨rfl, rfl⟩
            go_wp2_with fail
            refine (HI _).mono ?_
            rintro e w' ⟨rfl, rfl⟩
            go_wp2
            go_ret
            exact ⟨ret_i64n Hfin.out, rfl⟩
      · obtain rfl : k = s.size := by omega
        have hfin : s.size = Nm.runOf (bl s) := by rw [Hin.out, bl_over s s.size (by omega)]; simp [Nm.runLen]
        have Hfin := Lib.hid hfin
        clear hfin Hin
        go_wp2
        go_ret
        exact ⟨ret_i64n Hfin.out, rfl⟩
  | false =>
    go_enter Tryz.func76, Tryz.ntmps76
    go_wp2_with fail
    refine (HP _).mono ?_
    rintro e w' ⟨rfl, rfl⟩
    clear HP
    go_wp2
    go_loop [4] (fun i => ∃ k : Nat, 1 ≤ k ∧ k ≤ s.size ∧ i = .int .i64 k ∧ Nm.runOf (bl s) = k + Nm.runLen false (s.get! (k - 1)) ((bl s).drop k)) (fun i => s.size - (intOf i).toNat)
    case atStart => exact ⟨1, by omega, by omega, rfl, Hf.out⟩
    case round =>
      obtain ⟨k, hk1, hk, rfl, hin⟩ := hrel
      have Hin := Lib.hid hin
      clear hin
      by_cases hlt : k < s.size
      · obtain ⟨j, hj⟩ : ∃ j, k - 1 = j := ⟨k - 1, rfl⟩
        have hjs : j < s.size := by omega
        have cp : (k : Int) - 1 = (j : Int) := by omega
        have c2 : (0 : Int) ≤ (j : Int) := by omega
        have c3 : (j : Int) < (s.size : Int) := by omega
        have b0 : (0 : Int) ≤ (k : Int) := by omega
        have b1 : (k : Int) < (s.size : Int) := by omega
        have e1 := byN_get s k hlt
        have l1 := byN_lt s k
        have ej := byN_get s j hjs
        have lj := byN_lt s j
        have HX := fun w => index_any (powS false) (byN s j : Int) w
        rw [byte_back s j hjs, get_eq s j hjs] at HX
        have hpi := pow_iff false (s.get! j)
        have hst := run_step s false k (s.get! (k - 1)) hlt
        rw [hj] at hst
        have HI := fun w => inner_any (byN s k) l1 w
        have Hin2 := Lib.hid (hj ▸ Hin.out)
        clear Hin hj
        generalize Lib.indexByte (bl (powS false)) (s.get! j) = X at HX hpi
        generalize byN s j = C at ej lj HX
        have hnx : (innerN (byN s k) || (Nm.lt false (s.get! j) && decide (byN s k = 43 ∨ byN s k = 45))) = true → Nm.runOf (bl s) = (k + 1) + Nm.runLen false (s.get! (k + 1 - 1)) ((bl s).drop (k + 1)) := by
          intro h
          have := Hin2.out
          rw [hst, if_pos h] at this
          rw [this, Nat.add_sub_cancel]; omega
        have hex' : (innerN (byN s k) || (Nm.lt false (s.get! j) && decide (byN s k = 43 ∨ byN s k = 45))) = false → k = Nm.runOf (bl s) := by
          intro h
          have := Hin2.out
          rw [hst, h, if_neg (by simp)] at this
          omega
        rw [← hpi] at hnx hex'
        have NX := Lib.hid hnx
        have EX := Lib.hid hex'
        clear hnx hex' hst hpi Hin2
        generalize byN s k = B at e1 l1 HI NX EX
        generalize innerN B = V at HI NX EX
        unfold powS at HX
        simp only [if_true, if_false, Bool.false_eq_true] at HX
        cases V with
        | true =>
          go_wp2_with fail
          refine (HX _).mono ?_
          rintro e w' ⟨rfl, rfl⟩
          go_wp2_with fail
          refine (HI _).mono ?_
          rintro e w' ⟨rfl, rfl⟩
          go_wp2
          go_round
          case rel => exact ⟨k + 1, by omega, by omega, by go_num, NX.out (rfl)⟩
          case measure => simp [intOf]; omega
        | false =>
          by_cases hX : 0 ≤ X
          · have hX2 : ¬ X < 0 := by omega
            by_cases hB : B = 43
            · subst hB
              go_wp2_with fail
              refine (HX _).mono ?_
              rintro e w' ⟨rfl, rfl⟩
              go_wp2_with fail
              refine (HI _).mono ?_
              rintro e w' ⟨rfl, rfl⟩
              go_wp2
              go_round
              case rel => exact ⟨k + 1, by omega, by omega, by go_num, NX.out (by simp [hX])⟩
              case measure => simp [intOf]; omega
            · have d1 : ((B : Int) == 43) = false := beq_eq_false_iff_ne.2 (by omega)
              by_cases hB2 : B = 45
              · subst hB2
                go_wp2_with fail
                refine (HX _).mono ?_
                rintro e w' ⟨rfl, rfl⟩
                go_wp2_with fail
                refine (HI _).mono ?_
                rintro e w' ⟨rfl, rfl⟩
                go_wp2
                go_round
                case rel => exact ⟨k + 1, by omega, by omega, by go_num, NX.out (by simp [hX])⟩
                case measure => simp [intOf]; omega
              · have d2 : ((B : Int) == 45) = false := beq_eq_false_iff_ne.2 (by omega)
                have hfin := EX.out (by simp [hB, hB2])
                have Hfin := Lib.hid hfin
                clear hfin
                go_wp2_with fail
                refine (HX _).mono ?_
                rintro e w' ⟨rfl, rfl⟩
                go_wp2_with fail
                refine (HI _).mono ?_
                rintro e w' ⟨rfl, rfl⟩
                go_wp2
                go_ret
                exact ⟨ret_i64n Hfin.out, rfl⟩
          · have hX2 : X < 0 := by omega
            have hfin := EX.out (by simp [hX])
            have Hfin := Lib.hid hfin
            clear hfin
            go_wp2_with fail
            refine (HX _).mono ?_
            rintro e w' ⟨rfl, rfl⟩
            go_wp2_with fail
            refine (HI _).mono ?_
            rintro e w' ⟨rfl, rfl⟩
            go_wp2
            go_ret
            exact ⟨ret_i64n Hfin.out, rfl⟩
      · obtain rfl : k = s.size := by omega
        have hfin : s.size = Nm.runOf (bl s) := by rw [Hin.out, bl_over s s.size (by omega)]; simp [Nm.runLen]
        have Hfin := Lib.hid hfin
        clear hfin Hin
        go_wp2
        go_ret
        exact ⟨ret_i64n Hfin.out, rfl⟩

/-- What Scan answers. -/
def scanK (s : ByteArray) (at' : Int) : Nat := if begB s at' = true then Nm.kind (((bl s).drop at'.toNat).take (Nm.runOf ((bl s).drop at'.toNat))) else 0
def scanT (s : ByteArray) (at' : Int) : Int := if scanK s at' = 0 then 0 else at' + Nm.runOf ((bl s).drop at'.toNat)
def scanE (s : ByteArray) (at' : Int) : Int := if begB s at' = true then if scanK s at' = 0 then 4 else 0 else 15

theorem ext_run (s : ByteArray) (k n : Nat) : bl (s.extract k (k + n)) = ((bl s).drop k).take n := by
  rw [bl_extract, List.drop_take, Nat.add_sub_cancel_left]

theorem begB_at {s : ByteArray} {at' : Int} (h : begB s at' = true) : ∃ k : Nat, at' = k ∧ k < s.size ∧ Nm.begins ((bl s).drop k) = true := by
  unfold begB at h
  split at h
  · cases h
  · obtain ⟨k, rfl⟩ := Int.eq_ofNat_of_zero_le (show 0 ≤ at' by omega)
    exact ⟨k, rfl, by omega, by simpa using h⟩

theorem size_ext (s : ByteArray) (a b : Nat) : (s.extract a b).size ≤ s.size := by rw [← bl_size, bl_extract, ← bl_size]; simp; omega
theorem kind_small (l : List UInt8) : Nm.kind l < 256 := by have := (Nm.kind_imag l).2.2.2; omega

set_option maxHeartbeats 2000000 in
theorem scan_any (s : ByteArray) (at' : Int) (w : World) (hs : s.size ≤ 4611686018427387000) :
    Calls Tryz.prog 52 #[.string s, .int .i64 at'] w fun e w' => e = .returned (.tuple #[.int .u8 (scanK s at' : Nat), .int .i64 (scanT s at'), .int .i64 (scanE s at')]) ∧ Below w.heap.size w w' := by
  have HB := fun w => nbegins_any s at' w hs
  cases hb : begB s at' with
  | false =>
    have k0 : scanK s at' = 0 := by unfold scanK; rw [hb]; rfl
    have t0 : scanT s at' = 0 := by unfold scanT; rw [if_pos k0]
    have e0 : scanE s at' = 15 := by unfold scanE; rw [hb]; rfl
    rw [k0, t0, e0]
    rw [hb] at HB
    clear hb k0 t0 e0
    go_enter Tryz.func52, Tryz.ntmps52
    go_wp2_with fail
    refine (HB _).mono ?_
    rintro e w' ⟨rfl, rfl⟩
    go_wp2
    go_ret3
    exact ⟨rfl, Below.refl _ _⟩
  | true =>
    rw [hb] at HB
    obtain ⟨k, rfl, hk, hbeg⟩ := begB_at hb
    have b0 : (0 : Int) ≤ (k : Int) := by omega
    have b1 : (k : Int) ≤ (s.size : Int) := by omega
    have hsz : (s.extract k s.size).size = s.size - k := by rw [← bl_size, bl_from, List.length_drop, bl_size]
    have HR := fun w => run_any (s.extract k s.size) w (by omega) (by omega)
    rw [bl_from] at HR
    have hle : Nm.runOf ((bl s).drop k) ≤ s.size - k := by have := Nm.runOf_le ((bl s).drop k); rw [List.length_drop, bl_size] at this; exact this
    have HK := fun w => kind_any (s.extract k (k + Nm.runOf ((bl s).drop k))) w (Nat.le_trans (size_ext _ _ _) hs)
    rw [ext_run] at HK
    have ek : scanK s k = Nm.kind (((bl s).drop k).take (Nm.runOf ((bl s).drop k))) := by unfold scanK; rw [hb, if_pos rfl, Int.toNat_natCast]
    have et : scanT s k = if scanK s k = 0 then 0 else (k : Int) + Nm.runOf ((bl s).drop k) := by unfold scanT; rw [Int.toNat_natCast]
    have ee : scanE s k = if scanK s k = 0 then 4 else 0 := by unfold scanE; rw [hb, if_pos rfl]
    rw [← ek] at HK
    have hks : scanK s k < 256 := by rw [ek]; exact kind_small _
    clear ek hb hbeg
    generalize Nm.runOf ((bl s).drop k) = n at HR HK hle et
    have hkn : ((k + n : Nat) : Int) = (k : Int) + (n : Int) := by push_cast; rfl
    have b2 : (k : Int) ≤ (k : Int) + (n : Int) := by omega
    have b3 : (k : Int) + (n : Int) ≤ (s.size : Int) := by omega
    by_cases h0 : scanK s k = 0
    · rw [if_pos h0] at et ee
      rw [et, ee, h0]
      rw [h0] at HK
      clear et ee h0 hks hkn
      go_enter Tryz.func52, Tryz.ntmps52
      go_wp2_with fail
      refine (HB _).mono ?_
      rintro e w' ⟨rfl, rfl⟩
      go_wp2_with fail
      refine (HR _).mono ?_
      rintro e w' ⟨rfl, rfl⟩
      go_wp2_with fail
      refine (HK _).mono ?_
      rintro e w' ⟨rfl, hbl⟩
      go_wp2
      go_ret3
      exact ⟨rfl, hbl⟩
    · rw [if_neg h0] at et ee
      rw [et, ee]
      have d1 : ((scanK s k : Int) == 0) = false := beq_eq_false_iff_ne.2 (by omega)
      clear et ee h0 hkn
      generalize scanK s k = K at HK d1 hks ⊢
      go_enter Tryz.func52, Tryz.ntmps52
      go_wp2_with fail
      refine (HB _).mono ?_
      rintro e w' ⟨rfl, rfl⟩
      go_wp2_with fail
      refine (HR _).mono ?_
      rintro e w' ⟨rfl, rfl⟩
      go_wp2_with fail
      refine (HK _).mono ?_
      rintro e w' ⟨rfl, hbl⟩
      go_wp2
      go_ret3
      exact ⟨rfl, hbl⟩
end Go.Proofs.YtnkgbmnjehpkgabGreat

