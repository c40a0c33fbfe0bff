/- Contracts of the reference of numbers: Int, Float, Kind. -/
import Derived.Test.YtklmiabgalanhaaGreatDoorGH
import Derived.Test.YtklmiabgalanhaaGreatDoorGB
import Derived.Test.YtklmiabgalanhaaGreatDoorGG
namespace Go.Proofs.YtklmiabgalanhaaGreatDoor
open Go.RowKit Em
set_option maxRecDepth 100000
set_option linter.unusedVariables false
set_option linter.unusedSimpArgs false

theorem text_is0 (s : ByteArray) : (s.toList == [48]) = decide (bl s = [48]) := by
  have e : s.toList = bl s := by
    have := Lib.extract_toList s 0 s.size
    rw [ByteArray.extract_zero_size] at this
    rw [this]; unfold bl; simp
    exact List.take_of_length_le (by rw [Array.length_toList]; exact Nat.le_refl _)
  rw [e, Bool.eq_iff_iff, beq_iff_eq, decide_eq_true_eq]

def intB (l : List UInt8) : Bool := decide (Nm.plain l = 3)
def floatB (l : List UInt8) : Bool := decide (Nm.plain l = 4)

theorem intB_eq (s : ByteArray) : (decide (bl s = [48]) || (Nm.R 10 (bl s) && !Nm.at1 48 (bl s)) || (Nm.at1 48 (bl s) && Nm.under 8 ((bl s).drop 1)) ||
    (if hdB s 98 66 = true then Nm.under 2 ((bl s).drop 2) else if hdB s 111 79 = true then Nm.under 8 ((bl s).drop 2) else hdB s 120 88 && Nm.under 16 ((bl s).drop 2))) = intB (bl s) := by
  unfold intB
  rw [Bool.eq_iff_iff, decide_eq_true_eq, Nm.int_iff]
  unfold Nm.IntG
  rw [pfx_eq, tail_drop]
  cases h1 : hdB s 98 66 with
  | true => simp [or_assoc]
  | false =>
    cases h2 : hdB s 111 79 with
    | true => simp [or_assoc]
    | false =>
      cases h3 : hdB s 120 88 with
      | true => simp [or_assoc]
      | false => simp [or_assoc]

set_option maxHeartbeats 4000000 in
theorem int_any (s : ByteArray) (w : World) (hs : s.size ≤ 4611686018427387000) :
    Calls Tryz.prog 84 #[.string s] w fun e w' => e = .returned (.bool (intB (bl s))) ∧ w = w' := by
  rw [← intB_eq]
  have HR := fun w => rrow_any s 10 w (by omega) hs
  have HU := fun w => under_from s 1 8 w (by omega) hs
  have H2 := fun w => under_from s 2 2 w (by omega) hs
  have H8 := fun w => under_from s 2 8 w (by omega) hs
  have H16 := fun w => under_from s 2 16 w (by omega) hs
  have K2 := fun w => headed_any s 98 66 w (by omega) (by omega)
  have K8 := fun w => headed_any s 111 79 w (by omega) (by omega)
  have K16 := fun w => headed_any s 120 88 w (by omega) (by omega)
  have e48 := text_is0 s
  have hR0 : Nm.R 10 (bl s) = true → 0 < s.size := by
    intro h
    have := Nm.ne_of h
    by_cases h0 : 0 < s.size
    · exact h0
    · exact absurd (List.eq_nil_of_length_eq_zero (by rw [bl_size]; omega)) this
  have sz2 : ∀ x y, hdB s x y = true → (2 : Int) ≤ (s.size : Int) := by
    intro x y h
    have := (of_decide_eq_true h).1
    omega
  have g2 := sz2 98 66
  have g8 := sz2 111 79
  have g16 := sz2 120 88
  have hz : Nm.at1 48 (bl s) = if 0 < s.size then decide (byN s 0 = 48) else false := by
    by_cases h0 : 0 < s.size
    · rw [if_pos h0, at1_zero s h0]; rfl
    · rw [if_neg h0, at1_none s h0]
  rw [hz]
  have hU1 : s.size ≤ 1 → Nm.under 8 ((bl s).drop 1) = false := by
    intro h
    rw [bl_over s 1 (by omega)]; rfl
  clear sz2 hz
  generalize hdB s 98 66 = p2 at K2 g2 ⊢
  generalize hdB s 111 79 = p8 at K8 g8 ⊢
  generalize hdB s 120 88 = p16 at K16 g16 ⊢
  generalize Nm.under 2 ((bl s).drop 2) = v2 at H2 ⊢
  generalize Nm.under 8 ((bl s).drop 2) = v8 at H8 ⊢
  generalize Nm.under 16 ((bl s).drop 2) = v16 at H16 ⊢
  generalize Nm.under 8 ((bl s).drop 1) = vU at HU hU1 ⊢
  generalize Nm.R 10 (bl s) = vR at HR hR0 ⊢
  generalize decide (bl s = [48]) = z48 at e48 ⊢
  have l0 := byN_lt s 0
  have e0 := fun h => byN_get s 0 h
  generalize byN s 0 = B at l0 e0 ⊢
  have E0 := Lib.hid e0; have G2 := Lib.hid g2; have G8 := Lib.hid g8; have G16 := Lib.hid g16; have HR0 := Lib.hid hR0; have HU1 := Lib.hid hU1
  clear e0 g2 g8 g16 hR0 hU1
  cases z48 with
  | true =>
    go_enter Tryz.func84, Tryz.ntmps84
    go_wp2
    all_goals (go_ret; exact ⟨nret_bool (by simp_all), rfl⟩)
  | false =>
    by_cases h0 : 0 < s.size
    · have h0' : (0 : Int) < (s.size : Int) := by omega
      have e0 := E0.out h0
      rw [if_pos h0]
      by_cases hB : B = 48
      · subst hB
        rw [decide_eq_true rfl]
        by_cases h1 : 1 < s.size
        · have h1' : (1 : Int) < (s.size : Int) := by omega
          have h1'' : (1 : Int) ≤ (s.size : Int) := by omega
          cases vU with
          | true =>
            go_enter Tryz.func84, Tryz.ntmps84
            go_wp2_with fail
            refine (HR _).mono ?_
            rintro e w' ⟨rfl, rfl⟩
            cases vR
            all_goals (go_wp2_with fail; refine (HU _).mono ?_; rintro e w' ⟨rfl, rfl⟩; go_wp2; all_goals (go_ret; exact ⟨nret_bool (by simp), rfl⟩))
          | false =>
            cases vR with
            | true =>
              cases p2 with
              | true =>
                have gg := G2.out rfl
                go_enter Tryz.func84, Tryz.ntmps84
                go_wp2_with fail
                refine (HR _).mono ?_
                rintro e w' ⟨rfl, rfl⟩
                go_wp2_with fail
                refine (HU _).mono ?_
                rintro e w' ⟨rfl, rfl⟩
                go_wp2_with fail
                refine (K2 _).mono ?_
                rintro e w' ⟨rfl, rfl⟩
                go_wp2_with fail
                refine (H2 _).mono ?_
                rintro e w' ⟨rfl, rfl⟩
                go_wp2
                all_goals (go_ret; exact ⟨nret_bool (by simp_all), rfl⟩)
              | false =>
                cases p8 with
                | true =>
                  have gg := G8.out rfl
                  go_enter Tryz.func84, Tryz.ntmps84
                  go_wp2_with fail
                  refine (HR _).mono ?_
                  rintro e w' ⟨rfl, rfl⟩
                  go_wp2_with fail
                  refine (HU _).mono ?_
                  rintro e w' ⟨rfl, rfl⟩
                  go_wp2_with fail
                  refine (K2 _).mono ?_
                  rintro e w' ⟨rfl, rfl⟩
                  go_wp2_with fail
                  refine (K8 _).mono ?_
                  rintro e w' ⟨rfl, rfl⟩
                  go_wp2_with fail
                  refine (H8 _).mono ?_
                  rintro e w' ⟨rfl, rfl⟩
                  go_wp2
                  all_goals (go_ret; exact ⟨nret_bool (by simp_all), rfl⟩)
                | false =>
                  cases p16 with
                  | true =>
                    have gg := G16.out rfl
                    go_enter Tryz.func84, Tryz.ntmps84
                    go_wp2_with fail
                    refine (HR _).mono ?_
                    rintro e w' ⟨rfl, rfl⟩
                    go_wp2_with fail
                    refine (HU _).mono ?_
                    rintro e w' ⟨rfl, rfl⟩
                    go_wp2_with fail
                    refine (K2 _).mono ?_
                    rintro e w' ⟨rfl, rfl⟩
                    go_wp2_with fail
                    refine (K8 _).mono ?_
                    rintro e w' ⟨rfl, rfl⟩
                    go_wp2_with fail
                    refine (K16 _).mono ?_
                    rintro e w' ⟨rfl, rfl⟩
                    go_wp2_with fail
                    refine (H16 _).mono ?_
                    rintro e w' ⟨rfl, rfl⟩
                    go_wp2
                    all_goals (go_ret; exact ⟨nret_bool (by simp_all), rfl⟩)
                  | false =>
                    go_enter Tryz.func84, Tryz.ntmps84
                    go_wp2_with fail
                    refine (HR _).mono ?_
                    rintro e w' ⟨rfl, rfl⟩
                    go_wp2_with fail
                    refine (HU _).mono ?_
                    rintro e w' ⟨rfl, rfl⟩
                    go_wp2_with fail
                    refine (K2 _).mono ?_
                    rintro e w' ⟨rfl, rfl⟩
                    go_wp2_with fail
                    refine (K8 _).mono ?_
                    rintro e w' ⟨rfl, rfl⟩
                    go_wp2_with fail
                    refine (K16 _).mono ?_
                    rintro e w' ⟨rfl, rfl⟩
                    go_wp2
                    all_goals (go_ret; exact ⟨nret_bool (by simp_all), rfl⟩)
            | false =>
              cases p2 with
              | true =>
                have gg := G2.out rfl
                go_enter Tryz.func84, Tryz.ntmps84
                go_wp2_with fail
                refine (HR _).mono ?_
                rintro e w' ⟨rfl, rfl⟩
                go_wp2_with fail
                refine (HU _).mono ?_
                rintro e w' ⟨rfl, rfl⟩
                go_wp2_with fail
                refine (K2 _).mono ?_
                rintro e w' ⟨rfl, rfl⟩
                go_wp2_with fail
                refine (H2 _).mono ?_
                rintro e w' ⟨rfl, rfl⟩
                go_wp2
                all_goals (go_ret; exact ⟨nret_bool (by simp_all), rfl⟩)
              | false =>
                cases p8 with
                | true =>
                  have gg := G8.out rfl
                  go_enter Tryz.func84, Tryz.ntmps84
                  go_wp2_with fail
                  refine (HR _).mono ?_
                  rintro e w' ⟨rfl, rfl⟩
                  go_wp2_with fail
                  refine (HU _).mono ?_
                  rintro e w' ⟨rfl, rfl⟩
                  go_wp2_with fail
                  refine (K2 _).mono ?_
                  rintro e w' ⟨rfl, rfl⟩
                  go_wp2_with fail
                  refine (K8 _).mono ?_
                  rintro e w' ⟨rfl, rfl⟩
                  go_wp2_with fail
                  refine (H8 _).mono ?_
                  rintro e w' ⟨rfl, rfl⟩
                  go_wp2
                  all_goals (go_ret; exact ⟨nret_bool (by simp_all), rfl⟩)
                | false =>
                  cases p16 with
                  | true =>
                    have gg := G16.out rfl
                    go_enter Tryz.func84, Tryz.ntmps84
                    go_wp2_with fail
                    refine (HR _).mono ?_
                    rintro e w' ⟨rfl, rfl⟩
                    go_wp2_with fail
                    refine (HU _).mono ?_
                    rintro e w' ⟨rfl, rfl⟩
                    go_wp2_with fail
                    refine (K2 _).mono ?_
                    rintro e w' ⟨rfl, rfl⟩
                    go_wp2_with fail
                    refine (K8 _).mono ?_
                    rintro e w' ⟨rfl, rfl⟩
                    go_wp2_with fail
                    refine (K16 _).mono ?_
                    rintro e w' ⟨rfl, rfl⟩
                    go_wp2_with fail
                    refine (H16 _).mono ?_
                    rintro e w' ⟨rfl, rfl⟩
                    go_wp2
                    all_goals (go_ret; exact ⟨nret_bool (by simp_all), rfl⟩)
                  | false =>
                    go_enter Tryz.func84, Tryz.ntmps84
                    go_wp2_with fail
                    refine (HR _).mono ?_
                    rintro e w' ⟨rfl, rfl⟩
                    go_wp2_with fail
                    refine (HU _).mono ?_
                    rintro e w' ⟨rfl, rfl⟩
                    go_wp2_with fail
                    refine (K2 _).mono ?_
                    rintro e w' ⟨rfl, rfl⟩
                    go_wp2_with fail
                    refine (K8 _).mono ?_
                    rintro e w' ⟨rfl, rfl⟩
                    go_wp2_with fail
                    refine (K16 _).mono ?_
                    rintro e w' ⟨rfl, rfl⟩
                    go_wp2
                    all_goals (go_ret; exact ⟨nret_bool (by simp_all), rfl⟩)
        · have h1' : ¬ (1 : Int) < (s.size : Int) := by omega
          have hv := HU1.out (by omega)
          subst hv
          cases vR with
          | true =>
            cases p2 with
            | true =>
              have gg := G2.out rfl
              omega
            | false =>
              cases p8 with
              | true =>
                have gg := G8.out rfl
                omega
              | false =>
                cases p16 with
                | true =>
                  have gg := G16.out rfl
                  omega
                | false =>
                  go_enter Tryz.func84, Tryz.ntmps84
                  go_wp2_with fail
                  refine (HR _).mono ?_
                  rintro e w' ⟨rfl, rfl⟩
                  go_wp2_with fail
                  refine (K2 _).mono ?_
                  rintro e w' ⟨rfl, rfl⟩
                  go_wp2_with fail
                  refine (K8 _).mono ?_
                  rintro e w' ⟨rfl, rfl⟩
                  go_wp2_with fail
                  refine (K16 _).mono ?_
                  rintro e w' ⟨rfl, rfl⟩
                  go_wp2
                  all_goals (go_ret; exact ⟨nret_bool (by simp_all), rfl⟩)
          | false =>
            cases p2 with
            | true =>
              have gg := G2.out rfl
              omega
            | false =>
              cases p8 with
              | true =>
                have gg := G8.out rfl
                omega
              | false =>
                cases p16 with
                | true =>
                  have gg := G16.out rfl
                  omega
                | false =>
                  go_enter Tryz.func84, Tryz.ntmps84
                  go_wp2_with fail
                  refine (HR _).mono ?_
                  rintro e w' ⟨rfl, rfl⟩
                  go_wp2_with fail
                  refine (K2 _).mono ?_
                  rintro e w' ⟨rfl, rfl⟩
                  go_wp2_with fail
                  refine (K8 _).mono ?_
                  rintro e w' ⟨rfl, rfl⟩
                  go_wp2_with fail
                  refine (K16 _).mono ?_
                  rintro e w' ⟨rfl, rfl⟩
                  go_wp2
                  all_goals (go_ret; exact ⟨nret_bool (by simp_all), rfl⟩)
      · rw [decide_eq_false hB]
        have d1 : ((B : Int) != 48) = true := by simp; omega
        have d2 : ((B : Int) == 48) = false := beq_eq_false_iff_ne.2 (by omega)
        have vd : vU = vU := rfl
        cases vR with
        | true =>
          go_enter Tryz.func84, Tryz.ntmps84
          go_wp2_with fail
          refine (HR _).mono ?_
          rintro e w' ⟨rfl, rfl⟩
          go_wp2
          all_goals (go_ret; exact ⟨nret_bool (by simp_all), rfl⟩)
        | false =>
          by_cases h1 : 1 < s.size
          · have h1' : (1 : Int) < (s.size : Int) := by omega
            cases p2 with
            | true =>
              have gg := G2.out rfl
              go_enter Tryz.func84, Tryz.ntmps84
              go_wp2_with fail
              refine (HR _).mono ?_
              rintro e w' ⟨rfl, rfl⟩
              go_wp2_with fail
              refine (K2 _).mono ?_
              rintro e w' ⟨rfl, rfl⟩
              go_wp2_with fail
              refine (H2 _).mono ?_
              rintro e w' ⟨rfl, rfl⟩
              go_wp2
              all_goals (go_ret; exact ⟨nret_bool (by simp_all), rfl⟩)
            | false =>
              cases p8 with
              | true =>
                have gg := G8.out rfl
                go_enter Tryz.func84, Tryz.ntmps84
                go_wp2_with fail
                refine (HR _).mono ?_
                rintro e w' ⟨rfl, rfl⟩
                go_wp2_with fail
                refine (K2 _).mono ?_
                rintro e w' ⟨rfl, rfl⟩
                go_wp2_with fail
                refine (K8 _).mono ?_
                rintro e w' ⟨rfl, rfl⟩
                go_wp2_with fail
                refine (H8 _).mono ?_
                rintro e w' ⟨rfl, rfl⟩
                go_wp2
                all_goals (go_ret; exact ⟨nret_bool (by simp_all), rfl⟩)
              | false =>
                cases p16 with
                | true =>
                  have gg := G16.out rfl
                  go_enter Tryz.func84, Tryz.ntmps84
                  go_wp2_with fail
                  refine (HR _).mono ?_
                  rintro e w' ⟨rfl, rfl⟩
                  go_wp2_with fail
                  refine (K2 _).mono ?_
                  rintro e w' ⟨rfl, rfl⟩
                  go_wp2_with fail
                  refine (K8 _).mono ?_
                  rintro e w' ⟨rfl, rfl⟩
                  go_wp2_with fail
                  refine (K16 _).mono ?_
                  rintro e w' ⟨rfl, rfl⟩
                  go_wp2_with fail
                  refine (H16 _).mono ?_
                  rintro e w' ⟨rfl, rfl⟩
                  go_wp2
                  all_goals (go_ret; exact ⟨nret_bool (by simp_all), rfl⟩)
                | false =>
                  go_enter Tryz.func84, Tryz.ntmps84
                  go_wp2_with fail
                  refine (HR _).mono ?_
                  rintro e w' ⟨rfl, rfl⟩
                  go_wp2_with fail
                  refine (K2 _).mono ?_
                  rintro e w' ⟨rfl, rfl⟩
                  go_wp2_with fail
                  refine (K8 _).mono ?_
                  rintro e w' ⟨rfl, rfl⟩
                  go_wp2_with fail
                  refine (K16 _).mono ?_
                  rintro e w' ⟨rfl, rfl⟩
                  go_wp2
                  all_goals (go_ret; exact ⟨nret_bool (by simp_all), rfl⟩)
          · have h1' : ¬ (1 : Int) < (s.size : Int) := by omega
            cases p2 with
            | true =>
              have gg := G2.out rfl
              omega
            | false =>
              cases p8 with
              | true =>
                have gg := G8.out rfl
                omega
              | false =>
                cases p16 with
                | true =>
                  have gg := G16.out rfl
                  omega
                | false =>
                  go_enter Tryz.func84, Tryz.ntmps84
                  go_wp2_with fail
                  refine (HR _).mono ?_
                  rintro e w' ⟨rfl, rfl⟩
                  go_wp2_with fail
                  refine (K2 _).mono ?_
                  rintro e w' ⟨rfl, rfl⟩
                  go_wp2_with fail
                  refine (K8 _).mono ?_
                  rintro e w' ⟨rfl, rfl⟩
                  go_wp2_with fail
                  refine (K16 _).mono ?_
                  rintro e w' ⟨rfl, rfl⟩
                  go_wp2
                  all_goals (go_ret; exact ⟨nret_bool (by simp_all), rfl⟩)
    · have h0' : ¬ (1 : Int) < (s.size : Int) := by omega
      rw [if_neg h0]
      cases vR with
      | true => exact absurd (HR0.out rfl) h0
      | false =>
        cases p2 with
        | true =>
          have gg := G2.out rfl
          omega
        | false =>
          cases p8 with
          | true =>
            have gg := G8.out rfl
            omega
          | false =>
            cases p16 with
            | true =>
              have gg := G16.out rfl
              omega
            | false =>
              go_enter Tryz.func84, Tryz.ntmps84
              go_wp2_with fail
              refine (HR _).mono ?_
              rintro e w' ⟨rfl, rfl⟩
              go_wp2_with fail
              refine (K2 _).mono ?_
              rintro e w' ⟨rfl, rfl⟩
              go_wp2_with fail
              refine (K8 _).mono ?_
              rintro e w' ⟨rfl, rfl⟩
              go_wp2_with fail
              refine (K16 _).mono ?_
              rintro e w' ⟨rfl, rfl⟩
              go_wp2
              all_goals (go_ret; exact ⟨nret_bool (by simp_all), rfl⟩)

theorem int_to (s : ByteArray) (a : Nat) (w : World) (hs : s.size ≤ 4611686018427387000) :
    Calls Tryz.prog 84 #[.string (s.extract 0 a)] w fun e w' => e = .returned (.bool (intB ((bl s).take a))) ∧ w = w' := by
  have := int_any (s.extract 0 a) w (Nat.le_trans (size_to s a) hs)
  rw [bl_to] at this; exact this
theorem power_from (s : ByteArray) (a : Nat) (c d : UInt8) (w : World) (hs : s.size ≤ 4611686018427387000) :
    Calls Tryz.prog 106 #[.string (s.extract a s.size), .int .u8 c.toNat, .int .u8 d.toNat] w fun e w' => e = .returned (.bool (Nm.power c d ((bl s).drop a))) ∧ w = w' := by
  have := power_any (s.extract a s.size) c d w (Nat.le_trans (size_from s a) hs)
  rw [bl_from] at this; exact this
theorem pointed_to (s : ByteArray) (a b : Nat) (hex : Bool) (w : World) (hb : b ≤ 16) (hs : s.size ≤ 4611686018427387000) :
    Calls Tryz.prog 107 #[.string (s.extract 0 a), .int .i64 b, .bool hex] w fun e w' => e = .returned (.bool (ptB b hex ((bl s).take a))) ∧ w = w' := by
  have := pointed_any (s.extract 0 a) b hex w hb (Nat.le_trans (size_to s a) hs)
  rw [bl_to] at this; exact this

/-- What the loops of Float ask at a place. -/
noncomputable def hexAt (l : List UInt8) (i : Nat) : Bool := Nm.power 112 80 (l.drop i) && (ptB 16 true (l.take i) || Nm.under 16 (l.take i))
noncomputable def decAt (l : List UInt8) (i : Nat) : Bool := Nm.power 101 69 (l.drop i) && (ptB 10 false (l.take i) || Nm.R 10 (l.take i))
theorem hex_iff (l : List UInt8) : Nm.HexG l ↔ ∃ i, i ≤ l.length ∧ hexAt l i = true := by
  constructor
  · rintro ⟨x, y, rfl, h1, h2⟩
    refine ⟨x.length, by simp, ?_⟩
    unfold hexAt
    rw [List.drop_left, List.take_left, h1, Bool.true_and, Bool.or_eq_true, ptB_iff]; exact h2
  · rintro ⟨i, _, h⟩
    unfold hexAt at h
    rw [Bool.and_eq_true, Bool.or_eq_true, ptB_iff] at h
    exact ⟨l.take i, l.drop i, (List.take_append_drop i l).symm, h.1, h.2⟩
theorem dec_iff (l : List UInt8) : (∃ x y, l = x ++ y ∧ Nm.power 101 69 y = true ∧ (Nm.pointed 10 false x ∨ Nm.R 10 x = true)) ↔ ∃ i, i ≤ l.length ∧ decAt l i = true := by
  constructor
  · rintro ⟨x, y, rfl, h1, h2⟩
    refine ⟨x.length, by simp, ?_⟩
    unfold decAt
    rw [List.drop_left, List.take_left, h1, Bool.true_and, Bool.or_eq_true, ptB_iff]; exact h2
  · rintro ⟨i, _, h⟩
    unfold decAt at h
    rw [Bool.and_eq_true, Bool.or_eq_true, ptB_iff] at h
    exact ⟨l.take i, l.drop i, (List.take_append_drop i l).symm, h.1, h.2⟩

theorem pfx16 (s : ByteArray) : Nm.pfx (bl s) = 16 ↔ hdB s 120 88 = true := by
  rw [pfx_eq]
  have ex : ∀ x y, hdB s x y = true → byN s 1 = x ∨ byN s 1 = y := fun x y h => (of_decide_eq_true h).2.2
  cases h1 : hdB s 98 66 with
  | true =>
    cases h3 : hdB s 120 88 with
    | true => have := ex _ _ h1; have := ex _ _ h3; omega
    | false => simp
  | false =>
    cases h2 : hdB s 111 79 with
    | true =>
      cases h3 : hdB s 120 88 with
      | true => have := ex _ _ h2; have := ex _ _ h3; omega
      | false => simp
    | false => cases h3 : hdB s 120 88 <;> simp

theorem float_hex {s : ByteArray} (h : hdB s 120 88 = true) : floatB (bl s) = true ↔ ∃ i, i ≤ ((bl s).drop 2).length ∧ hexAt ((bl s).drop 2) i = true := by
  have := (pfx16 s).2 h
  unfold floatB
  rw [decide_eq_true_eq, Nm.float_iff, ← hex_iff]
  unfold Nm.FloatG
  simp [this]
theorem float_dec {s : ByteArray} (h : hdB s 120 88 = false) : floatB (bl s) = true ↔ ptB 10 false (bl s) = true ∨ ∃ i, i ≤ (bl s).length ∧ decAt (bl s) i = true := by
  have : Nm.pfx (bl s) ≠ 16 := fun e => by rw [(pfx16 s).1 e] at h; cases h
  unfold floatB
  rw [decide_eq_true_eq, Nm.float_iff, ptB_iff, ← dec_iff]
  unfold Nm.FloatG Nm.DecG
  simp [this]
end Go.Proofs.YtklmiabgalanhaaGreatDoor

/- Contracts of the reference of numbers: Float, Kind. -/
namespace Go.Proofs.YtklmiabgalanhaaGreatDoor
open Go.RowKit Em
set_option maxRecDepth 100000
set_option linter.unusedVariables false
set_option linter.unusedSimpArgs false

set_option maxHeartbeats 4000000 in
theorem float_any (s : ByteArray) (w : World) (hs : s.size ≤ 4611686018427387000) :
    Calls Tryz.prog 85 #[.string s] w fun e w' => e = .returned (.bool (floatB (bl s))) ∧ w = w' := by
  have KX := fun w => headed_any s 120 88 w (by omega) (by omega)
  cases hx : hdB s 120 88 with
  | true =>
    have hF := float_hex hx
    have h2 : (2 : Int) ≤ (s.size : Int) := by have := (of_decide_eq_true hx).1; omega
    rw [hx] at KX
    have HF := Lib.hid hF
    have HB := Lib.hid (bl_from s 2)
    have hz := size_from s 2
    clear hF hx
    go_enter Tryz.func85, Tryz.ntmps85
    go_wp2_with fail
    refine (KX _).mono ?_
    rintro e w' ⟨rfl, rfl⟩
    clear KX
    go_wp2
    generalize s.extract 2 s.size = t at HB hz ⊢
    rw [← HB.out] at HF
    have hts : t.size ≤ 4611686018427387000 := by omega
    go_loop [4] (fun i => ∃ k : Nat, k ≤ t.size + 1 ∧ i = .int .i64 k ∧ ∀ j, j < k → hexAt (bl t) j = false) (fun i => t.size + 1 - (intOf i).toNat)
    case atStart => exact ⟨0, by omega, rfl, fun j hj => by omega⟩
    case round =>
      obtain ⟨k, hk, rfl, hno⟩ := hrel
      have Hno := Lib.hid hno
      clear hno
      by_cases hlt : k ≤ t.size
      · have b0 : (0 : Int) ≤ (k : Int) := by omega
        have b1 : (k : Int) ≤ (t.size : Int) := by omega
        have HP := fun w => power_from t k 112 80 w hts
        have HQ := fun w => pointed_to t k 16 true w (by omega) hts
        have HU := fun w => under_to t k 16 w (by omega) hts
        have hdef : hexAt (bl t) k = (Nm.power 112 80 ((bl t).drop k) && (ptB 16 true ((bl t).take k) || Nm.under 16 ((bl t).take k))) := rfl
        generalize Nm.power 112 80 ((bl t).drop k) = vP at HP hdef
        generalize ptB 16 true ((bl t).take k) = vQ at HQ hdef
        generalize Nm.under 16 ((bl t).take k) = vU at HU hdef
        have hyes : hexAt (bl t) k = true → true = floatB (bl s) := fun h => (HF.out.2 ⟨k, by rw [bl_size]; exact hlt, h⟩).symm
        have hnxt : hexAt (bl t) k = false → ∀ j, j < k + 1 → hexAt (bl t) j = false := by
          intro h j hj
          by_cases e : j = k
          · rw [e]; exact h
          · exact Hno.out j (by omega)
        rw [hdef] at hyes hnxt
        clear hdef
        have Y := Lib.hid hyes
        have N := Lib.hid hnxt
        clear hyes hnxt
        cases vP with
        | true =>
          cases vQ with
          | true =>
            go_wp2_with fail
            refine (HP _).mono ?_
            rintro e w' ⟨rfl, rfl⟩
            go_wp2_with fail
            refine (HQ _).mono ?_
            rintro e w' ⟨rfl, rfl⟩
            go_wp2
            go_ret
            exact ⟨nret_bool (Y.out rfl), rfl⟩
          | false =>
            cases vU with
            | true =>
              go_wp2_with fail
              refine (HP _).mono ?_
              rintro e w' ⟨rfl, rfl⟩
              go_wp2_with fail
              refine (HQ _).mono ?_
              rintro e w' ⟨rfl, rfl⟩
              go_wp2_with fail
              refine (HU _).mono ?_
              rintro e w' ⟨rfl, rfl⟩
              go_wp2
              go_ret
              exact ⟨nret_bool (Y.out rfl), rfl⟩
            | false =>
              go_wp2_with fail
              refine (HP _).mono ?_
              rintro e w' ⟨rfl, rfl⟩
              go_wp2_with fail
              refine (HQ _).mono ?_
              rintro e w' ⟨rfl, rfl⟩
              go_wp2_with fail
              refine (HU _).mono ?_
              rintro e w' ⟨rfl, rfl⟩
              go_wp2
              go_round
              case rel => exact ⟨k + 1, by omega, by go_num, N.out rfl⟩
              case measure => simp [intOf]; omega
        | false =>
          go_wp2_with fail
          refine (HP _).mono ?_
          rintro e w' ⟨rfl, rfl⟩
          go_wp2
          go_round
          case rel => exact ⟨k + 1, by omega, by go_num, N.out rfl⟩
          case measure => simp [intOf]; omega
      · have b1 : ¬ (k : Int) ≤ (t.size : Int) := by omega
        have hfin : false = floatB (bl s) := by
          cases hv : floatB (bl s) with
          | false => rfl
          | true =>
            obtain ⟨i, h1, h2⟩ := HF.out.1 hv
            rw [bl_size] at h1
            rw [Hno.out i (by omega)] at h2; cases h2
        have Hfin := Lib.hid hfin
        clear hfin Hno
        go_wp2
        go_ret
        exact ⟨nret_bool Hfin.out, rfl⟩
  | false =>
    have hF := float_dec hx
    rw [hx] at KX
    have HF := Lib.hid hF
    have HQ0 := fun w => pointed_any s 10 false w (by omega) hs
    clear hF hx
    cases hq0 : ptB 10 false (bl s) with
    | true =>
      have hfin : true = floatB (bl s) := (HF.out.2 (.inl hq0)).symm
      have Hfin := Lib.hid hfin
      rw [hq0] at HQ0
      clear hfin hq0
      go_enter Tryz.func85, Tryz.ntmps85
      go_wp2_with fail
      refine (KX _).mono ?_
      rintro e w' ⟨rfl, rfl⟩
      clear KX
      go_wp2_with fail
      refine (HQ0 _).mono ?_
      rintro e w' ⟨rfl, rfl⟩
      go_wp2
      go_ret
      exact ⟨nret_bool Hfin.out, rfl⟩
    | false =>
      rw [hq0] at HQ0
      have Hq0 := Lib.hid hq0
      clear hq0
      go_enter Tryz.func85, Tryz.ntmps85
      go_wp2_with fail
      refine (KX _).mono ?_
      rintro e w' ⟨rfl, rfl⟩
      clear KX
      go_wp2_with fail
      refine (HQ0 _).mono ?_
      rintro e w' ⟨rfl, rfl⟩
      clear HQ0
      go_wp2
      go_loop [5] (fun i => ∃ k : Nat, k ≤ s.size + 1 ∧ i = .int .i64 k ∧ ∀ j, j < k → decAt (bl s) j = false) (fun i => s.size + 1 - (intOf i).toNat)
      case atStart => exact ⟨0, by omega, rfl, fun j hj => by omega⟩
      case round =>
        obtain ⟨k, hk, rfl, hno⟩ := hrel
        have Hno := Lib.hid hno
        clear hno
        by_cases hlt : k ≤ s.size
        · have b0 : (0 : Int) ≤ (k : Int) := by omega
          have b1 : (k : Int) ≤ (s.size : Int) := by omega
          have HP := fun w => power_from s k 101 69 w hs
          have HQ := fun w => pointed_to s k 10 false w (by omega) hs
          have HU := fun w => rrow_to s k 10 w (by omega) hs
          have hdef : decAt (bl s) k = (Nm.power 101 69 ((bl s).drop k) && (ptB 10 false ((bl s).take k) || Nm.R 10 ((bl s).take k))) := rfl
          generalize Nm.power 101 69 ((bl s).drop k) = vP at HP hdef
          generalize ptB 10 false ((bl s).take k) = vQ at HQ hdef
          generalize Nm.R 10 ((bl s).take k) = vU at HU hdef
          have hyes : decAt (bl s) k = true → true = floatB (bl s) := fun h => (HF.out.2 (.inr ⟨k, by rw [bl_size]; exact hlt, h⟩)).symm
          have hnxt : decAt (bl s) k = false → ∀ j, j < k + 1 → decAt (bl s) j = false := by
            intro h j hj
            by_cases e : j = k
            · rw [e]; exact h
            · exact Hno.out j (by omega)
          rw [hdef] at hyes hnxt
          clear hdef
          have Y := Lib.hid hyes
          have N := Lib.hid hnxt
          clear hyes hnxt
          cases vP with
          | true =>
            cases vQ with
            | true =>
              go_wp2_with fail
              refine (HP _).mono ?_
              rintro e w' ⟨rfl, rfl⟩
              go_wp2_with fail
              refine (HQ _).mono ?_
              rintro e w' ⟨rfl, rfl⟩
              go_wp2
              go_ret
              exact ⟨nret_bool (Y.out rfl), rfl⟩
            | false =>
              cases vU with
              | true =>
                go_wp2_with fail
                refine (HP _).mono ?_
                rintro e w' ⟨rfl, rfl⟩
                go_wp2_with fail
                refine (HQ _).mono ?_
                rintro e w' ⟨rfl, rfl⟩
                go_wp2_with fail
                refine (HU _).mono ?_
                rintro e w' ⟨rfl, rfl⟩
                go_wp2
                go_ret
                exact ⟨nret_bool (Y.out rfl), rfl⟩
              | false =>
                go_wp2_with fail
                refine (HP _).mono ?_
                rintro e w' ⟨rfl, rfl⟩
                go_wp2_with fail
                refine (HQ _).mono ?_
                rintro e w' ⟨rfl, rfl⟩
                go_wp2_with fail
                refine (HU _).mono ?_
                rintro e w' ⟨rfl, rfl⟩
                go_wp2
                go_round
                case rel => exact ⟨k + 1, by omega, by go_num, N.out rfl⟩
                case measure => simp [intOf]; omega
          | false =>
            go_wp2_with fail
            refine (HP _).mono ?_
            rintro e w' ⟨rfl, rfl⟩
            go_wp2
            go_round
            case rel => exact ⟨k + 1, by omega, by go_num, N.out rfl⟩
            case measure => simp [intOf]; omega
        · have b1 : ¬ (k : Int) ≤ (s.size : Int) := by omega
          have hfin : false = floatB (bl s) := by
            cases hv : floatB (bl s) with
            | false => rfl
            | true =>
              rcases HF.out.1 hv with h | ⟨i, h1, h2⟩
              · rw [Hq0.out] at h; cases h
              · rw [bl_size] at h1
                rw [Hno.out i (by omega)] at h2; cases h2
          have Hfin := Lib.hid hfin
          clear hfin Hno
          go_wp2
          go_ret
          exact ⟨nret_bool Hfin.out, rfl⟩

theorem float_to (s : ByteArray) (a : Nat) (w : World) (hs : s.size ≤ 4611686018427387000) :
    Calls Tryz.prog 85 #[.string (s.extract 0 a)] w fun e w' => e = .returned (.bool (floatB ((bl s).take a))) ∧ w = w' := by
  have := float_any (s.extract 0 a) w (Nat.le_trans (size_to s a) hs)
  rw [bl_to] at this; exact this

theorem last_is (s : ByteArray) (m : Nat) (h : s.size = m + 1) : ((bl s).getLast? = some 105 ↔ byN s m = 105) ∧ (bl s).dropLast = (bl s).take m := by
  refine ⟨?_, ?_⟩
  · rw [List.getLast?_eq_getElem?, bl_size, h, Nat.add_sub_cancel, bl_get s m (by omega), ← byN_get s m (by omega)]
    exact ⟨fun e => by rw [Option.some.inj e]; rfl, fun e => by rw [UInt8.toNat_inj.1 (show _ = (105 : UInt8).toNat from e)]⟩
  · rw [List.dropLast_eq_take, bl_size, h, Nat.add_sub_cancel]

set_option maxHeartbeats 2000000 in
theorem rkind_any (s : ByteArray) (w : World) (hs : s.size ≤ 4611686018427387000) :
    Calls Tryz.prog 63 #[.string s] w fun e w' => e = .returned (.int .u8 (Nm.kind (bl s) : Nat)) ∧ w = w' := by
  have HI := fun w => int_any s w hs
  have HF := fun w => float_any s w hs
  have hk := Nm.kind_ref (bl s)
  have d3 : (Nm.plain (bl s) = 3) ↔ intB (bl s) = true := (decide_eq_true_iff).symm
  have d4 : (Nm.plain (bl s) = 4) ↔ floatB (bl s) = true := (decide_eq_true_iff).symm
  simp only [d3, d4] at hk
  clear d3 d4
  cases hi : intB (bl s) with
  | true =>
    rw [hi] at HI
    rw [hk, hi, if_pos rfl]
    clear hi hk
    go_enter Tryz.func63, Tryz.ntmps63
    go_wp2_with fail
    refine (HI _).mono ?_
    rintro e w' ⟨rfl, rfl⟩
    go_wp2
    go_ret
    exact ⟨rfl, rfl⟩
  | false =>
    rw [hi] at HI
    rw [hi, if_neg (by simp)] at hk
    clear hi
    cases hf : floatB (bl s) with
    | true =>
      rw [hf] at HF
      rw [hk, hf, if_pos rfl]
      clear hf hk
      go_enter Tryz.func63, Tryz.ntmps63
      go_wp2_with fail
      refine (HI _).mono ?_
      rintro e w' ⟨rfl, rfl⟩
      go_wp2_with fail
      refine (HF _).mono ?_
      rintro e w' ⟨rfl, rfl⟩
      go_wp2
      go_ret
      exact ⟨rfl, rfl⟩
    | false =>
      rw [hf] at HF
      rw [hf, if_neg (by simp), bl_size] at hk
      clear hf
      by_cases h1 : 1 < s.size
      · have h1' : (1 : Int) < (s.size : Int) := by omega
        obtain ⟨m, hm⟩ : ∃ m, s.size = m + 1 := ⟨s.size - 1, by omega⟩
        obtain ⟨q1, q2⟩ := last_is s m hm
        rw [q2] at hk
        simp only [h1, q1, true_and] at hk
        have cl : (s.size : Int) - 1 = (m : Int) := by omega
        have hms : m < s.size := by omega
        have b0 : (0 : Int) ≤ (m : Int) := by omega
        have b1 : (m : Int) < (s.size : Int) := by omega
        have b2 : (m : Int) ≤ (s.size : Int) := by omega
        have e1 := byN_get s m hms
        have l1 := byN_lt s m
        have Hk := Lib.hid hk
        clear hk q1 q2 hm
        by_cases hc : byN s m = 105
        · rw [hc] at e1
          have Hc := Lib.hid hc
          clear hc l1
          have JI := fun w => int_to s m w hs
          have JF := fun w => float_to s m w hs
          have JR := fun w => rrow_to s m 10 w (by omega) hs
          have d3 : (Nm.plain ((bl s).take m) = 3) ↔ intB ((bl s).take m) = true := (decide_eq_true_iff).symm
          have d4 : (Nm.plain ((bl s).take m) = 4) ↔ floatB ((bl s).take m) = true := (decide_eq_true_iff).symm
          have Hk2 : Hid (Nm.kind (bl s) = if intB ((bl s).take m) = true ∨ floatB ((bl s).take m) = true ∨ Nm.R 10 ((bl s).take m) = true then 5 else 0) := Lib.hid (by
            have := Hk.out
            simp only [Hc.out, d3, d4, true_and] at this
            exact this)
          clear d3 d4 Hk
          generalize intB ((bl s).take m) = vI at JI Hk2
          generalize floatB ((bl s).take m) = vF at JF Hk2
          generalize Nm.R 10 ((bl s).take m) = vR at JR Hk2
          cases vI with
          | true =>
            go_enter Tryz.func63, Tryz.ntmps63
            go_wp2_with fail
            refine (HI _).mono ?_
            rintro e w' ⟨rfl, rfl⟩
            go_wp2_with fail
            refine (HF _).mono ?_
            rintro e w' ⟨rfl, rfl⟩
            go_wp2_with fail
            refine (JI _).mono ?_
            rintro e w' ⟨rfl, rfl⟩
            go_wp2
            go_ret
            exact ⟨by rw [Hk2.out]; rfl, rfl⟩
          | false =>
            cases vF with
            | true =>
              go_enter Tryz.func63, Tryz.ntmps63
              go_wp2_with fail
              refine (HI _).mono ?_
              rintro e w' ⟨rfl, rfl⟩
              go_wp2_with fail
              refine (HF _).mono ?_
              rintro e w' ⟨rfl, rfl⟩
              go_wp2_with fail
              refine (JI _).mono ?_
              rintro e w' ⟨rfl, rfl⟩
              go_wp2_with fail
              refine (JF _).mono ?_
              rintro e w' ⟨rfl, rfl⟩
              go_wp2
              go_ret
              exact ⟨by rw [Hk2.out]; rfl, rfl⟩
            | false =>
              cases vR with
              | true =>
                go_enter Tryz.func63, Tryz.ntmps63
                go_wp2_with fail
                refine (HI _).mono ?_
                rintro e w' ⟨rfl, rfl⟩
                go_wp2_with fail
                refine (HF _).mono ?_
                rintro e w' ⟨rfl, rfl⟩
                go_wp2_with fail
                refine (JI _).mono ?_
                rintro e w' ⟨rfl, rfl⟩
                go_wp2_with fail
                refine (JF _).mono ?_
                rintro e w' ⟨rfl, rfl⟩
                go_wp2_with fail
                refine (JR _).mono ?_
                rintro e w' ⟨rfl, rfl⟩
                go_wp2
                go_ret
                exact ⟨by rw [Hk2.out]; rfl, rfl⟩
              | false =>
                go_enter Tryz.func63, Tryz.ntmps63
                go_wp2_with fail
                refine (HI _).mono ?_
                rintro e w' ⟨rfl, rfl⟩
                go_wp2_with fail
                refine (HF _).mono ?_
                rintro e w' ⟨rfl, rfl⟩
                go_wp2_with fail
                refine (JI _).mono ?_
                rintro e w' ⟨rfl, rfl⟩
                go_wp2_with fail
                refine (JF _).mono ?_
                rintro e w' ⟨rfl, rfl⟩
                go_wp2_with fail
                refine (JR _).mono ?_
                rintro e w' ⟨rfl, rfl⟩
                go_wp2
                go_ret
                exact ⟨by rw [Hk2.out]; rfl, rfl⟩
        · have hk0 : Nm.kind (bl s) = 0 := by
            rw [Hk.out, if_neg (fun h => hc h.1)]
          rw [hk0]
          have d1 : ((byN s m : Int) == 105) = false := beq_eq_false_iff_ne.2 (by omega)
          clear hc hk0 Hk
          generalize byN s m = B at e1 l1 d1
          go_enter Tryz.func63, Tryz.ntmps63
          go_wp2_with fail
          refine (HI _).mono ?_
          rintro e w' ⟨rfl, rfl⟩
          go_wp2_with fail
          refine (HF _).mono ?_
          rintro e w' ⟨rfl, rfl⟩
          go_wp2
          go_ret
          exact ⟨rfl, rfl⟩
      · have h1' : ¬ (1 : Int) < (s.size : Int) := by omega
        rw [hk, if_neg (fun h => h1 h.1)]
        clear hk
        go_enter Tryz.func63, Tryz.ntmps63
        go_wp2_with fail
        refine (HI _).mono ?_
        rintro e w' ⟨rfl, rfl⟩
        go_wp2_with fail
        refine (HF _).mono ?_
        rintro e w' ⟨rfl, rfl⟩
        go_wp2
        go_ret
        exact ⟨rfl, rfl⟩
end Go.Proofs.YtklmiabgalanhaaGreatDoor

/- Contracts of number.plain and number.Kind; strings.CutSuffix of an i. -/
namespace Go.Proofs.YtklmiabgalanhaaGreatDoor
open Go.RowKit Em
set_option maxRecDepth 100000
set_option linter.unusedVariables false
set_option linter.unusedSimpArgs false

theorem plain_any (s : ByteArray) (w : World) (hs : s.size ≤ 4611686018427387000) :
    Calls Tryz.prog 97 #[.string s] w fun e w' => e = .returned (.int .u8 (Nm.plain (bl s) : Nat)) ∧ Below w.heap.size w w' := by
  have HP := fun w => nprefix_any s w
  have HD := fun w => decimal_any s w hs
  unfold Nm.plain
  by_cases hp : Nm.pfx (bl s) = 10
  · rw [if_pos hp]
    rw [hp] at HP
    clear hp
    go_enter Tryz.func97, Tryz.ntmps97
    go_wp2_with fail
    refine (HP _).mono ?_
    rintro e w' ⟨rfl, rfl⟩
    clear HP
    go_wp2_with fail
    refine (HD _).mono ?_
    rintro e w' ⟨rfl, hb⟩
    go_wp2
    go_ret
    exact ⟨rfl, hb⟩
  · rw [if_neg hp]
    have h2 : (2 : Int) ≤ (s.size : Int) := by
      by_cases h : 2 ≤ s.size
      · omega
      · exact absurd (pfx_short s h) hp
    have hb16 : Nm.pfx (bl s) ≤ 16 := by
      rw [pfx_eq]; repeat' split
      all_goals omega
    have HX := fun w => prefixed_any (s.extract 2 s.size) (Nm.pfx (bl s)) w hb16 (Nat.le_trans (size_from s 2) hs)
    rw [bl_from] at HX
    have d1 : ((Nm.pfx (bl s) : Int) != 10) = true := by simp; omega
    have d2 : ((Nm.pfx (bl s) : Int) == 10) = false := beq_eq_false_iff_ne.2 (by omega)
    clear hp hb16
    generalize Nm.pfx (bl s) = P at HP HX d1 d2 ⊢
    go_enter Tryz.func97, Tryz.ntmps97
    go_wp2_with fail
    refine (HP _).mono ?_
    rintro e w' ⟨rfl, rfl⟩
    clear HP
    go_wp2_with fail
    refine (HX _).mono ?_
    rintro e w' ⟨rfl, hb⟩
    go_wp2
    go_ret
    exact ⟨rfl, hb⟩

theorem one_text (s : ByteArray) (m : Nat) (h : s.size = m + 1) : ((s.extract m s.size).toList == [105]) = decide (byN s m = 105) := by
  have e : (s.extract m s.size).toList = bl (s.extract m s.size) := by rw [Lib.extract_toList, ← Lib.extract_data]; rfl
  rw [e, bl_from, bl_drop s m (by omega), bl_over s (m + 1) (by omega), get_eq s m (by omega), Bool.eq_iff_iff, beq_iff_eq, decide_eq_true_eq]
  constructor
  · intro h; exact (byte_is s m 105).1 (List.cons.inj h).1
  · intro h; rw [(byte_is s m 105).2 h]

/-- strings.CutSuffix of an i: none. -/
theorem cut_no (s : ByteArray) (w : World) (hs0 : s.size ≤ 4611686018427387000) (h : (bl s).getLast? ≠ some 105) :
    Calls Tryz.prog 96 #[.string s, .string ⟨#[105]⟩] w fun e w' => e = .returned (.tuple #[.string s, .bool false]) ∧ w = w' := by
  have hs : ∀ w, Calls Tryz.prog 146 #[.string s, .string ⟨#[105]⟩] w fun e w' => e = .returned (.bool false) ∧ w = w' := by
    intro w
    by_cases h1 : 1 ≤ s.size
    · have h1' : (1 : Int) ≤ (s.size : Int) := by omega
      obtain ⟨m, hm⟩ : ∃ m, s.size = m + 1 := ⟨s.size - 1, by omega⟩
      have hc : byN s m ≠ 105 := fun e => h ((last_is s m hm).1.2 e)
      have ht := one_text s m hm
      rw [decide_eq_false hc] at ht
      have cl : (s.size : Int) - 1 = (m : Int) := by omega
      have hmx : m ≤ 4611686018427387000 := by omega
      have b0 : (0 : Int) ≤ (m : Int) := by omega
      have b1 : (m : Int) ≤ (s.size : Int) := by omega
      clear hm hc h
      go_enter Tryz.func146, Tryz.ntmps146
      go_wp2
      go_ret
      exact ⟨rfl, rfl⟩
    · have h1' : ¬ (1 : Int) ≤ (s.size : Int) := by omega
      clear h
      go_enter Tryz.func146, Tryz.ntmps146
      go_wp2
      go_ret
      exact ⟨rfl, rfl⟩
  have hl : ∀ w, Calls Tryz.prog 125 #[.string s, .string ⟨#[105]⟩] w fun e w' => e = .returned (.tuple #[.string s, .bool false]) ∧ w = w' := by
    intro w
    go_enter Tryz.func125, Tryz.ntmps125
    go_wp2_with fail
    refine (hs _).mono ?_
    rintro e w' ⟨rfl, rfl⟩
    go_wp2
    go_ret2
    exact ⟨rfl, rfl⟩
  go_enter Tryz.func96, Tryz.ntmps96
  go_wp2_with fail
  refine (hl _).mono ?_
  rintro e w' ⟨rfl, rfl⟩
  go_wp2
  go_ret2
  exact ⟨rfl, rfl⟩

theorem cut_yes (s : ByteArray) (m : Nat) (w : World) (hs0 : s.size ≤ 4611686018427387000) (hm : s.size = m + 1) (h : (bl s).getLast? = some 105) :
    Calls Tryz.prog 96 #[.string s, .string ⟨#[105]⟩] w fun e w' => e = .returned (.tuple #[.string (s.extract 0 m), .bool true]) ∧ w = w' := by
  have h1' : (1 : Int) ≤ (s.size : Int) := by omega
  have hc : byN s m = 105 := (last_is s m hm).1.1 h
  have ht := one_text s m hm
  rw [decide_eq_true hc] at ht
  have cl : (s.size : Int) - 1 = (m : Int) := by omega
  have hmx : m ≤ 4611686018427387000 := by omega
  have b0 : (0 : Int) ≤ (m : Int) := by omega
  have b1 : (m : Int) ≤ (s.size : Int) := by omega
  clear hm hc h
  have hs : ∀ w, Calls Tryz.prog 146 #[.string s, .string ⟨#[105]⟩] w fun e w' => e = .returned (.bool true) ∧ w = w' := by
    intro w
    go_enter Tryz.func146, Tryz.ntmps146
    go_wp2
    go_ret
    exact ⟨rfl, rfl⟩
  have hl : ∀ w, Calls Tryz.prog 125 #[.string s, .string ⟨#[105]⟩] w fun e w' => e = .returned (.tuple #[.string (s.extract 0 m), .bool true]) ∧ w = w' := by
    intro w
    go_enter Tryz.func125, Tryz.ntmps125
    go_wp2_with fail
    refine (hs _).mono ?_
    rintro e w' ⟨rfl, rfl⟩
    go_wp2
    go_ret2
    exact ⟨rfl, rfl⟩
  go_enter Tryz.func96, Tryz.ntmps96
  go_wp2_with fail
  refine (hl _).mono ?_
  rintro e w' ⟨rfl, rfl⟩
  go_wp2
  go_ret2
  exact ⟨rfl, rfl⟩

theorem ret_u8b {a b : Nat} (h : a = b) : Ending.returned (.int .u8 (a : Int)) = .returned (.int .u8 (b : Int)) := by rw [h]

/-- number.Kind -/
theorem kind_any (s : ByteArray) (w : World) (hs : s.size ≤ 4611686018427387000) :
    Calls Tryz.prog 78 #[.string s] w fun e w' => e = .returned (.int .u8 (Nm.kind (bl s) : Nat)) ∧ Below w.heap.size w w' := by
  by_cases hl : (bl s).getLast? = some 105
  · obtain ⟨m, hm⟩ : ∃ m, s.size = m + 1 := by
      refine ⟨s.size - 1, ?_⟩
      by_cases h : 0 < s.size
      · omega
      · have : bl s = [] := List.eq_nil_of_length_eq_zero (by rw [bl_size]; omega)
        rw [this] at hl; cases hl
    have HC := cut_yes s m w hs hm hl
    have hd := (last_is s m hm).2
    have hk : Nm.kind (bl s) = if Nm.plain ((bl s).take m) ≠ 0 ∨ Nm.whole 10 ((bl s).take m) = true then 5 else 0 := by unfold Nm.kind; rw [if_pos hl, hd]
    have HP := fun w => plain_any (s.extract 0 m) w (Nat.le_trans (size_to s m) hs)
    have HW := fun w => isrow_any (s.extract 0 m) 10 w (by omega) (Nat.le_trans (size_to s m) hs)
    rw [bl_to] at HP HW
    have hpk : Nm.plain ((bl s).take m) < 256 := by have := Nm.plain_kinds ((bl s).take m); omega
    have Hk := Lib.hid hk
    clear hk hd hl hm
    generalize Nm.plain ((bl s).take m) = P at HP Hk hpk
    generalize Nm.whole 10 ((bl s).take m) = V at HW Hk
    by_cases h0 : P = 0
    · subst h0
      cases V with
      | true =>
        go_enter Tryz.func78, Tryz.ntmps78
        go_wp2_with fail
        refine HC.mono ?_
        rintro e w' ⟨rfl, rfl⟩
        go_wp2_with fail
        refine (HP _).mono ?_
        rintro e w1 ⟨rfl, b1⟩
        go_wp2_with fail
        refine (HW _).mono ?_
        rintro e w2 ⟨rfl, b2⟩
        go_wp2
        go_ret
        exact ⟨by rw [Hk.out]; rfl, b1.trans (b2.mono b1.size)⟩
      | false =>
        go_enter Tryz.func78, Tryz.ntmps78
        go_wp2_with fail
        refine HC.mono ?_
        rintro e w' ⟨rfl, rfl⟩
        go_wp2_with fail
        refine (HP _).mono ?_
        rintro e w1 ⟨rfl, b1⟩
        go_wp2_with fail
        refine (HW _).mono ?_
        rintro e w2 ⟨rfl, b2⟩
        go_wp2
        go_ret
        exact ⟨by rw [Hk.out]; rfl, b1.trans (b2.mono b1.size)⟩
    · have d1 : ((P : Int) != 0) = true := by simp; omega
      have d2 : ((P : Int) == 0) = false := beq_eq_false_iff_ne.2 (by omega)
      have hfin : (5 : Nat) = Nm.kind (bl s) := by rw [Hk.out, if_pos (.inl h0)]
      have Hfin := Lib.hid hfin
      clear hfin Hk h0
      go_enter Tryz.func78, Tryz.ntmps78
      go_wp2_with fail
      refine HC.mono ?_
      rintro e w' ⟨rfl, rfl⟩
      go_wp2_with fail
      refine (HP _).mono ?_
      rintro e w1 ⟨rfl, b1⟩
      go_wp2
      go_ret
      exact ⟨ret_u8b Hfin.out, b1⟩
  · have HC := cut_no s w hs hl
    have hk : Nm.plain (bl s) = Nm.kind (bl s) := by unfold Nm.kind; rw [if_neg hl]
    have HP := fun w => plain_any s w hs
    rw [hk] at HP
    clear hk hl
    go_enter Tryz.func78, Tryz.ntmps78
    go_wp2_with fail
    refine HC.mono ?_
    rintro e w' ⟨rfl, rfl⟩
    go_wp2_with fail
    refine (HP _).mono ?_
    rintro e w1 ⟨rfl, b1⟩
    go_wp2
    go_ret
    exact ⟨rfl, b1⟩
end Go.Proofs.YtklmiabgalanhaaGreatDoor

