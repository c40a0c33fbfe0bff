/- Contracts of the reference of numbers: Int, Float, Kind. -/
import Derived.Test.YtdpngmhjdafdpaaNuRefC
import Derived.Test.YtdpngmhjdafdpaaNuRun
namespace Go.Proofs.Ytdpngmhjdafdpaa
open Go.RowKit Em
set_option linter.unusedVariables false
set_option linter.unusedSimpArgs false

theorem text_is0 (s : ByteArray) : (s.toList == [48]) = decide (bl s = [48]) := by
  have e : s.toList = bl s := by
    have := Lib.extract_toList s 0 s.size
    rw [ByteArray.extract_zero_size] at this
    rw [this]; unfold bl; simp
    exact List.take_of_length_le (by rw [Array.length_toList]; exact Nat.le_refl _)
  rw [e, Bool.eq_iff_iff, beq_iff_eq, decide_eq_true_eq]

def intB (l : List UInt8) : Bool := decide (Nm.plain l = 3)
def floatB (l : List UInt8) : Bool := decide (Nm.plain l = 4)

theorem intB_eq (s : ByteArray) : (decide (bl s = [48]) || (Nm.R 10 (bl s) && !Nm.at1 48 (bl s)) || (Nm.at1 48 (bl s) && Nm.under 8 ((bl s).drop 1)) ||
    (if hdB s 98 66 = true then Nm.under 2 ((bl s).drop 2) else if hdB s 111 79 = true then Nm.under 8 ((bl s).drop 2) else hdB s 120 88 && Nm.under 16 ((bl s).drop 2))) = intB (bl s) := by
  unfold intB
  rw [Bool.eq_iff_iff, decide_eq_true_eq, Nm.int_iff]
  unfold Nm.IntG
  rw [pfx_eq, tail_drop]
  cases h1 : hdB s 98 66 with
  | true => simp [or_assoc]
  | false =>
    cases h2 : hdB s 111 79 with
    | true => simp [or_assoc]
    | false =>
      cases h3 : hdB s 120 88 with
      | true => simp [or_assoc]
      | false => simp [or_assoc]

set_option maxHeartbeats 4000000 in
theorem int_any (s : ByteArray) (w : World) (hs : s.size ≤ 4611686018427387000) :
    Calls Try.prog 25 #[.string s] w fun e w' => e = .returned (.bool (intB (bl s))) ∧ w = w' := by
  rw [← intB_eq]
  have HR := fun w => rrow_any s 10 w (by omega) hs
  have HU := fun w => under_from s 1 8 w (by omega) hs
  have H2 := fun w => under_from s 2 2 w (by omega) hs
  have H8 := fun w => under_from s 2 8 w (by omega) hs
  have H16 := fun w => under_from s 2 16 w (by omega) hs
  have K2 := fun w => headed_any s 98 66 w (by omega) (by omega)
  have K8 := fun w => headed_any s 111 79 w (by omega) (by omega)
  have K16 := fun w => headed_any s 120 88 w (by omega) (by omega)
  have e48 := text_is0 s
  have hR0 : Nm.R 10 (bl s) = true → 0 < s.size := by
    intro h
    have := Nm.ne_of h
    by_cases h0 : 0 < s.size
    · exact h0
    · exact absurd (List.eq_nil_of_length_eq_zero (by rw [bl_size]; omega)) this
  have sz2 : ∀ x y, hdB s x y = true → (2 : Int) ≤ (s.size : Int) := by
    intro x y h
    have := (of_decide_eq_true h).1
    omega
  have g2 := sz2 98 66
  have g8 := sz2 111 79
  have g16 := sz2 120 88
  have hz : Nm.at1 48 (bl s) = if 0 < s.size then decide (byN s 0 = 48) else false := by
    by_cases h0 : 0 < s.size
    · rw [if_pos h0, at1_zero s h0]; rfl
    · rw [if_neg h0, at1_none s h0]
  rw [hz]
  have hU1 : s.size ≤ 1 → Nm.under 8 ((bl s).drop 1) = false := by
    intro h
    rw [bl_over s 1 (by omega)]; rfl
  clear sz2 hz
  generalize hdB s 98 66 = p2 at K2 g2 ⊢
  generalize hdB s 111 79 = p8 at K8 g8 ⊢
  generalize hdB s 120 88 = p16 at K16 g16 ⊢
  generalize Nm.under 2 ((bl s).drop 2) = v2 at H2 ⊢
  generalize Nm.under 8 ((bl s).drop 2) = v8 at H8 ⊢
  generalize Nm.under 16 ((bl s).drop 2) = v16 at H16 ⊢
  generalize Nm.under 8 ((bl s).drop 1) = vU at HU hU1 ⊢
  generalize Nm.R 10 (bl s) = vR at HR hR0 ⊢
  generalize decide (bl s = [48]) = z48 at e48 ⊢
  have l0 := byN_lt s 0
  have e0 := fun h => byN_get s 0 h
  generalize byN s 0 = B at l0 e0 ⊢
  have E0 := Lib.hid e0; have G2 := Lib.hid g2; have G8 := Lib.hid g8; have G16 := Lib.hid g16; have HR0 := Lib.hid hR0; have HU1 := Lib.hid hU1
  clear e0 g2 g8 g16 hR0 hU1
  cases z48 with
  | true =>
    go_enter Try.func25, Try.ntmps25
    go_wp2
    all_goals (go_ret; exact ⟨ret_bool (by simp_all), rfl⟩)
  | false =>
    by_cases h0 : 0 < s.size
    · have h0' : (0 : Int) < (s.size : Int) := by omega
      have e0 := E0.out h0
      rw [if_pos h0]
      by_cases hB : B = 48
      · subst hB
        rw [decide_eq_true rfl]
        by_cases h1 : 1 < s.size
        · have h1' : (1 : Int) < (s.size : Int) := by omega
          have h1'' : (1 : Int) ≤ (s.size : Int) := by omega
          cases vU with
          | true =>
            go_enter Try.func25, Try.ntmps25
            go_wp2_with fail
            refine (HR _).mono ?_
            rintro e w' ⟨rfl, rfl⟩
            cases vR
            all_goals (go_wp2_with fail; refine (HU _).mono ?_; rintro e w' ⟨rfl, rfl⟩; go_wp2; all_goals (go_ret; exact ⟨ret_bool (by simp), rfl⟩))
          | false =>
            cases vR with
            | true =>
              cases p2 with
              | true =>
                have gg := G2.out rfl
                go_enter Try.func25, Try.ntmps25
                go_wp2_with fail
                refine (HR _).mono ?_
                rintro e w' ⟨rfl, rfl⟩
                go_wp2_with fail
                refine (HU _).mono ?_
                rintro e w' ⟨rfl, rfl⟩
                go_wp2_with fail
                refine (K2 _).mono ?_
                rintro e w' ⟨rfl, rfl⟩
                go_wp2_with fail
                refine (H2 _).mono ?_
                rintro e w' ⟨rfl, rfl⟩
                go_wp2
                all_goals (go_ret; exact ⟨ret_bool (by simp_all), rfl⟩)
              | false =>
                cases p8 with
                | true =>
                  have gg := G8.out rfl
                  go_enter Try.func25, Try.ntmps25
                  go_wp2_with fail
                  refine (HR _).mono ?_
                  rintro e w' ⟨rfl, rfl⟩
                  go_wp2_with fail
                  refine (HU _).mono ?_
                  rintro e w' ⟨rfl, rfl⟩
                  go_wp2_with fail
                  refine (K2 _).mono ?_
                  rintro e w' ⟨rfl, rfl⟩
                  go_wp2_with fail
                  refine (K8 _).mono ?_
                  rintro e w' ⟨rfl, rfl⟩
                  go_wp2_with fail
                  refine (H8 _).mono ?_
                  rintro e w' ⟨rfl, rfl⟩
                  go_wp2
                  all_goals (go_ret; exact ⟨ret_bool (by simp_all), rfl⟩)
                | false =>
                  cases p16 with
                  | true =>
                    have gg := G16.out rfl
                    go_enter Try.func25, Try.ntmps25
                    go_wp2_with fail
                    refine (HR _).mono ?_
                    rintro e w' ⟨rfl, rfl⟩
                    go_wp2_with fail
                    refine (HU _).mono ?_
                    rintro e w' ⟨rfl, rfl⟩
                    go_wp2_with fail
                    refine (K2 _).mono ?_
                    rintro e w' ⟨rfl, rfl⟩
                    go_wp2_with fail
                    refine (K8 _).mono ?_
                    rintro e w' ⟨rfl, rfl⟩
                    go_wp2_with fail
                    refine (K16 _).mono ?_
                    rintro e w' ⟨rfl, rfl⟩
                    go_wp2_with fail
                    refine (H16 _).mono ?_
                    rintro e w' ⟨rfl, rfl⟩
                    go_wp2
                    all_goals (go_ret; exact ⟨ret_bool (by simp_all), rfl⟩)
                  | false =>
                    go_enter Try.func25, Try.ntmps25
                    go_wp2_with fail
                    refine (HR _).mono ?_
                    rintro e w' ⟨rfl, rfl⟩
                    go_wp2_with fail
                    refine (HU _).mono ?_
                    rintro e w' ⟨rfl, rfl⟩
                    go_wp2_with fail
                    refine (K2 _).mono ?_
                    rintro e w' ⟨rfl, rfl⟩
                    go_wp2_with fail
                    refine (K8 _).mono ?_
                    rintro e w' ⟨rfl, rfl⟩
                    go_wp2_with fail
                    refine (K16 _).mono ?_
                    rintro e w' ⟨rfl, rfl⟩
                    go_wp2
                    all_goals (go_ret; exact ⟨ret_bool (by simp_all), rfl⟩)
            | false =>
              cases p2 with
              | true =>
                have gg := G2.out rfl
                go_enter Try.func25, Try.ntmps25
                go_wp2_with fail
                refine (HR _).mono ?_
                rintro e w' ⟨rfl, rfl⟩
                go_wp2_with fail
                refine (HU _).mono ?_
                rintro e w' ⟨rfl, rfl⟩
                go_wp2_with fail
                refine (K2 _).mono ?_
                rintro e w' ⟨rfl, rfl⟩
                go_wp2_with fail
                refine (H2 _).mono ?_
                rintro e w' ⟨rfl, rfl⟩
                go_wp2
                all_goals (go_ret; exact ⟨ret_bool (by simp_all), rfl⟩)
              | false =>
                cases p8 with
                | true =>
                  have gg := G8.out rfl
                  go_enter Try.func25, Try.ntmps25
                  go_wp2_with fail
                  refine (HR _).mono ?_
                  rintro e w' ⟨rfl, rfl⟩
                  go_wp2_with fail
                  refine (HU _).mono ?_
                  rintro e w' ⟨rfl, rfl⟩
                  go_wp2_with fail
                  refine (K2 _).mono ?_
                  rintro e w' ⟨rfl, rfl⟩
                  go_wp2_with fail
                  refine (K8 _).mono ?_
                  rintro e w' ⟨rfl, rfl⟩
                  go_wp2_with fail
                  refine (H8 _).mono ?_
                  rintro e w' ⟨rfl, rfl⟩
                  go_wp2
                  all_goals (go_ret; exact ⟨ret_bool (by simp_all), rfl⟩)
                | false =>
                  cases p16 with
                  | true =>
                    have gg := G16.out rfl
                    go_enter Try.func25, Try.ntmps25
                    go_wp2_with fail
                    refine (HR _).mono ?_
                    rintro e w' ⟨rfl, rfl⟩
                    go_wp2_with fail
                    refine (HU _).mono ?_
                    rintro e w' ⟨rfl, rfl⟩
                    go_wp2_with fail
                    refine (K2 _).mono ?_
                    rintro e w' ⟨rfl, rfl⟩
                    go_wp2_with fail
                    refine (K8 _).mono ?_
                    rintro e w' ⟨rfl, rfl⟩
                    go_wp2_with fail
                    refine (K16 _).mono ?_
                    rintro e w' ⟨rfl, rfl⟩
                    go_wp2_with fail
                    refine (H16 _).mono ?_
                    rintro e w' ⟨rfl, rfl⟩
                    go_wp2
                    all_goals (go_ret; exact ⟨ret_bool (by simp_all), rfl⟩)
                  | false =>
                    go_enter Try.func25, Try.ntmps25
                    go_wp2_with fail
                    refine (HR _).mono ?_
                    rintro e w' ⟨rfl, rfl⟩
                    go_wp2_with fail
                    refine (HU _).mono ?_
                    rintro e w' ⟨rfl, rfl⟩
                    go_wp2_with fail
                    refine (K2 _).mono ?_
                    rintro e w' ⟨rfl, rfl⟩
                    go_wp2_with fail
                    refine (K8 _).mono ?_
                    rintro e w' ⟨rfl, rfl⟩
                    go_wp2_with fail
                    refine (K16 _).mono ?_
                    rintro e w' ⟨rfl, rfl⟩
                    go_wp2
                    all_goals (go_ret; exact ⟨ret_bool (by simp_all), rfl⟩)
        · have h1' : ¬ (1 : Int) < (s.size : Int) := by omega
          have hv := HU1.out (by omega)
          subst hv
          cases vR with
          | true =>
            cases p2 with
            | true =>
              have gg := G2.out rfl
              omega
            | false =>
              cases p8 with
              | true =>
                have gg := G8.out rfl
                omega
              | false =>
                cases p16 with
                | true =>
                  have gg := G16.out rfl
                  omega
                | false =>
                  go_enter Try.func25, Try.ntmps25
                  go_wp2_with fail
                  refine (HR _).mono ?_
                  rintro e w' ⟨rfl, rfl⟩
                  go_wp2_with fail
                  refine (K2 _).mono ?_
                  rintro e w' ⟨rfl, rfl⟩
                  go_wp2_with fail
                  refine (K8 _).mono ?_
                  rintro e w' ⟨rfl, rfl⟩
                  go_wp2_with fail
                  refine (K16 _).mono ?_
                  rintro e w' ⟨rfl, rfl⟩
                  go_wp2
                  all_goals (go_ret; exact ⟨ret_bool (by simp_all), rfl⟩)
          | false =>
            cases p2 with
            | true =>
              have gg := G2.out rfl
              omega
            | false =>
              cases p8 with
              | true =>
                have gg := G8.out rfl
                omega
              | false =>
                cases p16 with
                | true =>
                  have gg := G16.out rfl
                  omega
                | false =>
                  go_enter Try.func25, Try.ntmps25
                  go_wp2_with fail
                  refine (HR _).mono ?_
                  rintro e w' ⟨rfl, rfl⟩
                  go_wp2_with fail
                  refine (K2 _).mono ?_
                  rintro e w' ⟨rfl, rfl⟩
                  go_wp2_with fail
                  refine (K8 _).mono ?_
                  rintro e w' ⟨rfl, rfl⟩
                  go_wp2_with fail
                  refine (K16 _).mono ?_
                  rintro e w' ⟨rfl, rfl⟩
                  go_wp2
                  all_goals (go_ret; exact ⟨ret_bool (by simp_all), rfl⟩)
      · rw [decide_eq_false hB]
        have d1 : ((B : Int) != 48) = true := by simp; omega
        have d2 : ((B : Int) == 48) = false := beq_eq_false_iff_ne.2 (by omega)
        have vd : vU = vU := rfl
        cases vR with
        | true =>
          go_enter Try.func25, Try.ntmps25
          go_wp2_with fail
          refine (HR _).mono ?_
          rintro e w' ⟨rfl, rfl⟩
          go_wp2
          all_goals (go_ret; exact ⟨ret_bool (by simp_all), rfl⟩)
        | false =>
          by_cases h1 : 1 < s.size
          · have h1' : (1 : Int) < (s.size : Int) := by omega
            cases p2 with
            | true =>
              have gg := G2.out rfl
              go_enter Try.func25, Try.ntmps25
              go_wp2_with fail
              refine (HR _).mono ?_
              rintro e w' ⟨rfl, rfl⟩
              go_wp2_with fail
              refine (K2 _).mono ?_
              rintro e w' ⟨rfl, rfl⟩
              go_wp2_with fail
              refine (H2 _).mono ?_
              rintro e w' ⟨rfl, rfl⟩
              go_wp2
              all_goals (go_ret; exact ⟨ret_bool (by simp_all), rfl⟩)
            | false =>
              cases p8 with
              | true =>
                have gg := G8.out rfl
                go_enter Try.func25, Try.ntmps25
                go_wp2_with fail
                refine (HR _).mono ?_
                rintro e w' ⟨rfl, rfl⟩
                go_wp2_with fail
                refine (K2 _).mono ?_
                rintro e w' ⟨rfl, rfl⟩
                go_wp2_with fail
                refine (K8 _).mono ?_
                rintro e w' ⟨rfl, rfl⟩
                go_wp2_with fail
                refine (H8 _).mono ?_
                rintro e w' ⟨rfl, rfl⟩
                go_wp2
                all_goals (go_ret; exact ⟨ret_bool (by simp_all), rfl⟩)
              | false =>
                cases p16 with
                | true =>
                  have gg := G16.out rfl
                  go_enter Try.func25, Try.ntmps25
                  go_wp2_with fail
                  refine (HR _).mono ?_
                  rintro e w' ⟨rfl, rfl⟩
                  go_wp2_with fail
                  refine (K2 _).mono ?_
                  rintro e w' ⟨rfl, rfl⟩
                  go_wp2_with fail
                  refine (K8 _).mono ?_
                  rintro e w' ⟨rfl, rfl⟩
                  go_wp2_with fail
                  refine (K16 _).mono ?_
                  rintro e w' ⟨rfl, rfl⟩
                  go_wp2_with fail
                  refine (H16 _).mono ?_
                  rintro e w' ⟨rfl, rfl⟩
                  go_wp2
                  all_goals (go_ret; exact ⟨ret_bool (by simp_all), rfl⟩)
                | false =>
                  go_enter Try.func25, Try.ntmps25
                  go_wp2_with fail
                  refine (HR _).mono ?_
                  rintro e w' ⟨rfl, rfl⟩
                  go_wp2_with fail
                  refine (K2 _).mono ?_
                  rintro e w' ⟨rfl, rfl⟩
                  go_wp2_with fail
                  refine (K8 _).mono ?_
                  rintro e w' ⟨rfl, rfl⟩
                  go_wp2_with fail
                  refine (K16 _).mono ?_
                  rintro e w' ⟨rfl, rfl⟩
                  go_wp2
                  all_goals (go_ret; exact ⟨ret_bool (by simp_all), rfl⟩)
          · have h1' : ¬ (1 : Int) < (s.size : Int) := by omega
            cases p2 with
            | true =>
              have gg := G2.out rfl
              omega
            | false =>
              cases p8 with
              | true =>
                have gg := G8.out rfl
                omega
              | false =>
                cases p16 with
                | true =>
                  have gg := G16.out rfl
                  omega
                | false =>
                  go_enter Try.func25, Try.ntmps25
                  go_wp2_with fail
                  refine (HR _).mono ?_
                  rintro e w' ⟨rfl, rfl⟩
                  go_wp2_with fail
                  refine (K2 _).mono ?_
                  rintro e w' ⟨rfl, rfl⟩
                  go_wp2_with fail
                  refine (K8 _).mono ?_
                  rintro e w' ⟨rfl, rfl⟩
                  go_wp2_with fail
                  refine (K16 _).mono ?_
                  rintro e w' ⟨rfl, rfl⟩
                  go_wp2
                  all_goals (go_ret; exact ⟨ret_bool (by simp_all), rfl⟩)
    · have h0' : ¬ (1 : Int) < (s.size : Int) := by omega
      rw [if_neg h0]
      cases vR with
      | true => exact absurd (HR0.out rfl) h0
      | false =>
        cases p2 with
        | true =>
          have gg := G2.out rfl
          omega
        | false =>
          cases p8 with
          | true =>
            have gg := G8.out rfl
            omega
          | false =>
            cases p16 with
            | true =>
              have gg := G16.out rfl
              omega
            | false =>
              go_enter Try.func25, Try.ntmps25
              go_wp2_with fail
              refine (HR _).mono ?_
              rintro e w' ⟨rfl, rfl⟩
              go_wp2_with fail
              refine (K2 _).mono ?_
              rintro e w' ⟨rfl, rfl⟩
              go_wp2_with fail
              refine (K8 _).mono ?_
              rintro e w' ⟨rfl, rfl⟩
              go_wp2_with fail
              refine (K16 _).mono ?_
              rintro e w' ⟨rfl, rfl⟩
              go_wp2
              all_goals (go_ret; exact ⟨ret_bool (by simp_all), rfl⟩)

theorem int_to (s : ByteArray) (a : Nat) (w : World) (hs : s.size ≤ 4611686018427387000) :
    Calls Try.prog 25 #[.string (s.extract 0 a)] w fun e w' => e = .returned (.bool (intB ((bl s).take a))) ∧ w = w' := by
  have := int_any (s.extract 0 a) w (Nat.le_trans (size_to s a) hs)
  rw [bl_to] at this; exact this
theorem power_from (s : ByteArray) (a : Nat) (c d : UInt8) (w : World) (hs : s.size ≤ 4611686018427387000) :
    Calls Try.prog 42 #[.string (s.extract a s.size), .int .u8 c.toNat, .int .u8 d.toNat] w fun e w' => e = .returned (.bool (Nm.power c d ((bl s).drop a))) ∧ w = w' := by
  have := power_any (s.extract a s.size) c d w (Nat.le_trans (size_from s a) hs)
  rw [bl_from] at this; exact this
theorem pointed_to (s : ByteArray) (a b : Nat) (hex : Bool) (w : World) (hb : b ≤ 16) (hs : s.size ≤ 4611686018427387000) :
    Calls Try.prog 43 #[.string (s.extract 0 a), .int .i64 b, .bool hex] w fun e w' => e = .returned (.bool (ptB b hex ((bl s).take a))) ∧ w = w' := by
  have := pointed_any (s.extract 0 a) b hex w hb (Nat.le_trans (size_to s a) hs)
  rw [bl_to] at this; exact this

/-- What the loops of Float ask at a place. -/
noncomputable def hexAt (l : List UInt8) (i : Nat) : Bool := Nm.power 112 80 (l.drop i) && (ptB 16 true (l.take i) || Nm.under 16 (l.take i))
noncomputable def decAt (l : List UInt8) (i : Nat) : Bool := Nm.power 101 69 (l.drop i) && (ptB 10 false (l.take i) || Nm.R 10 (l.take i))
theorem hex_iff (l : List UInt8) : Nm.HexG l ↔ ∃ i, i ≤ l.length ∧ hexAt l i = true := by
  constructor
  · rintro ⟨x, y, rfl, h1, h2⟩
    refine ⟨x.length, by simp, ?_⟩
    unfold hexAt
    rw [List.drop_left, List.take_left, h1, Bool.true_and, Bool.or_eq_true, ptB_iff]; exact h2
  · rintro ⟨i, _, h⟩
    unfold hexAt at h
    rw [Bool.and_eq_true, Bool.or_eq_true, ptB_iff] at h
    exact ⟨l.take i, l.drop i, (List.take_append_drop i l).symm, h.1, h.2⟩
theorem dec_iff (l : List UInt8) : (∃ x y, l = x ++ y ∧ Nm.power 101 69 y = true ∧ (Nm.pointed 10 false x ∨ Nm.R 10 x = true)) ↔ ∃ i, i ≤ l.length ∧ decAt l i = true := by
  constructor
  · rintro ⟨x, y, rfl, h1, h2⟩
    refine ⟨x.length, by simp, ?_⟩
    unfold decAt
    rw [List.drop_left, List.take_left, h1, Bool.true_and, Bool.or_eq_true, ptB_iff]; exact h2
  · rintro ⟨i, _, h⟩
    unfold decAt at h
    rw [Bool.and_eq_true, Bool.or_eq_true, ptB_iff] at h
    exact ⟨l.take i, l.drop i, (List.take_append_drop i l).symm, h.1, h.2⟩

theorem pfx16 (s : ByteArray) : Nm.pfx (bl s) = 16 ↔ hdB s 120 88 = true := by
  rw [pfx_eq]
  have ex : ∀ x y, hdB s x y = true → byN s 1 = x ∨ byN s 1 = y := fun x y h => (of_decide_eq_true h).2.2
  cases h1 : hdB s 98 66 with
  | true =>
    cases h3 : hdB s 120 88 with
    | true => have := ex _ _ h1; have := ex _ _ h3; omega
    | false => simp
  | false =>
    cases h2 : hdB s 111 79 with
    | true =>
      cases h3 : hdB s 120 88 with
      | true => have := ex _ _ h2; have := ex _ _ h3; omega
      | false => simp
    | false => cases h3 : hdB s 120 88 <;> simp

theorem float_hex {s : ByteArray} (h : hdB s 120 88 = true) : floatB (bl s) = true ↔ ∃ i, i ≤ ((bl s).drop 2).length ∧ hexAt ((bl s).drop 2) i = true := by
  have := (pfx16 s).2 h
  unfold floatB
  rw [decide_eq_true_eq, Nm.float_iff, ← hex_iff]
  unfold Nm.FloatG
  simp [this]
theorem float_dec {s : ByteArray} (h : hdB s 120 88 = false) : floatB (bl s) = true ↔ ptB 10 false (bl s) = true ∨ ∃ i, i ≤ (bl s).length ∧ decAt (bl s) i = true := by
  have : Nm.pfx (bl s) ≠ 16 := fun e => by rw [(pfx16 s).1 e] at h; cases h
  unfold floatB
  rw [decide_eq_true_eq, Nm.float_iff, ptB_iff, ← dec_iff]
  unfold Nm.FloatG Nm.DecG
  simp [this]
end Go.Proofs.Ytdpngmhjdafdpaa
