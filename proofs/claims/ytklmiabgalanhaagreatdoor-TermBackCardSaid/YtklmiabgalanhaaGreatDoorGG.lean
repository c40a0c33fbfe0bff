/- Contract of number.decimal. -/
import Derived.Test.YtklmiabgalanhaaGreatDoorGF
namespace Go.Proofs.YtklmiabgalanhaaGreatDoor
open Go.RowKit Em
set_option maxRecDepth 100000
set_option linter.unusedVariables false
set_option linter.unusedSimpArgs false

set_option maxHeartbeats 8000000 in
theorem decimal_any (s : ByteArray) (w : World) (hs : s.size ≤ 4611686018427387000) :
    Calls Tryz.prog 128 #[.string s] w fun e w' => e = .returned (.int .u8 (Nm.dec (bl s) : Nat)) ∧ Below w.heap.size w w' := by
  go_enter Tryz.func128, Tryz.ntmps128
  go_wp2_with fail
  refine (walk_any s w).mono ?_
  rintro e w1 ⟨bs, ba, bt, rfl, k1, h1, b1⟩
  unfold rowF oneF endF
  cases hw : Nm.hd 10 (bl s) with
  | true =>
    go_wp2_with fail
    refine (row_is bs ba bt s (bl s) 10 true w1 k1 (by omega) hs hw).mono ?_
    rintro e w2 ⟨rfl, k2, c2⟩
    have b2 := b1.trans (c2 _ h1)
    clear k1 b1 c2
    cases hemp : (Nm.go 10 (bl s)).isEmpty with
    | true =>
      have Hk2e := Lib.hid k2
      have Hb2e := Lib.hid b2
      go_wp2_with fail
      refine (end_any bs ba bt s (Nm.go 10 (bl s)) true w2 k2 hemp).mono ?_
      rintro e w3 ⟨rfl, rfl⟩
      have hpos : 0 < s.size := by
        by_cases h : 0 < s.size
        · exact h
        · rw [show bl s = (bl s).drop 0 from rfl, bl_over s 0 h] at hw; cases hw
      have hpos2 : (0 : Int) < (s.size : Int) := by omega
      have e1 := byN_get s 0 hpos
      have l1 := byN_lt s 0
      have t1 := at1_at s 0 hpos 48
      rw [List.drop_zero] at t1
      by_cases hc : byN s 0 = 48
      · rw [hc] at e1 t1 l1
        have t2 : Nm.at1 48 (bl s) = true := t1
        clear hc t1
        have HR := isrow_any s 8 w2 (by omega) hs
        cases h8 : Nm.whole 8 (bl s) with
        | true =>
          rw [h8] at HR
          go_wp2_with fail
          refine HR.mono ?_
          rintro e w9 ⟨rfl, c9⟩
          have b9 := b2.trans (c9.mono b2.size)
          go_wp2
          go_ret
          exact ⟨ret_u8 (show 3 = Nm.dec (bl s) by unfold Nm.dec; simp [hw, isE hemp, t2, h8]), b9⟩
        | false =>
          rw [h8] at HR
          go_wp2_with fail
          refine HR.mono ?_
          rintro e w9 ⟨rfl, c9⟩
          have b9 := b2.trans (c9.mono b2.size)
          go_wp2
          go_ret
          exact ⟨ret_u8 (show 0 = Nm.dec (bl s) by unfold Nm.dec; simp [hw, isE hemp, t2, h8]), b9⟩
      · have t2 : Nm.at1 48 (bl s) = false := t1.trans (decide_eq_false (fun e => hc (by simpa using Int.ofNat.inj e)))
        have d1 : ((byN s 0 : Int) != 48) = true := by simp; omega
        have d2 : ((byN s 0 : Int) == 48) = false := beq_eq_false_iff_ne.2 (by omega)
        clear hc t1
        generalize byN s 0 = C at e1 l1 d1 d2
        go_wp2
        go_ret
        exact ⟨ret_u8 (show 3 = Nm.dec (bl s) by unfold Nm.dec; simp [hw, isE hemp, t2]), b2⟩
    | false =>
      have Hk2e := Lib.hid k2
      have Hb2e := Lib.hid b2
      go_wp2_with fail
      refine (end_any bs ba bt s (Nm.go 10 (bl s)) false w2 k2 hemp).mono ?_
      rintro e w3 ⟨rfl, rfl⟩
      cases hpt : Nm.at1 46 (Nm.go 10 (bl s)) with
      | true =>
        go_wp2_with fail
        refine (one_any bs ba bt s (Nm.go 10 (bl s)) ⟨#[46]⟩ true w2 k2 hs ((inS1 _ _).trans hpt)).mono ?_
        rintro e w3 ⟨rfl, k3, c3⟩
        have b3 := b2.trans (c3 _ h1)
        clear k2 b2 c3
        simp only [cond_true, cond_false] at k3
        cases hq : Nm.hd 10 ((Nm.go 10 (bl s)).tail) with
        | true =>
          go_wp2_with fail
          refine (row_is bs ba bt s ((Nm.go 10 (bl s)).tail) 10 true w3 k3 (by omega) hs hq).mono ?_
          rintro e w4 ⟨rfl, k4, c4⟩
          have b4 := b3.trans (c4 _ h1)
          clear k3 b3 c4
          cases hpw : Nm.at2 101 69 (Nm.go 10 ((Nm.go 10 (bl s)).tail)) with
          | true =>
            go_wp2_with fail
            refine (one_any bs ba bt s (Nm.go 10 ((Nm.go 10 (bl s)).tail)) ⟨#[101, 69]⟩ true w4 k4 hs ((inS2 _ _ _).trans hpw)).mono ?_
            rintro e w5 ⟨rfl, k5, c5⟩
            have b5 := b4.trans (c5 _ h1)
            clear k4 b4 c5
            simp only [cond_true, cond_false] at k5
            cases hex : Nm.hd 10 (Nm.sg (Nm.go 10 ((Nm.go 10 (bl s)).tail)).tail) with
            | true =>
              go_wp2_with fail
              refine (exponent_is bs ba bt s ((Nm.go 10 ((Nm.go 10 (bl s)).tail)).tail) true w5 k5 hs hex).mono ?_
              rintro e w6 ⟨rfl, k6, c6⟩
              have b6 := b5.trans (c6 _ h1)
              clear k5 b5 c6
              cases hem : (Nm.go 10 (Nm.sg (Nm.go 10 ((Nm.go 10 (bl s)).tail)).tail)).isEmpty with
              | true =>
                have Hk6e := Lib.hid k6
                have Hb6e := Lib.hid b6
                go_wp2_with fail
                refine (end_any bs ba bt s (Nm.go 10 (Nm.sg (Nm.go 10 ((Nm.go 10 (bl s)).tail)).tail)) true w6 k6 hem).mono ?_
                rintro e w7 ⟨rfl, rfl⟩
                go_wp2
                go_ret
                exact ⟨ret_u8 (show 4 = Nm.dec (bl s) by unfold Nm.dec; simp [hw, isE hemp, hpt, hq, hpw, Nm.expo, Nm.whole, hex, isE hem]), b6⟩
              | false =>
                have Hk6e := Lib.hid k6
                have Hb6e := Lib.hid b6
                go_wp2_with fail
                refine (end_any bs ba bt s (Nm.go 10 (Nm.sg (Nm.go 10 ((Nm.go 10 (bl s)).tail)).tail)) false w6 k6 hem).mono ?_
                rintro e w7 ⟨rfl, rfl⟩
                go_wp2
                go_ret
                exact ⟨ret_u8 (show 0 = Nm.dec (bl s) by unfold Nm.dec; simp [hw, isE hemp, hpt, hq, hpw, Nm.expo, Nm.whole, hex, isE hem]), b6⟩
            | false =>
              go_wp2_with fail
              refine (exponent_is bs ba bt s ((Nm.go 10 ((Nm.go 10 (bl s)).tail)).tail) false w5 k5 hs hex).mono ?_
              rintro e w6 ⟨rfl, k6, c6⟩
              have b6 := b5.trans (c6 _ h1)
              clear k5 b5 c6
              go_wp2
              go_ret
              exact ⟨ret_u8 (show 0 = Nm.dec (bl s) by unfold Nm.dec; simp [hw, isE hemp, hpt, hq, hpw, Nm.expo, Nm.whole, hex]), b6⟩
          | false =>
            go_wp2_with fail
            refine (one_any bs ba bt s (Nm.go 10 ((Nm.go 10 (bl s)).tail)) ⟨#[101, 69]⟩ false w4 k4 hs ((inS2 _ _ _).trans hpw)).mono ?_
            rintro e w5 ⟨rfl, k5, c5⟩
            have b5 := b4.trans (c5 _ h1)
            clear k4 b4 c5
            simp only [cond_true, cond_false] at k5
            cases hem : (Nm.go 10 ((Nm.go 10 (bl s)).tail)).isEmpty with
            | true =>
              have Hk5e := Lib.hid k5
              have Hb5e := Lib.hid b5
              go_wp2_with fail
              refine (end_any bs ba bt s (Nm.go 10 ((Nm.go 10 (bl s)).tail)) true w5 k5 hem).mono ?_
              rintro e w6 ⟨rfl, rfl⟩
              go_wp2
              go_ret
              exact ⟨ret_u8 (show 4 = Nm.dec (bl s) by unfold Nm.dec; simp [hw, isE hemp, hpt, hq, hpw, isE hem]), b5⟩
            | false =>
              have Hk5e := Lib.hid k5
              have Hb5e := Lib.hid b5
              go_wp2_with fail
              refine (end_any bs ba bt s (Nm.go 10 ((Nm.go 10 (bl s)).tail)) false w5 k5 hem).mono ?_
              rintro e w6 ⟨rfl, rfl⟩
              go_wp2
              go_ret
              exact ⟨ret_u8 (show 0 = Nm.dec (bl s) by unfold Nm.dec; simp [hw, isE hemp, hpt, hq, hpw, isE hem]), b5⟩
        | false =>
          go_wp2_with fail
          refine (row_is bs ba bt s ((Nm.go 10 (bl s)).tail) 10 false w3 k3 (by omega) hs hq).mono ?_
          rintro e w4 ⟨rfl, k4, c4⟩
          have b4 := b3.trans (c4 _ h1)
          clear k3 b3 c4
          rw [Nm.go_no hq] at k4
          cases hpw : Nm.at2 101 69 ((Nm.go 10 (bl s)).tail) with
          | true =>
            go_wp2_with fail
            refine (one_any bs ba bt s ((Nm.go 10 (bl s)).tail) ⟨#[101, 69]⟩ true w4 k4 hs ((inS2 _ _ _).trans hpw)).mono ?_
            rintro e w5 ⟨rfl, k5, c5⟩
            have b5 := b4.trans (c5 _ h1)
            clear k4 b4 c5
            simp only [cond_true, cond_false] at k5
            cases hex : Nm.hd 10 (Nm.sg ((Nm.go 10 (bl s)).tail).tail) with
            | true =>
              go_wp2_with fail
              refine (exponent_is bs ba bt s (((Nm.go 10 (bl s)).tail).tail) true w5 k5 hs hex).mono ?_
              rintro e w6 ⟨rfl, k6, c6⟩
              have b6 := b5.trans (c6 _ h1)
              clear k5 b5 c6
              cases hem : (Nm.go 10 (Nm.sg ((Nm.go 10 (bl s)).tail).tail)).isEmpty with
              | true =>
                have Hk6e := Lib.hid k6
                have Hb6e := Lib.hid b6
                go_wp2_with fail
                refine (end_any bs ba bt s (Nm.go 10 (Nm.sg ((Nm.go 10 (bl s)).tail).tail)) true w6 k6 hem).mono ?_
                rintro e w7 ⟨rfl, rfl⟩
                go_wp2
                go_ret
                exact ⟨ret_u8 (show 4 = Nm.dec (bl s) by unfold Nm.dec; simp [hw, isE hemp, hpt, hq, hpw, Nm.expo, Nm.whole, hex, isE hem]), b6⟩
              | false =>
                have Hk6e := Lib.hid k6
                have Hb6e := Lib.hid b6
                go_wp2_with fail
                refine (end_any bs ba bt s (Nm.go 10 (Nm.sg ((Nm.go 10 (bl s)).tail).tail)) false w6 k6 hem).mono ?_
                rintro e w7 ⟨rfl, rfl⟩
                go_wp2
                go_ret
                exact ⟨ret_u8 (show 0 = Nm.dec (bl s) by unfold Nm.dec; simp [hw, isE hemp, hpt, hq, hpw, Nm.expo, Nm.whole, hex, isE hem]), b6⟩
            | false =>
              go_wp2_with fail
              refine (exponent_is bs ba bt s (((Nm.go 10 (bl s)).tail).tail) false w5 k5 hs hex).mono ?_
              rintro e w6 ⟨rfl, k6, c6⟩
              have b6 := b5.trans (c6 _ h1)
              clear k5 b5 c6
              go_wp2
              go_ret
              exact ⟨ret_u8 (show 0 = Nm.dec (bl s) by unfold Nm.dec; simp [hw, isE hemp, hpt, hq, hpw, Nm.expo, Nm.whole, hex]), b6⟩
          | false =>
            go_wp2_with fail
            refine (one_any bs ba bt s ((Nm.go 10 (bl s)).tail) ⟨#[101, 69]⟩ false w4 k4 hs ((inS2 _ _ _).trans hpw)).mono ?_
            rintro e w5 ⟨rfl, k5, c5⟩
            have b5 := b4.trans (c5 _ h1)
            clear k4 b4 c5
            simp only [cond_true, cond_false] at k5
            cases hem : ((Nm.go 10 (bl s)).tail).isEmpty with
            | true =>
              have Hk5e := Lib.hid k5
              have Hb5e := Lib.hid b5
              go_wp2_with fail
              refine (end_any bs ba bt s ((Nm.go 10 (bl s)).tail) true w5 k5 hem).mono ?_
              rintro e w6 ⟨rfl, rfl⟩
              go_wp2
              go_ret
              exact ⟨ret_u8 (show 4 = Nm.dec (bl s) by unfold Nm.dec; simp [hw, isE hemp, hpt, hq, hpw, isE hem]), b5⟩
            | false =>
              have Hk5e := Lib.hid k5
              have Hb5e := Lib.hid b5
              go_wp2_with fail
              refine (end_any bs ba bt s ((Nm.go 10 (bl s)).tail) false w5 k5 hem).mono ?_
              rintro e w6 ⟨rfl, rfl⟩
              go_wp2
              go_ret
              exact ⟨ret_u8 (show 0 = Nm.dec (bl s) by unfold Nm.dec; simp [hw, isE hemp, hpt, hq, hpw, isE hem]), b5⟩
      | false =>
        go_wp2_with fail
        refine (one_any bs ba bt s (Nm.go 10 (bl s)) ⟨#[46]⟩ false w2 k2 hs ((inS1 _ _).trans hpt)).mono ?_
        rintro e w3 ⟨rfl, k3, c3⟩
        have b3 := b2.trans (c3 _ h1)
        clear k2 b2 c3
        simp only [cond_true, cond_false] at k3
        cases hpw : Nm.at2 101 69 (Nm.go 10 (bl s)) with
        | true =>
          go_wp2_with fail
          refine (one_any bs ba bt s (Nm.go 10 (bl s)) ⟨#[101, 69]⟩ true w3 k3 hs ((inS2 _ _ _).trans hpw)).mono ?_
          rintro e w4 ⟨rfl, k4, c4⟩
          have b4 := b3.trans (c4 _ h1)
          clear k3 b3 c4
          simp only [cond_true, cond_false] at k4
          cases hex : Nm.hd 10 (Nm.sg (Nm.go 10 (bl s)).tail) with
          | true =>
            go_wp2_with fail
            refine (exponent_is bs ba bt s ((Nm.go 10 (bl s)).tail) true w4 k4 hs hex).mono ?_
            rintro e w5 ⟨rfl, k5, c5⟩
            have b5 := b4.trans (c5 _ h1)
            clear k4 b4 c5
            cases hem : (Nm.go 10 (Nm.sg (Nm.go 10 (bl s)).tail)).isEmpty with
            | true =>
              have Hk5e := Lib.hid k5
              have Hb5e := Lib.hid b5
              go_wp2_with fail
              refine (end_any bs ba bt s (Nm.go 10 (Nm.sg (Nm.go 10 (bl s)).tail)) true w5 k5 hem).mono ?_
              rintro e w6 ⟨rfl, rfl⟩
              go_wp2
              go_ret
              exact ⟨ret_u8 (show 4 = Nm.dec (bl s) by unfold Nm.dec; simp [hw, isE hemp, hpt, hpw, Nm.expo, Nm.whole, hex, isE hem]), b5⟩
            | false =>
              have Hk5e := Lib.hid k5
              have Hb5e := Lib.hid b5
              go_wp2_with fail
              refine (end_any bs ba bt s (Nm.go 10 (Nm.sg (Nm.go 10 (bl s)).tail)) false w5 k5 hem).mono ?_
              rintro e w6 ⟨rfl, rfl⟩
              go_wp2
              go_ret
              exact ⟨ret_u8 (show 0 = Nm.dec (bl s) by unfold Nm.dec; simp [hw, isE hemp, hpt, hpw, Nm.expo, Nm.whole, hex, isE hem]), b5⟩
          | false =>
            go_wp2_with fail
            refine (exponent_is bs ba bt s ((Nm.go 10 (bl s)).tail) false w4 k4 hs hex).mono ?_
            rintro e w5 ⟨rfl, k5, c5⟩
            have b5 := b4.trans (c5 _ h1)
            clear k4 b4 c5
            go_wp2
            go_ret
            exact ⟨ret_u8 (show 0 = Nm.dec (bl s) by unfold Nm.dec; simp [hw, isE hemp, hpt, hpw, Nm.expo, Nm.whole, hex]), b5⟩
        | false =>
          go_wp2_with fail
          refine (one_any bs ba bt s (Nm.go 10 (bl s)) ⟨#[101, 69]⟩ false w3 k3 hs ((inS2 _ _ _).trans hpw)).mono ?_
          rintro e w4 ⟨rfl, k4, c4⟩
          have b4 := b3.trans (c4 _ h1)
          clear k3 b3 c4
          simp only [cond_true, cond_false] at k4
          go_wp2
          go_ret
          exact ⟨ret_u8 (show 0 = Nm.dec (bl s) by unfold Nm.dec; simp [hw, isE hemp, hpt, hpw]), b4⟩
  | false =>
    go_wp2_with fail
    refine (row_is bs ba bt s (bl s) 10 false w1 k1 (by omega) hs hw).mono ?_
    rintro e w2 ⟨rfl, k2, c2⟩
    have b2 := b1.trans (c2 _ h1)
    clear k1 b1 c2
    have hgo := Nm.go_no hw
    rw [hgo] at k2
    cases hpt : Nm.at1 46 (bl s) with
    | true =>
      go_wp2_with fail
      refine (one_any bs ba bt s (bl s) ⟨#[46]⟩ true w2 k2 hs ((inS1 _ _).trans hpt)).mono ?_
      rintro e w3 ⟨rfl, k3, c3⟩
      have b3 := b2.trans (c3 _ h1)
      clear k2 b2 c3
      simp only [cond_true, cond_false] at k3
      cases hq : Nm.hd 10 ((bl s).tail) with
      | true =>
        go_wp2_with fail
        refine (row_is bs ba bt s ((bl s).tail) 10 true w3 k3 (by omega) hs hq).mono ?_
        rintro e w4 ⟨rfl, k4, c4⟩
        have b4 := b3.trans (c4 _ h1)
        clear k3 b3 c4
        cases hpw : Nm.at2 101 69 (Nm.go 10 ((bl s).tail)) with
        | true =>
          go_wp2_with fail
          refine (one_any bs ba bt s (Nm.go 10 ((bl s).tail)) ⟨#[101, 69]⟩ true w4 k4 hs ((inS2 _ _ _).trans hpw)).mono ?_
          rintro e w5 ⟨rfl, k5, c5⟩
          have b5 := b4.trans (c5 _ h1)
          clear k4 b4 c5
          simp only [cond_true, cond_false] at k5
          cases hex : Nm.hd 10 (Nm.sg (Nm.go 10 ((bl s).tail)).tail) with
          | true =>
            go_wp2_with fail
            refine (exponent_is bs ba bt s ((Nm.go 10 ((bl s).tail)).tail) true w5 k5 hs hex).mono ?_
            rintro e w6 ⟨rfl, k6, c6⟩
            have b6 := b5.trans (c6 _ h1)
            clear k5 b5 c6
            cases hem : (Nm.go 10 (Nm.sg (Nm.go 10 ((bl s).tail)).tail)).isEmpty with
            | true =>
              have Hk6e := Lib.hid k6
              have Hb6e := Lib.hid b6
              go_wp2_with fail
              refine (end_any bs ba bt s (Nm.go 10 (Nm.sg (Nm.go 10 ((bl s).tail)).tail)) true w6 k6 hem).mono ?_
              rintro e w7 ⟨rfl, rfl⟩
              go_wp2
              go_ret
              exact ⟨ret_u8 (show 4 = Nm.dec (bl s) by unfold Nm.dec; simp [hw, hgo, hpt, hq, hpw, Nm.expo, Nm.whole, hex, isE hem]), b6⟩
            | false =>
              have Hk6e := Lib.hid k6
              have Hb6e := Lib.hid b6
              go_wp2_with fail
              refine (end_any bs ba bt s (Nm.go 10 (Nm.sg (Nm.go 10 ((bl s).tail)).tail)) false w6 k6 hem).mono ?_
              rintro e w7 ⟨rfl, rfl⟩
              go_wp2
              go_ret
              exact ⟨ret_u8 (show 0 = Nm.dec (bl s) by unfold Nm.dec; simp [hw, hgo, hpt, hq, hpw, Nm.expo, Nm.whole, hex, isE hem]), b6⟩
          | false =>
            go_wp2_with fail
            refine (exponent_is bs ba bt s ((Nm.go 10 ((bl s).tail)).tail) false w5 k5 hs hex).mono ?_
            rintro e w6 ⟨rfl, k6, c6⟩
            have b6 := b5.trans (c6 _ h1)
            clear k5 b5 c6
            go_wp2
            go_ret
            exact ⟨ret_u8 (show 0 = Nm.dec (bl s) by unfold Nm.dec; simp [hw, hgo, hpt, hq, hpw, Nm.expo, Nm.whole, hex]), b6⟩
        | false =>
          go_wp2_with fail
          refine (one_any bs ba bt s (Nm.go 10 ((bl s).tail)) ⟨#[101, 69]⟩ false w4 k4 hs ((inS2 _ _ _).trans hpw)).mono ?_
          rintro e w5 ⟨rfl, k5, c5⟩
          have b5 := b4.trans (c5 _ h1)
          clear k4 b4 c5
          simp only [cond_true, cond_false] at k5
          cases hem : (Nm.go 10 ((bl s).tail)).isEmpty with
          | true =>
            have Hk5e := Lib.hid k5
            have Hb5e := Lib.hid b5
            go_wp2_with fail
            refine (end_any bs ba bt s (Nm.go 10 ((bl s).tail)) true w5 k5 hem).mono ?_
            rintro e w6 ⟨rfl, rfl⟩
            go_wp2
            go_ret
            exact ⟨ret_u8 (show 4 = Nm.dec (bl s) by unfold Nm.dec; simp [hw, hgo, hpt, hq, hpw, isE hem]), b5⟩
          | false =>
            have Hk5e := Lib.hid k5
            have Hb5e := Lib.hid b5
            go_wp2_with fail
            refine (end_any bs ba bt s (Nm.go 10 ((bl s).tail)) false w5 k5 hem).mono ?_
            rintro e w6 ⟨rfl, rfl⟩
            go_wp2
            go_ret
            exact ⟨ret_u8 (show 0 = Nm.dec (bl s) by unfold Nm.dec; simp [hw, hgo, hpt, hq, hpw, isE hem]), b5⟩
      | false =>
        go_wp2_with fail
        refine (row_is bs ba bt s ((bl s).tail) 10 false w3 k3 (by omega) hs hq).mono ?_
        rintro e w4 ⟨rfl, k4, c4⟩
        have b4 := b3.trans (c4 _ h1)
        clear k3 b3 c4
        rw [Nm.go_no hq] at k4
        go_wp2
        go_ret
        exact ⟨ret_u8 (show 0 = Nm.dec (bl s) by unfold Nm.dec; simp [hw, hgo, hpt, hq]), b4⟩
    | false =>
      go_wp2_with fail
      refine (one_any bs ba bt s (bl s) ⟨#[46]⟩ false w2 k2 hs ((inS1 _ _).trans hpt)).mono ?_
      rintro e w3 ⟨rfl, k3, c3⟩
      have b3 := b2.trans (c3 _ h1)
      clear k2 b2 c3
      simp only [cond_true, cond_false] at k3
      go_wp2
      go_ret
      exact ⟨ret_u8 (show 0 = Nm.dec (bl s) by unfold Nm.dec; simp [hw, hgo, hpt]), b3⟩

end Go.Proofs.YtklmiabgalanhaaGreatDoor

