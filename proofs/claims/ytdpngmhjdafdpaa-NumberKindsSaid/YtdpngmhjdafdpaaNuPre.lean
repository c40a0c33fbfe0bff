/- Contract of number.prefixed. -/
import Derived.Test.YtdpngmhjdafdpaaNuWays
namespace Go.Proofs.Ytdpngmhjdafdpaa
open Go.RowKit Em
set_option linter.unusedVariables false
set_option linter.unusedSimpArgs false

theorem isE {l : List UInt8} {v : Bool} (h : l.isEmpty = v) : (l = []) ↔ v = true := by rw [← h, List.isEmpty_iff]

theorem ret_u8 {a b : Nat} (h : a = b) : Ending.returned (.int .u8 (a : Int)) = .returned (.int .u8 (b : Int)) := by rw [h]

set_option maxHeartbeats 8000000 in
theorem prefixed_any (s : ByteArray) (b : Nat) (w : World) (hb : b ≤ 16) (hs : s.size ≤ 4611686018427387000) :
    Calls Try.prog 37 #[.string s, .int .i64 b] w fun e w' => e = .returned (.int .u8 (Nm.pre (bl s) b : Nat)) ∧ Below w.heap.size w w' := by
  go_enter Try.func37, Try.ntmps37
  go_wp2_with fail
  refine (walk_any s w).mono ?_
  rintro e w1 ⟨bs, ba, bt, rfl, k1, h1, b1⟩
  unfold rowF oneF endF
  cases hl : Nm.at1 95 (bl s) with
  | true =>
    go_wp2_with fail
    refine (one_any bs ba bt s (bl s) ⟨#[95]⟩ true w1 k1 hs ((inS1 _ _).trans hl)).mono ?_
    rintro e w2 ⟨rfl, k2, c2⟩
    have b2 := b1.trans (c2 _ h1)
    clear k1 b1 c2
    simp only [cond_true, cond_false] at k2
    cases hw : Nm.hd b ((bl s).tail) with
    | true =>
      go_wp2_with fail
      refine (row_is bs ba bt s ((bl s).tail) b true w2 k2 (by omega) hs hw).mono ?_
      rintro e w3 ⟨rfl, k3, c3⟩
      have b3 := b2.trans (c3 _ h1)
      clear k2 b2 c3
      cases hemp : (Nm.go b ((bl s).tail)).isEmpty with
      | true =>
        have Hk3e := Lib.hid k3
        have Hb3e := Lib.hid b3
        go_wp2_with fail
        refine (end_any bs ba bt s (Nm.go b ((bl s).tail)) true w3 k3 hemp).mono ?_
        rintro e w4 ⟨rfl, rfl⟩
        go_wp2
        go_ret
        exact ⟨ret_u8 (show 3 = Nm.pre (bl s) b by unfold Nm.pre; simp [hl, hw, isE hemp]), b3⟩
      | false =>
        have Hk3e := Lib.hid k3
        have Hb3e := Lib.hid b3
        go_wp2_with fail
        refine (end_any bs ba bt s (Nm.go b ((bl s).tail)) false w3 k3 hemp).mono ?_
        rintro e w4 ⟨rfl, rfl⟩
        by_cases h16 : b = 16
        · subst h16
          cases hpt : Nm.at1 46 (Nm.go 16 ((bl s).tail)) with
          | true =>
            go_wp2_with fail
            refine (one_any bs ba bt s (Nm.go 16 ((bl s).tail)) ⟨#[46]⟩ true w3 k3 hs ((inS1 _ _).trans hpt)).mono ?_
            rintro e w4 ⟨rfl, k4, c4⟩
            have b4 := b3.trans (c4 _ h1)
            clear k3 b3 c4
            simp only [cond_true, cond_false] at k4
            cases hq : Nm.hd 16 ((Nm.go 16 ((bl s).tail)).tail) with
            | true =>
              go_wp2_with fail
              refine (row_is bs ba bt s ((Nm.go 16 ((bl s).tail)).tail) 16 true w4 k4 (by omega) hs hq).mono ?_
              rintro e w5 ⟨rfl, k5, c5⟩
              have b5 := b4.trans (c5 _ h1)
              clear k4 b4 c5
              cases hpw : Nm.at2 112 80 (Nm.go 16 ((Nm.go 16 ((bl s).tail)).tail)) with
              | true =>
                go_wp2_with fail
                refine (one_any bs ba bt s (Nm.go 16 ((Nm.go 16 ((bl s).tail)).tail)) ⟨#[112, 80]⟩ true w5 k5 hs ((inS2 _ _ _).trans hpw)).mono ?_
                rintro e w6 ⟨rfl, k6, c6⟩
                have b6 := b5.trans (c6 _ h1)
                clear k5 b5 c6
                simp only [cond_true, cond_false] at k6
                cases hex : Nm.hd 10 (Nm.sg (Nm.go 16 ((Nm.go 16 ((bl s).tail)).tail)).tail) with
                | true =>
                  go_wp2_with fail
                  refine (exponent_is bs ba bt s ((Nm.go 16 ((Nm.go 16 ((bl s).tail)).tail)).tail) true w6 k6 hs hex).mono ?_
                  rintro e w7 ⟨rfl, k7, c7⟩
                  have b7 := b6.trans (c7 _ h1)
                  clear k6 b6 c7
                  cases hem : (Nm.go 10 (Nm.sg (Nm.go 16 ((Nm.go 16 ((bl s).tail)).tail)).tail)).isEmpty with
                  | true =>
                    have Hk7e := Lib.hid k7
                    have Hb7e := Lib.hid b7
                    go_wp2_with fail
                    refine (end_any bs ba bt s (Nm.go 10 (Nm.sg (Nm.go 16 ((Nm.go 16 ((bl s).tail)).tail)).tail)) true w7 k7 hem).mono ?_
                    rintro e w8 ⟨rfl, rfl⟩
                    go_wp2
                    go_ret
                    exact ⟨ret_u8 (show 4 = Nm.pre (bl s) 16 by unfold Nm.pre; simp [hl, hw, isE hemp, hpt, hq, hpw, Nm.expo, Nm.whole, hex, isE hem]), b7⟩
                  | false =>
                    have Hk7e := Lib.hid k7
                    have Hb7e := Lib.hid b7
                    go_wp2_with fail
                    refine (end_any bs ba bt s (Nm.go 10 (Nm.sg (Nm.go 16 ((Nm.go 16 ((bl s).tail)).tail)).tail)) false w7 k7 hem).mono ?_
                    rintro e w8 ⟨rfl, rfl⟩
                    go_wp2
                    go_ret
                    exact ⟨ret_u8 (show 0 = Nm.pre (bl s) 16 by unfold Nm.pre; simp [hl, hw, isE hemp, hpt, hq, hpw, Nm.expo, Nm.whole, hex, isE hem]), b7⟩
                | false =>
                  go_wp2_with fail
                  refine (exponent_is bs ba bt s ((Nm.go 16 ((Nm.go 16 ((bl s).tail)).tail)).tail) false w6 k6 hs hex).mono ?_
                  rintro e w7 ⟨rfl, k7, c7⟩
                  have b7 := b6.trans (c7 _ h1)
                  clear k6 b6 c7
                  go_wp2
                  go_ret
                  exact ⟨ret_u8 (show 0 = Nm.pre (bl s) 16 by unfold Nm.pre; simp [hl, hw, isE hemp, hpt, hq, hpw, Nm.expo, Nm.whole, hex]), b7⟩
              | false =>
                go_wp2_with fail
                refine (one_any bs ba bt s (Nm.go 16 ((Nm.go 16 ((bl s).tail)).tail)) ⟨#[112, 80]⟩ false w5 k5 hs ((inS2 _ _ _).trans hpw)).mono ?_
                rintro e w6 ⟨rfl, k6, c6⟩
                have b6 := b5.trans (c6 _ h1)
                clear k5 b5 c6
                simp only [cond_true, cond_false] at k6
                go_wp2
                go_ret
                exact ⟨ret_u8 (show 0 = Nm.pre (bl s) 16 by unfold Nm.pre; simp [hl, hw, isE hemp, hpt, hq, hpw]), b6⟩
            | false =>
              go_wp2_with fail
              refine (row_is bs ba bt s ((Nm.go 16 ((bl s).tail)).tail) 16 false w4 k4 (by omega) hs hq).mono ?_
              rintro e w5 ⟨rfl, k5, c5⟩
              have b5 := b4.trans (c5 _ h1)
              clear k4 b4 c5
              rw [Nm.go_no hq] at k5
              cases hpw : Nm.at2 112 80 ((Nm.go 16 ((bl s).tail)).tail) with
              | true =>
                go_wp2_with fail
                refine (one_any bs ba bt s ((Nm.go 16 ((bl s).tail)).tail) ⟨#[112, 80]⟩ true w5 k5 hs ((inS2 _ _ _).trans hpw)).mono ?_
                rintro e w6 ⟨rfl, k6, c6⟩
                have b6 := b5.trans (c6 _ h1)
                clear k5 b5 c6
                simp only [cond_true, cond_false] at k6
                cases hex : Nm.hd 10 (Nm.sg ((Nm.go 16 ((bl s).tail)).tail).tail) with
                | true =>
                  go_wp2_with fail
                  refine (exponent_is bs ba bt s (((Nm.go 16 ((bl s).tail)).tail).tail) true w6 k6 hs hex).mono ?_
                  rintro e w7 ⟨rfl, k7, c7⟩
                  have b7 := b6.trans (c7 _ h1)
                  clear k6 b6 c7
                  cases hem : (Nm.go 10 (Nm.sg ((Nm.go 16 ((bl s).tail)).tail).tail)).isEmpty with
                  | true =>
                    have Hk7e := Lib.hid k7
                    have Hb7e := Lib.hid b7
                    go_wp2_with fail
                    refine (end_any bs ba bt s (Nm.go 10 (Nm.sg ((Nm.go 16 ((bl s).tail)).tail).tail)) true w7 k7 hem).mono ?_
                    rintro e w8 ⟨rfl, rfl⟩
                    go_wp2
                    go_ret
                    exact ⟨ret_u8 (show 4 = Nm.pre (bl s) 16 by unfold Nm.pre; simp [hl, hw, isE hemp, hpt, hq, hpw, Nm.expo, Nm.whole, hex, isE hem]), b7⟩
                  | false =>
                    have Hk7e := Lib.hid k7
                    have Hb7e := Lib.hid b7
                    go_wp2_with fail
                    refine (end_any bs ba bt s (Nm.go 10 (Nm.sg ((Nm.go 16 ((bl s).tail)).tail).tail)) false w7 k7 hem).mono ?_
                    rintro e w8 ⟨rfl, rfl⟩
                    go_wp2
                    go_ret
                    exact ⟨ret_u8 (show 0 = Nm.pre (bl s) 16 by unfold Nm.pre; simp [hl, hw, isE hemp, hpt, hq, hpw, Nm.expo, Nm.whole, hex, isE hem]), b7⟩
                | false =>
                  go_wp2_with fail
                  refine (exponent_is bs ba bt s (((Nm.go 16 ((bl s).tail)).tail).tail) false w6 k6 hs hex).mono ?_
                  rintro e w7 ⟨rfl, k7, c7⟩
                  have b7 := b6.trans (c7 _ h1)
                  clear k6 b6 c7
                  go_wp2
                  go_ret
                  exact ⟨ret_u8 (show 0 = Nm.pre (bl s) 16 by unfold Nm.pre; simp [hl, hw, isE hemp, hpt, hq, hpw, Nm.expo, Nm.whole, hex]), b7⟩
              | false =>
                go_wp2_with fail
                refine (one_any bs ba bt s ((Nm.go 16 ((bl s).tail)).tail) ⟨#[112, 80]⟩ false w5 k5 hs ((inS2 _ _ _).trans hpw)).mono ?_
                rintro e w6 ⟨rfl, k6, c6⟩
                have b6 := b5.trans (c6 _ h1)
                clear k5 b5 c6
                simp only [cond_true, cond_false] at k6
                go_wp2
                go_ret
                exact ⟨ret_u8 (show 0 = Nm.pre (bl s) 16 by unfold Nm.pre; simp [hl, hw, isE hemp, hpt, hq, hpw]), b6⟩
          | false =>
            go_wp2_with fail
            refine (one_any bs ba bt s (Nm.go 16 ((bl s).tail)) ⟨#[46]⟩ false w3 k3 hs ((inS1 _ _).trans hpt)).mono ?_
            rintro e w4 ⟨rfl, k4, c4⟩
            have b4 := b3.trans (c4 _ h1)
            clear k3 b3 c4
            simp only [cond_true, cond_false] at k4
            cases hpw : Nm.at2 112 80 (Nm.go 16 ((bl s).tail)) with
            | true =>
              go_wp2_with fail
              refine (one_any bs ba bt s (Nm.go 16 ((bl s).tail)) ⟨#[112, 80]⟩ true w4 k4 hs ((inS2 _ _ _).trans hpw)).mono ?_
              rintro e w5 ⟨rfl, k5, c5⟩
              have b5 := b4.trans (c5 _ h1)
              clear k4 b4 c5
              simp only [cond_true, cond_false] at k5
              cases hex : Nm.hd 10 (Nm.sg (Nm.go 16 ((bl s).tail)).tail) with
              | true =>
                go_wp2_with fail
                refine (exponent_is bs ba bt s ((Nm.go 16 ((bl s).tail)).tail) true w5 k5 hs hex).mono ?_
                rintro e w6 ⟨rfl, k6, c6⟩
                have b6 := b5.trans (c6 _ h1)
                clear k5 b5 c6
                cases hem : (Nm.go 10 (Nm.sg (Nm.go 16 ((bl s).tail)).tail)).isEmpty with
                | true =>
                  have Hk6e := Lib.hid k6
                  have Hb6e := Lib.hid b6
                  go_wp2_with fail
                  refine (end_any bs ba bt s (Nm.go 10 (Nm.sg (Nm.go 16 ((bl s).tail)).tail)) true w6 k6 hem).mono ?_
                  rintro e w7 ⟨rfl, rfl⟩
                  go_wp2
                  go_ret
                  exact ⟨ret_u8 (show 4 = Nm.pre (bl s) 16 by unfold Nm.pre; simp [hl, hw, isE hemp, hpt, hpw, Nm.expo, Nm.whole, hex, isE hem]), b6⟩
                | false =>
                  have Hk6e := Lib.hid k6
                  have Hb6e := Lib.hid b6
                  go_wp2_with fail
                  refine (end_any bs ba bt s (Nm.go 10 (Nm.sg (Nm.go 16 ((bl s).tail)).tail)) false w6 k6 hem).mono ?_
                  rintro e w7 ⟨rfl, rfl⟩
                  go_wp2
                  go_ret
                  exact ⟨ret_u8 (show 0 = Nm.pre (bl s) 16 by unfold Nm.pre; simp [hl, hw, isE hemp, hpt, hpw, Nm.expo, Nm.whole, hex, isE hem]), b6⟩
              | false =>
                go_wp2_with fail
                refine (exponent_is bs ba bt s ((Nm.go 16 ((bl s).tail)).tail) false w5 k5 hs hex).mono ?_
                rintro e w6 ⟨rfl, k6, c6⟩
                have b6 := b5.trans (c6 _ h1)
                clear k5 b5 c6
                go_wp2
                go_ret
                exact ⟨ret_u8 (show 0 = Nm.pre (bl s) 16 by unfold Nm.pre; simp [hl, hw, isE hemp, hpt, hpw, Nm.expo, Nm.whole, hex]), b6⟩
            | false =>
              go_wp2_with fail
              refine (one_any bs ba bt s (Nm.go 16 ((bl s).tail)) ⟨#[112, 80]⟩ false w4 k4 hs ((inS2 _ _ _).trans hpw)).mono ?_
              rintro e w5 ⟨rfl, k5, c5⟩
              have b5 := b4.trans (c5 _ h1)
              clear k4 b4 c5
              simp only [cond_true, cond_false] at k5
              go_wp2
              go_ret
              exact ⟨ret_u8 (show 0 = Nm.pre (bl s) 16 by unfold Nm.pre; simp [hl, hw, isE hemp, hpt, hpw]), b5⟩
        · have hn1 : ((b : Int) != 16) = true := by simp; omega
          have hn2 : ((b : Int) == 16) = false := beq_eq_false_iff_ne.2 (by omega)
          go_wp2
          go_ret
          exact ⟨ret_u8 (show 0 = Nm.pre (bl s) b by unfold Nm.pre; simp [hl, hw, isE hemp, h16]), b3⟩
    | false =>
      go_wp2_with fail
      refine (row_is bs ba bt s ((bl s).tail) b false w2 k2 (by omega) hs hw).mono ?_
      rintro e w3 ⟨rfl, k3, c3⟩
      have b3 := b2.trans (c3 _ h1)
      clear k2 b2 c3
      have hgo := Nm.go_no hw
      rw [hgo] at k3
      by_cases h16 : b = 16
      · subst h16
        go_wp2
        go_ret
        exact ⟨ret_u8 (show 0 = Nm.pre (bl s) 16 by unfold Nm.pre; simp [hl, hw, hgo]), b3⟩
      · have hn1 : ((b : Int) != 16) = true := by simp; omega
        have hn2 : ((b : Int) == 16) = false := beq_eq_false_iff_ne.2 (by omega)
        go_wp2
        go_ret
        exact ⟨ret_u8 (show 0 = Nm.pre (bl s) b by unfold Nm.pre; simp [hl, hw, hgo, h16]), b3⟩
  | false =>
    go_wp2_with fail
    refine (one_any bs ba bt s (bl s) ⟨#[95]⟩ false w1 k1 hs ((inS1 _ _).trans hl)).mono ?_
    rintro e w2 ⟨rfl, k2, c2⟩
    have b2 := b1.trans (c2 _ h1)
    clear k1 b1 c2
    simp only [cond_true, cond_false] at k2
    cases hw : Nm.hd b (bl s) with
    | true =>
      go_wp2_with fail
      refine (row_is bs ba bt s (bl s) b true w2 k2 (by omega) hs hw).mono ?_
      rintro e w3 ⟨rfl, k3, c3⟩
      have b3 := b2.trans (c3 _ h1)
      clear k2 b2 c3
      cases hemp : (Nm.go b (bl s)).isEmpty with
      | true =>
        have Hk3e := Lib.hid k3
        have Hb3e := Lib.hid b3
        go_wp2_with fail
        refine (end_any bs ba bt s (Nm.go b (bl s)) true w3 k3 hemp).mono ?_
        rintro e w4 ⟨rfl, rfl⟩
        go_wp2
        go_ret
        exact ⟨ret_u8 (show 3 = Nm.pre (bl s) b by unfold Nm.pre; simp [hl, hw, isE hemp]), b3⟩
      | false =>
        have Hk3e := Lib.hid k3
        have Hb3e := Lib.hid b3
        go_wp2_with fail
        refine (end_any bs ba bt s (Nm.go b (bl s)) false w3 k3 hemp).mono ?_
        rintro e w4 ⟨rfl, rfl⟩
        by_cases h16 : b = 16
        · subst h16
          cases hpt : Nm.at1 46 (Nm.go 16 (bl s)) with
          | true =>
            go_wp2_with fail
            refine (one_any bs ba bt s (Nm.go 16 (bl s)) ⟨#[46]⟩ true w3 k3 hs ((inS1 _ _).trans hpt)).mono ?_
            rintro e w4 ⟨rfl, k4, c4⟩
            have b4 := b3.trans (c4 _ h1)
            clear k3 b3 c4
            simp only [cond_true, cond_false] at k4
            cases hq : Nm.hd 16 ((Nm.go 16 (bl s)).tail) with
            | true =>
              go_wp2_with fail
              refine (row_is bs ba bt s ((Nm.go 16 (bl s)).tail) 16 true w4 k4 (by omega) hs hq).mono ?_
              rintro e w5 ⟨rfl, k5, c5⟩
              have b5 := b4.trans (c5 _ h1)
              clear k4 b4 c5
              cases hpw : Nm.at2 112 80 (Nm.go 16 ((Nm.go 16 (bl s)).tail)) with
              | true =>
                go_wp2_with fail
                refine (one_any bs ba bt s (Nm.go 16 ((Nm.go 16 (bl s)).tail)) ⟨#[112, 80]⟩ true w5 k5 hs ((inS2 _ _ _).trans hpw)).mono ?_
                rintro e w6 ⟨rfl, k6, c6⟩
                have b6 := b5.trans (c6 _ h1)
                clear k5 b5 c6
                simp only [cond_true, cond_false] at k6
                cases hex : Nm.hd 10 (Nm.sg (Nm.go 16 ((Nm.go 16 (bl s)).tail)).tail) with
                | true =>
                  go_wp2_with fail
                  refine (exponent_is bs ba bt s ((Nm.go 16 ((Nm.go 16 (bl s)).tail)).tail) true w6 k6 hs hex).mono ?_
                  rintro e w7 ⟨rfl, k7, c7⟩
                  have b7 := b6.trans (c7 _ h1)
                  clear k6 b6 c7
                  cases hem : (Nm.go 10 (Nm.sg (Nm.go 16 ((Nm.go 16 (bl s)).tail)).tail)).isEmpty with
                  | true =>
                    have Hk7e := Lib.hid k7
                    have Hb7e := Lib.hid b7
                    go_wp2_with fail
                    refine (end_any bs ba bt s (Nm.go 10 (Nm.sg (Nm.go 16 ((Nm.go 16 (bl s)).tail)).tail)) true w7 k7 hem).mono ?_
                    rintro e w8 ⟨rfl, rfl⟩
                    go_wp2
                    go_ret
                    exact ⟨ret_u8 (show 4 = Nm.pre (bl s) 16 by unfold Nm.pre; simp [hl, hw, isE hemp, hpt, hq, hpw, Nm.expo, Nm.whole, hex, isE hem]), b7⟩
                  | false =>
                    have Hk7e := Lib.hid k7
                    have Hb7e := Lib.hid b7
                    go_wp2_with fail
                    refine (end_any bs ba bt s (Nm.go 10 (Nm.sg (Nm.go 16 ((Nm.go 16 (bl s)).tail)).tail)) false w7 k7 hem).mono ?_
                    rintro e w8 ⟨rfl, rfl⟩
                    go_wp2
                    go_ret
                    exact ⟨ret_u8 (show 0 = Nm.pre (bl s) 16 by unfold Nm.pre; simp [hl, hw, isE hemp, hpt, hq, hpw, Nm.expo, Nm.whole, hex, isE hem]), b7⟩
                | false =>
                  go_wp2_with fail
                  refine (exponent_is bs ba bt s ((Nm.go 16 ((Nm.go 16 (bl s)).tail)).tail) false w6 k6 hs hex).mono ?_
                  rintro e w7 ⟨rfl, k7, c7⟩
                  have b7 := b6.trans (c7 _ h1)
                  clear k6 b6 c7
                  go_wp2
                  go_ret
                  exact ⟨ret_u8 (show 0 = Nm.pre (bl s) 16 by unfold Nm.pre; simp [hl, hw, isE hemp, hpt, hq, hpw, Nm.expo, Nm.whole, hex]), b7⟩
              | false =>
                go_wp2_with fail
                refine (one_any bs ba bt s (Nm.go 16 ((Nm.go 16 (bl s)).tail)) ⟨#[112, 80]⟩ false w5 k5 hs ((inS2 _ _ _).trans hpw)).mono ?_
                rintro e w6 ⟨rfl, k6, c6⟩
                have b6 := b5.trans (c6 _ h1)
                clear k5 b5 c6
                simp only [cond_true, cond_false] at k6
                go_wp2
                go_ret
                exact ⟨ret_u8 (show 0 = Nm.pre (bl s) 16 by unfold Nm.pre; simp [hl, hw, isE hemp, hpt, hq, hpw]), b6⟩
            | false =>
              go_wp2_with fail
              refine (row_is bs ba bt s ((Nm.go 16 (bl s)).tail) 16 false w4 k4 (by omega) hs hq).mono ?_
              rintro e w5 ⟨rfl, k5, c5⟩
              have b5 := b4.trans (c5 _ h1)
              clear k4 b4 c5
              rw [Nm.go_no hq] at k5
              cases hpw : Nm.at2 112 80 ((Nm.go 16 (bl s)).tail) with
              | true =>
                go_wp2_with fail
                refine (one_any bs ba bt s ((Nm.go 16 (bl s)).tail) ⟨#[112, 80]⟩ true w5 k5 hs ((inS2 _ _ _).trans hpw)).mono ?_
                rintro e w6 ⟨rfl, k6, c6⟩
                have b6 := b5.trans (c6 _ h1)
                clear k5 b5 c6
                simp only [cond_true, cond_false] at k6
                cases hex : Nm.hd 10 (Nm.sg ((Nm.go 16 (bl s)).tail).tail) with
                | true =>
                  go_wp2_with fail
                  refine (exponent_is bs ba bt s (((Nm.go 16 (bl s)).tail).tail) true w6 k6 hs hex).mono ?_
                  rintro e w7 ⟨rfl, k7, c7⟩
                  have b7 := b6.trans (c7 _ h1)
                  clear k6 b6 c7
                  cases hem : (Nm.go 10 (Nm.sg ((Nm.go 16 (bl s)).tail).tail)).isEmpty with
                  | true =>
                    have Hk7e := Lib.hid k7
                    have Hb7e := Lib.hid b7
                    go_wp2_with fail
                    refine (end_any bs ba bt s (Nm.go 10 (Nm.sg ((Nm.go 16 (bl s)).tail).tail)) true w7 k7 hem).mono ?_
                    rintro e w8 ⟨rfl, rfl⟩
                    go_wp2
                    go_ret
                    exact ⟨ret_u8 (show 4 = Nm.pre (bl s) 16 by unfold Nm.pre; simp [hl, hw, isE hemp, hpt, hq, hpw, Nm.expo, Nm.whole, hex, isE hem]), b7⟩
                  | false =>
                    have Hk7e := Lib.hid k7
                    have Hb7e := Lib.hid b7
                    go_wp2_with fail
                    refine (end_any bs ba bt s (Nm.go 10 (Nm.sg ((Nm.go 16 (bl s)).tail).tail)) false w7 k7 hem).mono ?_
                    rintro e w8 ⟨rfl, rfl⟩
                    go_wp2
                    go_ret
                    exact ⟨ret_u8 (show 0 = Nm.pre (bl s) 16 by unfold Nm.pre; simp [hl, hw, isE hemp, hpt, hq, hpw, Nm.expo, Nm.whole, hex, isE hem]), b7⟩
                | false =>
                  go_wp2_with fail
                  refine (exponent_is bs ba bt s (((Nm.go 16 (bl s)).tail).tail) false w6 k6 hs hex).mono ?_
                  rintro e w7 ⟨rfl, k7, c7⟩
                  have b7 := b6.trans (c7 _ h1)
                  clear k6 b6 c7
                  go_wp2
                  go_ret
                  exact ⟨ret_u8 (show 0 = Nm.pre (bl s) 16 by unfold Nm.pre; simp [hl, hw, isE hemp, hpt, hq, hpw, Nm.expo, Nm.whole, hex]), b7⟩
              | false =>
                go_wp2_with fail
                refine (one_any bs ba bt s ((Nm.go 16 (bl s)).tail) ⟨#[112, 80]⟩ false w5 k5 hs ((inS2 _ _ _).trans hpw)).mono ?_
                rintro e w6 ⟨rfl, k6, c6⟩
                have b6 := b5.trans (c6 _ h1)
                clear k5 b5 c6
                simp only [cond_true, cond_false] at k6
                go_wp2
                go_ret
                exact ⟨ret_u8 (show 0 = Nm.pre (bl s) 16 by unfold Nm.pre; simp [hl, hw, isE hemp, hpt, hq, hpw]), b6⟩
          | false =>
            go_wp2_with fail
            refine (one_any bs ba bt s (Nm.go 16 (bl s)) ⟨#[46]⟩ false w3 k3 hs ((inS1 _ _).trans hpt)).mono ?_
            rintro e w4 ⟨rfl, k4, c4⟩
            have b4 := b3.trans (c4 _ h1)
            clear k3 b3 c4
            simp only [cond_true, cond_false] at k4
            cases hpw : Nm.at2 112 80 (Nm.go 16 (bl s)) with
            | true =>
              go_wp2_with fail
              refine (one_any bs ba bt s (Nm.go 16 (bl s)) ⟨#[112, 80]⟩ true w4 k4 hs ((inS2 _ _ _).trans hpw)).mono ?_
              rintro e w5 ⟨rfl, k5, c5⟩
              have b5 := b4.trans (c5 _ h1)
              clear k4 b4 c5
              simp only [cond_true, cond_false] at k5
              cases hex : Nm.hd 10 (Nm.sg (Nm.go 16 (bl s)).tail) with
              | true =>
                go_wp2_with fail
                refine (exponent_is bs ba bt s ((Nm.go 16 (bl s)).tail) true w5 k5 hs hex).mono ?_
                rintro e w6 ⟨rfl, k6, c6⟩
                have b6 := b5.trans (c6 _ h1)
                clear k5 b5 c6
                cases hem : (Nm.go 10 (Nm.sg (Nm.go 16 (bl s)).tail)).isEmpty with
                | true =>
                  have Hk6e := Lib.hid k6
                  have Hb6e := Lib.hid b6
                  go_wp2_with fail
                  refine (end_any bs ba bt s (Nm.go 10 (Nm.sg (Nm.go 16 (bl s)).tail)) true w6 k6 hem).mono ?_
                  rintro e w7 ⟨rfl, rfl⟩
                  go_wp2
                  go_ret
                  exact ⟨ret_u8 (show 4 = Nm.pre (bl s) 16 by unfold Nm.pre; simp [hl, hw, isE hemp, hpt, hpw, Nm.expo, Nm.whole, hex, isE hem]), b6⟩
                | false =>
                  have Hk6e := Lib.hid k6
                  have Hb6e := Lib.hid b6
                  go_wp2_with fail
                  refine (end_any bs ba bt s (Nm.go 10 (Nm.sg (Nm.go 16 (bl s)).tail)) false w6 k6 hem).mono ?_
                  rintro e w7 ⟨rfl, rfl⟩
                  go_wp2
                  go_ret
                  exact ⟨ret_u8 (show 0 = Nm.pre (bl s) 16 by unfold Nm.pre; simp [hl, hw, isE hemp, hpt, hpw, Nm.expo, Nm.whole, hex, isE hem]), b6⟩
              | false =>
                go_wp2_with fail
                refine (exponent_is bs ba bt s ((Nm.go 16 (bl s)).tail) false w5 k5 hs hex).mono ?_
                rintro e w6 ⟨rfl, k6, c6⟩
                have b6 := b5.trans (c6 _ h1)
                clear k5 b5 c6
                go_wp2
                go_ret
                exact ⟨ret_u8 (show 0 = Nm.pre (bl s) 16 by unfold Nm.pre; simp [hl, hw, isE hemp, hpt, hpw, Nm.expo, Nm.whole, hex]), b6⟩
            | false =>
              go_wp2_with fail
              refine (one_any bs ba bt s (Nm.go 16 (bl s)) ⟨#[112, 80]⟩ false w4 k4 hs ((inS2 _ _ _).trans hpw)).mono ?_
              rintro e w5 ⟨rfl, k5, c5⟩
              have b5 := b4.trans (c5 _ h1)
              clear k4 b4 c5
              simp only [cond_true, cond_false] at k5
              go_wp2
              go_ret
              exact ⟨ret_u8 (show 0 = Nm.pre (bl s) 16 by unfold Nm.pre; simp [hl, hw, isE hemp, hpt, hpw]), b5⟩
        · have hn1 : ((b : Int) != 16) = true := by simp; omega
          have hn2 : ((b : Int) == 16) = false := beq_eq_false_iff_ne.2 (by omega)
          go_wp2
          go_ret
          exact ⟨ret_u8 (show 0 = Nm.pre (bl s) b by unfold Nm.pre; simp [hl, hw, isE hemp, h16]), b3⟩
    | false =>
      go_wp2_with fail
      refine (row_is bs ba bt s (bl s) b false w2 k2 (by omega) hs hw).mono ?_
      rintro e w3 ⟨rfl, k3, c3⟩
      have b3 := b2.trans (c3 _ h1)
      clear k2 b2 c3
      have hgo := Nm.go_no hw
      rw [hgo] at k3
      by_cases h16 : b = 16
      · subst h16
        cases hpt : Nm.at1 46 (bl s) with
        | true =>
          go_wp2_with fail
          refine (one_any bs ba bt s (bl s) ⟨#[46]⟩ true w3 k3 hs ((inS1 _ _).trans hpt)).mono ?_
          rintro e w4 ⟨rfl, k4, c4⟩
          have b4 := b3.trans (c4 _ h1)
          clear k3 b3 c4
          simp only [cond_true, cond_false] at k4
          cases hq : Nm.hd 16 ((bl s).tail) with
          | true =>
            go_wp2_with fail
            refine (row_is bs ba bt s ((bl s).tail) 16 true w4 k4 (by omega) hs hq).mono ?_
            rintro e w5 ⟨rfl, k5, c5⟩
            have b5 := b4.trans (c5 _ h1)
            clear k4 b4 c5
            cases hpw : Nm.at2 112 80 (Nm.go 16 ((bl s).tail)) with
            | true =>
              go_wp2_with fail
              refine (one_any bs ba bt s (Nm.go 16 ((bl s).tail)) ⟨#[112, 80]⟩ true w5 k5 hs ((inS2 _ _ _).trans hpw)).mono ?_
              rintro e w6 ⟨rfl, k6, c6⟩
              have b6 := b5.trans (c6 _ h1)
              clear k5 b5 c6
              simp only [cond_true, cond_false] at k6
              cases hex : Nm.hd 10 (Nm.sg (Nm.go 16 ((bl s).tail)).tail) with
              | true =>
                go_wp2_with fail
                refine (exponent_is bs ba bt s ((Nm.go 16 ((bl s).tail)).tail) true w6 k6 hs hex).mono ?_
                rintro e w7 ⟨rfl, k7, c7⟩
                have b7 := b6.trans (c7 _ h1)
                clear k6 b6 c7
                cases hem : (Nm.go 10 (Nm.sg (Nm.go 16 ((bl s).tail)).tail)).isEmpty with
                | true =>
                  have Hk7e := Lib.hid k7
                  have Hb7e := Lib.hid b7
                  go_wp2_with fail
                  refine (end_any bs ba bt s (Nm.go 10 (Nm.sg (Nm.go 16 ((bl s).tail)).tail)) true w7 k7 hem).mono ?_
                  rintro e w8 ⟨rfl, rfl⟩
                  go_wp2
                  go_ret
                  exact ⟨ret_u8 (show 4 = Nm.pre (bl s) 16 by unfold Nm.pre; simp [hl, hw, hgo, hpt, hq, hpw, Nm.expo, Nm.whole, hex, isE hem]), b7⟩
                | false =>
                  have Hk7e := Lib.hid k7
                  have Hb7e := Lib.hid b7
                  go_wp2_with fail
                  refine (end_any bs ba bt s (Nm.go 10 (Nm.sg (Nm.go 16 ((bl s).tail)).tail)) false w7 k7 hem).mono ?_
                  rintro e w8 ⟨rfl, rfl⟩
                  go_wp2
                  go_ret
                  exact ⟨ret_u8 (show 0 = Nm.pre (bl s) 16 by unfold Nm.pre; simp [hl, hw, hgo, hpt, hq, hpw, Nm.expo, Nm.whole, hex, isE hem]), b7⟩
              | false =>
                go_wp2_with fail
                refine (exponent_is bs ba bt s ((Nm.go 16 ((bl s).tail)).tail) false w6 k6 hs hex).mono ?_
                rintro e w7 ⟨rfl, k7, c7⟩
                have b7 := b6.trans (c7 _ h1)
                clear k6 b6 c7
                go_wp2
                go_ret
                exact ⟨ret_u8 (show 0 = Nm.pre (bl s) 16 by unfold Nm.pre; simp [hl, hw, hgo, hpt, hq, hpw, Nm.expo, Nm.whole, hex]), b7⟩
            | false =>
              go_wp2_with fail
              refine (one_any bs ba bt s (Nm.go 16 ((bl s).tail)) ⟨#[112, 80]⟩ false w5 k5 hs ((inS2 _ _ _).trans hpw)).mono ?_
              rintro e w6 ⟨rfl, k6, c6⟩
              have b6 := b5.trans (c6 _ h1)
              clear k5 b5 c6
              simp only [cond_true, cond_false] at k6
              go_wp2
              go_ret
              exact ⟨ret_u8 (show 0 = Nm.pre (bl s) 16 by unfold Nm.pre; simp [hl, hw, hgo, hpt, hq, hpw]), b6⟩
          | false =>
            go_wp2_with fail
            refine (row_is bs ba bt s ((bl s).tail) 16 false w4 k4 (by omega) hs hq).mono ?_
            rintro e w5 ⟨rfl, k5, c5⟩
            have b5 := b4.trans (c5 _ h1)
            clear k4 b4 c5
            rw [Nm.go_no hq] at k5
            go_wp2
            go_ret
            exact ⟨ret_u8 (show 0 = Nm.pre (bl s) 16 by unfold Nm.pre; simp [hl, hw, hgo, hpt, hq]), b5⟩
        | false =>
          go_wp2_with fail
          refine (one_any bs ba bt s (bl s) ⟨#[46]⟩ false w3 k3 hs ((inS1 _ _).trans hpt)).mono ?_
          rintro e w4 ⟨rfl, k4, c4⟩
          have b4 := b3.trans (c4 _ h1)
          clear k3 b3 c4
          simp only [cond_true, cond_false] at k4
          go_wp2
          go_ret
          exact ⟨ret_u8 (show 0 = Nm.pre (bl s) 16 by unfold Nm.pre; simp [hl, hw, hgo, hpt]), b4⟩
      · have hn1 : ((b : Int) != 16) = true := by simp; omega
        have hn2 : ((b : Int) == 16) = false := beq_eq_false_iff_ne.2 (by omega)
        go_wp2
        go_ret
        exact ⟨ret_u8 (show 0 = Nm.pre (bl s) b by unfold Nm.pre; simp [hl, hw, hgo, h16]), b3⟩
end Go.Proofs.Ytdpngmhjdafdpaa
