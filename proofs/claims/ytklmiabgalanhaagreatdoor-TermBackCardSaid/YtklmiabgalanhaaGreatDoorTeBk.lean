/- Contract of term.behindKids. -/
import Derived.Test.YtklmiabgalanhaaGreatDoorTeRef
namespace Go.Proofs.YtklmiabgalanhaaGreatDoor
open Go.RowKit Km
set_option maxRecDepth 100000
set_option linter.unusedVariables false

/-- Where the kids end among which a part stands. -/
def bkE (L : List Pt) (i : Nat) : Nat := if i = 0 then L.length else enP L (upP L i).toNat
/-- What is behind n parts that are kids of one part. -/
def bkO (L : List Pt) (i m : Nat) : Option Nat := match W L.length (Kp L) i m with | some p => if p ≤ bkE L i then some p else none | none => none
/-- The end of the row is not passed over. -/
theorem bk_step {L : List Pt} (hw : We L) {i p : Nat} (hi : i < L.length) (hip : i ≤ p) (hp : p < bkE L i) : p < L.length ∧ enP L p ≤ bkE L i := by
  unfold bkE at hp ⊢
  by_cases h0 : i = 0
  · subst h0
    rw [if_pos rfl] at hp ⊢
    exact ⟨hp, (hw.all hp).2.2.1⟩
  · rw [if_neg h0] at hp ⊢
    obtain ⟨q, q1, q2, q3, q4⟩ := hw.above (i := i) (by omega) hi
    have e : (upP L i).toNat = q := by unfold upP; rw [q2]; rfl
    rw [e] at hp ⊢
    have hqn : q < L.length := by omega
    have := (hw.all hqn).2.2.1
    have hp2 : p < E L.length (Kp L) q := hp
    exact ⟨by omega, hw.lam hqn (by omega) hp2⟩
theorem bk_start {L : List Pt} (hw : We L) {i : Nat} (hi : i < L.length) : i < bkE L i := by
  unfold bkE
  by_cases h0 : i = 0
  · subst h0; rw [if_pos rfl]; exact hi
  · rw [if_neg h0]
    obtain ⟨q, q1, q2, q3, q4⟩ := hw.above (i := i) (by omega) hi
    have e : (upP L i).toNat = q := by unfold upP; rw [q2]; rfl
    rw [e]; exact q3
theorem bkE_le {L : List Pt} (hw : We L) {i : Nat} (hi : i < L.length) : bkE L i ≤ L.length := by
  unfold bkE
  by_cases h0 : i = 0
  · rw [if_pos h0]; omega
  · rw [if_neg h0]
    obtain ⟨q, q1, q2, q3, q4⟩ := hw.above (i := i) (by omega) hi
    have e : (upP L i).toNat = q := by unfold upP; rw [q2]; rfl
    rw [e]; exact (hw.all (by omega)).2.2.1

theorem bk_none (i n : Int) (x : Option Addr) (c : Nat) (L : List Pt) (w : World) (hr : Pw w x L) (h : n < 0 ∨ ¬ HasP L i) :
    Calls Tryz.prog 54 #[.slice x L.length c, .int .i64 i, .int .i64 n] w fun e w' => e = .returned (.int .i64 (-1)) ∧ w' = w := by
  have HH := has_part i x c L w hr
  clear hr
  by_cases h1 : n < 0
  · clear h HH
    go_enter Tryz.func54, Tryz.ntmps54
    go_wp2
    go_ret
    exact ⟨rfl, rfl⟩
  · rw [decide_eq_false (h.resolve_left h1)] at HH
    have HH := Lib.hid HH
    clear h
    go_enter Tryz.func54, Tryz.ntmps54
    go_wp2_with fail
    refine HH.out.mono ?_
    rintro e w1 ⟨rfl, rfl⟩
    go_wp2
    go_ret
    exact ⟨rfl, rfl⟩

def bkV (o : Option Nat) : Int := endV o
set_option maxHeartbeats 4000000 in
theorem bk_some (i m : Nat) (x : Option Addr) (c : Nat) (L : List Pt) (w : World) (hr : Pw w x L) (hi : i < L.length) (hw : We L) :
    Calls Tryz.prog 54 #[.slice x L.length c, .int .i64 (i : Int), .int .i64 (m : Int)] w fun e w' => e = .returned (.int .i64 (endV (bkO L i m))) ∧ w' = w := by
  have HH := has_part i x c L w hr
  rw [decide_eq_true (show HasP L i from ⟨by omega, by omega, hw⟩)] at HH
  have HH := Lib.hid HH
  have HU := Lib.hid (pup_some i x c L w hr hi hw)
  have HB := Lib.hid (fun k (hk : k < L.length) => (by
    have h3 := behind_any k x c L w hr (by omega)
    rw [(hw.all hk).1] at h3
    exact h3 : Calls Tryz.prog 33 #[.slice x L.length c, .int .i64 (k : Int)] w fun e w' => e = .returned (.int .i64 (enP L k : Int)) ∧ w' = w))
  have hlb := hr.2
  have Hst := Lib.hid (fun p => bk_step hw (i := i) (p := p) hi)
  have h0s := bk_start hw hi
  have hel := bkE_le hw hi
  have Hwa := Lib.hid (fun k hk => (hw.all (i := k) hk).1)
  have b1 : ¬ (m : Int) < 0 := by omega
  have hloop : Hid (bkE L i = if i = 0 then L.length else enP L (upP L i).toNat) := Lib.hid rfl
  have hupn : Hid (0 < i → ∃ q : Nat, q < L.length ∧ upP L i = (q : Int)) := Lib.hid fun h0 => by
    obtain ⟨q, q1, q2, q3, q4⟩ := hw.above (i := i) h0 hi
    exact ⟨q, by omega, q2⟩
  clear hr hw
  obtain ⟨EN, hEN⟩ : ∃ EN, bkE L i = EN := ⟨_, rfl⟩
  have HEN := Lib.hid hEN
  rw [hEN] at Hst h0s hel hloop
  go_enter Tryz.func54, Tryz.ntmps54
  go_wp2_with fail
  refine HH.out.mono ?_
  rintro e w1 ⟨rfl, rfl⟩
  go_upto_if 19 with fail
  go_cut [7] from 18 to 24 (fun ev wx => ev = .int .i64 (EN : Int) ∧ wx = w1)
  case first =>
    by_cases h0 : i = 0
    · have b2 : ¬ (0 : Int) < (i : Int) := by omega
      have hE : EN = L.length := by rw [hloop.out, if_pos h0]
      have HE := Lib.hid hE
      clear hE h0
      go_wp2_with fail
      go_meet
      case rel => exact ⟨by rw [HE.out], rfl⟩
    · have b2 : (0 : Int) < (i : Int) := by omega
      obtain ⟨q, hq, hu⟩ := hupn.out (by omega)
      have hE : EN = enP L q := by rw [hloop.out, if_neg h0, hu]; rfl
      have HE := Lib.hid hE
      have HU2 := HU.out
      rw [hu] at HU2
      have HU2 := Lib.hid HU2
      have HB2 := Lib.hid (HB.out q hq)
      clear hE h0 hu
      go_wp2_with fail
      refine HU2.out.mono ?_
      rintro e w2 ⟨rfl, rfl⟩
      go_wp2_with fail
      refine HB2.out.mono ?_
      rintro e w2 ⟨rfl, rfl⟩
      go_wp2_with fail
      go_meet
      case rel => exact ⟨by rw [HE.out], rfl⟩
  case rest =>
    obtain ⟨rfl, rfl⟩ := hcut
    go_wp2
    go_loopw [1, 26] (fun iv tv wr => ∃ t p : Nat, t ≤ m ∧ i ≤ p ∧ p ≤ EN ∧ t + i ≤ p ∧ iv = .int .i64 (p : Int) ∧ tv = .int .i64 (t : Int) ∧ Hid (W L.length (Kp L) i t = some p) ∧ wr = wc) (fun _ tv _ => m - (intOf tv).toNat)
    case atStart => exact ⟨0, i, by omega, by omega, by omega, by omega, rfl, rfl, Lib.hid (W_zero _), rfl⟩
    case round =>
      obtain ⟨t, p, htm, hip, hpe, htp, rfl, rfl, HW, rfl⟩ := hrel
      by_cases hlt : t < m
      · have b2 : (t : Int) < (m : Int) := by omega
        by_cases hpE : p = EN
        · have hv : bkO L i m = none := by
            unfold bkO
            have hs := W_cat (b := m - t) HW.out
            rw [show t + (m - t) = m by omega] at hs
            cases hwm : W L.length (Kp L) i m with
            | none => rfl
            | some p2 =>
              dsimp only
              rw [hwm] at hs
              have := W_ge hs.symm
              rw [HEN.out, if_neg (by omega)]
          have Hv := Lib.hid hv
          have e1 : ((p : Int) == (EN : Int)) = true := beq_iff_eq.2 (by omega)
          have e2 : (p == EN) = true := beq_iff_eq.2 hpE
          subst hpE
          clear hv
          go_wp2
          go_ret
          exact ⟨by rw [Hv.out]; rfl, rfl⟩
        · have e1 : ((p : Int) == (EN : Int)) = false := beq_eq_false_iff_ne.2 (by omega)
          have e2 : (p == EN) = false := beq_eq_false_iff_ne.2 hpE
          obtain ⟨s1, s2⟩ := Hst.out p hip (by omega)
          have HB2 := Lib.hid (HB.out p s1)
          have hw1 := Hwa.out p s1
          have hge := W_ge hw1
          have hW2 : W L.length (Kp L) i (t + 1) = some (enP L p) := by rw [W_cat HW.out]; exact hw1
          have HW2 := Lib.hid hW2
          have hge2 : p + 1 ≤ enP L p := hge
          clear hw1 hge hW2 HW hpE
          generalize enP L p = EP at HB2 HW2 s2 hge2
          go_wp2_with fail
          refine HB2.out.mono ?_
          rintro e w3 ⟨rfl, rfl⟩
          go_wp2
          go_roundw
          case rel => exact ⟨t + 1, EP, by omega, by omega, by omega, by omega, rfl, by go_num, HW2, by first | rfl | trivial⟩
          case measure => simp [intOf]; omega
      · have htm2 : t = m := by omega
        subst htm2
        have b2 : ¬ (t : Int) < (t : Int) := by omega
        have hv : bkO L i t = some p := by unfold bkO; rw [HW.out]; dsimp only; rw [HEN.out, if_pos hpe]
        have Hv := Lib.hid hv
        clear hv
        go_wp2
        go_ret
        exact ⟨by rw [Hv.out]; rfl, rfl⟩
end Go.Proofs.YtklmiabgalanhaaGreatDoor
