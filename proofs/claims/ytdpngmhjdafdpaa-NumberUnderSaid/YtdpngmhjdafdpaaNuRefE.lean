/- Contracts of the reference of numbers: Float, Kind. -/
import Derived.Test.YtdpngmhjdafdpaaNuRefD
namespace Go.Proofs.Ytdpngmhjdafdpaa
open Go.RowKit Em
set_option linter.unusedVariables false
set_option linter.unusedSimpArgs false

set_option maxHeartbeats 4000000 in
theorem float_any (s : ByteArray) (w : World) (hs : s.size ≤ 4611686018427387000) :
    Calls Try.prog 26 #[.string s] w fun e w' => e = .returned (.bool (floatB (bl s))) ∧ w = w' := by
  have KX := fun w => headed_any s 120 88 w (by omega) (by omega)
  cases hx : hdB s 120 88 with
  | true =>
    have hF := float_hex hx
    have h2 : (2 : Int) ≤ (s.size : Int) := by have := (of_decide_eq_true hx).1; omega
    rw [hx] at KX
    have HF := Lib.hid hF
    have HB := Lib.hid (bl_from s 2)
    have hz := size_from s 2
    clear hF hx
    go_enter Try.func26, Try.ntmps26
    go_wp2_with fail
    refine (KX _).mono ?_
    rintro e w' ⟨rfl, rfl⟩
    clear KX
    go_wp2
    generalize s.extract 2 s.size = t at HB hz ⊢
    rw [← HB.out] at HF
    have hts : t.size ≤ 4611686018427387000 := by omega
    go_loop [4] (fun i => ∃ k : Nat, k ≤ t.size + 1 ∧ i = .int .i64 k ∧ ∀ j, j < k → hexAt (bl t) j = false) (fun i => t.size + 1 - (intOf i).toNat)
    case atStart => exact ⟨0, by omega, rfl, fun j hj => by omega⟩
    case round =>
      obtain ⟨k, hk, rfl, hno⟩ := hrel
      have Hno := Lib.hid hno
      clear hno
      by_cases hlt : k ≤ t.size
      · have b0 : (0 : Int) ≤ (k : Int) := by omega
        have b1 : (k : Int) ≤ (t.size : Int) := by omega
        have HP := fun w => power_from t k 112 80 w hts
        have HQ := fun w => pointed_to t k 16 true w (by omega) hts
        have HU := fun w => under_to t k 16 w (by omega) hts
        have hdef : hexAt (bl t) k = (Nm.power 112 80 ((bl t).drop k) && (ptB 16 true ((bl t).take k) || Nm.under 16 ((bl t).take k))) := rfl
        generalize Nm.power 112 80 ((bl t).drop k) = vP at HP hdef
        generalize ptB 16 true ((bl t).take k) = vQ at HQ hdef
        generalize Nm.under 16 ((bl t).take k) = vU at HU hdef
        have hyes : hexAt (bl t) k = true → true = floatB (bl s) := fun h => (HF.out.2 ⟨k, by rw [bl_size]; exact hlt, h⟩).symm
        have hnxt : hexAt (bl t) k = false → ∀ j, j < k + 1 → hexAt (bl t) j = false := by
          intro h j hj
          by_cases e : j = k
          · rw [e]; exact h
          · exact Hno.out j (by omega)
        rw [hdef] at hyes hnxt
        clear hdef
        have Y := Lib.hid hyes
        have N := Lib.hid hnxt
        clear hyes hnxt
        cases vP with
        | true =>
          cases vQ with
          | true =>
            go_wp2_with fail
            refine (HP _).mono ?_
            rintro e w' ⟨rfl, rfl⟩
            go_wp2_with fail
            refine (HQ _).mono ?_
            rintro e w' ⟨rfl, rfl⟩
            go_wp2
            go_ret
            exact ⟨ret_bool (Y.out rfl), rfl⟩
          | false =>
            cases vU with
            | true =>
              go_wp2_with fail
              refine (HP _).mono ?_
              rintro e w' ⟨rfl, rfl⟩
              go_wp2_with fail
              refine (HQ _).mono ?_
              rintro e w' ⟨rfl, rfl⟩
              go_wp2_with fail
              refine (HU _).mono ?_
              rintro e w' ⟨rfl, rfl⟩
              go_wp2
              go_ret
              exact ⟨ret_bool (Y.out rfl), rfl⟩
            | false =>
              go_wp2_with fail
              refine (HP _).mono ?_
              rintro e w' ⟨rfl, rfl⟩
              go_wp2_with fail
              refine (HQ _).mono ?_
              rintro e w' ⟨rfl, rfl⟩
              go_wp2_with fail
              refine (HU _).mono ?_
              rintro e w' ⟨rfl, rfl⟩
              go_wp2
              go_round
              case rel => exact ⟨k + 1, by omega, by go_num, N.out rfl⟩
              case measure => simp [intOf]; omega
        | false =>
          go_wp2_with fail
          refine (HP _).mono ?_
          rintro e w' ⟨rfl, rfl⟩
          go_wp2
          go_round
          case rel => exact ⟨k + 1, by omega, by go_num, N.out rfl⟩
          case measure => simp [intOf]; omega
      · have b1 : ¬ (k : Int) ≤ (t.size : Int) := by omega
        have hfin : false = floatB (bl s) := by
          cases hv : floatB (bl s) with
          | false => rfl
          | true =>
            obtain ⟨i, h1, h2⟩ := HF.out.1 hv
            rw [bl_size] at h1
            rw [Hno.out i (by omega)] at h2; cases h2
        have Hfin := Lib.hid hfin
        clear hfin Hno
        go_wp2
        go_ret
        exact ⟨ret_bool Hfin.out, rfl⟩
  | false =>
    have hF := float_dec hx
    rw [hx] at KX
    have HF := Lib.hid hF
    have HQ0 := fun w => pointed_any s 10 false w (by omega) hs
    clear hF hx
    cases hq0 : ptB 10 false (bl s) with
    | true =>
      have hfin : true = floatB (bl s) := (HF.out.2 (.inl hq0)).symm
      have Hfin := Lib.hid hfin
      rw [hq0] at HQ0
      clear hfin hq0
      go_enter Try.func26, Try.ntmps26
      go_wp2_with fail
      refine (KX _).mono ?_
      rintro e w' ⟨rfl, rfl⟩
      clear KX
      go_wp2_with fail
      refine (HQ0 _).mono ?_
      rintro e w' ⟨rfl, rfl⟩
      go_wp2
      go_ret
      exact ⟨ret_bool Hfin.out, rfl⟩
    | false =>
      rw [hq0] at HQ0
      have Hq0 := Lib.hid hq0
      clear hq0
      go_enter Try.func26, Try.ntmps26
      go_wp2_with fail
      refine (KX _).mono ?_
      rintro e w' ⟨rfl, rfl⟩
      clear KX
      go_wp2_with fail
      refine (HQ0 _).mono ?_
      rintro e w' ⟨rfl, rfl⟩
      clear HQ0
      go_wp2
      go_loop [5] (fun i => ∃ k : Nat, k ≤ s.size + 1 ∧ i = .int .i64 k ∧ ∀ j, j < k → decAt (bl s) j = false) (fun i => s.size + 1 - (intOf i).toNat)
      case atStart => exact ⟨0, by omega, rfl, fun j hj => by omega⟩
      case round =>
        obtain ⟨k, hk, rfl, hno⟩ := hrel
        have Hno := Lib.hid hno
        clear hno
        by_cases hlt : k ≤ s.size
        · have b0 : (0 : Int) ≤ (k : Int) := by omega
          have b1 : (k : Int) ≤ (s.size : Int) := by omega
          have HP := fun w => power_from s k 101 69 w hs
          have HQ := fun w => pointed_to s k 10 false w (by omega) hs
          have HU := fun w => rrow_to s k 10 w (by omega) hs
          have hdef : decAt (bl s) k = (Nm.power 101 69 ((bl s).drop k) && (ptB 10 false ((bl s).take k) || Nm.R 10 ((bl s).take k))) := rfl
          generalize Nm.power 101 69 ((bl s).drop k) = vP at HP hdef
          generalize ptB 10 false ((bl s).take k) = vQ at HQ hdef
          generalize Nm.R 10 ((bl s).take k) = vU at HU hdef
          have hyes : decAt (bl s) k = true → true = floatB (bl s) := fun h => (HF.out.2 (.inr ⟨k, by rw [bl_size]; exact hlt, h⟩)).symm
          have hnxt : decAt (bl s) k = false → ∀ j, j < k + 1 → decAt (bl s) j = false := by
            intro h j hj
            by_cases e : j = k
            · rw [e]; exact h
            · exact Hno.out j (by omega)
          rw [hdef] at hyes hnxt
          clear hdef
          have Y := Lib.hid hyes
          have N := Lib.hid hnxt
          clear hyes hnxt
          cases vP with
          | true =>
            cases vQ with
            | true =>
              go_wp2_with fail
              refine (HP _).mono ?_
              rintro e w' ⟨rfl, rfl⟩
              go_wp2_with fail
              refine (HQ _).mono ?_
              rintro e w' ⟨rfl, rfl⟩
              go_wp2
              go_ret
              exact ⟨ret_bool (Y.out rfl), rfl⟩
            | false =>
              cases vU with
              | true =>
                go_wp2_with fail
                refine (HP _).mono ?_
                rintro e w' ⟨rfl, rfl⟩
                go_wp2_with fail
                refine (HQ _).mono ?_
                rintro e w' ⟨rfl, rfl⟩
                go_wp2_with fail
                refine (HU _).mono ?_
                rintro e w' ⟨rfl, rfl⟩
                go_wp2
                go_ret
                exact ⟨ret_bool (Y.out rfl), rfl⟩
              | false =>
                go_wp2_with fail
                refine (HP _).mono ?_
                rintro e w' ⟨rfl, rfl⟩
                go_wp2_with fail
                refine (HQ _).mono ?_
                rintro e w' ⟨rfl, rfl⟩
                go_wp2_with fail
                refine (HU _).mono ?_
                rintro e w' ⟨rfl, rfl⟩
                go_wp2
                go_round
                case rel => exact ⟨k + 1, by omega, by go_num, N.out rfl⟩
                case measure => simp [intOf]; omega
          | false =>
            go_wp2_with fail
            refine (HP _).mono ?_
            rintro e w' ⟨rfl, rfl⟩
            go_wp2
            go_round
            case rel => exact ⟨k + 1, by omega, by go_num, N.out rfl⟩
            case measure => simp [intOf]; omega
        · have b1 : ¬ (k : Int) ≤ (s.size : Int) := by omega
          have hfin : false = floatB (bl s) := by
            cases hv : floatB (bl s) with
            | false => rfl
            | true =>
              rcases HF.out.1 hv with h | ⟨i, h1, h2⟩
              · rw [Hq0.out] at h; cases h
              · rw [bl_size] at h1
                rw [Hno.out i (by omega)] at h2; cases h2
          have Hfin := Lib.hid hfin
          clear hfin Hno
          go_wp2
          go_ret
          exact ⟨ret_bool Hfin.out, rfl⟩

theorem float_to (s : ByteArray) (a : Nat) (w : World) (hs : s.size ≤ 4611686018427387000) :
    Calls Try.prog 26 #[.string (s.extract 0 a)] w fun e w' => e = .returned (.bool (floatB ((bl s).take a))) ∧ w = w' := by
  have := float_any (s.extract 0 a) w (Nat.le_trans (size_to s a) hs)
  rw [bl_to] at this; exact this

theorem last_is (s : ByteArray) (m : Nat) (h : s.size = m + 1) : ((bl s).getLast? = some 105 ↔ byN s m = 105) ∧ (bl s).dropLast = (bl s).take m := by
  refine ⟨?_, ?_⟩
  · rw [List.getLast?_eq_getElem?, bl_size, h, Nat.add_sub_cancel, bl_get s m (by omega), ← byN_get s m (by omega)]
    exact ⟨fun e => by rw [Option.some.inj e]; rfl, fun e => by rw [UInt8.toNat_inj.1 (show _ = (105 : UInt8).toNat from e)]⟩
  · rw [List.dropLast_eq_take, bl_size, h, Nat.add_sub_cancel]

set_option maxHeartbeats 2000000 in
theorem rkind_any (s : ByteArray) (w : World) (hs : s.size ≤ 4611686018427387000) :
    Calls Try.prog 13 #[.string s] w fun e w' => e = .returned (.int .u8 (Nm.kind (bl s) : Nat)) ∧ w = w' := by
  have HI := fun w => int_any s w hs
  have HF := fun w => float_any s w hs
  have hk := Nm.kind_ref (bl s)
  have d3 : (Nm.plain (bl s) = 3) ↔ intB (bl s) = true := (decide_eq_true_iff).symm
  have d4 : (Nm.plain (bl s) = 4) ↔ floatB (bl s) = true := (decide_eq_true_iff).symm
  simp only [d3, d4] at hk
  clear d3 d4
  cases hi : intB (bl s) with
  | true =>
    rw [hi] at HI
    rw [hk, hi, if_pos rfl]
    clear hi hk
    go_enter Try.func13, Try.ntmps13
    go_wp2_with fail
    refine (HI _).mono ?_
    rintro e w' ⟨rfl, rfl⟩
    go_wp2
    go_ret
    exact ⟨rfl, rfl⟩
  | false =>
    rw [hi] at HI
    rw [hi, if_neg (by simp)] at hk
    clear hi
    cases hf : floatB (bl s) with
    | true =>
      rw [hf] at HF
      rw [hk, hf, if_pos rfl]
      clear hf hk
      go_enter Try.func13, Try.ntmps13
      go_wp2_with fail
      refine (HI _).mono ?_
      rintro e w' ⟨rfl, rfl⟩
      go_wp2_with fail
      refine (HF _).mono ?_
      rintro e w' ⟨rfl, rfl⟩
      go_wp2
      go_ret
      exact ⟨rfl, rfl⟩
    | false =>
      rw [hf] at HF
      rw [hf, if_neg (by simp), bl_size] at hk
      clear hf
      by_cases h1 : 1 < s.size
      · have h1' : (1 : Int) < (s.size : Int) := by omega
        obtain ⟨m, hm⟩ : ∃ m, s.size = m + 1 := ⟨s.size - 1, by omega⟩
        obtain ⟨q1, q2⟩ := last_is s m hm
        rw [q2] at hk
        simp only [h1, q1, true_and] at hk
        have cl : (s.size : Int) - 1 = (m : Int) := by omega
        have hms : m < s.size := by omega
        have b0 : (0 : Int) ≤ (m : Int) := by omega
        have b1 : (m : Int) < (s.size : Int) := by omega
        have b2 : (m : Int) ≤ (s.size : Int) := by omega
        have e1 := byN_get s m hms
        have l1 := byN_lt s m
        have Hk := Lib.hid hk
        clear hk q1 q2 hm
        by_cases hc : byN s m = 105
        · rw [hc] at e1
          have Hc := Lib.hid hc
          clear hc l1
          have JI := fun w => int_to s m w hs
          have JF := fun w => float_to s m w hs
          have JR := fun w => rrow_to s m 10 w (by omega) hs
          have d3 : (Nm.plain ((bl s).take m) = 3) ↔ intB ((bl s).take m) = true := (decide_eq_true_iff).symm
          have d4 : (Nm.plain ((bl s).take m) = 4) ↔ floatB ((bl s).take m) = true := (decide_eq_true_iff).symm
          have Hk2 : Hid (Nm.kind (bl s) = if intB ((bl s).take m) = true ∨ floatB ((bl s).take m) = true ∨ Nm.R 10 ((bl s).take m) = true then 5 else 0) := Lib.hid (by
            have := Hk.out
            simp only [Hc.out, d3, d4, true_and] at this
            exact this)
          clear d3 d4 Hk
          generalize intB ((bl s).take m) = vI at JI Hk2
          generalize floatB ((bl s).take m) = vF at JF Hk2
          generalize Nm.R 10 ((bl s).take m) = vR at JR Hk2
          cases vI with
          | true =>
            go_enter Try.func13, Try.ntmps13
            go_wp2_with fail
            refine (HI _).mono ?_
            rintro e w' ⟨rfl, rfl⟩
            go_wp2_with fail
            refine (HF _).mono ?_
            rintro e w' ⟨rfl, rfl⟩
            go_wp2_with fail
            refine (JI _).mono ?_
            rintro e w' ⟨rfl, rfl⟩
            go_wp2
            go_ret
            exact ⟨by rw [Hk2.out]; rfl, rfl⟩
          | false =>
            cases vF with
            | true =>
              go_enter Try.func13, Try.ntmps13
              go_wp2_with fail
              refine (HI _).mono ?_
              rintro e w' ⟨rfl, rfl⟩
              go_wp2_with fail
              refine (HF _).mono ?_
              rintro e w' ⟨rfl, rfl⟩
              go_wp2_with fail
              refine (JI _).mono ?_
              rintro e w' ⟨rfl, rfl⟩
              go_wp2_with fail
              refine (JF _).mono ?_
              rintro e w' ⟨rfl, rfl⟩
              go_wp2
              go_ret
              exact ⟨by rw [Hk2.out]; rfl, rfl⟩
            | false =>
              cases vR with
              | true =>
                go_enter Try.func13, Try.ntmps13
                go_wp2_with fail
                refine (HI _).mono ?_
                rintro e w' ⟨rfl, rfl⟩
                go_wp2_with fail
                refine (HF _).mono ?_
                rintro e w' ⟨rfl, rfl⟩
                go_wp2_with fail
                refine (JI _).mono ?_
                rintro e w' ⟨rfl, rfl⟩
                go_wp2_with fail
                refine (JF _).mono ?_
                rintro e w' ⟨rfl, rfl⟩
                go_wp2_with fail
                refine (JR _).mono ?_
                rintro e w' ⟨rfl, rfl⟩
                go_wp2
                go_ret
                exact ⟨by rw [Hk2.out]; rfl, rfl⟩
              | false =>
                go_enter Try.func13, Try.ntmps13
                go_wp2_with fail
                refine (HI _).mono ?_
                rintro e w' ⟨rfl, rfl⟩
                go_wp2_with fail
                refine (HF _).mono ?_
                rintro e w' ⟨rfl, rfl⟩
                go_wp2_with fail
                refine (JI _).mono ?_
                rintro e w' ⟨rfl, rfl⟩
                go_wp2_with fail
                refine (JF _).mono ?_
                rintro e w' ⟨rfl, rfl⟩
                go_wp2_with fail
                refine (JR _).mono ?_
                rintro e w' ⟨rfl, rfl⟩
                go_wp2
                go_ret
                exact ⟨by rw [Hk2.out]; rfl, rfl⟩
        · have hk0 : Nm.kind (bl s) = 0 := by
            rw [Hk.out, if_neg (fun h => hc h.1)]
          rw [hk0]
          have d1 : ((byN s m : Int) == 105) = false := beq_eq_false_iff_ne.2 (by omega)
          clear hc hk0 Hk
          generalize byN s m = B at e1 l1 d1
          go_enter Try.func13, Try.ntmps13
          go_wp2_with fail
          refine (HI _).mono ?_
          rintro e w' ⟨rfl, rfl⟩
          go_wp2_with fail
          refine (HF _).mono ?_
          rintro e w' ⟨rfl, rfl⟩
          go_wp2
          go_ret
          exact ⟨rfl, rfl⟩
      · have h1' : ¬ (1 : Int) < (s.size : Int) := by omega
        rw [hk, if_neg (fun h => h1 h.1)]
        clear hk
        go_enter Try.func13, Try.ntmps13
        go_wp2_with fail
        refine (HI _).mono ?_
        rintro e w' ⟨rfl, rfl⟩
        go_wp2_with fail
        refine (HF _).mono ?_
        rintro e w' ⟨rfl, rfl⟩
        go_wp2
        go_ret
        exact ⟨rfl, rfl⟩
end Go.Proofs.Ytdpngmhjdafdpaa
