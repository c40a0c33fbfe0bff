/- class.Base and the reference's Base. -/
import Derived.Test.YtlmhcjomegiibaaWordRef
namespace Go.Proofs.Ytlmhcjomegiibaa
open Go.RowKit

theorem base_any (r : Int) (w : World) (hb1 : -2147483648 ≤ r) (hb2 : r ≤ 2147483647) :
    Calls Try.prog 34 #[.int .i32 r] w fun e w' => e = .returned (.int .i64 (Cm.base r)) ∧ w = w' := by
  unfold Cm.base
  by_cases h1 : 48 ≤ r ∧ r ≤ 57
  · rw [if_pos h1]
    obtain ⟨a, b⟩ := h1
    go_enter Try.func34, Try.ntmps34
    go_wp2
    go_ret
    exact ⟨rfl, rfl⟩
  · rw [if_neg h1]
    have g1 : r < 48 ∨ 57 < r := by omega
    by_cases h2 : 65 ≤ r ∧ r ≤ 70
    · rw [if_pos h2]
      obtain ⟨a, b⟩ := h2
      have c : ¬ r ≤ 57 := by omega
      have c2 : (48 : Int) ≤ r := by omega
      clear g1 h1
      go_enter Try.func34, Try.ntmps34
      go_wp2
      go_ret
      exact ⟨rfl, rfl⟩
    · rw [if_neg h2]
      by_cases h3 : 97 ≤ r ∧ r ≤ 102
      · rw [if_pos h3]
        obtain ⟨a, b⟩ := h3
        have c : ¬ r ≤ 57 := by omega
        have c2 : (48 : Int) ≤ r := by omega
        have c3 : ¬ r ≤ 70 := by omega
        have c4 : (65 : Int) ≤ r := by omega
        clear g1 h1 h2
        go_enter Try.func34, Try.ntmps34
        go_wp2
        go_ret
        exact ⟨rfl, rfl⟩
      · rw [if_neg h3]
        go_enter Try.func34, Try.ntmps34
        go_wp2
        all_goals first | (exfalso; omega) | (go_ret; exact ⟨rfl, rfl⟩)

def upN (k : Nat) : Nat := if k < 10 then 48 + k else 55 + k
def loN (k : Nat) : Nat := if k < 10 then 48 + k else 87 + k
theorem up_at : ∀ k : Fin 16, Um.byt ⟨#[48, 49, 50, 51, 52, 53, 54, 55, 56, 57, 65, 66, 67, 68, 69, 70]⟩ k.1 = upN k.1 := by decide +kernel
theorem lo_at : ∀ k : Fin 16, Um.byt ⟨#[48, 49, 50, 51, 52, 53, 54, 55, 56, 57, 97, 98, 99, 100, 101, 102]⟩ k.1 = loN k.1 := by decide +kernel

theorem base_hit {r : Int} {k : Nat} (hk : k < 16) (h : (upN k : Int) = r ∨ (loN k : Int) = r) : Cm.base r = k := by
  unfold upN loN at h
  unfold Cm.base
  by_cases h10 : k < 10
  · rw [if_pos h10, if_pos h10] at h
    rw [if_pos (by omega)]; omega
  · rw [if_neg h10, if_neg h10] at h
    rw [if_neg (by omega)]
    rcases h with h | h
    · rw [if_pos (by omega)]; omega
    · rw [if_neg (by omega), if_pos (by omega)]; omega

theorem base_none {r : Int} (h : ∀ j, j < 16 → (upN j : Int) ≠ r ∧ (loN j : Int) ≠ r) : Cm.base r = -1 := by
  unfold Cm.base
  rw [if_neg, if_neg, if_neg]
  · intro hr
    have := (h (r - 87).toNat (by omega)).2
    unfold loN at this
    rw [if_neg (by omega)] at this
    omega
  · intro hr
    have := (h (r - 55).toNat (by omega)).1
    unfold upN at this
    rw [if_neg (by omega)] at this
    omega
  · intro hr
    have := (h (r - 48).toNat (by omega)).1
    unfold upN at this
    rw [if_pos (by omega)] at this
    omega

set_option maxRecDepth 100000 in
set_option maxHeartbeats 2000000 in
theorem rbase_any (r : Int) (w : World) :
    Calls Try.prog 35 #[.int .i64 r] w fun e w' => e = .returned (.int .i64 (Cm.base r)) ∧ w = w' := by
  go_enter Try.func35, Try.ntmps35
  go_wp2
  go_loop [5] (fun i => ∃ k : Nat, k ≤ 16 ∧ i = .int .i64 k ∧ ∀ j, j < k → (upN j : Int) ≠ r ∧ (loN j : Int) ≠ r) (fun i => 16 - (intOf i).toNat)
  case atStart => exact ⟨0, by omega, rfl, fun j hj => by omega⟩
  case round =>
    obtain ⟨k, hk, rfl, hno⟩ := hrel
    have Hno := Lib.hid hno
    clear hno
    by_cases hlt : k < 16
    · have e1 := (get_byt ⟨#[48, 49, 50, 51, 52, 53, 54, 55, 56, 57, 65, 66, 67, 68, 69, 70]⟩ k hlt).trans (up_at ⟨k, hlt⟩)
      have e2 := (get_byt ⟨#[48, 49, 50, 51, 52, 53, 54, 55, 56, 57, 97, 98, 99, 100, 101, 102]⟩ k hlt).trans (lo_at ⟨k, hlt⟩)
      have u1 : upN k < 256 := by unfold upN; split <;> omega
      have u2 : loN k < 256 := by unfold loN; split <;> omega
      have b0 : (0 : Int) ≤ (k : Int) := by omega
      have b1 : (k : Int) < 16 := by omega
      have d1 : decide ((k : Int) < 16) = true := by simp; omega
      cases hm : ((upN k : Int) == r) with
      | true =>
        have hfin : Cm.base r = k := base_hit hlt (.inl (beq_iff_eq.1 hm))
        have Hfin := Lib.hid hfin
        clear hfin
        generalize upN k = u at e1 u1 hm
        generalize loN k = v at e2 u2
        go_wp2
        go_ret
        exact ⟨ret_int Hfin.out.symm, rfl⟩
      | false =>
        cases hm2 : ((loN k : Int) == r) with
        | true =>
          have hfin : Cm.base r = k := base_hit hlt (.inr (beq_iff_eq.1 hm2))
          have Hfin := Lib.hid hfin
          clear hfin
          generalize upN k = u at e1 u1 hm
          generalize loN k = v at e2 u2 hm2
          go_wp2
          go_ret
          exact ⟨ret_int Hfin.out.symm, rfl⟩
        | false =>
          have hk2 : ∀ j, j < k + 1 → (upN j : Int) ≠ r ∧ (loN j : Int) ≠ r := by
            intro j hj
            by_cases e : j = k
            · subst e; exact ⟨beq_eq_false_iff_ne.1 hm, beq_eq_false_iff_ne.1 hm2⟩
            · exact Hno.out j (by omega)
          have Hk2 := Lib.hid hk2
          clear hk2 Hno
          generalize upN k = u at e1 u1 hm
          generalize loN k = v at e2 u2 hm2
          go_wp2
          go_round
          case rel => exact ⟨k + 1, by omega, by go_num, Hk2.out⟩
          case measure => simp [intOf]; omega
    · have hfin : Cm.base r = -1 := base_none fun j hj => Hno.out j (by omega)
      have Hfin := Lib.hid hfin
      clear hfin
      go_wp2
      go_ret
      exact ⟨ret_int Hfin.out.symm, rfl⟩
end Go.Proofs.Ytlmhcjomegiibaa
