/- Contract of the reference's digit of numbers. -/
import Derived.Test.YtdpngmhjdafdpaaNuWalk
namespace Go.Proofs.Ytdpngmhjdafdpaa
open Go.RowKit Em
set_option linter.unusedVariables false
set_option linter.unusedSimpArgs false

def upD (k : Nat) : Nat := if k < 10 then 48 + k else 55 + k
def loD (k : Nat) : Nat := if k < 10 then 48 + k else 87 + k
theorem upD_at : ∀ k : Fin 16, byN ⟨#[48, 49, 50, 51, 52, 53, 54, 55, 56, 57, 65, 66, 67, 68, 69, 70]⟩ k.1 = upD k.1 := by decide +kernel
theorem loD_at : ∀ k : Fin 16, byN ⟨#[48, 49, 50, 51, 52, 53, 54, 55, 56, 57, 97, 98, 99, 100, 101, 102]⟩ k.1 = loD k.1 := by decide +kernel

theorem dig_hit {n k : Nat} (hk : k < 16) (h : upD k = n ∨ loD k = n) : dgN n = k := by
  unfold upD loD at h
  unfold dgN
  by_cases h10 : k < 10
  · rw [if_pos h10, if_pos h10] at h
    rw [if_pos (by omega)]; omega
  · rw [if_neg h10, if_neg h10] at h
    rw [if_neg (by omega)]
    rcases h with h | h
    · rw [if_neg (by omega), if_pos (by omega)]; omega
    · rw [if_pos (by omega)]; omega
theorem dig_none {n b : Nat} (hb : b ≤ 16) (h : ∀ j, j < b → upD j ≠ n ∧ loD j ≠ n) : ¬ dgN n < b := by
  intro hlt
  unfold dgN at hlt
  split at hlt
  · have := (h (n - 48) hlt).1
    unfold upD at this
    rw [if_pos (by omega)] at this; omega
  · split at hlt
    · have := (h (n - 97 + 10) hlt).2
      unfold loD at this
      rw [if_neg (by omega)] at this; omega
    · split at hlt
      · have := (h (n - 65 + 10) hlt).1
        unfold upD at this
        rw [if_neg (by omega)] at this; omega
      · omega

set_option maxRecDepth 100000 in
set_option maxHeartbeats 2000000 in
theorem rdigit_any (n b : Nat) (hn : n < 256) (hb : b ≤ 16) (w : World) :
    Calls Try.prog 44 #[.int .u8 n, .int .i64 b] w fun e w' => e = .returned (.bool (decide (dgN n < b))) ∧ w = w' := by
  go_enter Try.func44, Try.ntmps44
  go_wp2
  go_loop [7] (fun i => ∃ k : Nat, k ≤ b ∧ i = .int .i64 k ∧ ∀ j, j < k → upD j ≠ n ∧ loD j ≠ n) (fun i => 16 - (intOf i).toNat)
  case atStart => exact ⟨0, by omega, rfl, fun j hj => by omega⟩
  case round =>
    obtain ⟨k, hk, rfl, hno⟩ := hrel
    have Hno := Lib.hid hno
    clear hno
    by_cases hltb : k < b
    · have hlt : k < 16 := by omega
      have e1 := (byN_get ⟨#[48, 49, 50, 51, 52, 53, 54, 55, 56, 57, 65, 66, 67, 68, 69, 70]⟩ k hlt).trans (upD_at ⟨k, hlt⟩)
      have e2 := (byN_get ⟨#[48, 49, 50, 51, 52, 53, 54, 55, 56, 57, 97, 98, 99, 100, 101, 102]⟩ k hlt).trans (loD_at ⟨k, hlt⟩)
      have u1 : upD k < 256 := by unfold upD; split <;> omega
      have u2 : loD k < 256 := by unfold loD; split <;> omega
      have b0 : (0 : Int) ≤ (k : Int) := by omega
      have b1 : (k : Int) < 16 := by omega
      have b2 : (k : Int) < (b : Int) := by omega
      have d1 : decide ((k : Int) < (b : Int)) = true := by simp; omega
      cases hm : ((loD k : Int) == (n : Int)) with
      | true =>
        have hfin : decide (dgN n < b) = true := decide_eq_true (by rw [dig_hit hlt (.inr (by have := beq_iff_eq.1 hm; omega))]; exact hltb)
        have Hfin := Lib.hid hfin
        clear hfin
        generalize upD k = u at e1 u1
        generalize loD k = v at e2 u2 hm
        go_wp2
        go_ret
        exact ⟨ret_bool Hfin.out.symm, rfl⟩
      | false =>
        cases hm2 : ((upD k : Int) == (n : Int)) with
        | true =>
          have hfin : decide (dgN n < b) = true := decide_eq_true (by rw [dig_hit hlt (.inl (by have := beq_iff_eq.1 hm2; omega))]; exact hltb)
          have Hfin := Lib.hid hfin
          clear hfin
          generalize upD k = u at e1 u1 hm2
          generalize loD k = v at e2 u2 hm
          go_wp2
          go_ret
          exact ⟨ret_bool Hfin.out.symm, rfl⟩
        | false =>
          have hk2 : ∀ j, j < k + 1 → upD j ≠ n ∧ loD j ≠ n := by
            intro j hj
            by_cases e : j = k
            · subst e
              have x1 := beq_eq_false_iff_ne.1 hm
              have x2 := beq_eq_false_iff_ne.1 hm2
              exact ⟨fun e => x2 (by omega), fun e => x1 (by omega)⟩
            · exact Hno.out j (by omega)
          have Hk2 := Lib.hid hk2
          clear hk2 Hno
          generalize upD k = u at e1 u1 hm2
          generalize loD k = v at e2 u2 hm
          go_wp2
          go_round
          case rel => exact ⟨k + 1, by omega, by go_num, Hk2.out⟩
          case measure => simp [intOf]; omega
    · have hfin : decide (dgN n < b) = false := decide_eq_false (dig_none hb fun j hj => Hno.out j (by omega))
      have Hfin := Lib.hid hfin
      have b2 : ¬ (k : Int) < (b : Int) := by omega
      clear hfin Hno
      go_wp2
      go_ret
      exact ⟨ret_bool Hfin.out.symm, rfl⟩

end Go.Proofs.Ytdpngmhjdafdpaa
