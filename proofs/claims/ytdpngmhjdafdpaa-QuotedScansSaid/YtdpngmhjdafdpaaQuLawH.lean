/- Contracts of the reference's Scan and Value (quoted); the walks of the laws QuotedScans and QuotedValues. -/
import Derived.Test.YtdpngmhjdafdpaaQuRBegD
namespace Go.Proofs.Ytdpngmhjdafdpaa
open Go.RowKit Em
set_option linter.unusedVariables false
set_option linter.unusedSimpArgs false

theorem rbeg_yes (s : ByteArray) (n : Nat) (w : World) (hn : n < s.size) (hm : mkN (byN s n) = true) (hs : s.size ≤ 140737488355300) :
    Calls Try.prog 33 #[.string s, .int .i64 n] w fun e w' => e = .returned (begV s ((bl s).drop n)) ∧ Below w.heap.size w w' := by
  unfold mkN at hm
  rcases of_decide_eq_true hm with h | h | h
  · exact rbeg_rune s n w hn h hs
  · exact rbeg_str s n w hn h hs
  · exact rbeg_raw s n w hn h hs

set_option maxHeartbeats 2000000 in
theorem rscan_of (s : ByteArray) (at' : Int) (w : World) (K : Nat) (E V : Int) (T : ByteArray)
    (HB : ∀ w : World, Calls Try.prog 33 #[.string s, .int .i64 at'] w fun e w' => e = .returned (.tuple #[.int .u8 K, .int .i64 E, .string T, .int .i64 V]) ∧ Below w.heap.size w w') :
    Calls Try.prog 18 #[.string s, .int .i64 at'] w fun e w' => e = .returned (.tuple #[.int .u8 K, .int .i64 E, .int .i64 V]) ∧ Below w.heap.size w w' := by
  go_enter Try.func18, Try.ntmps18
  go_wp2_with fail
  refine (HB _).mono ?_
  rintro e w1 ⟨rfl, b1⟩
  go_wp2
  go_ret3
  exact ⟨rfl, b1⟩

set_option maxHeartbeats 4000000 in
theorem scans_of (s : ByteArray) (at' : Int) (w : World) (K : Nat) (E V : Int)
    (HP : ∀ w : World, Calls Try.prog 17 #[.string s, .int .i64 at'] w fun e w' => e = .returned (.tuple #[.int .u8 K, .int .i64 E, .int .i64 V]) ∧ Below w.heap.size w w')
    (HR : ∀ w : World, Calls Try.prog 18 #[.string s, .int .i64 at'] w fun e w' => e = .returned (.tuple #[.int .u8 K, .int .i64 E, .int .i64 V]) ∧ Below w.heap.size w w') :
    Calls Try.prog 9 #[.string s, .int .i64 at'] w fun e w' => e = .returned (.bool true) ∧ Below w.heap.size w w' := by
  go_enter Try.func9, Try.ntmps9
  go_wp2_with fail
  refine (HP _).mono ?_
  rintro e w1 ⟨rfl, b1⟩
  go_wp2_with fail
  refine (HR _).mono ?_
  rintro e w2 ⟨rfl, b2⟩
  have c2 := b1.trans (b2.mono b1.size)
  clear b1 b2
  go_wp2_with fail
  refine (fixed6_any _).mono ?_
  rintro e w3 ⟨rfl, b3⟩
  have c3 := c2.trans (b3.mono c2.size)
  clear c2 b3
  go_wp2
  go_ret
  exact ⟨rfl, c3⟩

theorem walk_QuotedScans (s : ByteArray) (at' : Int) (w : World) (w0 : s.size ≤ 140737488351232) (w1 : (Lit.int .i64 at').wf = true) :
    Calls Try.prog 9 #[.string s, .int .i64 at'] w fun e w' => e = .returned (.bool true) ∧ Below w.heap.size w w' := by
  by_cases hno : at' < 0 ∨ (s.size : Int) ≤ at' ∨ ∃ k : Nat, at' = k ∧ k < s.size ∧ mkN (byN s k) = false
  · exact scans_of s at' w 0 0 15 (fun w => (qscan_no s at' w hno).mono (by rintro e w' ⟨rfl, rfl⟩; exact ⟨rfl, Below.refl _ _⟩))
      (fun w => rscan_of s at' w 0 0 15 ⟨#[]⟩ (fun w => (rbeg_no s at' w hno).mono (by rintro e w' ⟨rfl, rfl⟩; exact ⟨rfl, Below.refl _ _⟩)))
  · obtain ⟨n, rfl⟩ := Int.eq_ofNat_of_zero_le (show 0 ≤ at' by omega)
    have hn : n < s.size := by omega
    have hm : mkN (byN s n) = true := by
      cases h : mkN (byN s n) with
      | true => rfl
      | false => exact absurd (.inr (.inr ⟨n, rfl, hn, h⟩)) hno
    have HS := fun w => qscan_yes s n w hn hm (by omega)
    have HB := fun w => rbeg_yes s n w hn hm (by omega)
    cases hx : Qm.whole ((bl s).drop n) with
    | none =>
      have e1 : qK ((bl s).drop n) = 0 := by unfold qK wholeK; rw [hx]
      have e2 : qT s.size ((bl s).drop n) = 0 := by unfold qT; rw [hx]
      have e3 : qE ((bl s).drop n) = 4 := by unfold qE; rw [hx]
      rw [e1, e2, e3] at HS
      rw [begV_none hx] at HB
      exact scans_of s n w 0 0 4 HS (fun w => rscan_of s n w 0 0 4 _ HB)
    | some y =>
      obtain ⟨K, t, q⟩ := y
      have e1 : qK ((bl s).drop n) = K := by unfold qK wholeK; rw [hx]
      have e2 : qT s.size ((bl s).drop n) = (s.size : Int) - (q.length : Int) := by unfold qT; rw [hx]
      have e3 : qE ((bl s).drop n) = 0 := by unfold qE; rw [hx]
      have e4 : begV s ((bl s).drop n) = .tuple #[.int .u8 (K : Nat), .int .i64 ((s.size : Int) - (q.length : Int)), .string (txt t), .int .i64 0] := by unfold begV; rw [hx]
      rw [e1, e2, e3] at HS
      rw [e4] at HB
      exact scans_of s n w K _ 0 HS (fun w => rscan_of s n w K _ 0 _ HB)
end Go.Proofs.Ytdpngmhjdafdpaa
