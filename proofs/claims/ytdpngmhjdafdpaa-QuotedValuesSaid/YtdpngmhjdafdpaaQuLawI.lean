/- The walk of the law QuotedValues. -/
import Derived.Test.YtdpngmhjdafdpaaQuLawH
namespace Go.Proofs.Ytdpngmhjdafdpaa
open Go.RowKit Em
set_option linter.unusedVariables false
set_option linter.unusedSimpArgs false

set_option maxHeartbeats 2000000 in
theorem rvalue_err (s : ByteArray) (w : World) (K : Nat) (E V : Int) (T : ByteArray) (hV : V = 4 ∨ V = 15)
    (HB : ∀ w : World, Calls Try.prog 33 #[.string s, .int .i64 0] w fun e w' => e = .returned (.tuple #[.int .u8 K, .int .i64 E, .string T, .int .i64 V]) ∧ Below w.heap.size w w') :
    Calls Try.prog 21 #[.string s] w fun e w' => e = .returned (.tuple #[.string ⟨#[]⟩, .int .i64 4]) ∧ Below w.heap.size w w' := by
  rcases hV with rfl | rfl
  all_goals (
    go_enter Try.func21, Try.ntmps21
    go_wp2_with fail
    refine (HB _).mono ?_
    rintro e w1 ⟨rfl, b1⟩
    go_wp2
    go_ret2
    exact ⟨rfl, b1⟩)

set_option maxHeartbeats 2000000 in
theorem rvalue_short (s : ByteArray) (w : World) (K : Nat) (E : Int) (T : ByteArray) (hE : (E != (s.size : Int)) = true)
    (HB : ∀ w : World, Calls Try.prog 33 #[.string s, .int .i64 0] w fun e w' => e = .returned (.tuple #[.int .u8 K, .int .i64 E, .string T, .int .i64 0]) ∧ Below w.heap.size w w') :
    Calls Try.prog 21 #[.string s] w fun e w' => e = .returned (.tuple #[.string ⟨#[]⟩, .int .i64 4]) ∧ Below w.heap.size w w' := by
  go_enter Try.func21, Try.ntmps21
  go_wp2_with fail
  refine (HB _).mono ?_
  rintro e w1 ⟨rfl, b1⟩
  go_wp2
  go_ret2
  exact ⟨rfl, b1⟩

set_option maxHeartbeats 2000000 in
theorem rvalue_ok (s : ByteArray) (w : World) (K : Nat) (T : ByteArray)
    (HB : ∀ w : World, Calls Try.prog 33 #[.string s, .int .i64 0] w fun e w' => e = .returned (.tuple #[.int .u8 K, .int .i64 (s.size : Int), .string T, .int .i64 0]) ∧ Below w.heap.size w w') :
    Calls Try.prog 21 #[.string s] w fun e w' => e = .returned (.tuple #[.string T, .int .i64 0]) ∧ Below w.heap.size w w' := by
  go_enter Try.func21, Try.ntmps21
  go_wp2_with fail
  refine (HB _).mono ?_
  rintro e w1 ⟨rfl, b1⟩
  go_wp2
  go_ret2
  exact ⟨rfl, b1⟩

theorem whole_mark {l : List UInt8} {c : UInt8} {m : List UInt8} (e : l = c :: m) (h : mkN c.toNat = false) : Qm.whole l = none := by
  subst e
  unfold mkN at h
  have h2 := of_decide_eq_false h
  rw [whole_cons, if_neg (fun h => h2 (.inl h)), if_neg (fun h => h2 (.inr (.inl h))), if_neg (fun h => h2 (.inr (.inr h)))]

theorem rvalue_any (s : ByteArray) (w : World) (hs : s.size ≤ 140737488355300) :
    Calls Try.prog 21 #[.string s] w fun e w' => e = .returned (.tuple #[.string (vT s), .int .i64 (vE s)]) ∧ Below w.heap.size w w' := by
  by_cases hno : (0 : Int) < 0 ∨ (s.size : Int) ≤ 0 ∨ ∃ k : Nat, (0 : Int) = k ∧ k < s.size ∧ mkN (byN s k) = false
  · have hn : Qm.whole (bl s) = none := by
      rcases hno with h | h | ⟨k, h, hk, hm⟩
      · omega
      · have : bl s = [] := List.eq_nil_of_length_eq_zero (by rw [bl_size]; omega)
        rw [this]; rfl
      · obtain rfl : k = 0 := by omega
        have hd := bl_drop' s 0 hk
        rw [List.drop_zero] at hd
        exact whole_mark hd (by rw [byN_get s 0 hk]; exact hm)
    have e1 : vT s = ⟨#[]⟩ := by unfold vT; rw [hn]; rfl
    have e2 : vE s = 4 := by unfold vE; rw [hn]
    rw [e1, e2]
    exact rvalue_err s w 0 0 15 ⟨#[]⟩ (.inr rfl) (fun w => (rbeg_no s 0 w hno).mono (by rintro e w' ⟨rfl, rfl⟩; exact ⟨rfl, Below.refl _ _⟩))
  · have hn : 0 < s.size := by omega
    have hm : mkN (byN s 0) = true := by
      cases h : mkN (byN s 0) with
      | true => rfl
      | false => exact absurd (.inr (.inr ⟨0, rfl, hn, h⟩)) hno
    have HB := fun w => rbeg_yes s 0 w hn hm hs
    rw [List.drop_zero] at HB
    cases hx : Qm.whole (bl s) with
    | none =>
      rw [begV_none hx] at HB
      have e1 : vT s = ⟨#[]⟩ := by unfold vT; rw [hx]; rfl
      have e2 : vE s = 4 := by unfold vE; rw [hx]
      rw [e1, e2]
      exact rvalue_err s w 0 0 4 ⟨#[]⟩ (.inl rfl) HB
    | some y =>
      obtain ⟨K, t, q⟩ := y
      have e4 : begV s (bl s) = .tuple #[.int .u8 (K : Nat), .int .i64 ((s.size : Int) - (q.length : Int)), .string (txt t), .int .i64 0] := by unfold begV; rw [hx]
      rw [e4] at HB
      cases q with
      | nil =>
        have e1 : vT s = txt t := by unfold vT; rw [hx]
        have e2 : vE s = 0 := by unfold vE; rw [hx]
        rw [e1, e2]
        have e5 : (s.size : Int) - (([] : List UInt8).length : Int) = (s.size : Int) := by simp
        rw [e5] at HB
        exact rvalue_ok s w K _ HB
      | cons c q =>
        have e1 : vT s = ⟨#[]⟩ := by unfold vT; rw [hx]; rfl
        have e2 : vE s = 4 := by unfold vE; rw [hx]
        rw [e1, e2]
        exact rvalue_short s w K _ _ (by simp; omega) HB

set_option maxHeartbeats 4000000 in
theorem walk_QuotedValues (s : ByteArray) (w : World) (w0 : s.size ≤ 140737488351232) :
    Calls Try.prog 10 #[.string s] w fun e w' => e = .returned (.bool true) ∧ Below w.heap.size w w' := by
  have HP := fun w => value_any s w (by omega)
  have HR := fun w => rvalue_any s w (by omega)
  generalize vT s = T at HP HR
  generalize vE s = V at HP HR
  go_enter Try.func10, Try.ntmps10
  go_wp2_with fail
  refine (HP _).mono ?_
  rintro e w1 ⟨rfl, b1⟩
  go_wp2_with fail
  refine (HR _).mono ?_
  rintro e w2 ⟨rfl, b2⟩
  have c2 := b1.trans (b2.mono b1.size)
  clear b1 b2
  go_wp2_with fail
  refine (fixed6_any _).mono ?_
  rintro e w3 ⟨rfl, b3⟩
  have c3 := c2.trans (b3.mono c2.size)
  clear c2 b3
  go_wp2
  go_ret
  exact ⟨rfl, c3⟩
end Go.Proofs.Ytdpngmhjdafdpaa
