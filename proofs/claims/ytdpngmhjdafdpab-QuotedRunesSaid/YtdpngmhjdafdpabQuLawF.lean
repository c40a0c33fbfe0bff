/- The walk of the law QuotedRunes. -/
import Derived.Test.YtdpngmhjdafdpabQuHex
namespace Go.Proofs.Ytdpngmhjdafdpab
open Go.Shelf Go.RowKit Em
set_option linter.unusedVariables false
set_option linter.unusedSimpArgs false

theorem value_of {s : ByteArray} {L t : List UInt8} {K : Nat} (h : bl s = L) (hw : Qm.whole L = some (K, t, [])) (hs : s.size ≤ 140737488355300) (w : World) :
    Calls Try.prog 9 #[.string s] w fun e w' => e = .returned (.tuple #[.string (txt t), .int .i64 0]) ∧ Below w.heap.size w w' := by
  have V := value_any s w hs
  have e1 : vT s = txt t := by unfold vT; rw [h, hw]
  have e2 : vE s = 0 := by unfold vE; rw [h, hw]
  rw [e1, e2] at V
  exact V

theorem value_no {s : ByteArray} {L : List UInt8} (h : bl s = L) (hw : Qm.whole L = none) (hs : s.size ≤ 140737488355300) (w : World) :
    Calls Try.prog 9 #[.string s] w fun e w' => e = .returned (.tuple #[.string (vT s), .int .i64 4]) ∧ Below w.heap.size w w' := by
  have V := value_any s w hs
  have e2 : vE s = 4 := by unfold vE; rw [h, hw]
  rw [e2] at V
  exact V

theorem bl_3 (a b c d : UInt8) (T : List UInt8) : bl (⟨#[a, b, c]⟩ ++ txt T ++ ⟨#[d]⟩) = a :: b :: c :: (T ++ [d]) := by
  rw [bl_append, bl_append, txt_bl]; rfl
theorem bl_1 (a d : UInt8) (T : List UInt8) : bl (⟨#[a]⟩ ++ txt T ++ ⟨#[d]⟩) = a :: (T ++ [d]) := by
  rw [bl_append, bl_append, txt_bl]; rfl
theorem bl_39U (n : Nat) : bl (⟨#[39, 92, 85]⟩ ++ txt (hx8 n 8) ++ ⟨#[39]⟩) = 39 :: 92 :: 85 :: (hx8 n 8 ++ [39]) := bl_3 _ _ _ _ _
theorem bl_34U (n : Nat) : bl (⟨#[34, 92, 85]⟩ ++ txt (hx8 n 8) ++ ⟨#[34]⟩) = 34 :: 92 :: 85 :: (hx8 n 8 ++ [34]) := bl_3 _ _ _ _ _
theorem bl_39F (n : Nat) : bl (⟨#[39]⟩ ++ txt (Qm.fm n) ++ ⟨#[39]⟩) = 39 :: (Qm.fm n ++ [39]) := bl_1 _ _ _
theorem form_txt (n : Nat) : formOf (n : Int) = txt (Qm.fm n) := bl_inj (by rw [formOf_fm, txt_bl])

set_option maxHeartbeats 2000000 in
theorem runes_out (r : Int) (w : World) (b : -2147483648 ≤ r ∧ r ≤ 2147483647) (h : r < 0 ∨ 1114111 < r) :
    Calls Try.prog 6 #[.int .i32 r] w fun e w' => e = .returned (.bool true) ∧ Below w.heap.size w w' := by
  obtain ⟨n, hn⟩ : ∃ n : Nat, r % 4294967296 = n := ⟨(r % 4294967296).toNat, by omega⟩
  have hn2 : n < 4294967296 := by omega
  have hno : ¬ Um.okN n := by unfold Um.okN; omega
  have q1 : IntKind.i64.wrap r = r := IntWalk.i64_in _ (by omega)
  have q2 : IntKind.u32.wrap r = (n : Int) := by rw [IntKind.wrap_u32]; omega
  have q3 : IntKind.i64.wrap (n : Int) = (n : Int) := IntWalk.i64_in _ (by omega)
  have hl : (txt (hx8 n 8)).size = 8 := by rw [txt_size, hx8_len]
  have hs : (⟨#[39, 92, 85]⟩ ++ txt (hx8 n 8) ++ ⟨#[39]⟩ : ByteArray).size ≤ 140737488355300 := by rw [← bl_size, bl_39U]; simp [hx8_len]
  have hw := rune_U n hn2
  rw [if_neg hno] at hw
  have VA := fun w => value_no (bl_39U n) hw hs w
  have HA := fun w => hex_any n w hn2
  have FA := fun w => rform_any r w
  have f1 : ¬ 9223372036854775807 < 3 + (txt (hx8 n 8)).size := by rw [hl]; omega
  have f2 : ¬ 9223372036854775807 < 3 + (txt (hx8 n 8)).size + 1 := by rw [hl]; omega
  clear hw hno hn hs hl
  generalize txt (hx8 n 8) = H at VA HA f1 f2
  generalize vT _ = V at VA
  generalize formOf r = F at FA
  have h' : r < 0 ∨ (¬ r < 0 ∧ (1114111 : Int) < r) := by omega
  clear h
  rcases h' with h1 | ⟨h1, h2⟩
  all_goals (
    go_enter Try.func6, Try.ntmps6
    go_wp2_with fail
    refine (FA _).mono ?_
    rintro e w1 ⟨rfl, b1⟩
    go_wp2_with fail
    refine (fixed6_any _).mono ?_
    rintro e w2 ⟨rfl, b2⟩
    have c2 := b1.trans (b2.mono b1.size)
    clear b1 b2
    go_wp2_with fail
    refine (HA _).mono ?_
    rintro e w3 ⟨rfl, b3⟩
    have c3 := c2.trans (b3.mono c2.size)
    clear c2 b3
    go_wp2_with fail
    refine (VA _).mono ?_
    rintro e w4 ⟨rfl, b4⟩
    have c4 := c3.trans (b4.mono c3.size)
    clear c3 b4
    go_wp2
    go_ret
    exact ⟨rfl, c4⟩)
end Go.Proofs.Ytdpngmhjdafdpab
