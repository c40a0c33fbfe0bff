/- The walk of the law QuotedRunes: numbers of characters. -/
import Derived.Test.YtdpngmhjdafdpabQuLawF
namespace Go.Proofs.Ytdpngmhjdafdpab
open Go.Shelf Go.RowKit Em
set_option linter.unusedVariables false
set_option linter.unusedSimpArgs false

theorem ne_list {F : ByteArray} (h : ¬ F = ⟨#[]⟩) : F.toList.isEmpty = false := by
  rw [Um.toList_eq]
  obtain ⟨⟨l⟩⟩ := F
  cases l with
  | nil => exact absurd rfl h
  | cons c m => rfl

theorem rune_bounds {r : Int} (h : (Lit.int .i32 r).wf = true) : -2147483648 ≤ r ∧ r ≤ 2147483647 := by simpa [Lit.wf, IntKind.min, IntKind.max, IntKind.signed, IntKind.bits] using h

set_option maxHeartbeats 2000000 in
theorem runes_gap (n : Nat) (w : World) (h : 55296 ≤ n ∧ n ≤ 57343) :
    Calls Try.prog 6 #[.int .i32 n] w fun e w' => e = .returned (.bool true) ∧ Below w.heap.size w w' := by
  have hn2 : n < 4294967296 := by omega
  have hno : ¬ Um.okN n := by unfold Um.okN; omega
  have q1 : IntKind.i64.wrap (n : Int) = (n : Int) := IntWalk.i64_in _ (by omega)
  have hl : (txt (hx8 n 8)).size = 8 := by rw [txt_size, hx8_len]
  have hs : (⟨#[39, 92, 85]⟩ ++ txt (hx8 n 8) ++ ⟨#[39]⟩ : ByteArray).size ≤ 140737488355300 := by rw [← bl_size, bl_39U]; simp [hx8_len]
  have hs' : (⟨#[34, 92, 85]⟩ ++ txt (hx8 n 8) ++ ⟨#[34]⟩ : ByteArray).size ≤ 140737488355300 := by rw [← bl_size, bl_34U]; simp [hx8_len]
  have hw := rune_U n hn2
  rw [if_neg hno] at hw
  have hw' := str_U n hn2
  rw [if_neg hno] at hw'
  have VA := fun w => value_no (bl_39U n) hw hs w
  have VB := fun w => value_no (bl_34U n) hw' hs' w
  have HA := fun w => hex_any n w hn2
  have FA := fun w => rform_any n w
  have hF : formOf (n : Int) = ⟨#[]⟩ := by rw [form_txt, Qm.fm_none hno]; rfl
  rw [hF] at FA
  have f1 : ¬ 9223372036854775807 < 3 + (txt (hx8 n 8)).size := by rw [hl]; omega
  have f2 : ¬ 9223372036854775807 < 3 + (txt (hx8 n 8)).size + 1 := by rw [hl]; omega
  have b1 : ¬ (n : Int) < 0 := by omega
  have b2 : ¬ (1114111 : Int) < (n : Int) := by omega
  clear hw hw' hno hs hs' hl hF
  generalize txt (hx8 n 8) = H at VA VB HA f1 f2
  generalize vT _ = V at VA
  generalize vT _ = V' at VB
  go_enter Try.func6, Try.ntmps6
  go_wp2_with fail
  refine (FA _).mono ?_
  rintro e w1 ⟨rfl, d1⟩
  have c1 := d1
  clear d1
  go_wp2_with fail
  refine (fixed6_any _).mono ?_
  rintro e w2 ⟨rfl, d2⟩
  have c2 := c1.trans (d2.mono c1.size)
  clear c1 d2
  go_wp2_with fail
  refine (HA _).mono ?_
  rintro e w3 ⟨rfl, d3⟩
  have c3 := c2.trans (d3.mono c2.size)
  clear c2 d3
  go_wp2_with fail
  refine (VA _).mono ?_
  rintro e w4 ⟨rfl, d4⟩
  have c4 := c3.trans (d4.mono c3.size)
  clear c3 d4
  go_wp2_with fail
  refine (HA _).mono ?_
  rintro e w5 ⟨rfl, d5⟩
  have c5 := c4.trans (d5.mono c4.size)
  clear c4 d5
  go_wp2_with fail
  refine (VB _).mono ?_
  rintro e w6 ⟨rfl, d6⟩
  have c6 := c5.trans (d6.mono c5.size)
  clear c5 d6
  go_wp2
  go_ret
  exact ⟨rfl, c6⟩

set_option maxHeartbeats 4000000 in
theorem runes_walkA (n : Nat) (w : World) (H F V : ByteArray) (E : Int)
    (q1 : IntKind.i64.wrap (n : Int) = (n : Int))
    (FA : ∀ w : World, Calls Try.prog 13 #[.int .i64 n] w fun e w' => e = .returned (.string F) ∧ Below w.heap.size w w')
    (HA : ∀ w : World, Calls Try.prog 14 #[.int .i64 n, .int .i64 8] w fun e w' => e = .returned (.string H) ∧ Below w.heap.size w w')
    (VA : ∀ w : World, Calls Try.prog 9 #[.string (⟨#[39, 92, 85]⟩ ++ H ++ ⟨#[39]⟩)] w fun e w' => e = .returned (.tuple #[.string F, .int .i64 0]) ∧ Below w.heap.size w w')
    (VB : ∀ w : World, Calls Try.prog 9 #[.string (⟨#[34, 92, 85]⟩ ++ H ++ ⟨#[34]⟩)] w fun e w' => e = .returned (.tuple #[.string F, .int .i64 0]) ∧ Below w.heap.size w w')
    (VC : ∀ w : World, Calls Try.prog 9 #[.string (⟨#[39]⟩ ++ F ++ ⟨#[39]⟩)] w fun e w' => e = .returned (.tuple #[.string V, .int .i64 E]) ∧ Below w.heap.size w w')
    (hne : F.toList.isEmpty = false) (f1 : ¬ 9223372036854775807 < 3 + H.size) (f2 : ¬ 9223372036854775807 < 3 + H.size + 1) (f3 : ¬ 9223372036854775807 < 1 + F.size) (f4 : ¬ 9223372036854775807 < 1 + F.size + 1)
    (hE : E = 4) (h3 : n = 39 ∨ n = 92 ∨ n = 10) :
    Calls Try.prog 6 #[.int .i32 n] w fun e w' => e = .returned (.bool true) ∧ Below w.heap.size w w' := by
  subst hE
  rcases h3 with rfl | rfl | rfl
  all_goals (
    go_enter Try.func6, Try.ntmps6
    go_wp2_with fail
    refine (FA _).mono ?_
    rintro e w1 ⟨rfl, d1⟩
    have c1 := d1
    clear d1
    go_wp2_with fail
    refine (fixed6_any _).mono ?_
    rintro e w2 ⟨rfl, d2⟩
    have c2 := c1.trans (d2.mono c1.size)
    clear c1 d2
    go_wp2_with fail
    refine (HA _).mono ?_
    rintro e w3 ⟨rfl, d3⟩
    have c3 := c2.trans (d3.mono c2.size)
    clear c2 d3
    go_wp2_with fail
    refine (VA _).mono ?_
    rintro e w4 ⟨rfl, d4⟩
    have c4 := c3.trans (d4.mono c3.size)
    clear c3 d4
    go_wp2_with fail
    refine (HA _).mono ?_
    rintro e w5 ⟨rfl, d5⟩
    have c5 := c4.trans (d5.mono c4.size)
    clear c4 d5
    go_wp2_with fail
    refine (VB _).mono ?_
    rintro e w6 ⟨rfl, d6⟩
    have c6 := c5.trans (d6.mono c5.size)
    clear c5 d6
    go_wp2_with fail
    refine (VC _).mono ?_
    rintro e w7 ⟨rfl, d7⟩
    have c7 := c6.trans (d7.mono c6.size)
    clear c6 d7
    go_wp2
    go_ret
    exact ⟨rfl, c7⟩)

set_option maxHeartbeats 4000000 in
theorem runes_walkB (n : Nat) (w : World) (H F V : ByteArray) (E : Int)
    (q1 : IntKind.i64.wrap (n : Int) = (n : Int))
    (FA : ∀ w : World, Calls Try.prog 13 #[.int .i64 n] w fun e w' => e = .returned (.string F) ∧ Below w.heap.size w w')
    (HA : ∀ w : World, Calls Try.prog 14 #[.int .i64 n, .int .i64 8] w fun e w' => e = .returned (.string H) ∧ Below w.heap.size w w')
    (VA : ∀ w : World, Calls Try.prog 9 #[.string (⟨#[39, 92, 85]⟩ ++ H ++ ⟨#[39]⟩)] w fun e w' => e = .returned (.tuple #[.string F, .int .i64 0]) ∧ Below w.heap.size w w')
    (VB : ∀ w : World, Calls Try.prog 9 #[.string (⟨#[34, 92, 85]⟩ ++ H ++ ⟨#[34]⟩)] w fun e w' => e = .returned (.tuple #[.string F, .int .i64 0]) ∧ Below w.heap.size w w')
    (VC : ∀ w : World, Calls Try.prog 9 #[.string (⟨#[39]⟩ ++ F ++ ⟨#[39]⟩)] w fun e w' => e = .returned (.tuple #[.string V, .int .i64 E]) ∧ Below w.heap.size w w')
    (hne : F.toList.isEmpty = false) (f1 : ¬ 9223372036854775807 < 3 + H.size) (f2 : ¬ 9223372036854775807 < 3 + H.size + 1) (f3 : ¬ 9223372036854775807 < 1 + F.size) (f4 : ¬ 9223372036854775807 < 1 + F.size + 1)
    (hE : E = 0) (hV : V = F) (b1 : ¬ (n : Int) < 0) (b2 : ¬ (1114111 : Int) < (n : Int)) (b3 : (0 : Int) ≤ (n : Int) ∧ (n : Int) ≤ 1114111)
    (d1 : ((n : Int) == 39) = false) (d2 : ((n : Int) == 92) = false) (d3 : ((n : Int) == 10) = false) :
    Calls Try.prog 6 #[.int .i32 n] w fun e w' => e = .returned (.bool true) ∧ Below w.heap.size w w' := by
  subst hE
  subst hV
  go_enter Try.func6, Try.ntmps6
  go_wp2_with fail
  refine (FA _).mono ?_
  rintro e w1 ⟨rfl, d1⟩
  have c1 := d1
  clear d1
  go_wp2_with fail
  refine (fixed6_any _).mono ?_
  rintro e w2 ⟨rfl, d2⟩
  have c2 := c1.trans (d2.mono c1.size)
  clear c1 d2
  go_wp2_with fail
  refine (HA _).mono ?_
  rintro e w3 ⟨rfl, d3⟩
  have c3 := c2.trans (d3.mono c2.size)
  clear c2 d3
  go_wp2_with fail
  refine (VA _).mono ?_
  rintro e w4 ⟨rfl, d4⟩
  have c4 := c3.trans (d4.mono c3.size)
  clear c3 d4
  go_wp2_with fail
  refine (HA _).mono ?_
  rintro e w5 ⟨rfl, d5⟩
  have c5 := c4.trans (d5.mono c4.size)
  clear c4 d5
  go_wp2_with fail
  refine (VB _).mono ?_
  rintro e w6 ⟨rfl, d6⟩
  have c6 := c5.trans (d6.mono c5.size)
  clear c5 d6
  go_wp2_with fail
  refine (VC _).mono ?_
  rintro e w7 ⟨rfl, d7⟩
  have c7 := c6.trans (d7.mono c6.size)
  clear c6 d7
  go_wp2
  go_ret
  exact ⟨rfl, c7⟩

theorem in_hlf (n : Nat) : (txt (Qm.fm n)).size ≤ 4 := by rw [txt_size]; exact fm_le n
theorem in_T (T : List UInt8) (h : T.length ≤ 4) : (⟨#[39]⟩ ++ txt T ++ ⟨#[39]⟩ : ByteArray).size ≤ 140737488355300 := by
  rw [← bl_size, bl_1, List.length_cons, List.length_append]
  show T.length + 1 + 1 ≤ _
  omega
theorem in_hs2 (n : Nat) : (⟨#[39]⟩ ++ txt (Qm.fm n) ++ ⟨#[39]⟩ : ByteArray).size ≤ 140737488355300 := in_T _ (fm_le n)
theorem in_hs (n : Nat) : (⟨#[39, 92, 85]⟩ ++ txt (hx8 n 8) ++ ⟨#[39]⟩ : ByteArray).size ≤ 140737488355300 := by rw [← bl_size, bl_39U]; simp [hx8_len]
theorem in_hs' (n : Nat) : (⟨#[34, 92, 85]⟩ ++ txt (hx8 n 8) ++ ⟨#[34]⟩ : ByteArray).size ≤ 140737488355300 := by rw [← bl_size, bl_34U]; simp [hx8_len]
theorem in_FA (n : Nat) (w : World) : Calls Try.prog 13 #[.int .i64 n] w fun e w' => e = .returned (.string (txt (Qm.fm n))) ∧ Below w.heap.size w w' := by
  have FA := rform_any n w
  rw [form_txt] at FA
  exact FA
theorem in_hne (n : Nat) (ho : Um.okN n) : ¬ txt (Qm.fm n) = ⟨#[]⟩ := by
  intro h
  have h2 := congrArg bl h
  rw [txt_bl] at h2
  exact Qm.fm_ne ho h2
theorem in_f1 (n : Nat) : ¬ 9223372036854775807 < 3 + (txt (hx8 n 8)).size ∧ ¬ 9223372036854775807 < 3 + (txt (hx8 n 8)).size + 1 := by
  have hl : (txt (hx8 n 8)).size = 8 := by rw [txt_size, hx8_len]
  rw [hl]; omega
theorem in_f3 (n : Nat) : ¬ 9223372036854775807 < 1 + (txt (Qm.fm n)).size ∧ ¬ 9223372036854775807 < 1 + (txt (Qm.fm n)).size + 1 := by
  have := in_hlf n
  omega
theorem runes_in (n : Nat) (w : World) (ho : Um.okN n) :
    Calls Try.prog 6 #[.int .i32 n] w fun e w' => e = .returned (.bool true) ∧ Below w.heap.size w w' := by
  have hn1 : n ≤ 1114111 := by unfold Um.okN at ho; omega
  have hn2 : n < 4294967296 := by omega
  have q1 : IntKind.i64.wrap (n : Int) = (n : Int) := IntWalk.i64_in _ (by omega)
  have hw := rune_U n hn2
  rw [if_pos ho] at hw
  have hw' := str_U n hn2
  rw [if_pos ho] at hw'
  have hw2 := rune_form n ho
  by_cases h3 : n = 39 ∨ n = 92 ∨ n = 10
  · rw [if_pos h3] at hw2
    exact runes_walkA n w _ _ _ 4 q1 (in_FA n) (fun w => hex_any n w hn2) (fun w => value_of (bl_39U n) hw (in_hs n) w) (fun w => value_of (bl_34U n) hw' (in_hs' n) w) (fun w => value_no (bl_39F n) hw2 (in_hs2 n) w) (ne_list (in_hne n ho)) (in_f1 n).1 (in_f1 n).2 (in_f3 n).1 (in_f3 n).2 rfl h3
  · rw [if_neg h3] at hw2
    exact runes_walkB n w _ _ _ 0 q1 (in_FA n) (fun w => hex_any n w hn2) (fun w => value_of (bl_39U n) hw (in_hs n) w) (fun w => value_of (bl_34U n) hw' (in_hs' n) w) (fun w => value_of (bl_39F n) hw2 (in_hs2 n) w) (ne_list (in_hne n ho)) (in_f1 n).1 (in_f1 n).2 (in_f3 n).1 (in_f3 n).2 rfl rfl
      (by omega) (by omega) (by omega) (beq_eq_false_iff_ne.2 (by omega)) (beq_eq_false_iff_ne.2 (by omega)) (beq_eq_false_iff_ne.2 (by omega))

theorem walk_QuotedRunes (r : Int) (w : World) (w0 : (Lit.int .i32 r).wf = true) :
    Calls Try.prog 6 #[.int .i32 r] w fun e w' => e = .returned (.bool true) ∧ Below w.heap.size w w' := by
  have b := rune_bounds w0
  by_cases h : r < 0 ∨ 1114111 < r
  · exact runes_out r w b h
  · obtain ⟨n, rfl⟩ := Int.eq_ofNat_of_zero_le (show 0 ≤ r by omega)
    by_cases ho : Um.okN n
    · exact runes_in n w ho
    · exact runes_gap n w (by unfold Um.okN at ho; omega)
end Go.Proofs.Ytdpngmhjdafdpab
