/- Contracts of number.plain and number.Kind; strings.CutSuffix of an i. -/
import Derived.Test.YtdpngmhjdafdpaaNuDec
import Derived.Test.YtdpngmhjdafdpaaNuRefE
namespace Go.Proofs.Ytdpngmhjdafdpaa
open Go.RowKit Em
set_option linter.unusedVariables false
set_option linter.unusedSimpArgs false

theorem plain_any (s : ByteArray) (w : World) (hs : s.size ≤ 4611686018427387000) :
    Calls Try.prog 23 #[.string s] w fun e w' => e = .returned (.int .u8 (Nm.plain (bl s) : Nat)) ∧ Below w.heap.size w w' := by
  have HP := fun w => prefix_any s w
  have HD := fun w => decimal_any s w hs
  unfold Nm.plain
  by_cases hp : Nm.pfx (bl s) = 10
  · rw [if_pos hp]
    rw [hp] at HP
    clear hp
    go_enter Try.func23, Try.ntmps23
    go_wp2_with fail
    refine (HP _).mono ?_
    rintro e w' ⟨rfl, rfl⟩
    clear HP
    go_wp2_with fail
    refine (HD _).mono ?_
    rintro e w' ⟨rfl, hb⟩
    go_wp2
    go_ret
    exact ⟨rfl, hb⟩
  · rw [if_neg hp]
    have h2 : (2 : Int) ≤ (s.size : Int) := by
      by_cases h : 2 ≤ s.size
      · omega
      · exact absurd (pfx_short s h) hp
    have hb16 : Nm.pfx (bl s) ≤ 16 := by
      rw [pfx_eq]; repeat' split
      all_goals omega
    have HX := fun w => prefixed_any (s.extract 2 s.size) (Nm.pfx (bl s)) w hb16 (Nat.le_trans (size_from s 2) hs)
    rw [bl_from] at HX
    have d1 : ((Nm.pfx (bl s) : Int) != 10) = true := by simp; omega
    have d2 : ((Nm.pfx (bl s) : Int) == 10) = false := beq_eq_false_iff_ne.2 (by omega)
    clear hp hb16
    generalize Nm.pfx (bl s) = P at HP HX d1 d2 ⊢
    go_enter Try.func23, Try.ntmps23
    go_wp2_with fail
    refine (HP _).mono ?_
    rintro e w' ⟨rfl, rfl⟩
    clear HP
    go_wp2_with fail
    refine (HX _).mono ?_
    rintro e w' ⟨rfl, hb⟩
    go_wp2
    go_ret
    exact ⟨rfl, hb⟩

theorem one_text (s : ByteArray) (m : Nat) (h : s.size = m + 1) : ((s.extract m s.size).toList == [105]) = decide (byN s m = 105) := by
  have e : (s.extract m s.size).toList = bl (s.extract m s.size) := by rw [Lib.extract_toList, ← Lib.extract_data]; rfl
  rw [e, bl_from, bl_drop s m (by omega), bl_over s (m + 1) (by omega), get_eq s m (by omega), Bool.eq_iff_iff, beq_iff_eq, decide_eq_true_eq]
  constructor
  · intro h; exact (byte_is s m 105).1 (List.cons.inj h).1
  · intro h; rw [(byte_is s m 105).2 h]

/-- strings.CutSuffix of an i: none. -/
theorem cut_no (s : ByteArray) (w : World) (hs0 : s.size ≤ 4611686018427387000) (h : (bl s).getLast? ≠ some 105) :
    Calls Try.prog 22 #[.string s, .string ⟨#[105]⟩] w fun e w' => e = .returned (.tuple #[.string s, .bool false]) ∧ w = w' := by
  have hs : ∀ w, Calls Try.prog 56 #[.string s, .string ⟨#[105]⟩] w fun e w' => e = .returned (.bool false) ∧ w = w' := by
    intro w
    by_cases h1 : 1 ≤ s.size
    · have h1' : (1 : Int) ≤ (s.size : Int) := by omega
      obtain ⟨m, hm⟩ : ∃ m, s.size = m + 1 := ⟨s.size - 1, by omega⟩
      have hc : byN s m ≠ 105 := fun e => h ((last_is s m hm).1.2 e)
      have ht := one_text s m hm
      rw [decide_eq_false hc] at ht
      have cl : (s.size : Int) - 1 = (m : Int) := by omega
      have hmx : m ≤ 4611686018427387000 := by omega
      have b0 : (0 : Int) ≤ (m : Int) := by omega
      have b1 : (m : Int) ≤ (s.size : Int) := by omega
      clear hm hc h
      go_enter Try.func56, Try.ntmps56
      go_wp2
      go_ret
      exact ⟨rfl, rfl⟩
    · have h1' : ¬ (1 : Int) ≤ (s.size : Int) := by omega
      clear h
      go_enter Try.func56, Try.ntmps56
      go_wp2
      go_ret
      exact ⟨rfl, rfl⟩
  have hl : ∀ w, Calls Try.prog 35 #[.string s, .string ⟨#[105]⟩] w fun e w' => e = .returned (.tuple #[.string s, .bool false]) ∧ w = w' := by
    intro w
    go_enter Try.func35, Try.ntmps35
    go_wp2_with fail
    refine (hs _).mono ?_
    rintro e w' ⟨rfl, rfl⟩
    go_wp2
    go_ret2
    exact ⟨rfl, rfl⟩
  go_enter Try.func22, Try.ntmps22
  go_wp2_with fail
  refine (hl _).mono ?_
  rintro e w' ⟨rfl, rfl⟩
  go_wp2
  go_ret2
  exact ⟨rfl, rfl⟩

theorem cut_yes (s : ByteArray) (m : Nat) (w : World) (hs0 : s.size ≤ 4611686018427387000) (hm : s.size = m + 1) (h : (bl s).getLast? = some 105) :
    Calls Try.prog 22 #[.string s, .string ⟨#[105]⟩] w fun e w' => e = .returned (.tuple #[.string (s.extract 0 m), .bool true]) ∧ w = w' := by
  have h1' : (1 : Int) ≤ (s.size : Int) := by omega
  have hc : byN s m = 105 := (last_is s m hm).1.1 h
  have ht := one_text s m hm
  rw [decide_eq_true hc] at ht
  have cl : (s.size : Int) - 1 = (m : Int) := by omega
  have hmx : m ≤ 4611686018427387000 := by omega
  have b0 : (0 : Int) ≤ (m : Int) := by omega
  have b1 : (m : Int) ≤ (s.size : Int) := by omega
  clear hm hc h
  have hs : ∀ w, Calls Try.prog 56 #[.string s, .string ⟨#[105]⟩] w fun e w' => e = .returned (.bool true) ∧ w = w' := by
    intro w
    go_enter Try.func56, Try.ntmps56
    go_wp2
    go_ret
    exact ⟨rfl, rfl⟩
  have hl : ∀ w, Calls Try.prog 35 #[.string s, .string ⟨#[105]⟩] w fun e w' => e = .returned (.tuple #[.string (s.extract 0 m), .bool true]) ∧ w = w' := by
    intro w
    go_enter Try.func35, Try.ntmps35
    go_wp2_with fail
    refine (hs _).mono ?_
    rintro e w' ⟨rfl, rfl⟩
    go_wp2
    go_ret2
    exact ⟨rfl, rfl⟩
  go_enter Try.func22, Try.ntmps22
  go_wp2_with fail
  refine (hl _).mono ?_
  rintro e w' ⟨rfl, rfl⟩
  go_wp2
  go_ret2
  exact ⟨rfl, rfl⟩

theorem ret_u8b {a b : Nat} (h : a = b) : Ending.returned (.int .u8 (a : Int)) = .returned (.int .u8 (b : Int)) := by rw [h]

/-- number.Kind -/
theorem kind_any (s : ByteArray) (w : World) (hs : s.size ≤ 4611686018427387000) :
    Calls Try.prog 12 #[.string s] w fun e w' => e = .returned (.int .u8 (Nm.kind (bl s) : Nat)) ∧ Below w.heap.size w w' := by
  by_cases hl : (bl s).getLast? = some 105
  · obtain ⟨m, hm⟩ : ∃ m, s.size = m + 1 := by
      refine ⟨s.size - 1, ?_⟩
      by_cases h : 0 < s.size
      · omega
      · have : bl s = [] := List.eq_nil_of_length_eq_zero (by rw [bl_size]; omega)
        rw [this] at hl; cases hl
    have HC := cut_yes s m w hs hm hl
    have hd := (last_is s m hm).2
    have hk : Nm.kind (bl s) = if Nm.plain ((bl s).take m) ≠ 0 ∨ Nm.whole 10 ((bl s).take m) = true then 5 else 0 := by unfold Nm.kind; rw [if_pos hl, hd]
    have HP := fun w => plain_any (s.extract 0 m) w (Nat.le_trans (size_to s m) hs)
    have HW := fun w => isrow_any (s.extract 0 m) 10 w (by omega) (Nat.le_trans (size_to s m) hs)
    rw [bl_to] at HP HW
    have hpk : Nm.plain ((bl s).take m) < 256 := by have := Nm.plain_kinds ((bl s).take m); omega
    have Hk := Lib.hid hk
    clear hk hd hl hm
    generalize Nm.plain ((bl s).take m) = P at HP Hk hpk
    generalize Nm.whole 10 ((bl s).take m) = V at HW Hk
    by_cases h0 : P = 0
    · subst h0
      cases V with
      | true =>
        go_enter Try.func12, Try.ntmps12
        go_wp2_with fail
        refine HC.mono ?_
        rintro e w' ⟨rfl, rfl⟩
        go_wp2_with fail
        refine (HP _).mono ?_
        rintro e w1 ⟨rfl, b1⟩
        go_wp2_with fail
        refine (HW _).mono ?_
        rintro e w2 ⟨rfl, b2⟩
        go_wp2
        go_ret
        exact ⟨by rw [Hk.out]; rfl, b1.trans (b2.mono b1.size)⟩
      | false =>
        go_enter Try.func12, Try.ntmps12
        go_wp2_with fail
        refine HC.mono ?_
        rintro e w' ⟨rfl, rfl⟩
        go_wp2_with fail
        refine (HP _).mono ?_
        rintro e w1 ⟨rfl, b1⟩
        go_wp2_with fail
        refine (HW _).mono ?_
        rintro e w2 ⟨rfl, b2⟩
        go_wp2
        go_ret
        exact ⟨by rw [Hk.out]; rfl, b1.trans (b2.mono b1.size)⟩
    · have d1 : ((P : Int) != 0) = true := by simp; omega
      have d2 : ((P : Int) == 0) = false := beq_eq_false_iff_ne.2 (by omega)
      have hfin : (5 : Nat) = Nm.kind (bl s) := by rw [Hk.out, if_pos (.inl h0)]
      have Hfin := Lib.hid hfin
      clear hfin Hk h0
      go_enter Try.func12, Try.ntmps12
      go_wp2_with fail
      refine HC.mono ?_
      rintro e w' ⟨rfl, rfl⟩
      go_wp2_with fail
      refine (HP _).mono ?_
      rintro e w1 ⟨rfl, b1⟩
      go_wp2
      go_ret
      exact ⟨ret_u8b Hfin.out, b1⟩
  · have HC := cut_no s w hs hl
    have hk : Nm.plain (bl s) = Nm.kind (bl s) := by unfold Nm.kind; rw [if_neg hl]
    have HP := fun w => plain_any s w hs
    rw [hk] at HP
    clear hk hl
    go_enter Try.func12, Try.ntmps12
    go_wp2_with fail
    refine HC.mono ?_
    rintro e w' ⟨rfl, rfl⟩
    go_wp2_with fail
    refine (HP _).mono ?_
    rintro e w1 ⟨rfl, b1⟩
    go_wp2
    go_ret
    exact ⟨rfl, b1⟩
end Go.Proofs.Ytdpngmhjdafdpaa
