/- Contracts of the reference of numbers: Int, Float, Kind. -/
import Derived.Test.YtnkgbmnjehpkgabGH
import Derived.Test.YtnkgbmnjehpkgabGB
import Derived.Test.YtnkgbmnjehpkgabGG
namespace Go.Proofs.Ytnkgbmnjehpkgab
open Go.RowKit Em
set_option maxRecDepth 100000
set_option linter.unusedVariables false
set_option linter.unusedSimpArgs false

theorem text_is0 (s : ByteArray) : (s.toList == [48]) = decide (bl s = [48]) := by
  have e : s.toList = bl s := by
    have := Lib.extract_toList s 0 s.size
    rw [ByteArray.extract_zero_size] at this
    rw [this]; unfold bl; simp
    exact List.take_of_length_le (by rw [Array.length_toList]; exact Nat.le_refl _)
  rw [e, Bool.eq_iff_iff, beq_iff_eq, decide_eq_true_eq]

def intB (l : List UInt8) : Bool := decide (Nm.plain l = 3)
def floatB (l : List UInt8) : Bool := decide (Nm.plain l = 4)

theorem intB_eq (s : ByteArray) : (decide (bl s = [48]) || (Nm.R 10 (bl s) && !Nm.at1 48 (bl s)) || (Nm.at1 48 (bl s) && Nm.under 8 ((bl s).drop 1)) ||
    (if hdB s 98 66 = true then Nm.under 2 ((bl s).drop 2) else if hdB s 111 79 = true then Nm.under 8 ((bl s).drop 2) else hdB s 120 88 && Nm.under 16 ((bl s).drop 2))) = intB (bl s) := by
  unfold intB
  rw [Bool.eq_iff_iff, decide_eq_true_eq, Nm.int_iff]
  unfold Nm.IntG
  rw [pfx_eq, tail_drop]
  cases h1 : hdB s 98 66 with
  | true => simp [or_assoc]
  | false =>
    cases h2 : hdB s 111 79 with
    | true => simp [or_assoc]
    | false =>
      cases h3 : hdB s 120 88 with
      | true => simp [or_assoc]
      | false => simp [or_assoc]



/-- What the loops of Float ask at a place. -/
noncomputable def hexAt (l : List UInt8) (i : Nat) : Bool := Nm.power 112 80 (l.drop i) && (ptB 16 true (l.take i) || Nm.under 16 (l.take i))
noncomputable def decAt (l : List UInt8) (i : Nat) : Bool := Nm.power 101 69 (l.drop i) && (ptB 10 false (l.take i) || Nm.R 10 (l.take i))
theorem hex_iff (l : List UInt8) : Nm.HexG l ↔ ∃ i, i ≤ l.length ∧ hexAt l i = true := by
  constructor
  · rintro ⟨x, y, rfl, h1, h2⟩
    refine ⟨x.length, by simp, ?_⟩
    unfold hexAt
    rw [List.drop_left, List.take_left, h1, Bool.true_and, Bool.or_eq_true, ptB_iff]; exact h2
  · rintro ⟨i, _, h⟩
    unfold hexAt at h
    rw [Bool.and_eq_true, Bool.or_eq_true, ptB_iff] at h
    exact ⟨l.take i, l.drop i, (List.take_append_drop i l).symm, h.1, h.2⟩
theorem dec_iff (l : List UInt8) : (∃ x y, l = x ++ y ∧ Nm.power 101 69 y = true ∧ (Nm.pointed 10 false x ∨ Nm.R 10 x = true)) ↔ ∃ i, i ≤ l.length ∧ decAt l i = true := by
  constructor
  · rintro ⟨x, y, rfl, h1, h2⟩
    refine ⟨x.length, by simp, ?_⟩
    unfold decAt
    rw [List.drop_left, List.take_left, h1, Bool.true_and, Bool.or_eq_true, ptB_iff]; exact h2
  · rintro ⟨i, _, h⟩
    unfold decAt at h
    rw [Bool.and_eq_true, Bool.or_eq_true, ptB_iff] at h
    exact ⟨l.take i, l.drop i, (List.take_append_drop i l).symm, h.1, h.2⟩

theorem pfx16 (s : ByteArray) : Nm.pfx (bl s) = 16 ↔ hdB s 120 88 = true := by
  rw [pfx_eq]
  have ex : ∀ x y, hdB s x y = true → byN s 1 = x ∨ byN s 1 = y := fun x y h => (of_decide_eq_true h).2.2
  cases h1 : hdB s 98 66 with
  | true =>
    cases h3 : hdB s 120 88 with
    | true => have := ex _ _ h1; have := ex _ _ h3; omega
    | false => simp
  | false =>
    cases h2 : hdB s 111 79 with
    | true =>
      cases h3 : hdB s 120 88 with
      | true => have := ex _ _ h2; have := ex _ _ h3; omega
      | false => simp
    | false => cases h3 : hdB s 120 88 <;> simp

theorem float_hex {s : ByteArray} (h : hdB s 120 88 = true) : floatB (bl s) = true ↔ ∃ i, i ≤ ((bl s).drop 2).length ∧ hexAt ((bl s).drop 2) i = true := by
  have := (pfx16 s).2 h
  unfold floatB
  rw [decide_eq_true_eq, Nm.float_iff, ← hex_iff]
  unfold Nm.FloatG
  simp [this]
theorem float_dec {s : ByteArray} (h : hdB s 120 88 = false) : floatB (bl s) = true ↔ ptB 10 false (bl s) = true ∨ ∃ i, i ≤ (bl s).length ∧ decAt (bl s) i = true := by
  have : Nm.pfx (bl s) ≠ 16 := fun e => by rw [(pfx16 s).1 e] at h; cases h
  unfold floatB
  rw [decide_eq_true_eq, Nm.float_iff, ptB_iff, ← dec_iff]
  unfold Nm.FloatG Nm.DecG
  simp [this]
end Go.Proofs.Ytnkgbmnjehpkgab

/- Contracts of the reference of numbers: Float, Kind. -/
namespace Go.Proofs.Ytnkgbmnjehpkgab
open Go.RowKit Em
set_option maxRecDepth 100000
set_option linter.unusedVariables false
set_option linter.unusedSimpArgs false



theorem last_is (s : ByteArray) (m : Nat) (h : s.size = m + 1) : ((bl s).getLast? = some 105 ↔ byN s m = 105) ∧ (bl s).dropLast = (bl s).take m := by
  refine ⟨?_, ?_⟩
  · rw [List.getLast?_eq_getElem?, bl_size, h, Nat.add_sub_cancel, bl_get s m (by omega), ← byN_get s m (by omega)]
    exact ⟨fun e => by rw [Option.some.inj e]; rfl, fun e => by rw [UInt8.toNat_inj.1 (show _ = (105 : UInt8).toNat from e)]⟩
  · rw [List.dropLast_eq_take, bl_size, h, Nat.add_sub_cancel]

end Go.Proofs.Ytnkgbmnjehpkgab

/- Contracts of number.plain and number.Kind; strings.CutSuffix of an i. -/
namespace Go.Proofs.Ytnkgbmnjehpkgab
open Go.RowKit Em
set_option maxRecDepth 100000
set_option linter.unusedVariables false
set_option linter.unusedSimpArgs false

theorem plain_any (s : ByteArray) (w : World) (hs : s.size ≤ 4611686018427387000) :
    Calls Try.prog 67 #[.string s] w fun e w' => e = .returned (.int .u8 (Nm.plain (bl s) : Nat)) ∧ Below w.heap.size w w' := by
  have HP := fun w => nprefix_any s w
  have HD := fun w => decimal_any s w hs
  unfold Nm.plain
  by_cases hp : Nm.pfx (bl s) = 10
  · rw [if_pos hp]
    rw [hp] at HP
    clear hp
    go_enter Try.func67, Try.ntmps67
    go_wp2_with fail
    refine (HP _).mono ?_
    rintro e w' ⟨rfl, rfl⟩
    clear HP
    go_wp2_with fail
    refine (HD _).mono ?_
    rintro e w' ⟨rfl, hb⟩
    go_wp2
    go_ret
    exact ⟨rfl, hb⟩
  · rw [if_neg hp]
    have h2 : (2 : Int) ≤ (s.size : Int) := by
      by_cases h : 2 ≤ s.size
      · omega
      · exact absurd (pfx_short s h) hp
    have hb16 : Nm.pfx (bl s) ≤ 16 := by
      rw [pfx_eq]; repeat' split
      all_goals omega
    have HX := fun w => prefixed_any (s.extract 2 s.size) (Nm.pfx (bl s)) w hb16 (Nat.le_trans (size_from s 2) hs)
    rw [bl_from] at HX
    have d1 : ((Nm.pfx (bl s) : Int) != 10) = true := by simp; omega
    have d2 : ((Nm.pfx (bl s) : Int) == 10) = false := beq_eq_false_iff_ne.2 (by omega)
    clear hp hb16
    generalize Nm.pfx (bl s) = P at HP HX d1 d2 ⊢
    go_enter Try.func67, Try.ntmps67
    go_wp2_with fail
    refine (HP _).mono ?_
    rintro e w' ⟨rfl, rfl⟩
    clear HP
    go_wp2_with fail
    refine (HX _).mono ?_
    rintro e w' ⟨rfl, hb⟩
    go_wp2
    go_ret
    exact ⟨rfl, hb⟩

theorem one_text (s : ByteArray) (m : Nat) (h : s.size = m + 1) : ((s.extract m s.size).toList == [105]) = decide (byN s m = 105) := by
  have e : (s.extract m s.size).toList = bl (s.extract m s.size) := by rw [Lib.extract_toList, ← Lib.extract_data]; rfl
  rw [e, bl_from, bl_drop s m (by omega), bl_over s (m + 1) (by omega), get_eq s m (by omega), Bool.eq_iff_iff, beq_iff_eq, decide_eq_true_eq]
  constructor
  · intro h; exact (byte_is s m 105).1 (List.cons.inj h).1
  · intro h; rw [(byte_is s m 105).2 h]

/-- strings.CutSuffix of an i: none. -/
theorem cut_no (s : ByteArray) (w : World) (hs0 : s.size ≤ 4611686018427387000) (h : (bl s).getLast? ≠ some 105) :
    Calls Try.prog 66 #[.string s, .string ⟨#[105]⟩] w fun e w' => e = .returned (.tuple #[.string s, .bool false]) ∧ w = w' := by
  have hs : ∀ w, Calls Try.prog 78 #[.string s, .string ⟨#[105]⟩] w fun e w' => e = .returned (.bool false) ∧ w = w' := by
    intro w
    by_cases h1 : 1 ≤ s.size
    · have h1' : (1 : Int) ≤ (s.size : Int) := by omega
      obtain ⟨m, hm⟩ : ∃ m, s.size = m + 1 := ⟨s.size - 1, by omega⟩
      have hc : byN s m ≠ 105 := fun e => h ((last_is s m hm).1.2 e)
      have ht := one_text s m hm
      rw [decide_eq_false hc] at ht
      have cl : (s.size : Int) - 1 = (m : Int) := by omega
      have hmx : m ≤ 4611686018427387000 := by omega
      have b0 : (0 : Int) ≤ (m : Int) := by omega
      have b1 : (m : Int) ≤ (s.size : Int) := by omega
      clear hm hc h
      go_enter Try.func78, Try.ntmps78
      go_wp2
      go_ret
      exact ⟨rfl, rfl⟩
    · have h1' : ¬ (1 : Int) ≤ (s.size : Int) := by omega
      clear h
      go_enter Try.func78, Try.ntmps78
      go_wp2
      go_ret
      exact ⟨rfl, rfl⟩
  have hl : ∀ w, Calls Try.prog 72 #[.string s, .string ⟨#[105]⟩] w fun e w' => e = .returned (.tuple #[.string s, .bool false]) ∧ w = w' := by
    intro w
    go_enter Try.func72, Try.ntmps72
    go_wp2_with fail
    refine (hs _).mono ?_
    rintro e w' ⟨rfl, rfl⟩
    go_wp2
    go_ret2
    exact ⟨rfl, rfl⟩
  go_enter Try.func66, Try.ntmps66
  go_wp2_with fail
  refine (hl _).mono ?_
  rintro e w' ⟨rfl, rfl⟩
  go_wp2
  go_ret2
  exact ⟨rfl, rfl⟩

theorem cut_yes (s : ByteArray) (m : Nat) (w : World) (hs0 : s.size ≤ 4611686018427387000) (hm : s.size = m + 1) (h : (bl s).getLast? = some 105) :
    Calls Try.prog 66 #[.string s, .string ⟨#[105]⟩] w fun e w' => e = .returned (.tuple #[.string (s.extract 0 m), .bool true]) ∧ w = w' := by
  have h1' : (1 : Int) ≤ (s.size : Int) := by omega
  have hc : byN s m = 105 := (last_is s m hm).1.1 h
  have ht := one_text s m hm
  rw [decide_eq_true hc] at ht
  have cl : (s.size : Int) - 1 = (m : Int) := by omega
  have hmx : m ≤ 4611686018427387000 := by omega
  have b0 : (0 : Int) ≤ (m : Int) := by omega
  have b1 : (m : Int) ≤ (s.size : Int) := by omega
  clear hm hc h
  have hs : ∀ w, Calls Try.prog 78 #[.string s, .string ⟨#[105]⟩] w fun e w' => e = .returned (.bool true) ∧ w = w' := by
    intro w
    go_enter Try.func78, Try.ntmps78
    go_wp2
    go_ret
    exact ⟨rfl, rfl⟩
  have hl : ∀ w, Calls Try.prog 72 #[.string s, .string ⟨#[105]⟩] w fun e w' => e = .returned (.tuple #[.string (s.extract 0 m), .bool true]) ∧ w = w' := by
    intro w
    go_enter Try.func72, Try.ntmps72
    go_wp2_with fail
    refine (hs _).mono ?_
    rintro e w' ⟨rfl, rfl⟩
    go_wp2
    go_ret2
    exact ⟨rfl, rfl⟩
  go_enter Try.func66, Try.ntmps66
  go_wp2_with fail
  refine (hl _).mono ?_
  rintro e w' ⟨rfl, rfl⟩
  go_wp2
  go_ret2
  exact ⟨rfl, rfl⟩

theorem ret_u8b {a b : Nat} (h : a = b) : Ending.returned (.int .u8 (a : Int)) = .returned (.int .u8 (b : Int)) := by rw [h]

/-- number.Kind -/
theorem kind_any (s : ByteArray) (w : World) (hs : s.size ≤ 4611686018427387000) :
    Calls Try.prog 53 #[.string s] w fun e w' => e = .returned (.int .u8 (Nm.kind (bl s) : Nat)) ∧ Below w.heap.size w w' := by
  by_cases hl : (bl s).getLast? = some 105
  · obtain ⟨m, hm⟩ : ∃ m, s.size = m + 1 := by
      refine ⟨s.size - 1, ?_⟩
      by_cases h : 0 < s.size
      · omega
      · have : bl s = [] := List.eq_nil_of_length_eq_zero (by rw [bl_size]; omega)
        rw [this] at hl; cases hl
    have HC := cut_yes s m w hs hm hl
    have hd := (last_is s m hm).2
    have hk : Nm.kind (bl s) = if Nm.plain ((bl s).take m) ≠ 0 ∨ Nm.whole 10 ((bl s).take m) = true then 5 else 0 := by unfold Nm.kind; rw [if_pos hl, hd]
    have HP := fun w => plain_any (s.extract 0 m) w (Nat.le_trans (size_to s m) hs)
    have HW := fun w => isrow_any (s.extract 0 m) 10 w (by omega) (Nat.le_trans (size_to s m) hs)
    rw [bl_to] at HP HW
    have hpk : Nm.plain ((bl s).take m) < 256 := by have := Nm.plain_kinds ((bl s).take m); omega
    have Hk := Lib.hid hk
    clear hk hd hl hm
    generalize Nm.plain ((bl s).take m) = P at HP Hk hpk
    generalize Nm.whole 10 ((bl s).take m) = V at HW Hk
    by_cases h0 : P = 0
    · subst h0
      cases V with
      | true =>
        go_enter Try.func53, Try.ntmps53
        go_wp2_with fail
        refine HC.mono ?_
        rintro e w' ⟨rfl, rfl⟩
        go_wp2_with fail
        refine (HP _).mono ?_
        rintro e w1 ⟨rfl, b1⟩
        go_wp2_with fail
        refine (HW _).mono ?_
        rintro e w2 ⟨rfl, b2⟩
        go_wp2
        go_ret
        exact ⟨by rw [Hk.out]; rfl, b1.trans (b2.mono b1.size)⟩
      | false =>
        go_enter Try.func53, Try.ntmps53
        go_wp2_with fail
        refine HC.mono ?_
        rintro e w' ⟨rfl, rfl⟩
        go_wp2_with fail
        refine (HP _).mono ?_
        rintro e w1 ⟨rfl, b1⟩
        go_wp2_with fail
        refine (HW _).mono ?_
        rintro e w2 ⟨rfl, b2⟩
        go_wp2
        go_ret
        exact ⟨by rw [Hk.out]; rfl, b1.trans (b2.mono b1.size)⟩
    · have d1 : ((P : Int) != 0) = true := by simp; omega
      have d2 : ((P : Int) == 0) = false := beq_eq_false_iff_ne.2 (by omega)
      have hfin : (5 : Nat) = Nm.kind (bl s) := by rw [Hk.out, if_pos (.inl h0)]
      have Hfin := Lib.hid hfin
      clear hfin Hk h0
      go_enter Try.func53, Try.ntmps53
      go_wp2_with fail
      refine HC.mono ?_
      rintro e w' ⟨rfl, rfl⟩
      go_wp2_with fail
      refine (HP _).mono ?_
      rintro e w1 ⟨rfl, b1⟩
      go_wp2
      go_ret
      exact ⟨ret_u8b Hfin.out, b1⟩
  · have HC := cut_no s w hs hl
    have hk : Nm.plain (bl s) = Nm.kind (bl s) := by unfold Nm.kind; rw [if_neg hl]
    have HP := fun w => plain_any s w hs
    rw [hk] at HP
    clear hk hl
    go_enter Try.func53, Try.ntmps53
    go_wp2_with fail
    refine HC.mono ?_
    rintro e w' ⟨rfl, rfl⟩
    go_wp2_with fail
    refine (HP _).mono ?_
    rintro e w1 ⟨rfl, b1⟩
    go_wp2
    go_ret
    exact ⟨rfl, b1⟩
end Go.Proofs.Ytnkgbmnjehpkgab

