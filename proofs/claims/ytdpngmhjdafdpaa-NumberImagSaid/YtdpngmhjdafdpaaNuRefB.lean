/- Contracts of the reference of numbers: under, headed, Power. And of number.prefix. -/
import Derived.Test.YtdpngmhjdafdpaaNuRow
namespace Go.Proofs.Ytdpngmhjdafdpaa
open Go.RowKit Em
set_option linter.unusedVariables false
set_option linter.unusedSimpArgs false

theorem bl_from (s : ByteArray) (a : Nat) : bl (s.extract a s.size) = (bl s).drop a := by
  rw [bl_extract, List.take_of_length_le (by rw [bl_size]; omega)]
theorem bl_to (s : ByteArray) (a : Nat) : bl (s.extract 0 a) = (bl s).take a := by rw [bl_extract, List.drop_zero]
theorem size_from (s : ByteArray) (a : Nat) : (s.extract a s.size).size ≤ s.size := by rw [← bl_size, bl_from, ← bl_size]; simp
theorem size_to (s : ByteArray) (a : Nat) : (s.extract 0 a).size ≤ s.size := by rw [← bl_size, bl_to, ← bl_size]; simp; omega

theorem rrow_from (s : ByteArray) (a b : Nat) (w : World) (hb : b ≤ 16) (hs : s.size ≤ 4611686018427387000) :
    Calls Try.prog 27 #[.string (s.extract a s.size), .int .i64 b] w fun e w' => e = .returned (.bool (Nm.R b ((bl s).drop a))) ∧ w = w' := by
  have := rrow_any (s.extract a s.size) b w hb (Nat.le_trans (size_from s a) hs)
  rw [bl_from] at this; exact this
theorem rrow_to (s : ByteArray) (a b : Nat) (w : World) (hb : b ≤ 16) (hs : s.size ≤ 4611686018427387000) :
    Calls Try.prog 27 #[.string (s.extract 0 a), .int .i64 b] w fun e w' => e = .returned (.bool (Nm.R b ((bl s).take a))) ∧ w = w' := by
  have := rrow_any (s.extract 0 a) b w hb (Nat.le_trans (size_to s a) hs)
  rw [bl_to] at this; exact this

theorem at1_zero (s : ByteArray) (h : 0 < s.size) (c : UInt8) : Nm.at1 c (bl s) = decide (byN s 0 = c.toNat) := by
  have := at1_at s 0 h c
  rw [List.drop_zero] at this
  rw [this]
  exact decide_eq_decide.2 (by omega)
theorem at1_none (s : ByteArray) (h : ¬ 0 < s.size) (c : UInt8) : Nm.at1 c (bl s) = false := by
  have := bl_over s 0 h
  rw [List.drop_zero] at this
  rw [this]; rfl
theorem tail_drop (l : List UInt8) : l.tail = l.drop 1 := (List.drop_one).symm

set_option maxHeartbeats 1000000 in
theorem under_any (s : ByteArray) (b : Nat) (w : World) (hb : b ≤ 16) (hs : s.size ≤ 4611686018427387000) :
    Calls Try.prog 40 #[.string s, .int .i64 b] w fun e w' => e = .returned (.bool (Nm.under b (bl s))) ∧ w = w' := by
  have HR := fun w => rrow_any s b w hb hs
  have HT := fun w => rrow_from s 1 b w hb hs
  unfold Nm.under
  rw [tail_drop]
  cases hR : Nm.R b (bl s) with
  | true =>
    rw [hR] at HR
    clear hR HT
    go_enter Try.func40, Try.ntmps40
    go_wp2_with fail
    refine (HR _).mono ?_
    rintro e w' ⟨rfl, rfl⟩
    go_wp2
    go_ret
    exact ⟨rfl, rfl⟩
  | false =>
    rw [hR] at HR
    clear hR
    by_cases h1 : 1 < s.size
    · have h1' : (1 : Int) < (s.size : Int) := by omega
      have h0 : 0 < s.size := by omega
      have h0' : (0 : Int) < (s.size : Int) := by omega
      have h2' : (1 : Int) ≤ (s.size : Int) := by omega
      have e0 := byN_get s 0 h0
      have l0 := byN_lt s 0
      rw [at1_zero s h0]
      by_cases hc : byN s 0 = 95
      · rw [decide_eq_true (show byN s 0 = (95 : UInt8).toNat from hc)]
        rw [hc] at e0
        clear hc l0
        generalize Nm.R b ((bl s).drop 1) = V at HT
        go_enter Try.func40, Try.ntmps40
        go_wp2_with fail
        refine (HR _).mono ?_
        rintro e w' ⟨rfl, rfl⟩
        clear HR
        go_wp2_with fail
        refine (HT _).mono ?_
        rintro e w' ⟨rfl, rfl⟩
        clear HT
        go_wp2
        go_ret
        exact ⟨rfl, rfl⟩
      · rw [decide_eq_false (show ¬ byN s 0 = (95 : UInt8).toNat from hc)]
        have d1 : ((byN s 0 : Int) == 95) = false := beq_eq_false_iff_ne.2 (by omega)
        clear hc HT
        generalize byN s 0 = B at e0 l0 d1
        go_enter Try.func40, Try.ntmps40
        go_wp2_with fail
        refine (HR _).mono ?_
        rintro e w' ⟨rfl, rfl⟩
        clear HR
        go_wp2
        go_ret
        exact ⟨rfl, rfl⟩
    · have h1' : ¬ (1 : Int) < (s.size : Int) := by omega
      have hv : (Nm.at1 95 (bl s) && Nm.R b ((bl s).drop 1)) = false := by rw [bl_over s 1 h1]; simp [Nm.R]
      rw [hv]
      clear hv HT
      go_enter Try.func40, Try.ntmps40
      go_wp2_with fail
      refine (HR _).mono ?_
      rintro e w' ⟨rfl, rfl⟩
      clear HR
      go_wp2
      go_ret
      exact ⟨rfl, rfl⟩

/-- Does a text begin with 0 and one of two letters? -/
def hdB (s : ByteArray) (x y : Nat) : Bool := decide (2 ≤ s.size ∧ byN s 0 = 48 ∧ (byN s 1 = x ∨ byN s 1 = y))

theorem headed_any (s : ByteArray) (x y : Nat) (w : World) (hx : x < 256) (hy : y < 256) :
    Calls Try.prog 41 #[.string s, .int .u8 x, .int .u8 y] w fun e w' => e = .returned (.bool (hdB s x y)) ∧ w = w' := by
  unfold hdB
  by_cases h2 : 2 ≤ s.size
  · have h2' : (2 : Int) ≤ (s.size : Int) := by omega
    have h0 : 0 < s.size := by omega
    have h1 : 1 < s.size := by omega
    have h0' : (0 : Int) < (s.size : Int) := by omega
    have h1' : (1 : Int) < (s.size : Int) := by omega
    have e0 := byN_get s 0 h0
    have l0 := byN_lt s 0
    have e1 := byN_get s 1 h1
    have l1 := byN_lt s 1
    generalize byN s 0 = B at e0 l0 ⊢
    generalize byN s 1 = C at e1 l1 ⊢
    by_cases hB : B = 48
    · subst hB
      by_cases hx2 : C = x
      · subst hx2
        rw [decide_eq_true ⟨h2, rfl, .inl rfl⟩]
        have d1 : ((C : Int) == (C : Int)) = true := by simp
        go_enter Try.func41, Try.ntmps41
        go_wp2
        go_ret
        exact ⟨rfl, rfl⟩
      · have d1 : ((C : Int) == (x : Int)) = false := beq_eq_false_iff_ne.2 (by omega)
        by_cases hy2 : C = y
        · rw [decide_eq_true ⟨h2, rfl, .inr hy2⟩]
          have d2 : ((C : Int) == (y : Int)) = true := by simp [hy2]
          go_enter Try.func41, Try.ntmps41
          go_wp2
          go_ret
          exact ⟨ret_bool (by simp_all), rfl⟩
        · rw [decide_eq_false (fun h => h.2.2.elim hx2 hy2)]
          have d2 : ((C : Int) == (y : Int)) = false := beq_eq_false_iff_ne.2 (by omega)
          go_enter Try.func41, Try.ntmps41
          go_wp2
          go_ret
          exact ⟨ret_bool (by simp_all), rfl⟩
    · rw [decide_eq_false (fun h => hB h.2.1)]
      have d1 : ((B : Int) == 48) = false := beq_eq_false_iff_ne.2 (by omega)
      go_enter Try.func41, Try.ntmps41
      go_wp2
      go_ret
      exact ⟨rfl, rfl⟩
  · rw [decide_eq_false (fun h => h2 h.1)]
    have h2' : ¬ (2 : Int) ≤ (s.size : Int) := by omega
    go_enter Try.func41, Try.ntmps41
    go_wp2
    go_ret
    exact ⟨rfl, rfl⟩

theorem bl_two (s : ByteArray) (h : 2 ≤ s.size) : bl s = s.get! 0 :: s.get! 1 :: (bl s).drop 2 := by
  have h0 := bl_drop s 0 (by omega)
  have h1 := bl_drop s 1 (by omega)
  rw [List.drop_zero, get_eq s 0 (by omega)] at h0
  rw [get_eq s 1 (by omega)] at h1
  exact h0.trans (congrArg _ h1)

theorem pfx_short (s : ByteArray) (h : ¬ 2 ≤ s.size) : Nm.pfx (bl s) = 10 := by
  have hl : (bl s).length ≤ 1 := by rw [bl_size]; omega
  match hb : bl s, hl with
  | [], _ => rfl
  | [c], _ => rfl

theorem byte_is (s : ByteArray) (k : Nat) (c : UInt8) : s.get! k = c ↔ byN s k = c.toNat := by
  unfold byN; exact ⟨fun h => by rw [h], fun h => UInt8.toNat_inj.1 h⟩

theorem pfx_eq (s : ByteArray) : Nm.pfx (bl s) = if hdB s 98 66 = true then 2 else if hdB s 111 79 = true then 8 else if hdB s 120 88 = true then 16 else 10 := by
  by_cases h2 : 2 ≤ s.size
  · have e := bl_two s h2
    rw [e]
    simp only [Nm.pfx, byte_is, hdB, decide_eq_true_eq]
    show (if byN s 0 = 48 then if byN s 1 = 98 ∨ byN s 1 = 66 then 2 else if byN s 1 = 111 ∨ byN s 1 = 79 then 8 else if byN s 1 = 120 ∨ byN s 1 = 88 then 16 else 10 else 10) = _
    by_cases hB : byN s 0 = 48
    · simp [hB, h2]
    · simp [hB]
  · rw [pfx_short s h2]
    simp [hdB, h2]

set_option maxHeartbeats 1000000 in
theorem prefix_any (s : ByteArray) (w : World) :
    Calls Try.prog 36 #[.string s] w fun e w' => e = .returned (.int .i64 (Nm.pfx (bl s) : Nat)) ∧ w = w' := by
  by_cases h2 : 2 ≤ s.size
  · have h2' : ¬ (s.size : Int) < 2 := by omega
    have h0 : 0 < s.size := by omega
    have h1 : 1 < s.size := by omega
    have h0' : (0 : Int) < (s.size : Int) := by omega
    have h1' : (1 : Int) < (s.size : Int) := by omega
    have e0 := byN_get s 0 h0
    have l0 := byN_lt s 0
    have e1 := byN_get s 1 h1
    have l1 := byN_lt s 1
    rw [pfx_eq s]
    unfold hdB
    generalize byN s 0 = B at e0 l0 ⊢
    generalize byN s 1 = C at e1 l1 ⊢
    by_cases hB : B = 48
    · subst hB
      have D : ∀ n : Nat, C ≠ n → ((C : Int) == (n : Int)) = false := fun n h => beq_eq_false_iff_ne.2 (by omega)
      by_cases c1 : C = 98
      · subst c1; rw [if_pos (by simp [h2])]
        go_enter Try.func36, Try.ntmps36
        go_wp2
        go_ret
        exact ⟨rfl, rfl⟩
      · by_cases c2 : C = 66
        · subst c2; rw [if_pos (by simp [h2])]
          go_enter Try.func36, Try.ntmps36
          go_wp2
          go_ret
          exact ⟨rfl, rfl⟩
        · rw [if_neg (by simp [h2, c1, c2])]
          by_cases c3 : C = 111
          · subst c3; rw [if_pos (by simp [h2])]
            go_enter Try.func36, Try.ntmps36
            go_wp2
            go_ret
            exact ⟨rfl, rfl⟩
          · by_cases c4 : C = 79
            · subst c4; rw [if_pos (by simp [h2])]
              go_enter Try.func36, Try.ntmps36
              go_wp2
              go_ret
              exact ⟨rfl, rfl⟩
            · rw [if_neg (by simp [h2, c3, c4])]
              by_cases c5 : C = 120
              · subst c5; rw [if_pos (by simp [h2])]
                go_enter Try.func36, Try.ntmps36
                go_wp2
                go_ret
                exact ⟨rfl, rfl⟩
              · by_cases c6 : C = 88
                · subst c6; rw [if_pos (by simp [h2])]
                  go_enter Try.func36, Try.ntmps36
                  go_wp2
                  go_ret
                  exact ⟨rfl, rfl⟩
                · rw [if_neg (by simp [h2, c5, c6])]
                  have d1 : ((C : Int) == 98) = false := D 98 c1
                  have d2 : ((C : Int) == 66) = false := D 66 c2
                  have d3 : ((C : Int) == 111) = false := D 111 c3
                  have d4 : ((C : Int) == 79) = false := D 79 c4
                  have d5 : ((C : Int) == 120) = false := D 120 c5
                  have d6 : ((C : Int) == 88) = false := D 88 c6
                  clear D
                  go_enter Try.func36, Try.ntmps36
                  go_wp2
                  go_ret
                  exact ⟨rfl, rfl⟩
    · have d1 : ((B : Int) != 48) = true := by simp; omega
      have d2 : ((B : Int) == 48) = false := beq_eq_false_iff_ne.2 (by omega)
      simp only [hB, false_and, and_false, decide_false, Bool.false_eq_true, if_false]
      go_enter Try.func36, Try.ntmps36
      go_wp2
      go_ret
      exact ⟨rfl, rfl⟩
  · rw [pfx_short s h2]
    have h2' : (s.size : Int) < 2 := by omega
    go_enter Try.func36, Try.ntmps36
    go_wp2
    go_ret
    exact ⟨rfl, rfl⟩

theorem at2_zero (s : ByteArray) (h : 0 < s.size) (c d : UInt8) : Nm.at2 c d (bl s) = decide (byN s 0 = c.toNat ∨ byN s 0 = d.toNat) := by
  have h0 := bl_drop s 0 h
  rw [List.drop_zero] at h0
  rw [h0, get_eq s 0 h]
  unfold Nm.at2
  exact decide_eq_decide.2 (by rw [byte_is, byte_is])

theorem power_spell (s : ByteArray) (h : 2 ≤ s.size) (c d : UInt8) : Nm.power c d (bl s) = (decide (byN s 0 = c.toNat ∨ byN s 0 = d.toNat) && if byN s 1 = 43 ∨ byN s 1 = 45 then Nm.R 10 ((bl s).drop 2) else Nm.R 10 ((bl s).drop 1)) := by
  unfold Nm.power
  rw [at2_zero s (by omega), Nm.expo_eq, tail_drop]
  congr 1
  have e := bl_drop s 1 (by omega)
  rw [e, get_eq s 1 (by omega), Nm.sg]
  simp only [byte_is]
  show Nm.R 10 (if byN s 1 = 43 ∨ byN s 1 = 45 then _ else _) = _
  split <;> rfl

set_option maxHeartbeats 2000000 in
theorem power_any (s : ByteArray) (c d : UInt8) (w : World) (hs : s.size ≤ 4611686018427387000) :
    Calls Try.prog 42 #[.string s, .int .u8 c.toNat, .int .u8 d.toNat] w fun e w' => e = .returned (.bool (Nm.power c d (bl s))) ∧ w = w' := by
  by_cases h2 : 2 ≤ s.size
  · have h2' : ¬ (s.size : Int) < 2 := by omega
    have h2'' : (2 : Int) ≤ (s.size : Int) := by omega
    have h0 : 0 < s.size := by omega
    have h1 : 1 < s.size := by omega
    have h0' : (0 : Int) < (s.size : Int) := by omega
    have h1' : (1 : Int) < (s.size : Int) := by omega
    have h1'' : (1 : Int) ≤ (s.size : Int) := by omega
    have e0 := byN_get s 0 h0
    have l0 := byN_lt s 0
    have e1 := byN_get s 1 h1
    have l1 := byN_lt s 1
    have H1 := fun w => rrow_from s 1 10 w (by omega) hs
    have H2 := fun w => rrow_from s 2 10 w (by omega) hs
    rw [power_spell s h2]
    generalize byN s 0 = B at e0 l0 ⊢
    generalize byN s 1 = C at e1 l1 ⊢
    generalize Nm.R 10 ((bl s).drop 1) = V1 at H1 ⊢
    generalize Nm.R 10 ((bl s).drop 2) = V2 at H2 ⊢
    have lc := c.toNat_lt
    have ld := d.toNat_lt
    generalize c.toNat = x at lc ⊢
    generalize d.toNat = y at ld ⊢
    have two : ∀ (f1 : ((B : Int) != (x : Int)) = true) (f2 : ((B : Int) != (y : Int)) = true), Calls Try.prog 42 #[.string s, .int .u8 x, .int .u8 y] w fun e w' => e = .returned (.bool false) ∧ w = w' := by
      intro f1 f2
      have f3 : ((B : Int) == (x : Int)) = false := by simpa [bne] using f1
      have f4 : ((B : Int) == (y : Int)) = false := by simpa [bne] using f2
      go_enter Try.func42, Try.ntmps42
      go_wp2
      go_ret
      exact ⟨rfl, rfl⟩
    have one : ∀ (g : ((B : Int) != (x : Int)) = false ∨ (((B : Int) != (x : Int)) = true ∧ ((B : Int) != (y : Int)) = false)), Calls Try.prog 42 #[.string s, .int .u8 x, .int .u8 y] w fun e w' => e = .returned (.bool (if C = 43 ∨ C = 45 then V2 else V1)) ∧ w = w' := by
      intro g
      have G : ∀ (f1 : ((C : Int) == 43) = true ∨ (((C : Int) == 43) = false ∧ ((C : Int) == 45) = true)), Calls Try.prog 42 #[.string s, .int .u8 x, .int .u8 y] w fun e w' => e = .returned (.bool V2) ∧ w = w' := by
        intro f1
        rcases g with g1 | ⟨g1, g2⟩
        · have g3 : ((B : Int) == (x : Int)) = true := by simpa [bne] using g1
          rcases f1 with f1 | ⟨f1, f2⟩
          · go_enter Try.func42, Try.ntmps42
            go_wp2_with fail
            refine (H2 _).mono ?_
            rintro e w' ⟨rfl, rfl⟩
            go_wp2
            go_ret
            exact ⟨rfl, rfl⟩
          · go_enter Try.func42, Try.ntmps42
            go_wp2_with fail
            refine (H2 _).mono ?_
            rintro e w' ⟨rfl, rfl⟩
            go_wp2
            go_ret
            exact ⟨rfl, rfl⟩
        · have g3 : ((B : Int) == (x : Int)) = false := by simpa [bne] using g1
          have g4 : ((B : Int) == (y : Int)) = true := by simpa [bne] using g2
          rcases f1 with f1 | ⟨f1, f2⟩
          · go_enter Try.func42, Try.ntmps42
            go_wp2_with fail
            refine (H2 _).mono ?_
            rintro e w' ⟨rfl, rfl⟩
            go_wp2
            go_ret
            exact ⟨rfl, rfl⟩
          · go_enter Try.func42, Try.ntmps42
            go_wp2_with fail
            refine (H2 _).mono ?_
            rintro e w' ⟨rfl, rfl⟩
            go_wp2
            go_ret
            exact ⟨rfl, rfl⟩
      by_cases c1 : C = 43
      · rw [if_pos (.inl c1)]; exact G (.inl (by simp [c1]))
      · by_cases c2 : C = 45
        · rw [if_pos (.inr c2)]; exact G (.inr ⟨beq_eq_false_iff_ne.2 (by omega), by simp [c2]⟩)
        · rw [if_neg (fun h => h.elim c1 c2)]
          have f1 : ((C : Int) == 43) = false := beq_eq_false_iff_ne.2 (by omega)
          have f2 : ((C : Int) == 45) = false := beq_eq_false_iff_ne.2 (by omega)
          clear c1 c2 G two
          rcases g with g1 | ⟨g1, g2⟩
          · have g3 : ((B : Int) == (x : Int)) = true := by simpa [bne] using g1
            go_enter Try.func42, Try.ntmps42
            go_wp2_with fail
            refine (H1 _).mono ?_
            rintro e w' ⟨rfl, rfl⟩
            go_wp2
            go_ret
            exact ⟨rfl, rfl⟩
          · have g3 : ((B : Int) == (x : Int)) = false := by simpa [bne] using g1
            have g4 : ((B : Int) == (y : Int)) = true := by simpa [bne] using g2
            go_enter Try.func42, Try.ntmps42
            go_wp2_with fail
            refine (H1 _).mono ?_
            rintro e w' ⟨rfl, rfl⟩
            go_wp2
            go_ret
            exact ⟨rfl, rfl⟩
    by_cases b1 : B = x
    · rw [decide_eq_true (.inl b1), Bool.true_and]
      exact one (.inl (by simp [b1]))
    · by_cases b2 : B = y
      · rw [decide_eq_true (.inr b2), Bool.true_and]
        exact one (.inr ⟨by simp; omega, by simp [b2]⟩)
      · rw [decide_eq_false (fun h => h.elim b1 b2), Bool.false_and]
        exact two (by simp; omega) (by simp; omega)
  · have h2' : (s.size : Int) < 2 := by omega
    have hv : Nm.power c d (bl s) = false := by
      unfold Nm.power
      have hl : (bl s).length ≤ 1 := by rw [bl_size]; omega
      have : (bl s).tail = [] := List.eq_nil_of_length_eq_zero (by rw [List.length_tail]; omega)
      rw [this]; simp [Nm.expo, Nm.sg, Nm.whole, Nm.hd]
    rw [hv]
    clear hv
    go_enter Try.func42, Try.ntmps42
    go_wp2
    go_ret
    exact ⟨rfl, rfl⟩
end Go.Proofs.Ytdpngmhjdafdpaa
