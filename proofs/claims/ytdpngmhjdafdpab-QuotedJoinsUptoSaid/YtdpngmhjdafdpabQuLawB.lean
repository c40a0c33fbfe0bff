/- The walk of the law QuotedJoins. -/
import Derived.Test.YtdpngmhjdafdpabQuJoinW
namespace Go.Proofs.Ytdpngmhjdafdpab
open Go.Shelf Go.RowKit Em
set_option linter.unusedVariables false
set_option linter.unusedSimpArgs false

theorem strF_len : ∀ (f : Nat) (l t r : List UInt8), Qm.strF f l = some (t, r) → t.length + r.length ≤ l.length
  | 0, _, _, _, h => by cases h
  | f + 1, [], _, _, h => by cases h
  | f + 1, c :: m, t, r, h => by
    simp only [Qm.strF] at h
    rw [List.length_cons]
    by_cases h1 : c.toNat = 34
    · rw [if_pos h1] at h
      obtain ⟨rfl, rfl⟩ := Prod.mk.inj (Option.some.inj h)
      simp
    · rw [if_neg h1] at h
      by_cases h2 : c.toNat = 92
      · rw [if_pos h2] at h
        cases hx : Qm.esc 34 m with
        | none => rw [hx] at h; cases h
        | some y =>
          obtain ⟨n, b, q⟩ := y
          rw [hx] at h
          simp only [] at h
          cases hq : Qm.strF f q with
          | none => rw [hq] at h; cases h
          | some w =>
            obtain ⟨t', r'⟩ := w
            rw [hq] at h
            obtain ⟨rfl, rfl⟩ := Prod.mk.inj (Option.some.inj h)
            have ih := strF_len f q t' r' hq
            have e1 := Qm.esc_rest hx
            show (Qm.sayS b n ++ t').length + r'.length ≤ m.length + 1
            rw [List.length_append]
            cases b with
            | true =>
              have e3 : (Qm.sayS true n).length = 1 := rfl
              omega
            | false =>
              have e2 := esc_wide hx
              have e3 : (Qm.sayS false n).length ≤ 4 := fm_le n
              omega
      · rw [if_neg h2] at h
        by_cases h3 : c.toNat = 10
        · rw [if_pos h3] at h; cases h
        · rw [if_neg h3] at h
          cases hq : Qm.strF f m with
          | none => rw [hq] at h; cases h
          | some w =>
            obtain ⟨t', r'⟩ := w
            rw [hq] at h
            obtain ⟨rfl, rfl⟩ := Prod.mk.inj (Option.some.inj h)
            have ih := strF_len f m t' r' hq
            show (c :: t').length + r'.length ≤ m.length + 1
            rw [List.length_cons]; omega

theorem vE_ways (s : ByteArray) : vE s = 4 ∨ (vE s = 0 ∧ ∃ k t, Qm.whole (bl s) = some (k, t, []) ∧ vT s = txt t) := by
  unfold vE vT
  cases hx : Qm.whole (bl s) with
  | none => exact .inl rfl
  | some y =>
    obtain ⟨k, t, q⟩ := y
    cases q with
    | nil => exact .inr ⟨rfl, k, t, rfl, rfl⟩
    | cons c q => exact .inl rfl

theorem bl_head (s : ByteArray) (h : 0 < s.size) : bl s = s.get! 0 :: (bl s).drop 1 := by
  have e := bl_drop' s 0 h
  rw [List.drop_zero] at e
  rw [e]
  congr 1
  apply UInt8.toNat_inj.1
  rw [byN_get s 0 h]; rfl

set_option maxHeartbeats 4000000 in
theorem walk_QuotedJoins (a b : ByteArray) (w : World) (w0 : a.size ≤ 1048576) (w1 : b.size ≤ 1048576) :
    Calls Try.prog 4 #[.string a, .string b] w fun e w' => e = .returned (.bool true) ∧ Below w.heap.size w w' := by
  have VA := fun w => value_any a w (by omega)
  have VB := fun w => value_any b w (by omega)
  rcases vE_ways a with ha | ⟨ha, k, t, hwa, hta⟩
  · rw [ha] at VA
    generalize vT a = A1 at VA
    generalize vT b = B1 at VB
    generalize vE b = E at VB
    clear ha
    go_enter Try.func4, Try.ntmps4
    go_wp2_with fail
    refine (VA _).mono ?_
    rintro e w1 ⟨rfl, c1⟩
    go_wp2_with fail
    refine (VB _).mono ?_
    rintro e w2 ⟨rfl, d2⟩
    have c2 := c1.trans (d2.mono c1.size)
    clear c1 d2
    go_wp2_with fail
    refine (fixed6_any _).mono ?_
    rintro e w3 ⟨rfl, d3⟩
    have c3 := c2.trans (d3.mono c2.size)
    clear c2 d3
    go_wp2_with fail
    refine (fixed6_any _).mono ?_
    rintro e w4 ⟨rfl, d4⟩
    have c4 := c3.trans (d4.mono c3.size)
    go_wp2
    go_ret
    exact ⟨rfl, c4⟩
  · rw [ha] at VA
    rcases vE_ways b with hb | ⟨hb, k', t', hwb, htb⟩
    · rw [hb] at VB
      clear hwa hta
      generalize vT a = A1 at VA
      generalize vT b = B1 at VB
      clear ha hb
      go_enter Try.func4, Try.ntmps4
      go_wp2_with fail
      refine (VA _).mono ?_
      rintro e w1 ⟨rfl, c1⟩
      go_wp2_with fail
      refine (VB _).mono ?_
      rintro e w2 ⟨rfl, d2⟩
      have c2 := c1.trans (d2.mono c1.size)
      clear c1 d2
      go_wp2_with fail
      refine (fixed6_any _).mono ?_
      rintro e w3 ⟨rfl, d3⟩
      have c3 := c2.trans (d3.mono c2.size)
      clear c2 d3
      go_wp2_with fail
      refine (fixed6_any _).mono ?_
      rintro e w4 ⟨rfl, d4⟩
      have c4 := c3.trans (d4.mono c3.size)
      go_wp2
      go_ret
      exact ⟨rfl, c4⟩
    · rw [hb] at VB
      have pos : ∀ {s : ByteArray} {k t}, Qm.whole (bl s) = some (k, t, []) → 0 < s.size := by
        intro s k t h
        by_cases h0 : 0 < s.size
        · exact h0
        · have : bl s = [] := List.eq_nil_of_length_eq_zero (by rw [bl_size]; omega)
          rw [this] at h; cases h
      have pa := pos hwa
      have pb := pos hwb
      have pa' : (0 : Int) < (a.size : Int) := by omega
      have pb' : (0 : Int) < (b.size : Int) := by omega
      have ea := byN_get a 0 pa
      have la := byN_lt a 0
      have eb := byN_get b 0 pb
      have lb := byN_lt b 0
      have early : ((byN a 0 : Int) != 34) = true ∨ (((byN a 0 : Int) != 34) = false ∧ ((byN b 0 : Int) != 34) = true) → Calls Try.prog 4 #[.string a, .string b] w fun e w' => e = .returned (.bool true) ∧ Below w.heap.size w w' := by
        intro h
        clear hwa hta hwb htb
        generalize vT a = A1 at VA
        generalize vT b = B1 at VB
        generalize byN a 0 = X at ea la h
        generalize byN b 0 = Y at eb lb h
        rcases h with h | ⟨h, h'⟩
        · have h2 : ((X : Int) == 34) = false := by simpa [bne] using h
          go_enter Try.func4, Try.ntmps4
          go_wp2_with fail
          refine (VA _).mono ?_
          rintro e w1 ⟨rfl, c1⟩
          go_wp2_with fail
          refine (VB _).mono ?_
          rintro e w2 ⟨rfl, d2⟩
          have c2 := c1.trans (d2.mono c1.size)
          clear c1 d2
          go_wp2_with fail
          refine (fixed6_any _).mono ?_
          rintro e w3 ⟨rfl, d3⟩
          have c3 := c2.trans (d3.mono c2.size)
          clear c2 d3
          go_wp2_with fail
          refine (fixed6_any _).mono ?_
          rintro e w4 ⟨rfl, d4⟩
          have c4 := c3.trans (d4.mono c3.size)
          go_wp2
          go_ret
          exact ⟨rfl, c4⟩
        · have h2 : ((X : Int) == 34) = true := by simpa [bne] using h
          have h3 : ((Y : Int) == 34) = false := by simpa [bne] using h'
          go_enter Try.func4, Try.ntmps4
          go_wp2_with fail
          refine (VA _).mono ?_
          rintro e w1 ⟨rfl, c1⟩
          go_wp2_with fail
          refine (VB _).mono ?_
          rintro e w2 ⟨rfl, d2⟩
          have c2 := c1.trans (d2.mono c1.size)
          clear c1 d2
          go_wp2_with fail
          refine (fixed6_any _).mono ?_
          rintro e w3 ⟨rfl, d3⟩
          have c3 := c2.trans (d3.mono c2.size)
          clear c2 d3
          go_wp2_with fail
          refine (fixed6_any _).mono ?_
          rintro e w4 ⟨rfl, d4⟩
          have c4 := c3.trans (d4.mono c3.size)
          go_wp2
          go_ret
          exact ⟨rfl, c4⟩
      by_cases hX : byN a 0 = 34
      · by_cases hY : byN b 0 = 34
        · clear early
          have ha1 := bl_head a pa
          have hb1 := bl_head b pb
          have ga : a.get! 0 = 34 := UInt8.toNat_inj.1 hX
          have gb : b.get! 0 = 34 := UInt8.toNat_inj.1 hY
          rw [ga] at ha1
          rw [gb] at hb1
          rw [ha1] at hwa
          rw [hb1] at hwb
          have hj := Qm.whole_join hwa hwb
          have len : ∀ {s : ByteArray} {k t}, Qm.whole (34 :: (bl s).drop 1) = some (k, t, []) → t.length ≤ s.size := by
            intro s k t h
            rw [Qm.whole34] at h
            cases hx : Qm.strF (((bl s).drop 1).length + 1) ((bl s).drop 1) with
            | none => rw [hx] at h; cases h
            | some z =>
              obtain ⟨t2, r2⟩ := z
              rw [hx] at h
              obtain ⟨_, h3⟩ := Prod.mk.inj (Option.some.inj h)
              obtain ⟨rfl, rfl⟩ := Prod.mk.inj h3
              have := strF_len _ _ _ _ hx
              rw [List.length_drop, bl_size] at this
              simp only [] at this ⊢
              omega
          have lt1 := len hwa
          have lt2 := len hwb
          have two : 1 < a.size := by
            by_cases h : 1 < a.size
            · exact h
            · rw [List.drop_eq_nil_of_le (by rw [bl_size]; omega)] at hwa
              exact absurd hwa (by rw [Qm.whole34]; intro h; cases h)
          obtain ⟨m, hm⟩ : ∃ m, a.size = m + 1 := ⟨a.size - 1, by omega⟩
          have hcat : bl (a.extract 0 m ++ b.extract 1 b.size) = 34 :: (((bl a).drop 1).dropLast ++ (bl b).drop 1) := by
            rw [bl_append, bl_extract, bl_extract, List.drop_zero, List.take_of_length_le (l := bl b) (by rw [bl_size]; omega), ← List.cons_append]
            congr 1
            have e1 : (bl a).dropLast = (bl a).take m := by rw [List.dropLast_eq_take, bl_size, hm, Nat.add_sub_cancel]
            rw [← e1]
            conv => lhs; rw [ha1]
            have hne : (bl a).drop 1 ≠ [] := by
              intro e
              have := congrArg List.length e
              rw [List.length_drop, bl_size] at this
              simp at this; omega
            exact List.dropLast_cons_of_ne_nil hne
          have hsz : (a.extract 0 m ++ b.extract 1 b.size).size ≤ 140737488355300 := by
            rw [← bl_size, hcat]
            simp only [List.length_cons, List.length_append, List.length_dropLast, List.length_drop, bl_size]
            omega
          have VX := fun w => value_any (a.extract 0 m ++ b.extract 1 b.size) w hsz
          have x1 : vT (a.extract 0 m ++ b.extract 1 b.size) = vT a ++ vT b := by
            rw [hta, htb]
            unfold vT
            rw [hcat, hj]
            exact bl_inj (by rw [bl_append, txt_bl, txt_bl, txt_bl])
          have x2 : vE (a.extract 0 m ++ b.extract 1 b.size) = 0 := by unfold vE; rw [hcat, hj]
          rw [x1, x2] at VX
          have sa : (vT a).size ≤ 1048576 := by rw [hta, txt_size]; omega
          have sb : (vT b).size ≤ 1048576 := by rw [htb, txt_size]; omega
          rw [hX] at ea
          rw [hY] at eb
          have s1 : (a.extract 0 m).size = m := by rw [← bl_size, bl_extract, List.drop_zero, List.length_take, bl_size]; omega
          have s2 : (b.extract 1 b.size).size = b.size - 1 := by rw [← bl_size, bl_extract, List.length_drop, List.length_take, bl_size]; omega
          have cl : (a.size : Int) - 1 = (m : Int) := by omega
          have m0 : (0 : Int) ≤ (m : Int) := by omega
          have hmx : m ≤ 4611686018427387000 := by omega
          have hw1 : wrap64 ((a.size : Int) - 1) = (m : Int) := by unfold wrap64; omega
          have hw2 : IntKind.i64.wrap (m : Int) = (m : Int) := IntWalk.i64_in _ (by omega)
          have m3 : ¬ (a.size : Int) < (m : Int) := by omega
          have m4 : ¬ (m : Int) < 0 := by omega
          have m5 : (m : Int).toNat = m := by omega
          have m1 : (m : Int) ≤ (a.size : Int) := by omega
          have m2 : (1 : Int) ≤ (b.size : Int) := by omega
          have f1 : ¬ 9223372036854775807 < m + (b.size - 1) := by omega
          have f2 : ¬ 9223372036854775807 < (vT a).size + (vT b).size := by omega
          exact joins_walk a b _ _ w m VA VB VX pa pb pa' pb' ea eb (by rw [ea]; rfl) (by rw [eb]; rfl) w0 w1 s1 s2 cl m0 hmx hw1 hw2 m3 m4 m5 m1 m2 f1 f2 sa sb
        · exact early (.inr ⟨by simp [hX], by simp; omega⟩)
      · exact early (.inl (by simp; omega))
end Go.Proofs.Ytdpngmhjdafdpab
