/- Contract of the reference's Row. -/
import Derived.Test.YtdpngmhjdafdpaaNuRef
namespace Go.Proofs.Ytdpngmhjdafdpaa
open Go.RowKit Em
set_option linter.unusedVariables false
set_option linter.unusedSimpArgs false

theorem get_eq (s : ByteArray) (p : Nat) (h : p < s.size) : s[p]'h = s.get! p := by
  apply UInt8.toNat_inj.1
  rw [byN_get s p h]; rfl

/-- What the loop of Row asks from a place on. -/
theorem chk_at (s : ByteArray) (p b : Nat) (x : UInt8) (h : p < s.size) : Nm.chk b x ((bl s).drop p) = ((decide (byN s p = 95 ∧ x ≠ 95) || decide (dgN (byN s p) < b)) && Nm.chk b (s.get! p) ((bl s).drop (p + 1))) := by
  rw [bl_drop s p h, Nm.chk, ← byN_get s p h, dgN_eq, get_eq s p h]
  congr 2
  exact decide_eq_decide.2 ⟨fun ⟨a, b⟩ => ⟨by rw [a]; rfl, b⟩, fun ⟨a, b⟩ => ⟨UInt8.toNat_inj.1 a, b⟩⟩

theorem row_pieces (s : ByteArray) (b : Nat) (hb : b ≤ 16) (h : 0 < s.size) (h0 : dgN (byN s 0) < b) : Nm.R b (bl s) = (Nm.chk b (s.get! 0) ((bl s).drop 1) && decide (dgN (byN s (s.size - 1)) < b)) := by
  have e : bl s = (s[0]'h) :: (bl s).drop 1 := bl_drop s 0 h
  have h0' : Nm.dg (s[0]'h) < b := by rw [← dgN_eq, byN_get s 0 h]; exact h0
  have := Nm.chk_eq hb (s[0]'h) ((bl s).drop 1) h0'
  rw [← e, get_eq s 0 h] at this
  rw [← this]
  congr 1
  unfold Nm.lastD
  rw [List.getLast?_eq_getElem?, bl_size, bl_get s (s.size - 1) (by omega)]
  show decide (Nm.dg _ < b) = _
  rw [← dgN_eq, byN_get]

theorem R_no {s : ByteArray} {b : Nat} (h : 0 < s.size) (h0 : ¬ dgN (byN s 0) < b) : Nm.R b (bl s) = false := by
  cases hv : Nm.R b (bl s) with
  | false => rfl
  | true =>
    have h1 := Nm.hd_R hv
    have h2 := hd_at s 0 b h
    rw [List.drop_zero, h1] at h2
    have := of_decide_eq_true h2.symm
    omega

set_option maxHeartbeats 4000000 in
theorem rrow_any (s : ByteArray) (b : Nat) (w : World) (hb : b ≤ 16) (hs : s.size ≤ 4611686018427387000) :
    Calls Try.prog 27 #[.string s, .int .i64 b] w fun e w' => e = .returned (.bool (Nm.R b (bl s))) ∧ w = w' := by
  by_cases h0 : s.size = 0
  · have : bl s = [] := List.eq_nil_of_length_eq_zero (by rw [bl_size]; exact h0)
    rw [this]
    have hz : ((s.size : Int) == 0) = true := by simp [h0]
    go_enter Try.func27, Try.ntmps27
    go_wp2
    go_ret
    exact ⟨rfl, rfl⟩
  · have hpos : 0 < s.size := by omega
    have hz : ((s.size : Int) == 0) = false := beq_eq_false_iff_ne.2 (by omega)
    have b0 : (0 : Int) < (s.size : Int) := by omega
    have e0 := byN_get s 0 hpos
    have l0 := byN_lt s 0
    obtain ⟨m, hm⟩ : ∃ m, s.size = m + 1 := ⟨s.size - 1, by omega⟩
    have hms : s.size - 1 = m := by omega
    have hl : m < s.size := by omega
    have e9 := byN_get s m hl
    have l9 := byN_lt s m
    have cl : (s.size : Int) - 1 = (m : Int) := by omega
    have b1 : (0 : Int) ≤ (m : Int) := by omega
    have b2 : (m : Int) < (s.size : Int) := by omega
    have Hms := Lib.hid hms
    have Hm := Lib.hid hm
    clear hms hm
    have HD := fun n hn w => rdigit_any n b hn hb w
    by_cases h1 : dgN (byN s 0) < b
    · by_cases h2 : dgN (byN s m) < b
      · have hR := row_pieces s b hb hpos h1
        rw [Hms.out, decide_eq_true h2, Bool.and_true] at hR
        have HR := Lib.hid hR
        have H0 := HD (byN s 0) l0
        rw [decide_eq_true h1] at H0
        have H9 := HD (byN s m) l9
        rw [decide_eq_true h2] at H9
        have Hh1 := Lib.hid h1
        clear h1 h2 hR
        generalize hB0 : byN s 0 = B0 at e0 l0 H0 Hh1
        generalize byN s m = B9 at e9 l9 H9
        have HB0 := Lib.hid hB0
        clear hB0
        go_enter Try.func27, Try.ntmps27
        go_wp2_with fail
        refine (H0 _).mono ?_
        rintro e w' ⟨rfl, rfl⟩
        clear H0
        go_wp2_with fail
        refine (H9 _).mono ?_
        rintro e w' ⟨rfl, rfl⟩
        clear H9
        go_wp2
        clear e9 e0 cl b1 b2
        go_loop [5] (fun i => ∃ k : Nat, k ≤ s.size ∧ i = .int .i64 k ∧ ∀ hk0 : 1 ≤ k, Nm.chk b (s.get! (k - 1)) ((bl s).drop k) = Nm.R b (bl s)) (fun i => s.size - (intOf i).toNat)
        case atStart => exact ⟨0, by omega, rfl, fun h => by omega⟩
        case round =>
          obtain ⟨k, hk, rfl, hin⟩ := hrel
          have Hin := Lib.hid hin
          clear hin
          by_cases hlt : k < s.size
          · have e1 := byN_get s k hlt
            have l1 := byN_lt s k
            have c0 : (0 : Int) ≤ (k : Int) := by omega
            have c1 : (k : Int) < (s.size : Int) := by omega
            have H1 := HD (byN s k) l1
            have nxt : ∀ (hg : dgN (byN s k) < b ∨ (byN s k = 95 ∧ ∃ hk0 : 1 ≤ k, byN s (k - 1) ≠ 95)), ∀ hk0 : 1 ≤ k + 1, Nm.chk b (s.get! (k + 1 - 1)) ((bl s).drop (k + 1)) = Nm.R b (bl s) := by
              intro hg hk0
              by_cases hk1 : 1 ≤ k
              · have := Hin.out hk1
                rw [chk_at s k b _ hlt] at this
                rw [← this]
                have hor : (decide (byN s k = 95 ∧ (s.get! (k - 1)) ≠ 95) || decide (dgN (byN s k) < b)) = true := by
                  rcases hg with hg | ⟨hg, _, hg2⟩
                  · rw [decide_eq_true hg, Bool.or_true]
                  · rw [decide_eq_true ⟨hg, fun e => hg2 (by unfold byN; rw [e]; rfl)⟩]; rfl
                rw [hor, Bool.true_and]; rfl
              · obtain rfl : k = 0 := by omega
                exact HR.out.symm
            have bad : (¬ dgN (byN s k) < b) → (byN s k ≠ 95 ∨ ∃ hk0 : 1 ≤ k, byN s (k - 1) = 95) → Nm.R b (bl s) = false := by
              intro g1 g2
              by_cases hk1 : 1 ≤ k
              · rw [← Hin.out hk1, chk_at s k b _ hlt, decide_eq_false g1, Bool.or_false, decide_eq_false, Bool.false_and]
                rintro ⟨a1, a2⟩
                rcases g2 with g2 | ⟨_, g2⟩
                · exact g2 a1
                · exact a2 (UInt8.toNat_inj.1 g2)
              · obtain rfl : k = 0 := by omega
                rw [HB0.out] at g1
                exact absurd Hh1.out g1
            have Nxt := Lib.hid nxt
            have Bad := Lib.hid bad
            clear nxt bad Hin
            by_cases hc : byN s k = 95
            · by_cases hk1 : 1 ≤ k
              · obtain ⟨j, hj⟩ : ∃ j, k - 1 = j := ⟨k - 1, rfl⟩
                have hjs : j < s.size := by omega
                have hp := byN_get s j hjs
                have lp := byN_lt s j
                have cp : (k : Int) - 1 = (j : Int) := by omega
                have c2 : (0 : Int) ≤ (j : Int) := by omega
                have c3 : (j : Int) < (s.size : Int) := by omega
                have hnd : decide (dgN (byN s k) < b) = false := by rw [hc]; refine decide_eq_false ?_; show ¬ 16 < b; omega
                by_cases hq : byN s j = 95
                · have hfin := Bad.out (of_decide_eq_false hnd) (.inr ⟨hk1, by rw [hj]; exact hq⟩)
                  have Hfin := Lib.hid hfin
                  rw [hnd, hc] at H1
                  rw [hc] at e1
                  rw [hq] at hp
                  clear hfin hnd hc hq Nxt Bad l1
                  go_wp2_with (go_at_call 44; refine (H1 _).mono ?_; rintro e w' ⟨rfl, rfl⟩)
                  go_ret
                  exact ⟨ret_bool Hfin.out.symm, rfl⟩
                · have hfin := Nxt.out (.inr ⟨hc, hk1, by rw [hj]; exact hq⟩)
                  have Hfin := Lib.hid hfin
                  have d1 : ((byN s j : Int) != 95) = true := by simp; omega
                  have d2 : ((byN s j : Int) == 95) = false := beq_eq_false_iff_ne.2 (by omega)
                  rw [hc] at e1
                  clear hfin hnd hc hq Nxt Bad l1 H1
                  generalize byN s j = C at hp lp d1 d2
                  go_wp2
                  go_round
                  case rel => exact ⟨k + 1, by omega, by go_num, Hfin.out⟩
                  case measure => simp [intOf]; omega
              · obtain rfl : k = 0 := by omega
                exfalso
                have := Hh1.out
                rw [← HB0.out, hc] at this
                exact absurd (show (16 : Nat) < b from this) (by omega)
            · have d2 : ((byN s k : Int) == 95) = false := beq_eq_false_iff_ne.2 (by omega)
              by_cases hg : dgN (byN s k) < b
              · have Hfin := Lib.hid (Nxt.out (.inl hg))
                rw [decide_eq_true hg] at H1
                clear hg hc Nxt Bad
                generalize byN s k = C at e1 l1 d2 H1
                go_wp2_with (go_at_call 44; refine (H1 _).mono ?_; rintro e w' ⟨rfl, rfl⟩)
                go_round
                case rel => exact ⟨k + 1, by omega, by go_num, Hfin.out⟩
                case measure => simp [intOf]; omega
              · have hfin := Bad.out hg (.inl hc)
                have Hfin := Lib.hid hfin
                rw [decide_eq_false hg] at H1
                clear hfin hg hc Nxt Bad
                generalize byN s k = C at e1 l1 d2 H1
                go_wp2_with (go_at_call 44; refine (H1 _).mono ?_; rintro e w' ⟨rfl, rfl⟩)
                go_ret
                exact ⟨ret_bool Hfin.out.symm, rfl⟩
          · obtain rfl : k = s.size := by omega
            have hfin : Nm.R b (bl s) = true := by
              rw [← Hin.out (by omega), bl_over s s.size (by omega)]; rfl
            have Hfin := Lib.hid hfin
            clear hfin Hin
            go_wp2
            go_ret
            exact ⟨ret_bool Hfin.out.symm, rfl⟩
      · have hR := row_pieces s b hb hpos h1
        rw [Hms.out, decide_eq_false h2, Bool.and_false] at hR
        rw [hR]
        have H0 := HD (byN s 0) l0
        rw [decide_eq_true h1] at H0
        have H9 := HD (byN s m) l9
        rw [decide_eq_false h2] at H9
        clear h1 h2 hR
        generalize byN s 0 = B0 at e0 l0 H0
        generalize byN s m = B9 at e9 l9 H9
        go_enter Try.func27, Try.ntmps27
        go_wp2_with fail
        refine (H0 _).mono ?_
        rintro e w' ⟨rfl, rfl⟩
        clear H0
        go_wp2_with fail
        refine (H9 _).mono ?_
        rintro e w' ⟨rfl, rfl⟩
        clear H9
        go_wp2
        go_ret
        exact ⟨rfl, rfl⟩
    · rw [R_no hpos h1]
      have H0 := HD (byN s 0) l0
      rw [decide_eq_false h1] at H0
      clear h1
      generalize byN s 0 = B0 at e0 l0 H0
      go_enter Try.func27, Try.ntmps27
      go_wp2_with (go_at_call 44; refine (H0 _).mono ?_; rintro e w' ⟨rfl, rfl⟩)
      go_ret
      exact ⟨rfl, rfl⟩
end Go.Proofs.Ytdpngmhjdafdpaa
