/- Contract of the reference's digit of numbers. -/
import Derived.Test.YtklmiabgalanhaaGreatDoorGF
namespace Go.Proofs.YtklmiabgalanhaaGreatDoor
open Go.RowKit Em
set_option maxRecDepth 100000
set_option linter.unusedVariables false
set_option linter.unusedSimpArgs false

def upD (k : Nat) : Nat := if k < 10 then 48 + k else 55 + k
def loD (k : Nat) : Nat := if k < 10 then 48 + k else 87 + k
theorem upD_at : ∀ k : Fin 16, byN ⟨#[48, 49, 50, 51, 52, 53, 54, 55, 56, 57, 65, 66, 67, 68, 69, 70]⟩ k.1 = upD k.1 := by decide +kernel
theorem loD_at : ∀ k : Fin 16, byN ⟨#[48, 49, 50, 51, 52, 53, 54, 55, 56, 57, 97, 98, 99, 100, 101, 102]⟩ k.1 = loD k.1 := by decide +kernel

theorem dig_hit {n k : Nat} (hk : k < 16) (h : upD k = n ∨ loD k = n) : dgN n = k := by
  unfold upD loD at h
  unfold dgN
  by_cases h10 : k < 10
  · rw [if_pos h10, if_pos h10] at h
    rw [if_pos (by omega)]; omega
  · rw [if_neg h10, if_neg h10] at h
    rw [if_neg (by omega)]
    rcases h with h | h
    · rw [if_neg (by omega), if_pos (by omega)]; omega
    · rw [if_pos (by omega)]; omega
theorem dig_none {n b : Nat} (hb : b ≤ 16) (h : ∀ j, j < b → upD j ≠ n ∧ loD j ≠ n) : ¬ dgN n < b := by
  intro hlt
  unfold dgN at hlt
  split at hlt
  · have := (h (n - 48) hlt).1
    unfold upD at this
    rw [if_pos (by omega)] at this; omega
  · split at hlt
    · have := (h (n - 97 + 10) hlt).2
      unfold loD at this
      rw [if_neg (by omega)] at this; omega
    · split at hlt
      · have := (h (n - 65 + 10) hlt).1
        unfold upD at this
        rw [if_neg (by omega)] at this; omega
      · omega

set_option maxRecDepth 100000 in
set_option maxHeartbeats 2000000 in
theorem nrdigit_any (n b : Nat) (hn : n < 256) (hb : b ≤ 16) (w : World) :
    Calls Tryz.prog 108 #[.int .u8 n, .int .i64 b] w fun e w' => e = .returned (.bool (decide (dgN n < b))) ∧ w = w' := by
  go_enter Tryz.func108, Tryz.ntmps108
  go_wp2
  go_loop [7] (fun i => ∃ k : Nat, k ≤ b ∧ i = .int .i64 k ∧ ∀ j, j < k → upD j ≠ n ∧ loD j ≠ n) (fun i => 16 - (intOf i).toNat)
  case atStart => exact ⟨0, by omega, rfl, fun j hj => by omega⟩
  case round =>
    obtain ⟨k, hk, rfl, hno⟩ := hrel
    have Hno := Lib.hid hno
    clear hno
    by_cases hltb : k < b
    · have hlt : k < 16 := by omega
      have e1 := (byN_get ⟨#[48, 49, 50, 51, 52, 53, 54, 55, 56, 57, 65, 66, 67, 68, 69, 70]⟩ k hlt).trans (upD_at ⟨k, hlt⟩)
      have e2 := (byN_get ⟨#[48, 49, 50, 51, 52, 53, 54, 55, 56, 57, 97, 98, 99, 100, 101, 102]⟩ k hlt).trans (loD_at ⟨k, hlt⟩)
      have u1 : upD k < 256 := by unfold upD; split <;> omega
      have u2 : loD k < 256 := by unfold loD; split <;> omega
      have b0 : (0 : Int) ≤ (k : Int) := by omega
      have b1 : (k : Int) < 16 := by omega
      have b2 : (k : Int) < (b : Int) := by omega
      have d1 : decide ((k : Int) < (b : Int)) = true := by simp; omega
      cases hm : ((loD k : Int) == (n : Int)) with
      | true =>
        have hfin : decide (dgN n < b) = true := decide_eq_true (by rw [dig_hit hlt (.inr (by have := beq_iff_eq.1 hm; omega))]; exact hltb)
        have Hfin := Lib.hid hfin
        clear hfin
        generalize upD k = u at e1 u1
        generalize loD k = v at e2 u2 hm
        go_wp2
        go_ret
        exact ⟨nret_bool Hfin.out.symm, rfl⟩
      | false =>
        cases hm2 : ((upD k : Int) == (n : Int)) with
        | true =>
          have hfin : decide (dgN n < b) = true := decide_eq_true (by rw [dig_hit hlt (.inl (by have := beq_iff_eq.1 hm2; omega))]; exact hltb)
          have Hfin := Lib.hid hfin
          clear hfin
          generalize upD k = u at e1 u1 hm2
          generalize loD k = v at e2 u2 hm
          go_wp2
          go_ret
          exact ⟨nret_bool Hfin.out.symm, rfl⟩
        | false =>
          have hk2 : ∀ j, j < k + 1 → upD j ≠ n ∧ loD j ≠ n := by
            intro j hj
            by_cases e : j = k
            · subst e
              have x1 := beq_eq_false_iff_ne.1 hm
              have x2 := beq_eq_false_iff_ne.1 hm2
              exact ⟨fun e => x2 (by omega), fun e => x1 (by omega)⟩
            · exact Hno.out j (by omega)
          have Hk2 := Lib.hid hk2
          clear hk2 Hno
          generalize upD k = u at e1 u1 hm2
          generalize loD k = v at e2 u2 hm
          go_wp2
          go_round
          case rel => exact ⟨k + 1, by omega, by go_num, Hk2.out⟩
          case measure => simp [intOf]; omega
    · have hfin : decide (dgN n < b) = false := decide_eq_false (dig_none hb fun j hj => Hno.out j (by omega))
      have Hfin := Lib.hid hfin
      have b2 : ¬ (k : Int) < (b : Int) := by omega
      clear hfin Hno
      go_wp2
      go_ret
      exact ⟨nret_bool Hfin.out.symm, rfl⟩

end Go.Proofs.YtklmiabgalanhaaGreatDoor

/- Contract of the reference's Row. -/
namespace Go.Proofs.YtklmiabgalanhaaGreatDoor
open Go.RowKit Em
set_option maxRecDepth 100000
set_option linter.unusedVariables false
set_option linter.unusedSimpArgs false

theorem get_eq (s : ByteArray) (p : Nat) (h : p < s.size) : s[p]'h = s.get! p := by
  apply UInt8.toNat_inj.1
  rw [byN_get s p h]; rfl

/-- What the loop of Row asks from a place on. -/
theorem chk_at (s : ByteArray) (p b : Nat) (x : UInt8) (h : p < s.size) : Nm.chk b x ((bl s).drop p) = ((decide (byN s p = 95 ∧ x ≠ 95) || decide (dgN (byN s p) < b)) && Nm.chk b (s.get! p) ((bl s).drop (p + 1))) := by
  rw [bl_drop s p h, Nm.chk, ← byN_get s p h, dgN_eq, get_eq s p h]
  congr 2
  exact decide_eq_decide.2 ⟨fun ⟨a, b⟩ => ⟨by rw [a]; rfl, b⟩, fun ⟨a, b⟩ => ⟨UInt8.toNat_inj.1 a, b⟩⟩

theorem row_pieces (s : ByteArray) (b : Nat) (hb : b ≤ 16) (h : 0 < s.size) (h0 : dgN (byN s 0) < b) : Nm.R b (bl s) = (Nm.chk b (s.get! 0) ((bl s).drop 1) && decide (dgN (byN s (s.size - 1)) < b)) := by
  have e : bl s = (s[0]'h) :: (bl s).drop 1 := bl_drop s 0 h
  have h0' : Nm.dg (s[0]'h) < b := by rw [← dgN_eq, byN_get s 0 h]; exact h0
  have := Nm.chk_eq hb (s[0]'h) ((bl s).drop 1) h0'
  rw [← e, get_eq s 0 h] at this
  rw [← this]
  congr 1
  unfold Nm.lastD
  rw [List.getLast?_eq_getElem?, bl_size, bl_get s (s.size - 1) (by omega)]
  show decide (Nm.dg _ < b) = _
  rw [← dgN_eq, byN_get]

theorem R_no {s : ByteArray} {b : Nat} (h : 0 < s.size) (h0 : ¬ dgN (byN s 0) < b) : Nm.R b (bl s) = false := by
  cases hv : Nm.R b (bl s) with
  | false => rfl
  | true =>
    have h1 := Nm.hd_R hv
    have h2 := hd_at s 0 b h
    rw [List.drop_zero, h1] at h2
    have := of_decide_eq_true h2.symm
    omega

set_option maxHeartbeats 4000000 in
theorem rrow_any (s : ByteArray) (b : Nat) (w : World) (hb : b ≤ 16) (hs : s.size ≤ 4611686018427387000) :
    Calls Tryz.prog 86 #[.string s, .int .i64 b] w fun e w' => e = .returned (.bool (Nm.R b (bl s))) ∧ w = w' := by
  by_cases h0 : s.size = 0
  · have : bl s = [] := List.eq_nil_of_length_eq_zero (by rw [bl_size]; exact h0)
    rw [this]
    have hz : ((s.size : Int) == 0) = true := by simp [h0]
    go_enter Tryz.func86, Tryz.ntmps86
    go_wp2
    go_ret
    exact ⟨rfl, rfl⟩
  · have hpos : 0 < s.size := by omega
    have hz : ((s.size : Int) == 0) = false := beq_eq_false_iff_ne.2 (by omega)
    have b0 : (0 : Int) < (s.size : Int) := by omega
    have e0 := byN_get s 0 hpos
    have l0 := byN_lt s 0
    obtain ⟨m, hm⟩ : ∃ m, s.size = m + 1 := ⟨s.size - 1, by omega⟩
    have hms : s.size - 1 = m := by omega
    have hl : m < s.size := by omega
    have e9 := byN_get s m hl
    have l9 := byN_lt s m
    have cl : (s.size : Int) - 1 = (m : Int) := by omega
    have b1 : (0 : Int) ≤ (m : Int) := by omega
    have b2 : (m : Int) < (s.size : Int) := by omega
    have Hms := Lib.hid hms
    have Hm := Lib.hid hm
    clear hms hm
    have HD := fun n hn w => nrdigit_any n b hn hb w
    by_cases h1 : dgN (byN s 0) < b
    · by_cases h2 : dgN (byN s m) < b
      · have hR := row_pieces s b hb hpos h1
        rw [Hms.out, decide_eq_true h2, Bool.and_true] at hR
        have HR := Lib.hid hR
        have H0 := HD (byN s 0) l0
        rw [decide_eq_true h1] at H0
        have H9 := HD (byN s m) l9
        rw [decide_eq_true h2] at H9
        have Hh1 := Lib.hid h1
        clear h1 h2 hR
        generalize hB0 : byN s 0 = B0 at e0 l0 H0 Hh1
        generalize byN s m = B9 at e9 l9 H9
        have HB0 := Lib.hid hB0
        clear hB0
        go_enter Tryz.func86, Tryz.ntmps86
        go_wp2_with fail
        refine (H0 _).mono ?_
        rintro e w' ⟨rfl, rfl⟩
        clear H0
        go_wp2_with fail
        refine (H9 _).mono ?_
        rintro e w' ⟨rfl, rfl⟩
        clear H9
        go_wp2
        clear e9 e0 cl b1 b2
        go_loop [5] (fun i => ∃ k : Nat, k ≤ s.size ∧ i = .int .i64 k ∧ ∀ hk0 : 1 ≤ k, Nm.chk b (s.get! (k - 1)) ((bl s).drop k) = Nm.R b (bl s)) (fun i => s.size - (intOf i).toNat)
        case atStart => exact ⟨0, by omega, rfl, fun h => by omega⟩
        case round =>
          obtain ⟨k, hk, rfl, hin⟩ := hrel
          have Hin := Lib.hid hin
          clear hin
          by_cases hlt : k < s.size
          · have e1 := byN_get s k hlt
            have l1 := byN_lt s k
            have c0 : (0 : Int) ≤ (k : Int) := by omega
            have c1 : (k : Int) < (s.size : Int) := by omega
            have H1 := HD (byN s k) l1
            have nxt : ∀ (hg : dgN (byN s k) < b ∨ (byN s k = 95 ∧ ∃ hk0 : 1 ≤ k, byN s (k - 1) ≠ 95)), ∀ hk0 : 1 ≤ k + 1, Nm.chk b (s.get! (k + 1 - 1)) ((bl s).drop (k + 1)) = Nm.R b (bl s) := by
              intro hg hk0
              by_cases hk1 : 1 ≤ k
              · have := Hin.out hk1
                rw [chk_at s k b _ hlt] at this
                rw [← this]
                have hor : (decide (byN s k = 95 ∧ (s.get! (k - 1)) ≠ 95) || decide (dgN (byN s k) < b)) = true := by
                  rcases hg with hg | ⟨hg, _, hg2⟩
                  · rw [decide_eq_true hg, Bool.or_true]
                  · rw [decide_eq_true ⟨hg, fun e => hg2 (by unfold byN; rw [e]; rfl)⟩]; rfl
                rw [hor, Bool.true_and]; rfl
              · obtain rfl : k = 0 := by omega
                exact HR.out.symm
            have bad : (¬ dgN (byN s k) < b) → (byN s k ≠ 95 ∨ ∃ hk0 : 1 ≤ k, byN s (k - 1) = 95) → Nm.R b (bl s) = false := by
              intro g1 g2
              by_cases hk1 : 1 ≤ k
              · rw [← Hin.out hk1, chk_at s k b _ hlt, decide_eq_false g1, Bool.or_false, decide_eq_false, Bool.false_and]
                rintro ⟨a1, a2⟩
                rcases g2 with g2 | ⟨_, g2⟩
                · exact g2 a1
                · exact a2 (UInt8.toNat_inj.1 g2)
              · obtain rfl : k = 0 := by omega
                rw [HB0.out] at g1
                exact absurd Hh1.out g1
            have Nxt := Lib.hid nxt
            have Bad := Lib.hid bad
            clear nxt bad Hin
            by_cases hc : byN s k = 95
            · by_cases hk1 : 1 ≤ k
              · obtain ⟨j, hj⟩ : ∃ j, k - 1 = j := ⟨k - 1, rfl⟩
                have hjs : j < s.size := by omega
                have hp := byN_get s j hjs
                have lp := byN_lt s j
                have cp : (k : Int) - 1 = (j : Int) := by omega
                have c2 : (0 : Int) ≤ (j : Int) := by omega
                have c3 : (j : Int) < (s.size : Int) := by omega
                have hnd : decide (dgN (byN s k) < b) = false := by rw [hc]; refine decide_eq_false ?_; show ¬ 16 < b; omega
                by_cases hq : byN s j = 95
                · have hfin := Bad.out (of_decide_eq_false hnd) (.inr ⟨hk1, by rw [hj]; exact hq⟩)
                  have Hfin := Lib.hid hfin
                  rw [hnd, hc] at H1
                  rw [hc] at e1
                  rw [hq] at hp
                  clear hfin hnd hc hq Nxt Bad l1
                  go_wp2_with (go_at_call 108; refine (H1 _).mono ?_; rintro e w' ⟨rfl, rfl⟩)
                  go_ret
                  exact ⟨nret_bool Hfin.out.symm, rfl⟩
                · have hfin := Nxt.out (.inr ⟨hc, hk1, by rw [hj]; exact hq⟩)
                  have Hfin := Lib.hid hfin
                  have d1 : ((byN s j : Int) != 95) = true := by simp; omega
                  have d2 : ((byN s j : Int) == 95) = false := beq_eq_false_iff_ne.2 (by omega)
                  rw [hc] at e1
                  clear hfin hnd hc hq Nxt Bad l1 H1
                  generalize byN s j = C at hp lp d1 d2
                  go_wp2
                  go_round
                  case rel => exact ⟨k + 1, by omega, by go_num, Hfin.out⟩
                  case measure => simp [intOf]; omega
              · obtain rfl : k = 0 := by omega
                exfalso
                have := Hh1.out
                rw [← HB0.out, hc] at this
                exact absurd (show (16 : Nat) < b from this) (by omega)
            · have d2 : ((byN s k : Int) == 95) = false := beq_eq_false_iff_ne.2 (by omega)
              by_cases hg : dgN (byN s k) < b
              · have Hfin := Lib.hid (Nxt.out (.inl hg))
                rw [decide_eq_true hg] at H1
                clear hg hc Nxt Bad
                generalize byN s k = C at e1 l1 d2 H1
                go_wp2_with (go_at_call 108; refine (H1 _).mono ?_; rintro e w' ⟨rfl, rfl⟩)
                go_round
                case rel => exact ⟨k + 1, by omega, by go_num, Hfin.out⟩
                case measure => simp [intOf]; omega
              · have hfin := Bad.out hg (.inl hc)
                have Hfin := Lib.hid hfin
                rw [decide_eq_false hg] at H1
                clear hfin hg hc Nxt Bad
                generalize byN s k = C at e1 l1 d2 H1
                go_wp2_with (go_at_call 108; refine (H1 _).mono ?_; rintro e w' ⟨rfl, rfl⟩)
                go_ret
                exact ⟨nret_bool Hfin.out.symm, rfl⟩
          · obtain rfl : k = s.size := by omega
            have hfin : Nm.R b (bl s) = true := by
              rw [← Hin.out (by omega), bl_over s s.size (by omega)]; rfl
            have Hfin := Lib.hid hfin
            clear hfin Hin
            go_wp2
            go_ret
            exact ⟨nret_bool Hfin.out.symm, rfl⟩
      · have hR := row_pieces s b hb hpos h1
        rw [Hms.out, decide_eq_false h2, Bool.and_false] at hR
        rw [hR]
        have H0 := HD (byN s 0) l0
        rw [decide_eq_true h1] at H0
        have H9 := HD (byN s m) l9
        rw [decide_eq_false h2] at H9
        clear h1 h2 hR
        generalize byN s 0 = B0 at e0 l0 H0
        generalize byN s m = B9 at e9 l9 H9
        go_enter Tryz.func86, Tryz.ntmps86
        go_wp2_with fail
        refine (H0 _).mono ?_
        rintro e w' ⟨rfl, rfl⟩
        clear H0
        go_wp2_with fail
        refine (H9 _).mono ?_
        rintro e w' ⟨rfl, rfl⟩
        clear H9
        go_wp2
        go_ret
        exact ⟨rfl, rfl⟩
    · rw [R_no hpos h1]
      have H0 := HD (byN s 0) l0
      rw [decide_eq_false h1] at H0
      clear h1
      generalize byN s 0 = B0 at e0 l0 H0
      go_enter Tryz.func86, Tryz.ntmps86
      go_wp2_with (go_at_call 108; refine (H0 _).mono ?_; rintro e w' ⟨rfl, rfl⟩)
      go_ret
      exact ⟨rfl, rfl⟩
end Go.Proofs.YtklmiabgalanhaaGreatDoor

/- Contracts of the reference of numbers: under, headed, Power. And of number.prefix. -/
namespace Go.Proofs.YtklmiabgalanhaaGreatDoor
open Go.RowKit Em
set_option maxRecDepth 100000
set_option linter.unusedVariables false
set_option linter.unusedSimpArgs false

theorem bl_from (s : ByteArray) (a : Nat) : bl (s.extract a s.size) = (bl s).drop a := by
  rw [bl_extract, List.take_of_length_le (by rw [bl_size]; omega)]
theorem bl_to (s : ByteArray) (a : Nat) : bl (s.extract 0 a) = (bl s).take a := by rw [bl_extract, List.drop_zero]
theorem size_from (s : ByteArray) (a : Nat) : (s.extract a s.size).size ≤ s.size := by rw [← bl_size, bl_from, ← bl_size]; simp
theorem size_to (s : ByteArray) (a : Nat) : (s.extract 0 a).size ≤ s.size := by rw [← bl_size, bl_to, ← bl_size]; simp; omega

theorem rrow_from (s : ByteArray) (a b : Nat) (w : World) (hb : b ≤ 16) (hs : s.size ≤ 4611686018427387000) :
    Calls Tryz.prog 86 #[.string (s.extract a s.size), .int .i64 b] w fun e w' => e = .returned (.bool (Nm.R b ((bl s).drop a))) ∧ w = w' := by
  have := rrow_any (s.extract a s.size) b w hb (Nat.le_trans (size_from s a) hs)
  rw [bl_from] at this; exact this
theorem rrow_to (s : ByteArray) (a b : Nat) (w : World) (hb : b ≤ 16) (hs : s.size ≤ 4611686018427387000) :
    Calls Tryz.prog 86 #[.string (s.extract 0 a), .int .i64 b] w fun e w' => e = .returned (.bool (Nm.R b ((bl s).take a))) ∧ w = w' := by
  have := rrow_any (s.extract 0 a) b w hb (Nat.le_trans (size_to s a) hs)
  rw [bl_to] at this; exact this

theorem at1_zero (s : ByteArray) (h : 0 < s.size) (c : UInt8) : Nm.at1 c (bl s) = decide (byN s 0 = c.toNat) := by
  have := at1_at s 0 h c
  rw [List.drop_zero] at this
  rw [this]
  exact decide_eq_decide.2 (by omega)
theorem at1_none (s : ByteArray) (h : ¬ 0 < s.size) (c : UInt8) : Nm.at1 c (bl s) = false := by
  have := bl_over s 0 h
  rw [List.drop_zero] at this
  rw [this]; rfl
theorem tail_drop (l : List UInt8) : l.tail = l.drop 1 := (List.drop_one).symm

set_option maxHeartbeats 1000000 in
theorem under_any (s : ByteArray) (b : Nat) (w : World) (hb : b ≤ 16) (hs : s.size ≤ 4611686018427387000) :
    Calls Tryz.prog 104 #[.string s, .int .i64 b] w fun e w' => e = .returned (.bool (Nm.under b (bl s))) ∧ w = w' := by
  have HR := fun w => rrow_any s b w hb hs
  have HT := fun w => rrow_from s 1 b w hb hs
  unfold Nm.under
  rw [tail_drop]
  cases hR : Nm.R b (bl s) with
  | true =>
    rw [hR] at HR
    clear hR HT
    go_enter Tryz.func104, Tryz.ntmps104
    go_wp2_with fail
    refine (HR _).mono ?_
    rintro e w' ⟨rfl, rfl⟩
    go_wp2
    go_ret
    exact ⟨rfl, rfl⟩
  | false =>
    rw [hR] at HR
    clear hR
    by_cases h1 : 1 < s.size
    · have h1' : (1 : Int) < (s.size : Int) := by omega
      have h0 : 0 < s.size := by omega
      have h0' : (0 : Int) < (s.size : Int) := by omega
      have h2' : (1 : Int) ≤ (s.size : Int) := by omega
      have e0 := byN_get s 0 h0
      have l0 := byN_lt s 0
      rw [at1_zero s h0]
      by_cases hc : byN s 0 = 95
      · rw [decide_eq_true (show byN s 0 = (95 : UInt8).toNat from hc)]
        rw [hc] at e0
        clear hc l0
        generalize Nm.R b ((bl s).drop 1) = V at HT
        go_enter Tryz.func104, Tryz.ntmps104
        go_wp2_with fail
        refine (HR _).mono ?_
        rintro e w' ⟨rfl, rfl⟩
        clear HR
        go_wp2_with fail
        refine (HT _).mono ?_
        rintro e w' ⟨rfl, rfl⟩
        clear HT
        go_wp2
        go_ret
        exact ⟨rfl, rfl⟩
      · rw [decide_eq_false (show ¬ byN s 0 = (95 : UInt8).toNat from hc)]
        have d1 : ((byN s 0 : Int) == 95) = false := beq_eq_false_iff_ne.2 (by omega)
        clear hc HT
        generalize byN s 0 = B at e0 l0 d1
        go_enter Tryz.func104, Tryz.ntmps104
        go_wp2_with fail
        refine (HR _).mono ?_
        rintro e w' ⟨rfl, rfl⟩
        clear HR
        go_wp2
        go_ret
        exact ⟨rfl, rfl⟩
    · have h1' : ¬ (1 : Int) < (s.size : Int) := by omega
      have hv : (Nm.at1 95 (bl s) && Nm.R b ((bl s).drop 1)) = false := by rw [bl_over s 1 h1]; simp [Nm.R]
      rw [hv]
      clear hv HT
      go_enter Tryz.func104, Tryz.ntmps104
      go_wp2_with fail
      refine (HR _).mono ?_
      rintro e w' ⟨rfl, rfl⟩
      clear HR
      go_wp2
      go_ret
      exact ⟨rfl, rfl⟩

/-- Does a text begin with 0 and one of two letters? -/
def hdB (s : ByteArray) (x y : Nat) : Bool := decide (2 ≤ s.size ∧ byN s 0 = 48 ∧ (byN s 1 = x ∨ byN s 1 = y))

theorem headed_any (s : ByteArray) (x y : Nat) (w : World) (hx : x < 256) (hy : y < 256) :
    Calls Tryz.prog 105 #[.string s, .int .u8 x, .int .u8 y] w fun e w' => e = .returned (.bool (hdB s x y)) ∧ w = w' := by
  unfold hdB
  by_cases h2 : 2 ≤ s.size
  · have h2' : (2 : Int) ≤ (s.size : Int) := by omega
    have h0 : 0 < s.size := by omega
    have h1 : 1 < s.size := by omega
    have h0' : (0 : Int) < (s.size : Int) := by omega
    have h1' : (1 : Int) < (s.size : Int) := by omega
    have e0 := byN_get s 0 h0
    have l0 := byN_lt s 0
    have e1 := byN_get s 1 h1
    have l1 := byN_lt s 1
    generalize byN s 0 = B at e0 l0 ⊢
    generalize byN s 1 = C at e1 l1 ⊢
    by_cases hB : B = 48
    · subst hB
      by_cases hx2 : C = x
      · subst hx2
        rw [decide_eq_true ⟨h2, rfl, .inl rfl⟩]
        have d1 : ((C : Int) == (C : Int)) = true := by simp
        go_enter Tryz.func105, Tryz.ntmps105
        go_wp2
        go_ret
        exact ⟨rfl, rfl⟩
      · have d1 : ((C : Int) == (x : Int)) = false := beq_eq_false_iff_ne.2 (by omega)
        by_cases hy2 : C = y
        · rw [decide_eq_true ⟨h2, rfl, .inr hy2⟩]
          have d2 : ((C : Int) == (y : Int)) = true := by simp [hy2]
          go_enter Tryz.func105, Tryz.ntmps105
          go_wp2
          go_ret
          exact ⟨nret_bool (by simp_all), rfl⟩
        · rw [decide_eq_false (fun h => h.2.2.elim hx2 hy2)]
          have d2 : ((C : Int) == (y : Int)) = false := beq_eq_false_iff_ne.2 (by omega)
          go_enter Tryz.func105, Tryz.ntmps105
          go_wp2
          go_ret
          exact ⟨nret_bool (by simp_all), rfl⟩
    · rw [decide_eq_false (fun h => hB h.2.1)]
      have d1 : ((B : Int) == 48) = false := beq_eq_false_iff_ne.2 (by omega)
      go_enter Tryz.func105, Tryz.ntmps105
      go_wp2
      go_ret
      exact ⟨rfl, rfl⟩
  · rw [decide_eq_false (fun h => h2 h.1)]
    have h2' : ¬ (2 : Int) ≤ (s.size : Int) := by omega
    go_enter Tryz.func105, Tryz.ntmps105
    go_wp2
    go_ret
    exact ⟨rfl, rfl⟩

theorem bl_two (s : ByteArray) (h : 2 ≤ s.size) : bl s = s.get! 0 :: s.get! 1 :: (bl s).drop 2 := by
  have h0 := bl_drop s 0 (by omega)
  have h1 := bl_drop s 1 (by omega)
  rw [List.drop_zero, get_eq s 0 (by omega)] at h0
  rw [get_eq s 1 (by omega)] at h1
  exact h0.trans (congrArg _ h1)

theorem pfx_short (s : ByteArray) (h : ¬ 2 ≤ s.size) : Nm.pfx (bl s) = 10 := by
  have hl : (bl s).length ≤ 1 := by rw [bl_size]; omega
  match hb : bl s, hl with
  | [], _ => rfl
  | [c], _ => rfl

theorem byte_is (s : ByteArray) (k : Nat) (c : UInt8) : s.get! k = c ↔ byN s k = c.toNat := by
  unfold byN; exact ⟨fun h => by rw [h], fun h => UInt8.toNat_inj.1 h⟩

theorem pfx_eq (s : ByteArray) : Nm.pfx (bl s) = if hdB s 98 66 = true then 2 else if hdB s 111 79 = true then 8 else if hdB s 120 88 = true then 16 else 10 := by
  by_cases h2 : 2 ≤ s.size
  · have e := bl_two s h2
    rw [e]
    simp only [Nm.pfx, byte_is, hdB, decide_eq_true_eq]
    show (if byN s 0 = 48 then if byN s 1 = 98 ∨ byN s 1 = 66 then 2 else if byN s 1 = 111 ∨ byN s 1 = 79 then 8 else if byN s 1 = 120 ∨ byN s 1 = 88 then 16 else 10 else 10) = _
    by_cases hB : byN s 0 = 48
    · simp [hB, h2]
    · simp [hB]
  · rw [pfx_short s h2]
    simp [hdB, h2]

set_option maxHeartbeats 1000000 in
theorem nprefix_any (s : ByteArray) (w : World) :
    Calls Tryz.prog 126 #[.string s] w fun e w' => e = .returned (.int .i64 (Nm.pfx (bl s) : Nat)) ∧ w = w' := by
  by_cases h2 : 2 ≤ s.size
  · have h2' : ¬ (s.size : Int) < 2 := by omega
    have h0 : 0 < s.size := by omega
    have h1 : 1 < s.size := by omega
    have h0' : (0 : Int) < (s.size : Int) := by omega
    have h1' : (1 : Int) < (s.size : Int) := by omega
    have e0 := byN_get s 0 h0
    have l0 := byN_lt s 0
    have e1 := byN_get s 1 h1
    have l1 := byN_lt s 1
    rw [pfx_eq s]
    unfold hdB
    generalize byN s 0 = B at e0 l0 ⊢
    generalize byN s 1 = C at e1 l1 ⊢
    by_cases hB : B = 48
    · subst hB
      have D : ∀ n : Nat, C ≠ n → ((C : Int) == (n : Int)) = false := fun n h => beq_eq_false_iff_ne.2 (by omega)
      by_cases c1 : C = 98
      · subst c1; rw [if_pos (by simp [h2])]
        go_enter Tryz.func126, Tryz.ntmps126
        go_wp2
        go_ret
        exact ⟨rfl, rfl⟩
      · by_cases c2 : C = 66
        · subst c2; rw [if_pos (by simp [h2])]
          go_enter Tryz.func126, Tryz.ntmps126
          go_wp2
          go_ret
          exact ⟨rfl, rfl⟩
        · rw [if_neg (by simp [h2, c1, c2])]
          by_cases c3 : C = 111
          · subst c3; rw [if_pos (by simp [h2])]
            go_enter Tryz.func126, Tryz.ntmps126
            go_wp2
            go_ret
            exact ⟨rfl, rfl⟩
          · by_cases c4 : C = 79
            · subst c4; rw [if_pos (by simp [h2])]
              go_enter Tryz.func126, Tryz.ntmps126
              go_wp2
              go_ret
              exact ⟨rfl, rfl⟩
            · rw [if_neg (by simp [h2, c3, c4])]
              by_cases c5 : C = 120
              · subst c5; rw [if_pos (by simp [h2])]
                go_enter Tryz.func126, Tryz.ntmps126
                go_wp2
                go_ret
                exact ⟨rfl, rfl⟩
              · by_cases c6 : C = 88
                · subst c6; rw [if_pos (by simp [h2])]
                  go_enter Tryz.func126, Tryz.ntmps126
                  go_wp2
                  go_ret
                  exact ⟨rfl, rfl⟩
                · rw [if_neg (by simp [h2, c5, c6])]
                  have d1 : ((C : Int) == 98) = false := D 98 c1
                  have d2 : ((C : Int) == 66) = false := D 66 c2
                  have d3 : ((C : Int) == 111) = false := D 111 c3
                  have d4 : ((C : Int) == 79) = false := D 79 c4
                  have d5 : ((C : Int) == 120) = false := D 120 c5
                  have d6 : ((C : Int) == 88) = false := D 88 c6
                  clear D
                  go_enter Tryz.func126, Tryz.ntmps126
                  go_wp2
                  go_ret
                  exact ⟨rfl, rfl⟩
    · have d1 : ((B : Int) != 48) = true := by simp; omega
      have d2 : ((B : Int) == 48) = false := beq_eq_false_iff_ne.2 (by omega)
      simp only [hB, false_and, and_false, decide_false, Bool.false_eq_true, if_false]
      go_enter Tryz.func126, Tryz.ntmps126
      go_wp2
      go_ret
      exact ⟨rfl, rfl⟩
  · rw [pfx_short s h2]
    have h2' : (s.size : Int) < 2 := by omega
    go_enter Tryz.func126, Tryz.ntmps126
    go_wp2
    go_ret
    exact ⟨rfl, rfl⟩

theorem at2_zero (s : ByteArray) (h : 0 < s.size) (c d : UInt8) : Nm.at2 c d (bl s) = decide (byN s 0 = c.toNat ∨ byN s 0 = d.toNat) := by
  have h0 := bl_drop s 0 h
  rw [List.drop_zero] at h0
  rw [h0, get_eq s 0 h]
  unfold Nm.at2
  exact decide_eq_decide.2 (by rw [byte_is, byte_is])

theorem power_spell (s : ByteArray) (h : 2 ≤ s.size) (c d : UInt8) : Nm.power c d (bl s) = (decide (byN s 0 = c.toNat ∨ byN s 0 = d.toNat) && if byN s 1 = 43 ∨ byN s 1 = 45 then Nm.R 10 ((bl s).drop 2) else Nm.R 10 ((bl s).drop 1)) := by
  unfold Nm.power
  rw [at2_zero s (by omega), Nm.expo_eq, tail_drop]
  congr 1
  have e := bl_drop s 1 (by omega)
  rw [e, get_eq s 1 (by omega), Nm.sg]
  simp only [byte_is]
  show Nm.R 10 (if byN s 1 = 43 ∨ byN s 1 = 45 then _ else _) = _
  split <;> rfl

set_option maxHeartbeats 2000000 in
theorem power_any (s : ByteArray) (c d : UInt8) (w : World) (hs : s.size ≤ 4611686018427387000) :
    Calls Tryz.prog 106 #[.string s, .int .u8 c.toNat, .int .u8 d.toNat] w fun e w' => e = .returned (.bool (Nm.power c d (bl s))) ∧ w = w' := by
  by_cases h2 : 2 ≤ s.size
  · have h2' : ¬ (s.size : Int) < 2 := by omega
    have h2'' : (2 : Int) ≤ (s.size : Int) := by omega
    have h0 : 0 < s.size := by omega
    have h1 : 1 < s.size := by omega
    have h0' : (0 : Int) < (s.size : Int) := by omega
    have h1' : (1 : Int) < (s.size : Int) := by omega
    have h1'' : (1 : Int) ≤ (s.size : Int) := by omega
    have e0 := byN_get s 0 h0
    have l0 := byN_lt s 0
    have e1 := byN_get s 1 h1
    have l1 := byN_lt s 1
    have H1 := fun w => rrow_from s 1 10 w (by omega) hs
    have H2 := fun w => rrow_from s 2 10 w (by omega) hs
    rw [power_spell s h2]
    generalize byN s 0 = B at e0 l0 ⊢
    generalize byN s 1 = C at e1 l1 ⊢
    generalize Nm.R 10 ((bl s).drop 1) = V1 at H1 ⊢
    generalize Nm.R 10 ((bl s).drop 2) = V2 at H2 ⊢
    have lc := c.toNat_lt
    have ld := d.toNat_lt
    generalize c.toNat = x at lc ⊢
    generalize d.toNat = y at ld ⊢
    have two : ∀ (f1 : ((B : Int) != (x : Int)) = true) (f2 : ((B : Int) != (y : Int)) = true), Calls Tryz.prog 106 #[.string s, .int .u8 x, .int .u8 y] w fun e w' => e = .returned (.bool false) ∧ w = w' := by
      intro f1 f2
      have f3 : ((B : Int) == (x : Int)) = false := by simpa [bne] using f1
      have f4 : ((B : Int) == (y : Int)) = false := by simpa [bne] using f2
      go_enter Tryz.func106, Tryz.ntmps106
      go_wp2
      go_ret
      exact ⟨rfl, rfl⟩
    have one : ∀ (g : ((B : Int) != (x : Int)) = false ∨ (((B : Int) != (x : Int)) = true ∧ ((B : Int) != (y : Int)) = false)), Calls Tryz.prog 106 #[.string s, .int .u8 x, .int .u8 y] w fun e w' => e = .returned (.bool (if C = 43 ∨ C = 45 then V2 else V1)) ∧ w = w' := by
      intro g
      have G : ∀ (f1 : ((C : Int) == 43) = true ∨ (((C : Int) == 43) = false ∧ ((C : Int) == 45) = true)), Calls Tryz.prog 106 #[.string s, .int .u8 x, .int .u8 y] w fun e w' => e = .returned (.bool V2) ∧ w = w' := by
        intro f1
        rcases g with g1 | ⟨g1, g2⟩
        · have g3 : ((B : Int) == (x : Int)) = true := by simpa [bne] using g1
          rcases f1 with f1 | ⟨f1, f2⟩
          · go_enter Tryz.func106, Tryz.ntmps106
            go_wp2_with fail
            refine (H2 _).mono ?_
            rintro e w' ⟨rfl, rfl⟩
            go_wp2
            go_ret
            exact ⟨rfl, rfl⟩
          · go_enter Tryz.func106, Tryz.ntmps106
            go_wp2_with fail
            refine (H2 _).mono ?_
            rintro e w' ⟨rfl, rfl⟩
            go_wp2
            go_ret
            exact ⟨rfl, rfl⟩
        · have g3 : ((B : Int) == (x : Int)) = false := by simpa [bne] using g1
          have g4 : ((B : Int) == (y : Int)) = true := by simpa [bne] using g2
          rcases f1 with f1 | ⟨f1, f2⟩
          · go_enter Tryz.func106, Tryz.ntmps106
            go_wp2_with fail
            refine (H2 _).mono ?_
            rintro e w' ⟨rfl, rfl⟩
            go_wp2
            go_ret
            exact ⟨rfl, rfl⟩
          · go_enter Tryz.func106, Tryz.ntmps106
            go_wp2_with fail
            refine (H2 _).mono ?_
            rintro e w' ⟨rfl, rfl⟩
            go_wp2
            go_ret
            exact ⟨rfl, rfl⟩
      by_cases c1 : C = 43
      · rw [if_pos (.inl c1)]; exact G (.inl (by simp [c1]))
      · by_cases c2 : C = 45
        · rw [if_pos (.inr c2)]; exact G (.inr ⟨beq_eq_false_iff_ne.2 (by omega), by simp [c2]⟩)
        · rw [if_neg (fun h => h.elim c1 c2)]
          have f1 : ((C : Int) == 43) = false := beq_eq_false_iff_ne.2 (by omega)
          have f2 : ((C : Int) == 45) = false := beq_eq_false_iff_ne.2 (by omega)
          clear c1 c2 G two
          rcases g with g1 | ⟨g1, g2⟩
          · have g3 : ((B : Int) == (x : Int)) = true := by simpa [bne] using g1
            go_enter Tryz.func106, Tryz.ntmps106
            go_wp2_with fail
            refine (H1 _).mono ?_
            rintro e w' ⟨rfl, rfl⟩
            go_wp2
            go_ret
            exact ⟨rfl, rfl⟩
          · have g3 : ((B : Int) == (x : Int)) = false := by simpa [bne] using g1
            have g4 : ((B : Int) == (y : Int)) = true := by simpa [bne] using g2
            go_enter Tryz.func106, Tryz.ntmps106
            go_wp2_with fail
            refine (H1 _).mono ?_
            rintro e w' ⟨rfl, rfl⟩
            go_wp2
            go_ret
            exact ⟨rfl, rfl⟩
    by_cases b1 : B = x
    · rw [decide_eq_true (.inl b1), Bool.true_and]
      exact one (.inl (by simp [b1]))
    · by_cases b2 : B = y
      · rw [decide_eq_true (.inr b2), Bool.true_and]
        exact one (.inr ⟨by simp; omega, by simp [b2]⟩)
      · rw [decide_eq_false (fun h => h.elim b1 b2), Bool.false_and]
        exact two (by simp; omega) (by simp; omega)
  · have h2' : (s.size : Int) < 2 := by omega
    have hv : Nm.power c d (bl s) = false := by
      unfold Nm.power
      have hl : (bl s).length ≤ 1 := by rw [bl_size]; omega
      have : (bl s).tail = [] := List.eq_nil_of_length_eq_zero (by rw [List.length_tail]; omega)
      rw [this]; simp [Nm.expo, Nm.sg, Nm.whole, Nm.hd]
    rw [hv]
    clear hv
    go_enter Tryz.func106, Tryz.ntmps106
    go_wp2
    go_ret
    exact ⟨rfl, rfl⟩
end Go.Proofs.YtklmiabgalanhaaGreatDoor

/- Contracts of the reference of numbers: pointed, Int. -/
namespace Go.Proofs.YtklmiabgalanhaaGreatDoor
open Go.RowKit Em
set_option maxRecDepth 100000
set_option linter.unusedVariables false
set_option linter.unusedSimpArgs false

theorem under_from (s : ByteArray) (a b : Nat) (w : World) (hb : b ≤ 16) (hs : s.size ≤ 4611686018427387000) :
    Calls Tryz.prog 104 #[.string (s.extract a s.size), .int .i64 b] w fun e w' => e = .returned (.bool (Nm.under b ((bl s).drop a))) ∧ w = w' := by
  have := under_any (s.extract a s.size) b w hb (Nat.le_trans (size_from s a) hs)
  rw [bl_from] at this; exact this
theorem under_to (s : ByteArray) (a b : Nat) (w : World) (hb : b ≤ 16) (hs : s.size ≤ 4611686018427387000) :
    Calls Tryz.prog 104 #[.string (s.extract 0 a), .int .i64 b] w fun e w' => e = .returned (.bool (Nm.under b ((bl s).take a))) ∧ w = w' := by
  have := under_any (s.extract 0 a) b w hb (Nat.le_trans (size_to s a) hs)
  rw [bl_to] at this; exact this

theorem no46 {b : Nat} (hb : b ≤ 16) {hex : Bool} {x y : List UInt8} (h : Nm.cuts b hex x y = true) : 46 ∉ x := by
  have hR : ∀ {z}, Nm.R b z = true → 46 ∉ z := by
    intro z hz hm
    rcases Nm.R_mem z hz 46 hm with h | h
    · exact absurd h (by show ¬ 16 < b; omega)
    · exact absurd h (by decide)
  intro hm
  simp only [Nm.cuts, Nm.front, Bool.or_eq_true, Bool.and_eq_true, List.isEmpty_iff] at h
  rcases h with ⟨h | ⟨_, h⟩, _⟩ | ⟨h, _⟩
  · exact hR h hm
  · rcases Nm.under_cases h with h1 | ⟨u, rfl, h1⟩
    · exact hR h1 hm
    · rcases List.mem_cons.1 hm with h' | h'
      · exact absurd h' (by decide)
      · exact hR h1 h'
  · subst h; cases hm

theorem cut_unique {x y x' y' : List UInt8} (h : x ++ 46 :: y = x' ++ 46 :: y') (h1 : 46 ∉ x) (h2 : 46 ∉ x') : x = x' ∧ y = y' := by
  induction x generalizing x' with
  | nil =>
    match x', h, h2 with
    | [], h, _ => exact ⟨rfl, (List.cons.inj h).2⟩
    | c :: x', h, h2 => exact absurd (by rw [(List.cons.inj h).1]; exact List.mem_cons_self ..) h2
  | cons c x ih =>
    match x', h, h2 with
    | [], h, _ => exact absurd (by rw [(List.cons.inj h).1]; exact List.mem_cons_self ..) h1
    | d :: x', h, h2 =>
      obtain ⟨e1, e2⟩ := List.cons.inj h
      obtain ⟨a, b⟩ := ih e2 (fun m => h1 (List.mem_cons_of_mem _ m)) (fun m => h2 (List.mem_cons_of_mem _ m))
      exact ⟨by rw [e1, a], b⟩

theorem pointed_iff {b : Nat} (hb : b ≤ 16) {hex : Bool} {x y : List UInt8} (h1 : 46 ∉ x) : Nm.pointed b hex (x ++ 46 :: y) ↔ Nm.cuts b hex x y = true := by
  constructor
  · rintro ⟨x', y', h, hc⟩
    obtain ⟨rfl, rfl⟩ := cut_unique h h1 (no46 hb hc)
    exact hc
  · exact fun h => ⟨x, y, rfl, h⟩
theorem pointed_no {b : Nat} {hex : Bool} {l : List UInt8} (h : 46 ∉ l) : ¬ Nm.pointed b hex l := by
  rintro ⟨x, y, rfl, _⟩
  exact h (by simp)

theorem take_mem (s : ByteArray) (k : Nat) (h : ∀ j, j < k → byN s j ≠ 46) (hk : k ≤ s.size) : 46 ∉ (bl s).take k := by
  intro hm
  obtain ⟨j, hj, he⟩ := List.mem_iff_getElem.1 hm
  rw [List.length_take, bl_size] at hj
  have hjk : j < k := by omega
  have hjs : j < s.size := by omega
  rw [List.getElem_take] at he
  have h2 := bl_get s j hjs
  rw [List.getElem?_eq_getElem (by rw [bl_size]; omega), he] at h2
  have := h j hjk
  rw [← byN_get s j hjs, ← Option.some.inj h2] at this
  exact this rfl

theorem cut_at (s : ByteArray) (k : Nat) (hk : k < s.size) (h : byN s k = 46) : bl s = (bl s).take k ++ 46 :: (bl s).drop (k + 1) := by
  have := bl_drop s k hk
  have e : s[k]'hk = 46 := UInt8.toNat_inj.1 (by rw [byN_get s k hk, h]; rfl)
  rw [e] at this
  rw [← this, List.take_append_drop]

theorem ext_empty (s : ByteArray) (a b : Nat) : ((s.extract a b).toList == []) = (bl (s.extract a b)).isEmpty := by
  have e : (s.extract a b).toList = bl (s.extract a b) := by rw [Lib.extract_toList, ← Lib.extract_data]; rfl
  rw [e, Bool.eq_iff_iff, beq_iff_eq, List.isEmpty_iff]

noncomputable def ptB (b : Nat) (hex : Bool) (l : List UInt8) : Bool := @decide (Nm.pointed b hex l) (Classical.propDecidable _)
theorem ptB_iff {b : Nat} {hex : Bool} {l : List UInt8} : ptB b hex l = true ↔ Nm.pointed b hex l := @decide_eq_true_iff _ (Classical.propDecidable _)
theorem ptB_of {b : Nat} {hex : Bool} {l : List UInt8} {v : Bool} (h : Nm.pointed b hex l ↔ v = true) : v = ptB b hex l := by
  rw [Bool.eq_iff_iff, ptB_iff]; exact h.symm

set_option maxHeartbeats 2000000 in
theorem pointed_any (s : ByteArray) (b : Nat) (hex : Bool) (w : World) (hb : b ≤ 16) (hs : s.size ≤ 4611686018427387000) :
    Calls Tryz.prog 107 #[.string s, .int .i64 b, .bool hex] w fun e w' => e = .returned (.bool (ptB b hex (bl s))) ∧ w = w' := by
  go_enter Tryz.func107, Tryz.ntmps107
  go_wp2
  go_loop [7] (fun i => ∃ k : Nat, k ≤ s.size ∧ i = .int .i64 k ∧ ∀ j, j < k → byN s j ≠ 46) (fun i => s.size - (intOf i).toNat)
  case atStart => exact ⟨0, by omega, rfl, fun j hj => by omega⟩
  case round =>
    obtain ⟨k, hk, rfl, hno⟩ := hrel
    have Hno := Lib.hid hno
    clear hno
    by_cases hlt : k < s.size
    · have e1 := byN_get s k hlt
      have l1 := byN_lt s k
      have b0 : (0 : Int) ≤ (k : Int) := by omega
      have b1 : (k : Int) < (s.size : Int) := by omega
      have b2 : (k : Int) ≤ (s.size : Int) := by omega
      have b3 : (k : Int) + 1 ≤ (s.size : Int) := by omega
      have b4 : (0 : Int) ≤ (k : Int) + 1 := by omega
      by_cases hc : byN s k = 46
      · have hcut := cut_at s k hlt hc
        have hfin : Nm.pointed b hex (bl s) ↔ Nm.cuts b hex ((bl s).take k) ((bl s).drop (k + 1)) = true := by
          conv => lhs; rw [hcut]
          exact pointed_iff hb (take_mem s k Hno.out hk)
        have Hfin := Lib.hid (ptB_of hfin)
        have HA := fun w => rrow_to s k b w hb hs
        have HU := fun w => under_to s k b w hb hs
        have HB := fun w => rrow_from s (k + 1) b w hb hs
        have xa := ext_empty s 0 k
        have xb := ext_empty s (k + 1) s.size
        rw [bl_to] at xa
        rw [bl_from] at xb
        rw [hc] at e1
        clear hfin hcut hc l1 Hno
        unfold Nm.cuts Nm.front at Hfin
        generalize (bl s).take k = X at Hfin HA HU xa
        generalize (bl s).drop (k + 1) = Y at Hfin HB xb
        generalize Nm.R b X = vX at HA Hfin
        generalize Nm.under b X = vU at HU Hfin
        generalize Nm.R b Y = vY at HB Hfin
        generalize X.isEmpty = zX at xa Hfin
        generalize Y.isEmpty = zY at xb Hfin
        have HF : Hid ((((vX || (hex && vU)) && (zY || vY)) || (zX && vY)) = ptB b hex (bl s)) := Hfin
        clear Hfin
        cases vX with
        | true =>
          cases zY with
          | true =>
            go_wp2_with fail
            refine (HA _).mono ?_
            rintro e w' ⟨rfl, rfl⟩
            clear HA HU
            go_wp2
            go_ret
            exact ⟨nret_bool (by rw [← HF.out]; simp), rfl⟩
          | false =>
            cases vY with
            | true =>
              go_wp2_with fail
              refine (HA _).mono ?_
              rintro e w' ⟨rfl, rfl⟩
              clear HA HU
              go_wp2_with fail
              refine (HB _).mono ?_
              rintro e w' ⟨rfl, rfl⟩
              go_wp2
              go_ret
              exact ⟨nret_bool (by rw [← HF.out]; simp), rfl⟩
            | false =>
              cases zX with
              | true =>
                go_wp2_with fail
                refine (HA _).mono ?_
                rintro e w' ⟨rfl, rfl⟩
                clear HA HU
                go_wp2_with fail
                refine (HB _).mono ?_
                rintro e w' ⟨rfl, rfl⟩
                go_wp2_with fail
                refine (HB _).mono ?_
                rintro e w' ⟨rfl, rfl⟩
                go_wp2
                go_ret
                exact ⟨nret_bool (by rw [← HF.out]; simp), rfl⟩
              | false =>
                go_wp2_with fail
                refine (HA _).mono ?_
                rintro e w' ⟨rfl, rfl⟩
                clear HA HU
                go_wp2_with fail
                refine (HB _).mono ?_
                rintro e w' ⟨rfl, rfl⟩
                go_wp2
                go_ret
                exact ⟨nret_bool (by rw [← HF.out]; simp), rfl⟩
        | false =>
          cases hex with
          | true =>
            cases vU with
            | true =>
              cases zY with
              | true =>
                go_wp2_with fail
                refine (HA _).mono ?_
                rintro e w' ⟨rfl, rfl⟩
                go_wp2_with fail
                refine (HU _).mono ?_
                rintro e w' ⟨rfl, rfl⟩
                clear HA HU
                go_wp2
                go_ret
                exact ⟨nret_bool (by rw [← HF.out]; simp), rfl⟩
              | false =>
                cases vY with
                | true =>
                  go_wp2_with fail
                  refine (HA _).mono ?_
                  rintro e w' ⟨rfl, rfl⟩
                  go_wp2_with fail
                  refine (HU _).mono ?_
                  rintro e w' ⟨rfl, rfl⟩
                  clear HA HU
                  go_wp2_with fail
                  refine (HB _).mono ?_
                  rintro e w' ⟨rfl, rfl⟩
                  go_wp2
                  go_ret
                  exact ⟨nret_bool (by rw [← HF.out]; simp), rfl⟩
                | false =>
                  cases zX with
                  | true =>
                    go_wp2_with fail
                    refine (HA _).mono ?_
                    rintro e w' ⟨rfl, rfl⟩
                    go_wp2_with fail
                    refine (HU _).mono ?_
                    rintro e w' ⟨rfl, rfl⟩
                    clear HA HU
                    go_wp2_with fail
                    refine (HB _).mono ?_
                    rintro e w' ⟨rfl, rfl⟩
                    go_wp2_with fail
                    refine (HB _).mono ?_
                    rintro e w' ⟨rfl, rfl⟩
                    go_wp2
                    go_ret
                    exact ⟨nret_bool (by rw [← HF.out]; simp), rfl⟩
                  | false =>
                    go_wp2_with fail
                    refine (HA _).mono ?_
                    rintro e w' ⟨rfl, rfl⟩
                    go_wp2_with fail
                    refine (HU _).mono ?_
                    rintro e w' ⟨rfl, rfl⟩
                    clear HA HU
                    go_wp2_with fail
                    refine (HB _).mono ?_
                    rintro e w' ⟨rfl, rfl⟩
                    go_wp2
                    go_ret
                    exact ⟨nret_bool (by rw [← HF.out]; simp), rfl⟩
            | false =>
              cases zX with
              | true =>
                go_wp2_with fail
                refine (HA _).mono ?_
                rintro e w' ⟨rfl, rfl⟩
                go_wp2_with fail
                refine (HU _).mono ?_
                rintro e w' ⟨rfl, rfl⟩
                clear HA HU
                go_wp2_with fail
                refine (HB _).mono ?_
                rintro e w' ⟨rfl, rfl⟩
                go_wp2
                go_ret
                exact ⟨nret_bool (by rw [← HF.out]; simp), rfl⟩
              | false =>
                go_wp2_with fail
                refine (HA _).mono ?_
                rintro e w' ⟨rfl, rfl⟩
                go_wp2_with fail
                refine (HU _).mono ?_
                rintro e w' ⟨rfl, rfl⟩
                clear HA HU
                go_wp2
                go_ret
                exact ⟨nret_bool (by rw [← HF.out]; simp), rfl⟩
          | false =>
            cases zX with
            | true =>
              go_wp2_with fail
              refine (HA _).mono ?_
              rintro e w' ⟨rfl, rfl⟩
              clear HA HU
              go_wp2_with fail
              refine (HB _).mono ?_
              rintro e w' ⟨rfl, rfl⟩
              go_wp2
              go_ret
              exact ⟨nret_bool (by rw [← HF.out]; simp), rfl⟩
            | false =>
              go_wp2_with fail
              refine (HA _).mono ?_
              rintro e w' ⟨rfl, rfl⟩
              clear HA HU
              go_wp2
              go_ret
              exact ⟨nret_bool (by rw [← HF.out]; simp), rfl⟩
      · have d1 : ((byN s k : Int) != 46) = true := by simp; omega
        have d2 : ((byN s k : Int) == 46) = false := beq_eq_false_iff_ne.2 (by omega)
        have hk2 : ∀ j, j < k + 1 → byN s j ≠ 46 := by
          intro j hj
          by_cases e : j = k
          · subst e; exact hc
          · exact Hno.out j (by omega)
        have Hk2 := Lib.hid hk2
        clear hk2 Hno hc
        generalize byN s k = C at e1 l1 d1 d2
        go_wp2
        go_round
        case rel => exact ⟨k + 1, by omega, by go_num, Hk2.out⟩
        case measure => simp [intOf]; omega
    · obtain rfl : k = s.size := by omega
      have hfin : ¬ Nm.pointed b hex (bl s) := pointed_no (by
        have := take_mem s s.size Hno.out hk
        rwa [List.take_of_length_le (by rw [bl_size]; omega)] at this)
      have Hfin := Lib.hid (ptB_of (v := false) (by simp [hfin] : Nm.pointed b hex (bl s) ↔ false = true))
      clear hfin Hno
      go_wp2
      go_ret
      exact ⟨nret_bool Hfin.out, rfl⟩
end Go.Proofs.YtklmiabgalanhaaGreatDoor

