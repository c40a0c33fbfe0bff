/- Contracts of the reference's Base and number (quoted). -/
import Derived.Test.YtdpngmhjdafdpaaQuFixed
import Derived.Test.YtdpngmhjdafdpaaRefRead
import Derived.Test.YtdpngmhjdafdpaaClassMath
namespace Go.Proofs.Ytdpngmhjdafdpaa
open Go.RowKit Em
set_option linter.unusedVariables false
set_option linter.unusedSimpArgs false

def upN (k : Nat) : Nat := if k < 10 then 48 + k else 55 + k
def loN (k : Nat) : Nat := if k < 10 then 48 + k else 87 + k
theorem up_at : ∀ k : Fin 16, Um.byt ⟨#[48, 49, 50, 51, 52, 53, 54, 55, 56, 57, 65, 66, 67, 68, 69, 70]⟩ k.1 = upN k.1 := by decide +kernel
theorem lo_at : ∀ k : Fin 16, Um.byt ⟨#[48, 49, 50, 51, 52, 53, 54, 55, 56, 57, 97, 98, 99, 100, 101, 102]⟩ k.1 = loN k.1 := by decide +kernel

theorem base_hit {r : Int} {k : Nat} (hk : k < 16) (h : (upN k : Int) = r ∨ (loN k : Int) = r) : Cm.base r = k := by
  unfold upN loN at h
  unfold Cm.base
  by_cases h10 : k < 10
  · rw [if_pos h10, if_pos h10] at h
    rw [if_pos (by omega)]; omega
  · rw [if_neg h10, if_neg h10] at h
    rw [if_neg (by omega)]
    rcases h with h | h
    · rw [if_pos (by omega)]; omega
    · rw [if_neg (by omega), if_pos (by omega)]; omega

theorem base_none {r : Int} (h : ∀ j, j < 16 → (upN j : Int) ≠ r ∧ (loN j : Int) ≠ r) : Cm.base r = -1 := by
  unfold Cm.base
  rw [if_neg, if_neg, if_neg]
  · intro hr
    have := (h (r - 87).toNat (by omega)).2
    unfold loN at this
    rw [if_neg (by omega)] at this
    omega
  · intro hr
    have := (h (r - 55).toNat (by omega)).1
    unfold upN at this
    rw [if_neg (by omega)] at this
    omega
  · intro hr
    have := (h (r - 48).toNat (by omega)).1
    unfold upN at this
    rw [if_pos (by omega)] at this
    omega

theorem ret_int {k : IntKind} {a b : Int} (h : a = b) : Ending.returned (.int k a) = .returned (.int k b) := by rw [h]

set_option maxRecDepth 100000 in
set_option maxHeartbeats 2000000 in
theorem rbase_any (r : Int) (w : World) :
    Calls Try.prog 83 #[.int .i64 r] w fun e w' => e = .returned (.int .i64 (Cm.base r)) ∧ w = w' := by
  go_enter Try.func83, Try.ntmps83
  go_wp2
  go_loop [5] (fun i => ∃ k : Nat, k ≤ 16 ∧ i = .int .i64 k ∧ ∀ j, j < k → (upN j : Int) ≠ r ∧ (loN j : Int) ≠ r) (fun i => 16 - (intOf i).toNat)
  case atStart => exact ⟨0, by omega, rfl, fun j hj => by omega⟩
  case round =>
    obtain ⟨k, hk, rfl, hno⟩ := hrel
    have Hno := Lib.hid hno
    clear hno
    by_cases hlt : k < 16
    · have e1 := (get_byt ⟨#[48, 49, 50, 51, 52, 53, 54, 55, 56, 57, 65, 66, 67, 68, 69, 70]⟩ k hlt).trans (up_at ⟨k, hlt⟩)
      have e2 := (get_byt ⟨#[48, 49, 50, 51, 52, 53, 54, 55, 56, 57, 97, 98, 99, 100, 101, 102]⟩ k hlt).trans (lo_at ⟨k, hlt⟩)
      have u1 : upN k < 256 := by unfold upN; split <;> omega
      have u2 : loN k < 256 := by unfold loN; split <;> omega
      have b0 : (0 : Int) ≤ (k : Int) := by omega
      have b1 : (k : Int) < 16 := by omega
      have d1 : decide ((k : Int) < 16) = true := by simp; omega
      cases hm : ((upN k : Int) == r) with
      | true =>
        have hfin : Cm.base r = k := base_hit hlt (.inl (beq_iff_eq.1 hm))
        have Hfin := Lib.hid hfin
        clear hfin
        generalize upN k = u at e1 u1 hm
        generalize loN k = v at e2 u2
        go_wp2
        go_ret
        exact ⟨ret_int Hfin.out.symm, rfl⟩
      | false =>
        cases hm2 : ((loN k : Int) == r) with
        | true =>
          have hfin : Cm.base r = k := base_hit hlt (.inr (beq_iff_eq.1 hm2))
          have Hfin := Lib.hid hfin
          clear hfin
          generalize upN k = u at e1 u1 hm
          generalize loN k = v at e2 u2 hm2
          go_wp2
          go_ret
          exact ⟨ret_int Hfin.out.symm, rfl⟩
        | false =>
          have hk2 : ∀ j, j < k + 1 → (upN j : Int) ≠ r ∧ (loN j : Int) ≠ r := by
            intro j hj
            by_cases e : j = k
            · subst e; exact ⟨beq_eq_false_iff_ne.1 hm, beq_eq_false_iff_ne.1 hm2⟩
            · exact Hno.out j (by omega)
          have Hk2 := Lib.hid hk2
          clear hk2 Hno
          generalize upN k = u at e1 u1 hm
          generalize loN k = v at e2 u2 hm2
          go_wp2
          go_round
          case rel => exact ⟨k + 1, by omega, by go_num, Hk2.out⟩
          case measure => simp [intOf]; omega
    · have hfin : Cm.base r = -1 := base_none fun j hj => Hno.out j (by omega)
      have Hfin := Lib.hid hfin
      clear hfin
      go_wp2
      go_ret
      exact ⟨ret_int Hfin.out.symm, rfl⟩

theorem rbase_byte (n : Nat) (w : World) :
    Calls Try.prog 83 #[.int .i64 n] w fun e w' => e = .returned (.int .i64 (bsI n)) ∧ w = w' := by
  have h := rbase_any n w
  have e : Cm.base (n : Int) = bsI n := by
    unfold Cm.base bsI
    repeat' split
    all_goals omega
  rw [e] at h
  exact h

/-- What the reference's number answers. -/
def rnumV (b k : Nat) (l : List UInt8) : Int := match Qm.numA b k 0 l with | some (n, _) => (n : Int) | none => -1
theorem numA_short {b : Nat} : ∀ (k v : Nat) (l : List UInt8), l.length < k → Qm.numA b k v l = none
  | 0, _, _, h => absurd h (Nat.not_lt_zero _)
  | k + 1, v, [], _ => rfl
  | k + 1, v, c :: l, h => by
    rw [Qm.numA]
    split
    · exact numA_short k _ l (by rw [List.length_cons] at h; omega)
    · rfl

theorem pow_le_32 {b i : Nat} (hb : b ≤ 16) (hi : i ≤ 8) : b ^ i ≤ 4294967296 :=
  Nat.le_trans (Nat.pow_le_pow_left hb i) (Nat.le_trans (Nat.pow_le_pow_right (by decide) hi) (by decide))

set_option maxHeartbeats 2000000 in
theorem rnum_any (s : ByteArray) (p k b : Nat) (w : World) (hp : p ≤ s.size) (hk : k ≤ 8) (hb : b = 8 ∨ b = 16) (hs : s.size ≤ 4611686018427387000) :
    Calls Try.prog 75 #[.string s, .int .i64 p, .int .i64 k, .int .i64 b] w fun e w' => e = .returned (.int .i64 (rnumV b k ((bl s).drop p))) ∧ w = w' := by
  by_cases hlong : s.size < p + k
  · have e1 : rnumV b k ((bl s).drop p) = -1 := by
      unfold rnumV
      rw [numA_short k 0 _ (by rw [List.length_drop, bl_size]; omega)]
    have c1 : (s.size : Int) - (p : Int) < (k : Int) := by omega
    have q1 : IntKind.i64.wrap ((s.size : Int) - (p : Int)) = (s.size : Int) - (p : Int) := IntWalk.i64_in _ (by omega)
    rw [e1]
    clear e1 hlong hb
    go_enter Try.func75, Try.ntmps75
    go_wp2
    go_ret
    exact ⟨rfl, rfl⟩
  · have c1 : ¬ (s.size : Int) - (p : Int) < (k : Int) := by omega
    have q1 : IntKind.i64.wrap ((s.size : Int) - (p : Int)) = (s.size : Int) - (p : Int) := IntWalk.i64_in _ (by omega)
    have hb' : b ≤ 16 ∧ 1 ≤ b := by omega
    obtain ⟨R, hR⟩ : ∃ R, rnumV b k ((bl s).drop p) = R := ⟨_, rfl⟩
    rw [hR]
    have HR := Lib.hid hR
    clear hR
    go_enter Try.func75, Try.ntmps75
    go_wp2
    go_loop [9, 10] (fun a i => ∃ j v : Nat, j ≤ k ∧ i = .int .i64 j ∧ a = .int .i64 v ∧ v < b ^ j ∧ Qm.numA b k 0 ((bl s).drop p) = Qm.numA b (k - j) v ((bl s).drop (p + j))) (fun _ i => k - (intOf i).toNat)
    case atStart => exact ⟨0, 0, by omega, rfl, rfl, by rw [Nat.pow_zero]; omega, rfl⟩
    case round =>
      obtain ⟨j, v, hj, rfl, rfl, hv, hn⟩ := hrel
      have h32 := pow_le_32 (i := j) hb'.1 (by omega)
      have b0 : (0 : Int) ≤ (j : Int) := by omega
      by_cases hlt : j < k
      · obtain ⟨X, hX⟩ : ∃ X, p + j = X := ⟨_, rfl⟩
        have hpj : X < s.size := by omega
        have hd := bl_drop' s X hpj
        have x0 : (p : Int) + (j : Int) = (X : Int) := by omega
        have x1 : IntKind.i64.wrap (X : Int) = (X : Int) := IntWalk.i64_in _ (by omega)
        have x2 : (0 : Int) ≤ (X : Int) := by omega
        have x3 : (X : Int) < (s.size : Int) := by omega
        have b1 : (j : Int) < (k : Int) := by omega
        obtain ⟨c, hc⟩ : ∃ c, s[X]'hpj = c := ⟨_, rfl⟩
        obtain ⟨C, hC⟩ : ∃ C, c.toNat = C := ⟨_, rfl⟩
        have e1 : (s[X]'hpj).toNat = C := by rw [hc, hC]
        have l1 : C < 256 := by rw [← hC]; exact c.toNat_lt
        have hbs := bsI_dg c
        rw [hC] at hbs
        have HB := fun w => rbase_byte C w
        have HIN : IntKind.i64.wrap (C : Int) = (C : Int) := IntWalk.i64_in _ (by omega)
        obtain ⟨m, hm⟩ : ∃ m, k - j = m + 1 := ⟨k - j - 1, by omega⟩
        rw [hX, hd, hc, hm] at hn
        simp only [Qm.numA] at hn
        by_cases hdg : Nm.dg c < b
        · rw [if_pos hdg] at hn
          rw [hbs.1 (by omega)] at HB
          obtain ⟨D, hD⟩ : ∃ D, Nm.dg c = D := ⟨_, rfl⟩
          rw [hD] at hdg hn HB
          obtain ⟨P, hP⟩ : ∃ P, v * b = P := ⟨_, rfl⟩
          obtain ⟨M, hM⟩ : ∃ M, P + D = M := ⟨_, rfl⟩
          rw [hP, hM] at hn
          have hPb : P ≤ 4294967296 * 16 := by rw [← hP]; exact Nat.mul_le_mul (by omega) hb'.1
          have hMb : M < b ^ (j + 1) := by
            have h1 : (v + 1) * b ≤ b ^ j * b := Nat.mul_le_mul_right b hv
            rw [Nat.pow_succ]
            rw [Nat.add_mul, Nat.one_mul] at h1
            omega
          have y0 : (v : Int) * (b : Int) = (P : Int) := by rw [← hP, Int.natCast_mul]
          have y1 : IntKind.i64.wrap (P : Int) = (P : Int) := IntWalk.i64_in _ (by omega)
          have y2 : IntKind.i64.wrap (D : Int) = (D : Int) := IntWalk.i64_in _ (by omega)
          have y3 : (P : Int) + (D : Int) = (M : Int) := by omega
          have y4 : IntKind.i64.wrap (M : Int) = (M : Int) := IntWalk.i64_in _ (by omega)
          have z1 : decide ((D : Int) < 0) = false := decide_eq_false (by omega)
          have z2 : decide ((b : Int) ≤ (D : Int)) = false := decide_eq_false (by omega)
          have Hrel := Lib.hid (show M < b ^ (j + 1) ∧ Qm.numA b k 0 ((bl s).drop p) = Qm.numA b (k - (j + 1)) M ((bl s).drop (p + (j + 1))) from ⟨hMb, by
            have t1 : k - (j + 1) = m := by omega
            have t2 : p + (j + 1) = X + 1 := by omega
            rw [hn, t1, t2]⟩)
          clear hn hM hP hMb hPb hv h32 hbs hD hd hm hC hc hb hX hlong
          go_wp2_with fail
          refine (HB _).mono ?_
          rintro e w' ⟨rfl, rfl⟩
          go_wp2
          go_round
          case rel => exact ⟨j + 1, M, by omega, by go_num, rfl, Hrel.out.1, Hrel.out.2⟩
          case measure => simp [intOf]; omega
        · rw [if_neg hdg] at hn
          have hfin : R = -1 := by rw [← HR.out]; unfold rnumV; rw [hn]
          have Hfin := Lib.hid hfin
          clear hn hfin hd hv h32 hm hX hlong
          by_cases h16 : Nm.dg c < 16
          · rw [hbs.1 h16] at HB
            obtain ⟨D, hD⟩ : ∃ D, Nm.dg c = D := ⟨_, rfl⟩
            rw [hD] at hdg HB
            have z1 : decide ((D : Int) < 0) = false := decide_eq_false (by omega)
            have z2 : (b : Int) ≤ (D : Int) := by omega
            have z3 : ¬ (D : Int) < 0 := by omega
            clear hbs hD h16 hdg hb
            go_wp2_with fail
            refine (HB _).mono ?_
            rintro e w' ⟨rfl, rfl⟩
            go_wp2
            go_ret
            exact ⟨by rw [Hfin.out]; rfl, rfl⟩
          · rw [hbs.2 h16] at HB
            clear hbs h16 hdg hb
            go_wp2_with fail
            refine (HB _).mono ?_
            rintro e w' ⟨rfl, rfl⟩
            go_wp2
            go_ret
            exact ⟨by rw [Hfin.out]; rfl, rfl⟩
      · obtain rfl : j = k := by omega
        rw [Nat.sub_self] at hn
        have hfin : R = (v : Int) := by rw [← HR.out]; unfold rnumV; rw [hn]; rfl
        have Hfin := Lib.hid hfin
        clear hn hfin hv h32 hlong hb
        go_wp2
        go_ret
        exact ⟨by rw [Hfin.out]; rfl, rfl⟩
end Go.Proofs.Ytdpngmhjdafdpaa
