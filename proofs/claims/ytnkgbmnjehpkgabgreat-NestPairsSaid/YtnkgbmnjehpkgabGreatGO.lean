/- A strings.Builder that the call has made (layer 6): copyCheck and String by the library's contracts, WriteString and WriteByte walked. -/
import Derived.Shelf.Strings.Builder1
import Derived.Test.YtnkgbmnjehpkgabGreatGN
import Derived.Test.YtnkgbmnjehpkgabGreatGL
import Derived.Test.YtnkgbmnjehpkgabGreatGS
import Derived.Test.YtnkgbmnjehpkgabGreatGD
import Derived.Test.YtnkgbmnjehpkgabGreatGA
namespace Go.Proofs.YtnkgbmnjehpkgabGreat
open Go.Shelf Go.RowKit Em
set_option maxRecDepth 100000
set_option linter.unusedVariables false
set_option linter.unusedSimpArgs false






end Go.Proofs.YtnkgbmnjehpkgabGreat

/- Contract of quoted.Quote. -/
namespace Go.Proofs.YtnkgbmnjehpkgabGreat
open Go.Shelf Go.RowKit Em
set_option maxRecDepth 100000
set_option linter.unusedVariables false
set_option linter.unusedSimpArgs false

def hxN (k : Nat) : Nat := if k < 10 then 48 + k else 87 + k
theorem hx_at : ∀ k : Fin 16, byN ⟨#[48, 49, 50, 51, 52, 53, 54, 55, 56, 57, 97, 98, 99, 100, 101, 102]⟩ k.1 = hxN k.1 := by decide +kernel

/-- What a byte is put as. -/
def qb (c : UInt8) : List UInt8 :=
  if c.toNat = 34 ∨ c.toNat = 92 then [92, c] else if c.toNat = 10 then [92, 110] else if 32 ≤ c.toNat ∧ c.toNat ≤ 126 then [c]
  else [92, 120, UInt8.ofNat (hxN (c.toNat / 16)), UInt8.ofNat (hxN (c.toNat % 16))]
def qs (l : List UInt8) : List UInt8 := l.flatMap qb
def quoteL (l : List UInt8) : List UInt8 := 34 :: (qs l ++ [34])

theorem qb_len (c : UInt8) : (qb c).length ≤ 4 := by
  unfold qb
  repeat' split
  all_goals simp
theorem qs_len : ∀ l : List UInt8, (qs l).length ≤ 4 * l.length
  | [] => by simp [qs]
  | c :: l => by
    have h1 := qb_len c
    have h2 := qs_len l
    unfold qs at *
    rw [List.flatMap_cons, List.length_append, List.length_cons]; omega
theorem qs_snoc (l : List UInt8) (c : UInt8) : qs (l ++ [c]) = qs l ++ qb c := by simp [qs]

theorem take_snoc' (s : ByteArray) (k : Nat) (h : k < s.size) : ∃ c : UInt8, (bl s).take (k + 1) = (bl s).take k ++ [c] ∧ c.toNat = byN s k := by
  have hl : k < (bl s).length := by rw [bl_size]; exact h
  refine ⟨(bl s)[k], List.take_succ_eq_append_getElem hl, ?_⟩
  have := bl_get s k h
  rw [List.getElem?_eq_getElem hl] at this
  rw [Option.some.inj this, byN_get s k h]

theorem bc_snoc (l : List UInt8) (n : Nat) (h : n < 256) : Lib.byteCells l ++ [.int .u8 (n : Int)] = Lib.byteCells (l ++ [UInt8.ofNat n]) := by
  unfold Lib.byteCells
  rw [List.map_append, List.map_cons, List.map_nil, Um.toNat_ofNat h]
theorem bc_str (l : List UInt8) (x : ByteArray) : Lib.byteCells l ++ Lib.strCells x = Lib.byteCells (l ++ bl x) := by
  unfold Lib.byteCells Lib.strCells
  rw [List.map_append]; rfl
theorem bc_len (l : List UInt8) : (Lib.byteCells l).length = l.length := by simp [Lib.byteCells]

end Go.Proofs.YtnkgbmnjehpkgabGreat

/- The document's examples; the walks of the laws QuotedFound, QuotedJoins. -/
namespace Go.Proofs.YtnkgbmnjehpkgabGreat
open Go.Shelf Go.RowKit Em
set_option maxRecDepth 100000
set_option linter.unusedVariables false
set_option linter.unusedSimpArgs false

theorem ex_a : Qm.whole [39, 97, 39] = some (6, [97], []) := by
  rw [Qm.whole39]
  have h1 : Qm.rd [97, 39] = some (97, [39]) := by
    have := Qm.rd_form (c := 97) (Qm.ok_small (by omega)) [39]
    rw [Qm.fm_small (by omega)] at this
    exact this
  have h2 : Qm.rune [97, 39] = some ([97], []) := by
    unfold Qm.rune
    rw [if_neg (by decide), h1]
    simp only [if_neg (show ¬ ((97 : Nat) = 39 ∨ (97 : Nat) = 10) by omega)]
    rw [Qm.close_yes, Qm.fm_small (by omega)]
    rfl
  rw [h2]; rfl
theorem fm_255 : Qm.fm 255 = [195, 191] := by
  rw [Qm.fm_eq, Um.form_list (Qm.ok_small (by omega))]
  decide
theorem ex_b : Qm.whole [39, 92, 51, 55, 55, 39] = some (6, [195, 191], []) := by
  rw [Qm.whole39]
  have h1 : Qm.esc 39 [51, 55, 55, 39] = some (255, true, [39]) := by decide
  have h2 : Qm.rune [92, 51, 55, 55, 39] = some ([195, 191], []) := by
    unfold Qm.rune
    rw [if_pos (by decide)]
    show (match Qm.esc 39 [51, 55, 55, 39] with | some (n, _, r) => Qm.close 39 (Qm.fm n) r | none => none) = _
    rw [h1]
    simp only []
    rw [Qm.close_yes, fm_255]
  rw [h2]; rfl
theorem ex_c : Qm.whole [34, 92, 51, 55, 55, 34] = some (7, [255], []) := by decide
theorem ex_d : txt (quoteL (bl ⟨#[97, 10, 255]⟩)) = ⟨#[34, 97, 92, 110, 92, 120, 102, 102, 34]⟩ := by decide +kernel

theorem bl_b : bl ⟨#[39, 92, 51, 55, 55, 39]⟩ = [39, 92, 51, 55, 55, 39] := rfl
theorem bl_c : bl ⟨#[34, 92, 51, 55, 55, 34]⟩ = [34, 92, 51, 55, 55, 34] := rfl
theorem bl_a : (bl ⟨#[120, 39, 97, 39]⟩).drop 1 = [39, 97, 39] := rfl


end Go.Proofs.YtnkgbmnjehpkgabGreat

/- Contracts of the reference's Base and number (quoted). -/
namespace Go.Proofs.YtnkgbmnjehpkgabGreat
open Go.RowKit Em
set_option maxRecDepth 100000
set_option linter.unusedVariables false
set_option linter.unusedSimpArgs false

def upN (k : Nat) : Nat := if k < 10 then 48 + k else 55 + k
def loN (k : Nat) : Nat := if k < 10 then 48 + k else 87 + k
theorem up_at : ∀ k : Fin 16, Um.byt ⟨#[48, 49, 50, 51, 52, 53, 54, 55, 56, 57, 65, 66, 67, 68, 69, 70]⟩ k.1 = upN k.1 := by decide +kernel
theorem lo_at : ∀ k : Fin 16, Um.byt ⟨#[48, 49, 50, 51, 52, 53, 54, 55, 56, 57, 97, 98, 99, 100, 101, 102]⟩ k.1 = loN k.1 := by decide +kernel

theorem base_hit {r : Int} {k : Nat} (hk : k < 16) (h : (upN k : Int) = r ∨ (loN k : Int) = r) : Cm.base r = k := by
  unfold upN loN at h
  unfold Cm.base
  by_cases h10 : k < 10
  · rw [if_pos h10, if_pos h10] at h
    rw [if_pos (by omega)]; omega
  · rw [if_neg h10, if_neg h10] at h
    rw [if_neg (by omega)]
    rcases h with h | h
    · rw [if_pos (by omega)]; omega
    · rw [if_neg (by omega), if_pos (by omega)]; omega

theorem base_none {r : Int} (h : ∀ j, j < 16 → (upN j : Int) ≠ r ∧ (loN j : Int) ≠ r) : Cm.base r = -1 := by
  unfold Cm.base
  rw [if_neg, if_neg, if_neg]
  · intro hr
    have := (h (r - 87).toNat (by omega)).2
    unfold loN at this
    rw [if_neg (by omega)] at this
    omega
  · intro hr
    have := (h (r - 55).toNat (by omega)).1
    unfold upN at this
    rw [if_neg (by omega)] at this
    omega
  · intro hr
    have := (h (r - 48).toNat (by omega)).1
    unfold upN at this
    rw [if_pos (by omega)] at this
    omega

theorem qret_int {k : IntKind} {a b : Int} (h : a = b) : Ending.returned (.int k a) = .returned (.int k b) := by rw [h]

set_option maxRecDepth 100000 in
set_option maxHeartbeats 2000000 in
theorem rbase_any (r : Int) (w : World) :
    Calls Tryz.prog 122 #[.int .i64 r] w fun e w' => e = .returned (.int .i64 (Cm.base r)) ∧ w = w' := by
  go_enter Tryz.func122, Tryz.ntmps122
  go_wp2
  go_loop [5] (fun i => ∃ k : Nat, k ≤ 16 ∧ i = .int .i64 k ∧ ∀ j, j < k → (upN j : Int) ≠ r ∧ (loN j : Int) ≠ r) (fun i => 16 - (intOf i).toNat)
  case atStart => exact ⟨0, by omega, rfl, fun j hj => by omega⟩
  case round =>
    obtain ⟨k, hk, rfl, hno⟩ := hrel
    have Hno := Lib.hid hno
    clear hno
    by_cases hlt : k < 16
    · have e1 := (get_byt ⟨#[48, 49, 50, 51, 52, 53, 54, 55, 56, 57, 65, 66, 67, 68, 69, 70]⟩ k hlt).trans (up_at ⟨k, hlt⟩)
      have e2 := (get_byt ⟨#[48, 49, 50, 51, 52, 53, 54, 55, 56, 57, 97, 98, 99, 100, 101, 102]⟩ k hlt).trans (lo_at ⟨k, hlt⟩)
      have u1 : upN k < 256 := by unfold upN; split <;> omega
      have u2 : loN k < 256 := by unfold loN; split <;> omega
      have b0 : (0 : Int) ≤ (k : Int) := by omega
      have b1 : (k : Int) < 16 := by omega
      have d1 : decide ((k : Int) < 16) = true := by simp; omega
      cases hm : ((upN k : Int) == r) with
      | true =>
        have hfin : Cm.base r = k := base_hit hlt (.inl (beq_iff_eq.1 hm))
        have Hfin := Lib.hid hfin
        clear hfin
        generalize upN k = u at e1 u1 hm
        generalize loN k = v at e2 u2
        go_wp2
        go_ret
        exact ⟨qret_int Hfin.out.symm, rfl⟩
      | false =>
        cases hm2 : ((loN k : Int) == r) with
        | true =>
          have hfin : Cm.base r = k := base_hit hlt (.inr (beq_iff_eq.1 hm2))
          have Hfin := Lib.hid hfin
          clear hfin
          generalize upN k = u at e1 u1 hm
          generalize loN k = v at e2 u2 hm2
          go_wp2
          go_ret
          exact ⟨qret_int Hfin.out.symm, rfl⟩
        | false =>
          have hk2 : ∀ j, j < k + 1 → (upN j : Int) ≠ r ∧ (loN j : Int) ≠ r := by
            intro j hj
            by_cases e : j = k
            · subst e; exact ⟨beq_eq_false_iff_ne.1 hm, beq_eq_false_iff_ne.1 hm2⟩
            · exact Hno.out j (by omega)
          have Hk2 := Lib.hid hk2
          clear hk2 Hno
          generalize upN k = u at e1 u1 hm
          generalize loN k = v at e2 u2 hm2
          go_wp2
          go_round
          case rel => exact ⟨k + 1, by omega, by go_num, Hk2.out⟩
          case measure => simp [intOf]; omega
    · have hfin : Cm.base r = -1 := base_none fun j hj => Hno.out j (by omega)
      have Hfin := Lib.hid hfin
      clear hfin
      go_wp2
      go_ret
      exact ⟨qret_int Hfin.out.symm, rfl⟩

theorem rbase_byte (n : Nat) (w : World) :
    Calls Tryz.prog 122 #[.int .i64 n] w fun e w' => e = .returned (.int .i64 (bsI n)) ∧ w = w' := by
  have h := rbase_any n w
  have e : Cm.base (n : Int) = bsI n := by
    unfold Cm.base bsI
    repeat' split
    all_goals omega
  rw [e] at h
  exact h

/-- What the reference's number answers. -/
def rnumV (b k : Nat) (l : List UInt8) : Int := match Qm.numA b k 0 l with | some (n, _) => (n : Int) | none => -1
theorem numA_short {b : Nat} : ∀ (k v : Nat) (l : List UInt8), l.length < k → Qm.numA b k v l = none
  | 0, _, _, h => absurd h (Nat.not_lt_zero _)
  | k + 1, v, [], _ => rfl
  | k + 1, v, c :: l, h => by
    rw [Qm.numA]
    split
    · exact numA_short k _ l (by rw [List.length_cons] at h; omega)
    · rfl

theorem pow_le_32 {b i : Nat} (hb : b ≤ 16) (hi : i ≤ 8) : b ^ i ≤ 4294967296 :=
  Nat.le_trans (Nat.pow_le_pow_left hb i) (Nat.le_trans (Nat.pow_le_pow_right (by decide) hi) (by decide))

set_option maxHeartbeats 2000000 in
theorem rnum_any (s : ByteArray) (p k b : Nat) (w : World) (hp : p ≤ s.size) (hk : k ≤ 8) (hb : b = 8 ∨ b = 16) (hs : s.size ≤ 4611686018427387000) :
    Calls Tryz.prog 112 #[.string s, .int .i64 p, .int .i64 k, .int .i64 b] w fun e w' => e = .returned (.int .i64 (rnumV b k ((bl s).drop p))) ∧ w = w' := by
  by_cases hlong : s.size < p + k
  · have e1 : rnumV b k ((bl s).drop p) = -1 := by
      unfold rnumV
      rw [numA_short k 0 _ (by rw [List.length_drop, bl_size]; omega)]
    have c1 : (s.size : Int) - (p : Int) < (k : Int) := by omega
    have q1 : IntKind.i64.wrap ((s.size : Int) - (p : Int)) = (s.size : Int) - (p : Int) := IntWalk.i64_in _ (by omega)
    rw [e1]
    clear e1 hlong hb
    go_enter Tryz.func112, Tryz.ntmps112
    go_wp2
    go_ret
    exact ⟨rfl, rfl⟩
  · have c1 : ¬ (s.size : Int) - (p : Int) < (k : Int) := by omega
    have q1 : IntKind.i64.wrap ((s.size : Int) - (p : Int)) = (s.size : Int) - (p : Int) := IntWalk.i64_in _ (by omega)
    have hb' : b ≤ 16 ∧ 1 ≤ b := by omega
    obtain ⟨R, hR⟩ : ∃ R, rnumV b k ((bl s).drop p) = R := ⟨_, rfl⟩
    rw [hR]
    have HR := Lib.hid hR
    clear hR
    go_enter Tryz.func112, Tryz.ntmps112
    go_wp2
    go_loop [9, 10] (fun a i => ∃ j v : Nat, j ≤ k ∧ i = .int .i64 j ∧ a = .int .i64 v ∧ v < b ^ j ∧ Qm.numA b k 0 ((bl s).drop p) = Qm.numA b (k - j) v ((bl s).drop (p + j))) (fun _ i => k - (intOf i).toNat)
    case atStart => exact ⟨0, 0, by omega, rfl, rfl, by rw [Nat.pow_zero]; omega, rfl⟩
    case round =>
      obtain ⟨j, v, hj, rfl, rfl, hv, hn⟩ := hrel
      have h32 := pow_le_32 (i := j) hb'.1 (by omega)
      have b0 : (0 : Int) ≤ (j : Int) := by omega
      by_cases hlt : j < k
      · obtain ⟨X, hX⟩ : ∃ X, p + j = X := ⟨_, rfl⟩
        have hpj : X < s.size := by omega
        have hd := bl_drop' s X hpj
        have x0 : (p : Int) + (j : Int) = (X : Int) := by omega
        have x1 : IntKind.i64.wrap (X : Int) = (X : Int) := IntWalk.i64_in _ (by omega)
        have x2 : (0 : Int) ≤ (X : Int) := by omega
        have x3 : (X : Int) < (s.size : Int) := by omega
        have b1 : (j : Int) < (k : Int) := by omega
        obtain ⟨c, hc⟩ : ∃ c, s[X]'hpj = c := ⟨_, rfl⟩
        obtain ⟨C, hC⟩ : ∃ C, c.toNat = C := ⟨_, rfl⟩
        have e1 : (s[X]'hpj).toNat = C := by rw [hc, hC]
        have l1 : C < 256 := by rw [← hC]; exact c.toNat_lt
        have hbs := bsI_dg c
        rw [hC] at hbs
        have HB := fun w => rbase_byte C w
        have HIN : IntKind.i64.wrap (C : Int) = (C : Int) := IntWalk.i64_in _ (by omega)
        obtain ⟨m, hm⟩ : ∃ m, k - j = m + 1 := ⟨k - j - 1, by omega⟩
        rw [hX, hd, hc, hm] at hn
        simp only [Qm.numA] at hn
        by_cases hdg : Nm.dg c < b
        · rw [if_pos hdg] at hn
          rw [hbs.1 (by omega)] at HB
          obtain ⟨D, hD⟩ : ∃ D, Nm.dg c = D := ⟨_, rfl⟩
          rw [hD] at hdg hn HB
          obtain ⟨P, hP⟩ : ∃ P, v * b = P := ⟨_, rfl⟩
          obtain ⟨M, hM⟩ : ∃ M, P + D = M := ⟨_, rfl⟩
          rw [hP, hM] at hn
          have hPb : P ≤ 4294967296 * 16 := by rw [← hP]; exact Nat.mul_le_mul (by omega) hb'.1
          have hMb : M < b ^ (j + 1) := by
            have h1 : (v + 1) * b ≤ b ^ j * b := Nat.mul_le_mul_right b hv
            rw [Nat.pow_succ]
            rw [Nat.add_mul, Nat.one_mul] at h1
            omega
          have y0 : (v : Int) * (b : Int) = (P : Int) := by rw [← hP, Int.natCast_mul]
          have y1 : IntKind.i64.wrap (P : Int) = (P : Int) := IntWalk.i64_in _ (by omega)
          have y2 : IntKind.i64.wrap (D : Int) = (D : Int) := IntWalk.i64_in _ (by omega)
          have y3 : (P : Int) + (D : Int) = (M : Int) := by omega
          have y4 : IntKind.i64.wrap (M : Int) = (M : Int) := IntWalk.i64_in _ (by omega)
          have z1 : decide ((D : Int) < 0) = false := decide_eq_false (by omega)
          have z2 : decide ((b : Int) ≤ (D : Int)) = false := decide_eq_false (by omega)
          have Hrel := Lib.hid (show M < b ^ (j + 1) ∧ Qm.numA b k 0 ((bl s).drop p) = Qm.numA b (k - (j + 1)) M ((bl s).drop (p + (j + 1))) from ⟨hMb, by
            have t1 : k - (j + 1) = m := by omega
            have t2 : p + (j + 1) = X + 1 := by omega
            rw [hn, t1, t2]⟩)
          clear hn hM hP hMb hPb hv h32 hbs hD hd hm hC hc hb hX hlong
          go_wp2_with fail
          refine (HB _).mono ?_
          rintro e w' ⟨rfl, rfl⟩
          go_wp2
          go_round
          case rel => exact ⟨j + 1, M, by omega, by go_num, rfl, Hrel.out.1, Hrel.out.2⟩
          case measure => simp [intOf]; omega
        · rw [if_neg hdg] at hn
          have hfin : R = -1 := by rw [← HR.out]; unfold rnumV; rw [hn]
          have Hfin := Lib.hid hfin
          clear hn hfin hd hv h32 hm hX hlong
          by_cases h16 : Nm.dg c < 16
          · rw [hbs.1 h16] at HB
            obtain ⟨D, hD⟩ : ∃ D, Nm.dg c = D := ⟨_, rfl⟩
            rw [hD] at hdg HB
            have z1 : decide ((D : Int) < 0) = false := decide_eq_false (by omega)
            have z2 : (b : Int) ≤ (D : Int) := by omega
            have z3 : ¬ (D : Int) < 0 := by omega
            clear hbs hD h16 hdg hb
            go_wp2_with fail
            refine (HB _).mono ?_
            rintro e w' ⟨rfl, rfl⟩
            go_wp2
            go_ret
            exact ⟨by rw [Hfin.out]; rfl, rfl⟩
          · rw [hbs.2 h16] at HB
            clear hbs h16 hdg hb
            go_wp2_with fail
            refine (HB _).mono ?_
            rintro e w' ⟨rfl, rfl⟩
            go_wp2
            go_ret
            exact ⟨by rw [Hfin.out]; rfl, rfl⟩
      · obtain rfl : j = k := by omega
        rw [Nat.sub_self] at hn
        have hfin : R = (v : Int) := by rw [← HR.out]; unfold rnumV; rw [hn]; rfl
        have Hfin := Lib.hid hfin
        clear hn hfin hv h32 hlong hb
        go_wp2
        go_ret
        exact ⟨by rw [Hfin.out]; rfl, rfl⟩
end Go.Proofs.YtnkgbmnjehpkgabGreat

/- Contracts of the reference's small and escape (quoted). -/
namespace Go.Proofs.YtnkgbmnjehpkgabGreat
open Go.RowKit Em
set_option maxRecDepth 100000
set_option linter.unusedVariables false
set_option linter.unusedSimpArgs false

theorem form_txt (n : Nat) : formOf (n : Int) = txt (Qm.fm n) := bl_inj (by rw [formOf_fm, txt_bl])

/-- What an escape's number says, by the mark. -/
def sayR (mark : Nat) (b : Bool) (n : Nat) : List UInt8 := if mark = 34 then Qm.sayS b n else Qm.fm n
def escL (mark : Nat) (m : List UInt8) : Nat := match Qm.esc mark m with | some (_, _, r) => 1 + (m.length - r.length) | none => 0
def escT (mark : Nat) (m : List UInt8) : List UInt8 := match Qm.esc mark m with | some (n, b, _) => sayR mark b n | none => []

theorem rsmall_any (n mark : Nat) (w : World) (hn : n < 256) (hm : mark = 34 ∨ mark = 39) :
    Calls Tryz.prog 113 #[.int .i64 n, .int .u8 mark] w fun e w' => e = .returned (.string (txt (sayR mark true n))) ∧ Below w.heap.size w w' := by
  rcases hm with rfl | rfl
  · have hc := conv_new w [(n : Int)]
    simp only [List.length_singleton, List.map_cons, List.map_nil, List.foldl_cons, List.foldl_nil, Int.toNat_natCast] at hc
    have hp : ByteArray.empty.push (UInt8.ofNat n) = txt [UInt8.ofNat n] := rfl
    rw [hp] at hc
    have q1 : IntKind.u8.wrap (n : Int) = (n : Int) := by rw [IntKind.wrap_u8]; omega
    have e1 : txt (sayR 34 true n) = txt [UInt8.ofNat n] := rfl
    rw [e1]
    clear hp e1
    generalize txt [UInt8.ofNat n] = T at hc
    go_enter Tryz.func113, Tryz.ntmps113
    go_wp2
    go_ret
    exact ⟨rfl, (Below.refl _ _).alloc (Nat.le_refl _) _⟩
  · have FA := fun w => rform_any n w
    rw [form_txt] at FA
    have e1 : txt (sayR 39 true n) = txt (Qm.fm n) := rfl
    rw [e1]
    clear e1
    generalize txt (Qm.fm n) = T at FA
    go_enter Tryz.func113, Tryz.ntmps113
    go_wp2_with fail
    refine (FA _).mono ?_
    rintro e w1 ⟨rfl, b1⟩
    go_wp2
    go_ret
    exact ⟨rfl, b1⟩

def nmN (k : Nat) : Nat := if k = 0 then 97 else if k = 1 then 98 else if k = 2 then 102 else if k = 3 then 110 else if k = 4 then 114 else if k = 5 then 116 else if k = 6 then 118 else 92
def sayN (k : Nat) : Nat := if k = 0 then 7 else if k = 1 then 8 else if k = 2 then 12 else if k = 3 then 10 else if k = 4 then 13 else if k = 5 then 9 else if k = 6 then 11 else 92
theorem nm_at : ∀ k : Fin 8, byN ⟨#[97, 98, 102, 110, 114, 116, 118, 92]⟩ k.1 = nmN k.1 := by decide +kernel
theorem esc_name (mark : Nat) (hm : mark = 34 ∨ mark = 39) (k : Nat) (hk : k < 8) (c : UInt8) (l : List UInt8) (h : c.toNat = nmN k) : Qm.esc mark (c :: l) = some (sayN k, true, l) := by
  have hc : c = UInt8.ofNat (nmN k) := by rw [← h]; simp
  have : ∀ j : Fin 8, Qm.esc 34 (UInt8.ofNat (nmN j.1) :: []) = some (sayN j.1, true, []) ∧ Qm.esc 39 (UInt8.ofNat (nmN j.1) :: []) = some (sayN j.1, true, []) := by decide
  obtain ⟨a, b⟩ := this ⟨k, hk⟩
  simp only [] at a b
  rw [← hc] at a b
  have key : ∀ mk, Qm.esc mk [c] = some (sayN k, true, []) → Qm.esc mk (c :: l) = some (sayN k, true, l) := by
    intro mk ha
    obtain ⟨e, he, hne, hy⟩ := Qm.esc_split ha
    rw [List.append_nil] at he
    have := hy l
    rw [← he] at this
    exact this
  rcases hm with rfl | rfl
  · exact key _ a
  · exact key _ b
theorem esc_noname (mark : Nat) (c : UInt8) (l : List UInt8) (h : ∀ j, j < 8 → nmN j ≠ c.toNat) : Qm.ctl c.toNat = none ∧ c.toNat ≠ 92 := by
  have h0 := h 0 (by omega)
  have h1 := h 1 (by omega)
  have h2 := h 2 (by omega)
  have h3 := h 3 (by omega)
  have h4 := h 4 (by omega)
  have h5 := h 5 (by omega)
  have h6 := h 6 (by omega)
  have h7 := h 7 (by omega)
  simp only [nmN] at h0 h1 h2 h3 h4 h5 h6 h7
  refine ⟨?_, by simpa using fun e => h7 e.symm⟩
  unfold Qm.ctl
  rw [if_neg (by simpa using fun e => h0 e.symm), if_neg (by simpa using fun e => h1 e.symm), if_neg (by simpa using fun e => h5 e.symm), if_neg (by simpa using fun e => h3 e.symm), if_neg (by simpa using fun e => h6 e.symm), if_neg (by simpa using fun e => h2 e.symm), if_neg (by simpa using fun e => h4 e.symm)]
end Go.Proofs.YtnkgbmnjehpkgabGreat

