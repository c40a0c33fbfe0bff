/- The laws' helper 'alike'. -/
import Derived.Test.YtnkgbmnjehpkgaaSwText
namespace Go.Proofs.Ytnkgbmnjehpkgaa
open Go.RowKit Em
set_option maxRecDepth 100000
set_option linter.unusedVariables false

set_option maxHeartbeats 32000000 in
theorem alike_any (s t : ByteArray) (T M : List Sc.Tk) (x y : Option Addr) (c d : Nat) (w : World) (hx : TkI w x T) (hy : TkI w y M) (ho : InO s.size T) (hp : InO t.size M) (he : toksOf s T = toksOf t M) (hl : T.length ≤ 1000000) :
    Calls Try.prog 21 #[.string s, .slice x T.length c, .string t, .slice y M.length d] w fun e w' => e = .returned (.bool true) ∧ Below w.heap.size w w' := by
  have Hx := Lib.hid hx
  have Hy := Lib.hid hy
  have Ho := Lib.hid ho
  have Hp := Lib.hid hp
  have hlen : M.length = T.length := by
    have := congrArg List.length he
    unfold toksOf at this
    rw [List.length_map, List.length_map] at this
    exact this.symm
  have hat : ∀ i, i < T.length → tokX s (nthT T i) = tokX t (nthT M i) := by
    intro i hi
    rw [nthT_get hi, nthT_get (show i < M.length by omega)]
    have h := congrArg (fun l => l[i]?) he
    unfold toksOf at h
    simpa [List.getElem?_map, List.getElem?_eq_getElem hi, List.getElem?_eq_getElem (show i < M.length by omega)] using h
  have Hat := Lib.hid hat
  clear hx hy ho hp he hat
  have HL := Lib.hid hlen
  rw [hlen]
  clear hlen
  go_enter Try.func21, Try.ntmps21
  go_wp2
  go_loopw [9] (fun iv wr => ∃ i : Nat, i ≤ T.length ∧ iv = .int .i64 i ∧ Below w.heap.size w wr) (fun iv _ => T.length - (intOf iv).toNat)
  case atStart => exact ⟨0, by omega, rfl, Below.refl _ _⟩
  case round =>
    obtain ⟨i, hi, rfl, hb⟩ := hrel
    have HB := Lib.hid hb
    by_cases hlt : i < T.length
    · obtain ⟨g, rfl, hg, d0, d1, d2⟩ := (Hx.out.keep hb).cells (i := i) hlt
      obtain ⟨g2, rfl, hg2, e0, e1, e2⟩ := (Hy.out.keep hb).cells (i := i) (by rw [HL.out]; exact hlt)
      have hi1 := ino_at Ho.out hlt
      have hi2 := ino_at Hp.out (show i < M.length by rw [HL.out]; exact hlt)
      have h1 := Hat.out i hlt
      have h2 : bl (tokS s (nthT T i).k (nthT T i).f (nthT T i).t) = bl (tokS t (nthT M i).k (nthT M i).f (nthT M i).t) := by rw [tokS_bl, tokS_bl, h1]
      have hk : (nthT M i).k = (nthT T i).k := (congrArg Prod.fst h1).symm
      clear h1 hb
      generalize nthT T i = X at d0 d1 d2 hi1 h2 hk
      generalize nthT M i = Y at e0 e1 e2 hi2 h2 hk
      obtain ⟨K, F, U⟩ := X
      obtain ⟨K2, F2, U2⟩ := Y
      dsimp only at d0 d1 d2 e0 e1 e2 hi1 hi2 h2 hk
      subst hk
      obtain ⟨f1, f2⟩ := hi1
      obtain ⟨f3, f4⟩ := hi2
      have h3 : tokS s K2 F U = tokS t K2 F2 U2 := bl_inj h2
      have heq : ((tokS s K2 F U).toList == (tokS t K2 F2 U2).toList) = true := by rw [h3]; simp
      have n3 : ((tokS s K2 F U).toList != (tokS t K2 F2 U2).toList) = false := by rw [bne, heq]; rfl
      have b0 : (0 : Int) ≤ (i : Int) := by omega
      have b1 : (i : Int) < (T.length : Int) := by omega
      have n1 : ((K2 : Int) == (K2 : Int)) = true := beq_self_eq_true _
      have n2 : ((K2 : Int) != (K2 : Int)) = false := by rw [bne, n1]; rfl
      clear h2 h3
      go_upto_region 6 with fail
      go_cut [46] from 21 to 46 (fun v wx => v = .bool false ∧ ∃ wy, Below w.heap.size w wy ∧ wx = wy)
      case first =>
        go_region_held3 (fun w' => w'.cell? ⟨g, i * 3, none⟩ = some (.int .u8 (K2 : Int)) ∧ w'.cell? ⟨g, i * 3 + 1, none⟩ = some (.int .i64 (F : Int)) ∧ w'.cell? ⟨g, i * 3 + 2, none⟩ = some (.int .i64 (U : Int)) ∧ w'.cell? ⟨g2, i * 3, none⟩ = some (.int .u8 (K2 : Int)) ∧ w'.cell? ⟨g2, i * 3 + 1, none⟩ = some (.int .i64 (F2 : Int)) ∧ w'.cell? ⟨g2, i * 3 + 2, none⟩ = some (.int .i64 (U2 : Int)))
          (first
            | exact ⟨d0, d1, d2, e0, e1, e2⟩
            | exact ⟨(hb9.cell (p := ⟨g, i * 3, none⟩) (Nat.lt_of_lt_of_le hg hb8.size)).trans ((hb8.cell (p := ⟨g, i * 3, none⟩) hg).trans d0), (hb9.cell (p := ⟨g, i * 3 + 1, none⟩) (Nat.lt_of_lt_of_le hg hb8.size)).trans ((hb8.cell (p := ⟨g, i * 3 + 1, none⟩) hg).trans d1), (hb9.cell (p := ⟨g, i * 3 + 2, none⟩) (Nat.lt_of_lt_of_le hg hb8.size)).trans ((hb8.cell (p := ⟨g, i * 3 + 2, none⟩) hg).trans d2), (hb9.cell (p := ⟨g2, i * 3, none⟩) (Nat.lt_of_lt_of_le hg2 hb8.size)).trans ((hb8.cell (p := ⟨g2, i * 3, none⟩) hg2).trans e0), (hb9.cell (p := ⟨g2, i * 3 + 1, none⟩) (Nat.lt_of_lt_of_le hg2 hb8.size)).trans ((hb8.cell (p := ⟨g2, i * 3 + 1, none⟩) hg2).trans e1), (hb9.cell (p := ⟨g2, i * 3 + 2, none⟩) (Nat.lt_of_lt_of_le hg2 hb8.size)).trans ((hb8.cell (p := ⟨g2, i * 3 + 2, none⟩) hg2).trans e2)⟩
            | exact ⟨(hb8.cell (p := ⟨g, i * 3, none⟩) hg).trans d0, (hb8.cell (p := ⟨g, i * 3 + 1, none⟩) hg).trans d1, (hb8.cell (p := ⟨g, i * 3 + 2, none⟩) hg).trans d2, (hb8.cell (p := ⟨g2, i * 3, none⟩) hg2).trans e0, (hb8.cell (p := ⟨g2, i * 3 + 1, none⟩) hg2).trans e1, (hb8.cell (p := ⟨g2, i * 3 + 2, none⟩) hg2).trans e2⟩)
          (first
            | (have hz := hb8; go_at_call 22; refine (text_any _ _ _ _ _ (by assumption) (by assumption)).mono ?_; rintro e w9 ⟨rfl, hb9⟩; clear hz)
            | (go_at_call 22; refine (text_any _ _ _ _ _ (by assumption) (by assumption)).mono ?_; rintro e w8 ⟨rfl, hb8⟩))
        all_goals
          go_wp2_with fail
          go_meet
          exact ⟨by simp, _, (below_draw' HB.out 1).trans ((hb8.trans (hb9.mono hb8.size)).mono (below_draw' HB.out 1).size), rfl⟩
      case rest =>
        obtain ⟨rfl, wy, hb9, hwc⟩ := hcut
        subst hwc
        have HB9 := Lib.hid hb9
        clear hb9
        go_wp2
        go_roundw
        case rel => exact ⟨i + 1, by omega, by go_num, HB9.out⟩
        case measure => simp [intOf]; omega
    · have b1 : ¬ (i : Int) < (T.length : Int) := by omega
      clear hb
      go_wp2
      go_ret
      exact ⟨rfl, HB.out⟩

end Go.Proofs.Ytnkgbmnjehpkgaa

