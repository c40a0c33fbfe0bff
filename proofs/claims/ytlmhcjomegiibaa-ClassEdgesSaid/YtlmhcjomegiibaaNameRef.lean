/- The reference's Name; the laws' helper 'fixed' of layer 2. -/
import Derived.Test.YtlmhcjomegiibaaName
import Derived.Test.YtlmhcjomegiibaaLawBehind
namespace Go.Proofs.Ytlmhcjomegiibaa
open Go.RowKit

theorem nameOk_at {A : List Nat} (h : 0 < A.length) : nameOk A = (letterN (nth A 0) && (A.drop 1).all fun c => letterN c || digitN c) := by
  cases A with
  | nil => simp at h
  | cons c L => rfl

theorem tail_drop {A : List Nat} {k : Nat} (h : k < A.length) : tailOk (A.drop k) = ((letterN (nth A k) || digitN (nth A k)) && tailOk (A.drop (k + 1))) := by
  rw [List.drop_eq_getElem_cons h, tail_cons]
  have e : nth A k = A[k] := by unfold nth; simp [h]
  rw [e]

theorem name_tail {A : List Nat} (h : 0 < A.length) : nameOk A = (letterN (nth A 0) && tailOk A) := by
  cases A with
  | nil => simp at h
  | cons c L =>
    show (letterN c && tailOk L) = (letterN c && tailOk (c :: L))
    rw [tail_cons]
    cases letterN c <;> rfl

set_option maxHeartbeats 2000000 in
theorem rname_any (s : ByteArray) (w : World) (hs : s.size ≤ 17592186044416) :
    Calls Try.prog 37 #[.string s] w fun e w' => e = .returned (.bool (nameB s)) ∧ Below w.heap.size w w' := by
  have H := fun wx => rall_any s wx hs
  have hls := Um.allC_length s
  cases h : Um.allB s with
  | false =>
    have hn : nameB s = false := by unfold nameB; rw [h]; rfl
    have Hn := Lib.hid hn
    rw [h] at H
    clear hn h
    go_enter Try.func37, Try.ntmps37
    go_wp2_with fail
    refine (H w).mono ?_
    rintro e w1 ⟨va, rfl, oa, g1⟩
    obtain ⟨xa, ca, rfl, -⟩ := owns_shape oa
    go_wp2
    go_ret
    exact ⟨ret_bool Hn.out.symm, g1⟩
  | true =>
    have hnb : nameB s = (!isWord s && nameOk (Um.allC s)) := by unfold nameB; rw [h]; rfl
    have Hn := Lib.hid hnb
    rw [h] at H
    clear hnb h
    generalize Um.allC s = A at H hls Hn
    by_cases hA : A.length = 0
    · have hz : ((A.length : Int) == 0) = true := by rw [hA]; rfl
      have e0 : A = [] := List.eq_nil_of_length_eq_zero hA
      have hf : nameB s = false := by rw [Hn.out, e0]; simp [nameOk]
      have Hf := Lib.hid hf
      clear hf e0 hA
      go_enter Try.func37, Try.ntmps37
      go_wp2_with fail
      refine (H w).mono ?_
      rintro e w1 ⟨va, rfl, oa, g1⟩
      obtain ⟨xa, ca, rfl, -⟩ := owns_shape oa
      go_wp2
      go_ret
      exact ⟨ret_bool Hf.out.symm, g1⟩
    · have hz : ((A.length : Int) == 0) = false := beq_eq_false_iff_ne.2 (by omega)
      cases hw : isWord s with
      | true =>
        have hf : nameB s = false := by rw [Hn.out, hw]; rfl
        have Hf := Lib.hid hf
        clear hf
        go_enter Try.func37, Try.ntmps37
        go_wp2_with fail
        refine (H w).mono ?_
        rintro e w1 ⟨va, rfl, oa, g1⟩
        obtain ⟨xa, ca, rfl, -⟩ := owns_shape oa
        go_wp2_with fail
        refine (rword_any s w1).mono ?_
        rw [hw]
        rintro e w2 ⟨rfl, g2⟩
        go_wp2
        go_ret
        exact ⟨ret_bool Hf.out.symm, g1.trans (g2.mono g1.size)⟩
      | false =>
        have hf : nameB s = (letterN (nth A 0) && tailOk A) := by rw [Hn.out, hw, name_tail (by omega)]; rfl
        have Hf := Lib.hid hf
        clear hf
        go_enter Try.func37, Try.ntmps37
        go_wp2_with fail
        refine (H w).mono ?_
        rintro e w1 ⟨va, rfl, oa, g1⟩
        obtain ⟨xa, ca, rfl, ra⟩ := row_of oa
        have s1 := g1.size
        go_wp2_with fail
        refine (rword_any s w1).mono ?_
        rw [hw]
        rintro e w2 ⟨rfl, g2⟩
        have ra2 := ra.below g2
        have s2 := g2.size
        have gb2 := g1.trans (g2.mono s1)
        obtain ⟨ga, rfl, hga, hc⟩ := ra2 (by omega)
        have c0 := hc 0 (by omega)
        have Hc := Lib.hid hc
        have b00 : (0 : Int) < (A.length : Int) := by omega
        have hgN : 0 < A.length := by omega
        clear hc ra ra2 oa g1 g2 H hw Hn
        cases hL : letterN (nth A 0) with
        | false =>
          have hfin : nameB s = false := by rw [Hf.out, hL]; rfl
          have Hfin := Lib.hid hfin
          have HL := Lib.hid hL
          clear hfin hL
          go_wp2_with fail
          refine (rletter_any _ w2).mono ?_
          rw [show Cm.inB Cm.letters (nth A 0 : Nat) = false from HL.out]
          rintro e w3 ⟨rfl, g3⟩
          go_wp2
          go_ret
          exact ⟨ret_bool Hfin.out.symm, gb2.trans (g3.mono (by omega))⟩
        | true =>
          have hfin : nameB s = tailOk A := by rw [Hf.out, hL]; rfl
          have Hfin := Lib.hid hfin
          have HL := Lib.hid hL
          clear hfin hL
          go_wp2_with fail
          refine (rletter_any _ w2).mono ?_
          rw [show Cm.inB Cm.letters (nth A 0 : Nat) = true from HL.out]
          rintro e w3 ⟨rfl, g3⟩
          have gb3 := gb2.trans (g3.mono (by omega))
          have hcc : ∀ i, i < A.length → w3.cell? ⟨ga, i, none⟩ = some (.int .i64 (nth A i : Nat)) := fun i hi => (g3.cell hga).trans (Hc.out i hi)
          have Hcc := Lib.hid hcc
          have hga3 := Nat.lt_of_lt_of_le hga g3.size
          have s3 := gb3.size
          clear hcc Hc c0 g3 gb2
          go_wp2
          go_loopw [5] (fun i wr => ∃ k : Nat, k ≤ A.length ∧ i = .int .i64 k ∧ tailOk (A.drop k) = tailOk A ∧ Below w3.heap.size w3 wr) (fun i _ => A.length - (intOf i).toNat)
          case atStart => exact ⟨0, by omega, rfl, rfl, Below.refl _ _⟩
          case round =>
            obtain ⟨k, hk, rfl, htl, hnx⟩ := hrel
            have Htl := Lib.hid htl
            clear htl
            have hsx := hnx.size
            by_cases hlt : k < A.length
            · have c1 := (hnx.cell (p := ⟨ga, k, none⟩) hga3).trans (Hcc.out k hlt)
              have b0 : (0 : Int) ≤ (k : Int) := by omega
              have b1 : (k : Int) < (A.length : Int) := by omega
              have htd := tail_drop hlt
              have Htd := Lib.hid htd
              clear htd
              cases hL : letterN (nth A k) with
              | true =>
                have HL2 := Lib.hid hL
                clear hL
                go_wp2_with fail
                refine (rletter_any _ wr).mono ?_
                rw [show Cm.inB Cm.letters (nth A k : Nat) = true from HL2.out]
                rintro e w4 ⟨rfl, g4⟩
                go_wp2
                go_roundw
                case rel => exact ⟨k + 1, by omega, by go_num, by rw [← Htl.out, Htd.out, HL2.out]; rfl, hnx.trans (g4.mono hsx)⟩
                case measure => simp [intOf]; omega
              | false =>
                have HL2 := Lib.hid hL
                clear hL
                go_wp2_with fail
                refine (rletter_any _ wr).mono ?_
                rw [show Cm.inB Cm.letters (nth A k : Nat) = false from HL2.out]
                rintro e w4 ⟨rfl, g4⟩
                have hb4 := hnx.trans (g4.mono hsx)
                have c2 := (hb4.cell (p := ⟨ga, k, none⟩) hga3).trans (Hcc.out k hlt)
                have hs4 := hb4.size
                cases hD : digitN (nth A k) with
                | true =>
                  have HD := Lib.hid hD
                  clear hD
                  go_wp2_with fail
                  refine (rdigit_any _ w4).mono ?_
                  rw [show Cm.inB Cm.digits (nth A k : Nat) = true from HD.out]
                  rintro e w5 ⟨rfl, g5⟩
                  go_wp2
                  go_roundw
                  case rel => exact ⟨k + 1, by omega, by go_num, by rw [← Htl.out, Htd.out, HL2.out, HD.out]; rfl, hb4.trans (g5.mono hs4)⟩
                  case measure => simp [intOf]; omega
                | false =>
                  have HD := Lib.hid hD
                  have hfin2 : nameB s = false := by rw [Hfin.out, ← Htl.out, Htd.out, HL2.out, HD.out]; rfl
                  have Hfin2 := Lib.hid hfin2
                  clear hD hfin2
                  go_wp2_with fail
                  refine (rdigit_any _ w4).mono ?_
                  rw [show Cm.inB Cm.digits (nth A k : Nat) = false from HD.out]
                  rintro e w5 ⟨rfl, g5⟩
                  go_wp2
                  go_ret
                  exact ⟨ret_bool Hfin2.out.symm, gb3.trans ((hb4.trans (g5.mono hs4)).mono s3)⟩
            · have hfin2 : nameB s = true := by rw [Hfin.out, ← Htl.out, List.drop_of_length_le (by omega)]; rfl
              have Hfin2 := Lib.hid hfin2
              clear hfin2
              go_wp2
              go_ret
              exact ⟨ret_bool Hfin2.out.symm, gb3.trans (hnx.mono s3)⟩

theorem name_range : nameB ⟨#[114, 97, 110, 103, 101]⟩ = false := by decide +kernel
theorem name_x1 : nameB ⟨#[120, 49]⟩ = true := by decide +kernel
theorem word_is_range : isWord ⟨#[114, 97, 110, 103, 101]⟩ = true := by decide +kernel

theorem fixed2_any (w : World) : Calls Try.prog 27 #[] w fun e w' => e = .returned (.bool true) ∧ Below w.heap.size w w' := by
  have q1 : Cm.inB Cm.letters 65 = true := by decide
  have q2 : Cm.inB Cm.letters 945 = true := by decide
  have q3 : Cm.inB Cm.letters 215 = false := by decide
  have q4 : Cm.inB Cm.digits 1641 = true := by decide
  have q5 : Cm.base 102 = 15 := by decide
  have H1 := fun wx => letter_any 65 wx
  have H2 := fun wx => letter_any 945 wx
  have H3 := fun wx => letter_any 215 wx
  have H4 := fun wx => digit_any 1641 wx
  have H5 := fun wx => base_any 102 wx (by decide) (by decide)
  have H6 := fun wx => word_any ⟨#[114, 97, 110, 103, 101]⟩ wx
  have H7 := fun wx => name_any ⟨#[114, 97, 110, 103, 101]⟩ wx
  have H8 := fun wx => name_any ⟨#[120, 49]⟩ wx
  rw [q1] at H1; rw [q2] at H2; rw [q3] at H3; rw [q4] at H4; rw [q5] at H5; rw [word_is_range] at H6; rw [name_range] at H7; rw [name_x1] at H8
  clear q1 q2 q3 q4 q5
  go_enter Try.func27, Try.ntmps27
  go_wp2_with fail
  refine (H1 w).mono ?_
  rintro e w1 ⟨rfl, g1⟩
  go_wp2_with fail
  refine (H2 w1).mono ?_
  rintro e w2 ⟨rfl, g2⟩
  go_wp2_with fail
  refine (H3 w2).mono ?_
  rintro e w3 ⟨rfl, g3⟩
  go_wp2_with fail
  refine (H4 w3).mono ?_
  rintro e w4 ⟨rfl, g4⟩
  go_wp2_with fail
  refine (H5 w4).mono ?_
  rintro e w5 ⟨rfl, rfl⟩
  go_wp2_with fail
  refine (H6 w4).mono ?_
  rintro e w6 ⟨rfl, rfl⟩
  go_wp2_with fail
  refine (H7 w4).mono ?_
  rintro e w7 ⟨rfl, g7⟩
  go_wp2_with fail
  refine (H8 w7).mono ?_
  rintro e w8 ⟨rfl, g8⟩
  go_wp2
  go_ret
  have s1 := g1.size; have s2 := g2.size; have s3 := g3.size; have s4 := g4.size; have s7 := g7.size
  exact ⟨rfl, ((((g1.trans (g2.mono (by omega))).trans (g3.mono (by omega))).trans (g4.mono (by omega))).trans (g7.mono (by omega))).trans (g8.mono (by omega))⟩
end Go.Proofs.Ytlmhcjomegiibaa
