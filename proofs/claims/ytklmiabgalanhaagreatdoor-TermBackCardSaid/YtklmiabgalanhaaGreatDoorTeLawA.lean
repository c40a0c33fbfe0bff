/- The walk of the law TermParts. -/
import Derived.Test.YtklmiabgalanhaaGreatDoorTeFix
import Derived.Test.YtklmiabgalanhaaGreatDoorTeArg
namespace Go.Proofs.YtklmiabgalanhaaGreatDoor
open Go.Shelf Go.RowKit Em Km
set_option maxRecDepth 100000
set_option linter.unusedVariables false
set_option linter.unusedSimpArgs false

theorem drw_below {w : World} (d : Nat) : Below w.heap.size w (w.drewN d) := ⟨rfl, rfl, rfl, Nat.le_refl _, fun _ _ => rfl⟩
set_option maxHeartbeats 4000000 in
theorem parts_great (x : Option Addr) (c : Nat) (L : List Pt) (i : Int) (w : World) (hs : Snt w) (hb : 200 < L.length) :
    Calls Tryz.prog 5 #[.slice x L.length c, .int .i64 i] w fun e w' => e = .returned (.bool true) ∧ Below w.heap.size w w' := by
  have HF := Lib.hid (fixed11_any w hs)
  have b0 : (200 : Int) < (L.length : Int) := by omega
  clear hs
  go_enter Tryz.func5, Tryz.ntmps5
  go_wp2_with fail
  refine HF.out.mono ?_
  rintro e w1 ⟨rfl, g1⟩
  go_wp2
  go_ret
  exact ⟨rfl, g1⟩
set_option maxHeartbeats 4000000 in
theorem parts_none (x : Option Addr) (c : Nat) (L : List Pt) (i : Int) (w : World) (hs : Snt w) (hr : Pw w x L) (hb : L.length ≤ 200) (h : ¬ HasP L i) :
    Calls Tryz.prog 5 #[.slice x L.length c, .int .i64 i] w fun e w' => e = .returned (.bool true) ∧ Below w.heap.size w w' := by
  have HF := Lib.hid (fixed11_any w hs)
  have b0 : ¬ (200 : Int) < (L.length : Int) := by omega
  have HE := Lib.hid (pend_none i x c L w hr h)
  have HU := Lib.hid (pup_none i x c L w hr h)
  have HK := Lib.hid (pkids_none i x c L w hr h)
  have HW := rwell_any x c L w hr
  by_cases hw : We L
  · rw [decide_eq_true hw] at HW
    have HW := Lib.hid HW
    by_cases h1 : i < 0
    · clear hr hs h hw
      go_enter Tryz.func5, Tryz.ntmps5
      go_wp2_with fail
      refine HE.out.mono ?_
      rintro e w1 ⟨rfl, rfl⟩
      go_wp2_with fail
      refine HU.out.mono ?_
      rintro e w1 ⟨rfl, rfl⟩
      go_wp2_with fail
      refine HK.out.mono ?_
      rintro e w1 ⟨rfl, rfl⟩
      go_wp2_with fail
      refine HW.out.mono ?_
      rintro e w1 ⟨rfl, rfl⟩
      go_wp2_with fail
      refine HF.out.mono ?_
      rintro e w1 ⟨rfl, g1⟩
      go_wp2
      go_ret
      exact ⟨rfl, g1⟩
    · have h2 : (L.length : Int) ≤ i := by
        have : ¬ (0 ≤ i ∧ i < (L.length : Int) ∧ We L) := h
        by_cases h3 : i < (L.length : Int)
        · exact absurd ⟨by omega, h3, hw⟩ this
        · omega
      clear hr hs h hw
      go_enter Tryz.func5, Tryz.ntmps5
      go_wp2_with fail
      refine HE.out.mono ?_
      rintro e w1 ⟨rfl, rfl⟩
      go_wp2_with fail
      refine HU.out.mono ?_
      rintro e w1 ⟨rfl, rfl⟩
      go_wp2_with fail
      refine HK.out.mono ?_
      rintro e w1 ⟨rfl, rfl⟩
      go_wp2_with fail
      refine HW.out.mono ?_
      rintro e w1 ⟨rfl, rfl⟩
      go_wp2_with fail
      refine HF.out.mono ?_
      rintro e w1 ⟨rfl, g1⟩
      go_wp2
      go_ret
      exact ⟨rfl, g1⟩
  · rw [decide_eq_false hw] at HW
    have HW := Lib.hid HW
    clear hr hs h hw
    go_enter Tryz.func5, Tryz.ntmps5
    go_wp2_with fail
    refine HE.out.mono ?_
    rintro e w1 ⟨rfl, rfl⟩
    go_wp2_with fail
    refine HU.out.mono ?_
    rintro e w1 ⟨rfl, rfl⟩
    go_wp2_with fail
    refine HK.out.mono ?_
    rintro e w1 ⟨rfl, rfl⟩
    go_wp2_with fail
    refine HW.out.mono ?_
    rintro e w1 ⟨rfl, rfl⟩
    go_wp2_with fail
    refine HF.out.mono ?_
    rintro e w1 ⟨rfl, g1⟩
    go_wp2
    go_ret
    exact ⟨rfl, g1⟩
set_option maxHeartbeats 4000000 in
theorem parts_some (x : Option Addr) (c : Nat) (L : List Pt) (i : Nat) (w : World) (hs : Snt w) (hr : Pw w x L) (hb : L.length ≤ 200) (hi : i < L.length) (hw : We L) :
    Calls Tryz.prog 5 #[.slice x L.length c, .int .i64 (i : Int)] w fun e w' => e = .returned (.bool true) ∧ Below w.heap.size w w' := by
  have HS := Lib.hid hs
  have b0 : ¬ (200 : Int) < (L.length : Int) := by omega
  have b1 : ¬ (i : Int) < 0 := by omega
  have b2 : ¬ (L.length : Int) ≤ (i : Int) := by omega
  have HE := Lib.hid (pend_some i x c L w hr hi hw)
  have HU := Lib.hid (pup_some i x c L w hr hi hw)
  have HK := Lib.hid (pkids_some i x c L w hr hi hw)
  have HR := Lib.hid hr
  have HW : Hid (∀ w, Pw w x L → Calls Tryz.prog 14 #[.slice x L.length c] w fun e w' => e = .returned (.bool true) ∧ w' = w) := Lib.hid fun w hr => by
    have := rwell_any x c L w hr
    rw [decide_eq_true hw] at this
    exact this
  have HE2 := Lib.hid (fun w hr => rpend_some i x c L w hr hi hw)
  have HU2 := Lib.hid (fun w hr => rpup_any i x c L w hr hi hw)
  have HK2 := Lib.hid (fun w hr => rpkids_any i x c L w hr hi hw)
  have hkl : ((kidP L i).map fun (k : Nat) => (k : Int)).length = (kidP L i).length := by simp
  have hkn : (kidP L i).length ≤ 4611686018427387904 := by
    have h1 := kids_len hw hi
    have h2 := (hw.all hi).2.2.2.2.1
    unfold kidP
    omega
  have t1 : (enP L i == enP L i) = true := beq_self_eq_true _
  have t2 : (upP L i == upP L i) = true := beq_self_eq_true _
  have HKL := Lib.hid hkl
  have HKN := Lib.hid hkn
  clear hr hs hw hkl hkn
  obtain ⟨EN, hEN⟩ : ∃ EN, enP L i = EN := ⟨_, rfl⟩
  obtain ⟨UP, hUP⟩ : ∃ UP, upP L i = UP := ⟨_, rfl⟩
  rw [hEN] at HE HE2 t1
  rw [hUP] at HU HU2 t2
  have t3 : ((EN : Int) == (EN : Int)) = true := beq_self_eq_true _
  clear hEN hUP
  go_enter Tryz.func5, Tryz.ntmps5
  go_wp2_with fail
  refine HE.out.mono ?_
  rintro e w1 ⟨rfl, rfl⟩
  go_wp2_with fail
  refine HU.out.mono ?_
  rintro e w1 ⟨rfl, rfl⟩
  go_wp2_with fail
  refine HK.out.mono ?_
  rintro e w2 ⟨v2, rfl, o2, g2⟩
  obtain ⟨y2, c2, rfl, _⟩ := owns_form o2
  have O2 := Lib.hid o2
  have G2 := Lib.hid g2
  have R2 := Lib.hid (HR.out.keep g2)
  clear o2 g2
  go_wp2_with fail
  refine (HW.out _ R2.out).mono ?_
  rintro e w3 ⟨rfl, rfl⟩
  go_wp2_with fail
  refine (fixed11_any _ (HS.out.keep G2.out)).mono ?_
  rintro e w4 ⟨rfl, g4⟩
  have O4 := Lib.hid (owns_keep O2.out g4)
  have G4 := Lib.hid (G2.out.trans (g4.mono G2.out.size))
  have R4 := Lib.hid (HR.out.keep G4.out)
  clear g4
  go_wp2_with fail
  refine (HE2.out _ R4.out).mono ?_
  rintro e w5 ⟨rfl, rfl⟩
  go_wp2_with fail
  refine (HU2.out _ R4.out).mono ?_
  rintro e w5 ⟨rfl, rfl⟩
  go_wp2_with fail
  refine (HK2.out _ R4.out).mono ?_
  rintro e w6 ⟨v6, rfl, o6, g6⟩
  obtain ⟨y6, c6, rfl, _⟩ := owns_form o6
  have O6 := Lib.hid o6
  have O7 := Lib.hid (owns_keep O4.out g6)
  have G6 := Lib.hid (G4.out.trans (g6.mono G4.out.size))
  have HI : Hid (Calls Tryz.prog 22 #[.slice y2 (kidP L i).length c2, .slice y6 (kidP L i).length c6] w6 fun e w' => e = .returned (.bool true) ∧ ∃ d, w' = w6.drewN d) := Lib.hid (by
    have o7 := O7.out
    have o6 := O6.out
    have h := HKN.out
    rw [← HKL.out] at h o6 o7 ⊢
    exact ints_same y2 y6 c2 c6 _ _ _ w6 o7 o6 h)
  clear o6 g6
  go_wp2_with fail
  refine HI.out.mono ?_
  rintro e w8 ⟨rfl, d, rfl⟩
  go_wp2
  go_ret
  exact ⟨rfl, G6.out.trans ((drw_below d).mono G6.out.size)⟩
/-- TermParts. -/
theorem walk_TermParts (a : Option Addr) (len cap : Nat) (Z : List Pt) (i : Int) (w : World) (h : PtArg w a len cap Z) (hr : cap * 32 ≤ 140737488351232 ∧ ∀ i, i < Z.length → (nthP Z i).x.size ≤ 140737488351232) (_ : (Lit.int .i64 i).wf = true) (hs : Snt w) :
    Calls Tryz.prog 5 #[.slice a len cap, .int .i64 i] w fun e w' => e = .returned (.bool true) ∧ Below w.heap.size w w' := by
  have hl := h.len_eq
  have hR := h.read
  obtain ⟨L, hL⟩ : ∃ L, Z.take len = L := ⟨_, rfl⟩
  rw [hL] at hl hR
  subst hl
  by_cases hb : 200 < L.length
  · exact parts_great a cap L i w hs hb
  · have hp : Pw w a L := ⟨hR, by omega⟩
    by_cases hh : HasP L i
    · obtain ⟨h1, h2, h3⟩ := hh
      obtain ⟨I, rfl⟩ : ∃ I : Nat, i = (I : Int) := ⟨i.toNat, by omega⟩
      exact parts_some a cap L I w hs hp (by omega) (by omega) h3
    · exact parts_none a cap L i w hs hp (by omega) hh
end Go.Proofs.YtklmiabgalanhaaGreatDoor
