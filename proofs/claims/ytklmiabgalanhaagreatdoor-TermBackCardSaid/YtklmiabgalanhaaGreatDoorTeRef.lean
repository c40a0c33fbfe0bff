/- Contracts of the reference's End, Well, Up, Kids, Trees of layer 11; of term.row. -/
import Derived.Test.YtklmiabgalanhaaGreatDoorTeFn
namespace Go.Proofs.YtklmiabgalanhaaGreatDoor
open Go.RowKit Km
set_option maxRecDepth 100000
set_option linter.unusedVariables false

set_option maxHeartbeats 4000000 in
theorem pend_any (i : Nat) (x : Option Addr) (c : Nat) (L : List Pt) (w : World) (hr : Pw w x L) (hi : i ≤ L.length) :
    Calls Tryz.prog 20 #[.slice x L.length c, .int .i64 (i : Int)] w fun e w' => e = .returned (.int .i64 (endV (W L.length (Kp L) i 1))) ∧ w' = w := by
  have Hr := Lib.hid hr.1
  have hlb := hr.2
  clear hr
  go_enter Tryz.func20, Tryz.ntmps20
  go_wp2
  go_loopw [1, 5] (fun jv mv wr => ∃ (j m : Nat), j ≤ L.length ∧ m ≤ 1 + j * 2097152 ∧ jv = .int .i64 (j : Int) ∧ mv = .int .i64 (m : Int) ∧ Hid (W L.length (Kp L) i 1 = W L.length (Kp L) j m) ∧ wr = w) (fun jv _ _ => L.length - (intOf jv).toNat)
  case atStart => exact ⟨i, 1, hi, by omega, rfl, rfl, Lib.hid rfl, rfl⟩
  case round =>
    obtain ⟨j, m, hj, hm, rfl, rfl, HW, rfl⟩ := hrel
    cases m with
    | zero =>
      have Hfin := Lib.hid (HW.out.trans (W_zero j))
      go_wp2
      go_ret
      exact ⟨by rw [Hfin.out]; rfl, rfl⟩
    | succ m =>
      have p0 : (0 : Int) < ((m + 1 : Nat) : Int) := by omega
      have b0 : (0 : Int) ≤ (j : Int) := by omega
      by_cases hlt : j < L.length
      · have b1 : (j : Int) < (L.length : Int) := by omega
        have q1 : ((j : Int) == (L.length : Int)) = false := beq_eq_false_iff_ne.2 (by omega)
        have q2 : (j == L.length) = false := beq_eq_false_iff_ne.2 (by omega)
        obtain ⟨g, o, rfl, hg, hat⟩ := Hr.out.at (Below.refl _ _) hlt
        have d1 := hat.2.1
        have hK : Kp L j = (nthP L j).c := rfl
        have HK := Lib.hid hK
        clear hat hK
        generalize (nthP L j).c = C at d1 HK
        by_cases h1 : C < 0
        · have Hfin := Lib.hid (HW.out.trans (W_no (m := m) (.inr (.inl (by rw [HK.out]; exact h1)))))
          go_wp2
          go_ret
          exact ⟨by rw [Hfin.out]; rfl, rfl⟩
        · by_cases h2 : (L.length : Int) < C
          · have Hfin := Lib.hid (HW.out.trans (W_no (m := m) (.inr (.inr (by rw [HK.out]; exact h2)))))
            go_wp2
            go_ret
            exact ⟨by rw [Hfin.out]; rfl, rfl⟩
          · have Hst := Lib.hid (HW.out.trans (W_go (m := m) hlt (by rw [HK.out]; omega) (by rw [HK.out]; omega)))
            obtain ⟨D, rfl⟩ : ∃ D : Nat, C = (D : Int) := ⟨C.toNat, by omega⟩
            have e3 : IntKind.i64.wrap (((m + 1 : Nat) : Int) - 1) = (m : Int) := by rw [IntKind.wrap_i64]; omega
            have h3 : D ≤ L.length := by omega
            go_wp2
            go_roundw
            case rel => exact ⟨j + 1, m + D, by omega, by omega, by go_num, by go_num, Lib.hid (by rw [Hst.out, HK.out]; rfl), by first | rfl | trivial⟩
            case measure => simp [intOf]; omega
      · have hje : j = L.length := by omega
        have q1 : ((j : Int) == (L.length : Int)) = true := beq_iff_eq.2 (by omega)
        have q2 : (j == L.length) = true := beq_iff_eq.2 (by omega)
        have Hfin := Lib.hid (HW.out.trans (W_no (m := m) (.inl (by omega))))
        subst hje
        go_wp2
        go_ret
        exact ⟨by rw [Hfin.out]; rfl, rfl⟩

theorem rwell_any (x : Option Addr) (c : Nat) (L : List Pt) (w : World) (hr : Pw w x L) :
    Calls Tryz.prog 14 #[.slice x L.length c] w fun e w' => e = .returned (.bool (decide (We L))) ∧ w' = w := by
  have H1 := Lib.hid (pend_any 0 x c L w hr (Nat.zero_le _))
  have He := endV_well L
  by_cases h0 : 0 < L.length
  · have b0 : (0 : Int) < (L.length : Int) := by omega
    clear hr h0
    have HeB : Hid ((endV (W L.length (Kp L) 0 1) == (L.length : Int)) = decide (We L)) := Lib.hid (by rw [← He]; rfl)
    clear He
    generalize endV (W L.length (Kp L) 0 1) = EV at H1 HeB
    go_enter Tryz.func14, Tryz.ntmps14
    go_wp2_with fail
    refine H1.out.mono ?_
    rintro e w1 ⟨rfl, rfl⟩
    go_wp2
    go_ret
    exact ⟨by rw [← HeB.out]; rfl, rfl⟩
  · have b0 : ¬ (0 : Int) < (L.length : Int) := by omega
    rw [show decide (We L) = false from decide_eq_false (fun h => h0 h.pos)]
    clear hr h0 He H1
    go_enter Tryz.func14, Tryz.ntmps14
    go_wp2
    go_ret
    exact ⟨rfl, rfl⟩
theorem rpend_some (k : Nat) (x : Option Addr) (c : Nat) (L : List Pt) (w : World) (hr : Pw w x L) (hk : k < L.length) (hw : We L) :
    Calls Tryz.prog 20 #[.slice x L.length c, .int .i64 (k : Int)] w fun e w' => e = .returned (.int .i64 (enP L k : Int)) ∧ w' = w := by
  have h := pend_any k x c L w hr (by omega)
  rw [(hw.all hk).1] at h
  exact h

theorem rpup_any (i : Nat) (x : Option Addr) (c : Nat) (L : List Pt) (w : World) (hr : Pw w x L) (hi : i < L.length) (hw : We L) :
    Calls Tryz.prog 21 #[.slice x L.length c, .int .i64 (i : Int)] w fun e w' => e = .returned (.int .i64 (upP L i)) ∧ w' = w := by
  have HE := Lib.hid (fun k hk => rpend_some k x c L w hr hk hw)
  have hlb := hr.2
  clear hr hw
  go_enter Tryz.func21, Tryz.ntmps21
  go_wp2
  go_loopw [5] (fun jv wr => ∃ r : Nat, r ≤ i ∧ jv = .int .i64 ((r : Int) - 1) ∧ Hid (upP L i = upF (E L.length (Kp L)) i r) ∧ wr = w) (fun jv _ => (intOf jv + 1).toNat)
  case atStart => exact ⟨i, Nat.le_refl _, by go_num, Lib.hid rfl, rfl⟩
  case round =>
    obtain ⟨r, hr, rfl, HU, rfl⟩ := hrel
    cases r with
    | zero =>
      have b0 : ¬ (0 : Int) ≤ ((0 : Nat) : Int) - 1 := by omega
      go_wp2
      go_ret
      exact ⟨by rw [HU.out]; rfl, rfl⟩
    | succ k =>
      rw [show ((k + 1 : Nat) : Int) - 1 = (k : Int) by omega]
      have b0 : (0 : Int) ≤ (k : Int) := by omega
      have HC := Lib.hid (HE.out k (by omega))
      by_cases hk : i < E L.length (Kp L) k
      · have Hv : Hid (upP L i = (k : Int)) := Lib.hid (HU.out.trans (if_pos hk))
        have b2 : (i : Int) < (enP L k : Int) := by unfold enP; omega
        generalize (enP L k : Int) = EK at HC b2
        clear hk
        go_wp2_with fail
        refine HC.out.mono ?_
        rintro e w2 ⟨rfl, rfl⟩
        go_wp2
        go_ret
        exact ⟨by rw [Hv.out]; rfl, rfl⟩
      · have Hv : Hid (upP L i = upF (E L.length (Kp L)) i k) := Lib.hid (HU.out.trans (if_neg hk))
        have b2 : ¬ (i : Int) < (enP L k : Int) := by unfold enP; omega
        generalize (enP L k : Int) = EK at HC b2
        clear hk
        go_wp2_with fail
        refine HC.out.mono ?_
        rintro e w2 ⟨rfl, rfl⟩
        go_wp2
        go_roundw
        case rel => exact ⟨k, by omega, by go_num, Hv, by first | rfl | trivial⟩
        case measure => first | (simp [intOf]; done) | (simp [intOf]; omega)

set_option maxHeartbeats 4000000 in
theorem rpkids_any (i : Nat) (x : Option Addr) (c : Nat) (L : List Pt) (w : World) (hr : Pw w x L) (hi : i < L.length) (hw : We L) :
    Calls Tryz.prog 23 #[.slice x L.length c, .int .i64 (i : Int)] w fun e w' => ∃ v, e = .returned v ∧ w'.ownsRow w.heap.size 3 1 v (kidP L i).length (iRow ((kidP L i).map fun (k : Nat) => (k : Int))) ∧ Below w.heap.size w w' := by
  have HE : Hid (∀ k w2, Pw w2 x L → k < L.length → Calls Tryz.prog 20 #[.slice x L.length c, .int .i64 (k : Int)] w2 fun e w' => e = .returned (.int .i64 (enP L k : Int)) ∧ w' = w2) := Lib.hid fun k w2 h2 hk => rpend_some k x c L w2 h2 hk hw
  have Hr := Lib.hid hr
  have hlb := hr.2
  have Hw := Lib.hid hw
  have ha := hw.all hi
  have hK : Kp L i = (nthP L i).c := rfl
  rw [hK] at ha
  obtain ⟨D, hD⟩ : ∃ D : Nat, (nthP L i).c = (D : Int) := ⟨(nthP L i).c.toNat, by omega⟩
  rw [hD, Int.toNat_natCast] at ha
  have HD := Lib.hid hD
  have HA := Lib.hid ha
  have hDn : D ≤ L.length := by omega
  have c0 : (0 : Int) ≤ (i : Int) := by omega
  have c1 : (i : Int) < (L.length : Int) := by omega
  clear hr hw ha hK hD
  go_enter Tryz.func23, Tryz.ntmps23
  go_wp2
  go_loopw [5, 6, 7] (fun ov kv nv wr => ∃ (l : List Nat) (p : Nat), l.length ≤ D ∧ kv = .int .i64 (p : Int) ∧ nv = .int .i64 (l.length : Int) ∧ Hid (W L.length (Kp L) (i + 1) l.length = some p) ∧ Hid (kidP L i = l ++ chain (E L.length (Kp L)) (E L.length (Kp L) i) L.length p)
    ∧ Hid (wr.ownsRow w.heap.size 3 1 ov (l.map fun (k : Nat) => (k : Int)).length (iRow (l.map fun (k : Nat) => (k : Int)))) ∧ Hid (Below w.heap.size w wr)) (fun _ _ nv _ => D - (intOf nv).toNat)
  case atStart => exact ⟨[], i + 1, by simp, by go_num, rfl, Lib.hid (W_zero _), Lib.hid rfl, Lib.hid (World.ownsRow_nil _ _ _ _), Lib.hid (Below.refl _ _)⟩
  case round =>
    obtain ⟨l, p, hk, rfl, rfl, HWk, HK, HO, HB⟩ := hrel
    obtain ⟨y, cy, hv, himp⟩ := owns_form HO.out
    subst hv
    clear himp
    obtain ⟨g, o, rfl, hg, hat⟩ := Hr.out.1.at HB.out hi
    have d1 := hat.2.1
    rw [HD.out] at d1
    clear hat
    obtain ⟨k, hkl⟩ : ∃ k, l.length = k := ⟨_, rfl⟩
    have hm : (l.map fun (k : Nat) => (k : Int)).length = k := by rw [List.length_map]; exact hkl
    have HO2 := HO.out
    have HW2 := HWk.out
    rw [hkl] at hk HW2
    rw [hm] at HO2
    by_cases hkD : k < D
    · have b0 : (k : Int) < (D : Int) := by omega
      have hsplit := W_cat (b := D - k) HW2
      rw [show k + (D - k) = D by omega, HA.out.2.2.2.2.2, show D - k = (D - k - 1) + 1 by omega] at hsplit
      obtain ⟨s1, s2, s3, s4⟩ := Hw.out.step hsplit.symm
      have hW3 : W L.length (Kp L) (i + 1) (k + 1) = some (enP L p) := by rw [W_cat HW2]; exact (Hw.out.all s1).1
      have hE : ∀ c, c < E L.length (Kp L) i → c < E L.length (Kp L) c := fun c hc => (Hw.out.all (by have := HA.out.2.2.1; omega)).2.1
      have hst := chain_step (f := L.length) hE (show p < E L.length (Kp L) i by omega) (by have := HA.out.2.2.1; omega)
      have hl2 : (l ++ [p]).length = k + 1 := by simp [hkl]
      have HK2 : Hid (kidP L i = (l ++ [p]) ++ chain (E L.length (Kp L)) (E L.length (Kp L) i) L.length (enP L p)) := Lib.hid (by rw [HK.out, hst, List.append_assoc]; rfl)
      obtain ⟨y2, c3, w3, hrun, hown, hgrow⟩ := push_int HO.out (p : Int) (by rw [hm]; omega) HB.out.size
      rw [hm] at hrun hown
      have hb3 := Lib.hid ((HB.out.alloc HB.out.size _).grown hgrow (by have := HB.out.size; simp; omega) (fun k e => (HO.out.lt k e).1))
      have hown : w3.ownsRow w.heap.size 3 1 (.slice y2 (k + 1) c3) ((l ++ [p]).map fun (k : Nat) => (k : Int)).length (iRow ((l ++ [p]).map fun (k : Nat) => (k : Int))) := by
        rw [List.map_append]; exact hown
      have Hown := Lib.hid hown
      have Hrun := Lib.hid hrun
      have HC := Lib.hid (HE.out p w3 (Hr.out.keep hb3.out) s1)
      have HW3 : Hid (W L.length (Kp L) (i + 1) (l ++ [p]).length = some (enP L p)) := Lib.hid (by rw [hl2]; exact hW3)
      have HL2 := Lib.hid hl2
      rw [hkl, hm]
      clear hgrow hown hrun hst hE hsplit s1 s2 s3 s4 hW3 HO HO2 HW2 hl2 hm hkl HWk HK
      go_wp2_with (at_builtin; refine wpList_app_run rfl _ _ _ _ rfl rfl rfl Hrun.out ?_)
      refine HC.out.mono ?_
      rintro e w4 ⟨rfl, rfl⟩
      go_wp2
      go_roundw
      case rel => exact ⟨l ++ [p], _, by have := HL2.out; omega, rfl, by rw [HL2.out]; go_num, HW3, HK2, Hown, hb3⟩
      case measure => simp [intOf]; omega
    · have b0 : ¬ (k : Int) < (D : Int) := by omega
      have hkd : k = D := by omega
      have hpe : p = E L.length (Kp L) i := by
        have := HW2.symm.trans (hkd ▸ HA.out.2.2.2.2.2)
        injection this
      have hkl2 : kidP L i = l := by rw [HK.out, chain_done (by omega), List.append_nil]
      have hlk : (kidP L i).length = k := by rw [hkl2]; exact hkl
      rw [← hkl2] at HO2
      rw [hkl, hm]
      have HO3 := Lib.hid HO2
      have Hlk := Lib.hid hlk
      clear HO2 hm hkl2 hlk hpe hkd HO HWk HW2 HK hkl
      go_wp2
      go_ret
      exact ⟨_, rfl, by rw [Hlk.out]; exact HO3.out, HB.out⟩

/-- How many trees a list is, one behind the other. -/
def Rw (L : List Pt) (m : Nat) : Prop := W L.length (Kp L) 0 m = some L.length
theorem row_some (m : Nat) (x : Option Addr) (c : Nat) (L : List Pt) (w : World) (hr : Pw w x L) (h : Rw L m) :
    Calls Tryz.prog 53 #[.slice x L.length c] w fun e w' => e = .returned (.int .i64 (m : Int)) ∧ w' = w := by
  have HB := Lib.hid (fun i hi => behind_any i x c L w hr hi)
  have hlb := hr.2
  have Hm := Lib.hid h
  clear hr h
  go_enter Tryz.func53, Tryz.ntmps53
  go_wp2
  go_loopw [3, 4] (fun tv iv wr => ∃ t p : Nat, p ≤ L.length ∧ t ≤ p ∧ tv = .int .i64 (t : Int) ∧ iv = .int .i64 (p : Int) ∧ Hid (W L.length (Kp L) 0 t = some p) ∧ wr = w) (fun _ iv _ => L.length - (intOf iv).toNat)
  case atStart => exact ⟨0, 0, by omega, by omega, rfl, rfl, Lib.hid (W_zero _), rfl⟩
  case round =>
    obtain ⟨t, p, hp, htp, rfl, rfl, HW, rfl⟩ := hrel
    have htm : t ≤ m := by
      by_cases e : t ≤ m
      · exact e
      · exfalso
        have hw := HW.out
        obtain ⟨q, rfl⟩ : ∃ q, t = m + (q + 1) := ⟨t - m - 1, by omega⟩
        rw [W_cat Hm.out, W_no (by omega)] at hw
        cases hw
    have hs := W_cat (b := m - t) HW.out
    rw [show t + (m - t) = m by omega, show W L.length (Kp L) 0 m = some L.length from Hm.out] at hs
    by_cases hlt : p < L.length
    · have b0 : (p : Int) < (L.length : Int) := by omega
      have htm2 : t ≠ m := by
        intro e
        rw [show m - t = 0 by omega, W_zero] at hs
        injection hs with hs
        omega
      rw [show m - t = (m - t - 1) + 1 by omega] at hs
      obtain ⟨e, h1, h2, h3⟩ := W_first hs.symm
      have hge := W_ge h1
      have hb := HB.out p hp
      rw [h1] at hb
      have HB2 := Lib.hid hb
      have hW2 : W L.length (Kp L) 0 (t + 1) = some e := by rw [W_cat HW.out]; exact h1
      have HW2 := Lib.hid hW2
      have e0 : ((e : Int) == -1) = false := beq_eq_false_iff_ne.2 (by omega)
      clear hs h1 h2 hb hW2 HW
      go_wp2_with fail
      refine HB2.out.mono ?_
      rintro e2 w2 ⟨rfl, rfl⟩
      unfold endV
      dsimp only
      go_wp2
      go_roundw
      case rel => exact ⟨t + 1, e, h3, by omega, by go_num, rfl, HW2, by first | rfl | trivial⟩
      case measure => simp [intOf]; omega
    · have hpl : p = L.length := by omega
      have b0 : ¬ (p : Int) < (L.length : Int) := by omega
      have htm2 : t = m := by
        by_cases e : t = m
        · exact e
        · rw [show m - t = (m - t - 1) + 1 by omega, W_no (by omega)] at hs; cases hs
      subst htm2
      clear hs
      go_wp2
      go_ret
      exact ⟨rfl, rfl⟩
theorem row_none (x : Option Addr) (c : Nat) (L : List Pt) (w : World) (hr : Pw w x L) (h : ∀ m, ¬ Rw L m) :
    Calls Tryz.prog 53 #[.slice x L.length c] w fun e w' => e = .returned (.int .i64 (-1)) ∧ w' = w := by
  have HB := Lib.hid (fun i hi => behind_any i x c L w hr hi)
  have hlb := hr.2
  have Hm := Lib.hid h
  clear hr h
  go_enter Tryz.func53, Tryz.ntmps53
  go_wp2
  go_loopw [3, 4] (fun tv iv wr => ∃ t p : Nat, p ≤ L.length ∧ t ≤ p ∧ tv = .int .i64 (t : Int) ∧ iv = .int .i64 (p : Int) ∧ Hid (W L.length (Kp L) 0 t = some p) ∧ wr = w) (fun _ iv _ => L.length - (intOf iv).toNat)
  case atStart => exact ⟨0, 0, by omega, by omega, rfl, rfl, Lib.hid (W_zero _), rfl⟩
  case round =>
    obtain ⟨t, p, hp, htp, rfl, rfl, HW, rfl⟩ := hrel
    by_cases hlt : p < L.length
    · have b0 : (p : Int) < (L.length : Int) := by omega
      have hb := HB.out p hp
      cases h1 : W L.length (Kp L) p 1 with
      | none =>
        rw [h1] at hb
        have HB2 := Lib.hid hb
        clear hb h1 HW
        go_wp2_with fail
        refine HB2.out.mono ?_
        rintro e2 w2 ⟨rfl, rfl⟩
        unfold endV
        dsimp only
        go_wp2
        go_ret
        exact ⟨rfl, rfl⟩
      | some e =>
        have hge := W_ge h1
        have hin := W_in h1 (by omega)
        rw [h1] at hb
        have HB2 := Lib.hid hb
        have hW2 : W L.length (Kp L) 0 (t + 1) = some e := by rw [W_cat HW.out]; exact h1
        have HW2 := Lib.hid hW2
        have e0 : ((e : Int) == -1) = false := beq_eq_false_iff_ne.2 (by omega)
        clear h1 hb hW2 HW
        go_wp2_with fail
        refine HB2.out.mono ?_
        rintro e2 w2 ⟨rfl, rfl⟩
        unfold endV
        dsimp only
        go_wp2
        go_roundw
        case rel => exact ⟨t + 1, e, hin, by omega, by go_num, rfl, HW2, by first | rfl | trivial⟩
        case measure => simp [intOf]; omega
    · have hpl : p = L.length := by omega
      subst hpl
      exact absurd HW.out (Hm.out t)
end Go.Proofs.YtklmiabgalanhaaGreatDoor
