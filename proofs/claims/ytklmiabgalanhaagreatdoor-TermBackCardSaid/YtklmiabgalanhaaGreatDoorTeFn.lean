/- Contracts of term.hasPart, End, Up, Kids, row, behindKids. -/
import Derived.Test.YtklmiabgalanhaaGreatDoorTeCore
namespace Go.Proofs.YtklmiabgalanhaaGreatDoor
open Go.RowKit Km
set_option maxRecDepth 100000
set_option linter.unusedVariables false

def enP (L : List Pt) (i : Nat) : Nat := E L.length (Kp L) i
def upP (L : List Pt) (i : Nat) : Int := up L.length (Kp L) i
def kidP (L : List Pt) (i : Nat) : List Nat := kids L.length (Kp L) i
/-- A well list has such a part. -/
def HasP (L : List Pt) (i : Int) : Prop := 0 ≤ i ∧ i < (L.length : Int) ∧ We L
instance (L : List Pt) (i : Int) : Decidable (HasP L i) := by unfold HasP; infer_instance

theorem has_part (i : Int) (x : Option Addr) (c : Nat) (L : List Pt) (w : World) (hr : Pw w x L) :
    Calls Tryz.prog 40 #[.slice x L.length c, .int .i64 i] w fun e w' => e = .returned (.bool (decide (HasP L i))) ∧ w' = w := by
  have HW := Lib.hid (well_any x c L w hr)
  clear hr
  by_cases h1 : 0 ≤ i
  · by_cases h2 : i < (L.length : Int)
    · have hd : decide (HasP L i) = decide (We L) := decide_eq_decide.2 ⟨fun h => h.2.2, fun h => ⟨h1, h2, h⟩⟩
      rw [hd]
      clear hd
      generalize decide (We L) = B at HW ⊢
      go_enter Tryz.func40, Tryz.ntmps40
      go_wp2_with fail
      refine HW.out.mono ?_
      rintro e w1 ⟨rfl, rfl⟩
      go_wp2
      go_ret
      exact ⟨rfl, rfl⟩
    · rw [show decide (HasP L i) = false from decide_eq_false (fun h => h2 h.2.1)]
      go_enter Tryz.func40, Tryz.ntmps40
      go_wp2
      go_ret
      exact ⟨rfl, rfl⟩
  · rw [show decide (HasP L i) = false from decide_eq_false (fun h => h1 h.1)]
    go_enter Tryz.func40, Tryz.ntmps40
    go_wp2
    go_ret
    exact ⟨rfl, rfl⟩

theorem pend_none (i : Int) (x : Option Addr) (c : Nat) (L : List Pt) (w : World) (hr : Pw w x L) (h : ¬ HasP L i) :
    Calls Tryz.prog 17 #[.slice x L.length c, .int .i64 i] w fun e w' => e = .returned (.int .i64 (-1)) ∧ w' = w := by
  have HH := has_part i x c L w hr
  rw [decide_eq_false h] at HH
  have HH := Lib.hid HH
  clear hr h
  go_enter Tryz.func17, Tryz.ntmps17
  go_wp2_with fail
  refine HH.out.mono ?_
  rintro e w1 ⟨rfl, rfl⟩
  go_wp2
  go_ret
  exact ⟨rfl, rfl⟩
theorem pend_some (i : Nat) (x : Option Addr) (c : Nat) (L : List Pt) (w : World) (hr : Pw w x L) (hi : i < L.length) (hw : We L) :
    Calls Tryz.prog 17 #[.slice x L.length c, .int .i64 (i : Int)] w fun e w' => e = .returned (.int .i64 (enP L i : Int)) ∧ w' = w := by
  have HH := has_part i x c L w hr
  rw [decide_eq_true (show HasP L i from ⟨by omega, by omega, hw⟩)] at HH
  have HH := Lib.hid HH
  have HB := behind_any i x c L w hr (by omega)
  rw [(hw.all hi).1] at HB
  have HB := Lib.hid HB
  clear hr hw
  go_enter Tryz.func17, Tryz.ntmps17
  go_wp2_with fail
  refine HH.out.mono ?_
  rintro e w1 ⟨rfl, rfl⟩
  go_wp2_with fail
  refine HB.out.mono ?_
  rintro e w1 ⟨rfl, rfl⟩
  go_wp2
  go_ret
  exact ⟨rfl, rfl⟩

theorem pup_none (i : Int) (x : Option Addr) (c : Nat) (L : List Pt) (w : World) (hr : Pw w x L) (h : ¬ HasP L i) :
    Calls Tryz.prog 18 #[.slice x L.length c, .int .i64 i] w fun e w' => e = .returned (.int .i64 (-1)) ∧ w' = w := by
  have HH := has_part i x c L w hr
  rw [decide_eq_false h] at HH
  have HH := Lib.hid HH
  clear hr h
  go_enter Tryz.func18, Tryz.ntmps18
  go_wp2_with fail
  refine HH.out.mono ?_
  rintro e w1 ⟨rfl, rfl⟩
  go_wp2
  go_ret
  exact ⟨rfl, rfl⟩
set_option maxHeartbeats 4000000 in
theorem pup_some (i : Nat) (x : Option Addr) (c : Nat) (L : List Pt) (w : World) (hr : Pw w x L) (hi : i < L.length) (hw : We L) :
    Calls Tryz.prog 18 #[.slice x L.length c, .int .i64 (i : Int)] w fun e w' => e = .returned (.int .i64 (upP L i)) ∧ w' = w := by
  have HH := has_part i x c L w hr
  rw [decide_eq_true (show HasP L i from ⟨by omega, by omega, hw⟩)] at HH
  have HH := Lib.hid HH
  have Hr := Lib.hid hr.1
  have hlb := hr.2
  have Hw := Lib.hid hw
  clear hr hw
  go_enter Tryz.func18, Tryz.ntmps18
  go_wp2_with fail
  refine HH.out.mono ?_
  rintro e w1 ⟨rfl, rfl⟩
  go_wp2
  go_loopw [5, 6] (fun tv jv wr => ∃ (r t : Nat), r ≤ i ∧ t + r ≤ i ∧ jv = .int .i64 ((r : Int) - 1) ∧ tv = .int .i64 (t : Int) ∧ Hid (W L.length (Kp L) r t = some i) ∧ Hid (∀ k, r ≤ k → k < i → E L.length (Kp L) k ≤ i) ∧ wr = w1) (fun _ jv _ => (intOf jv + 1).toNat)
  case atStart => exact ⟨i, 0, Nat.le_refl _, by omega, by go_num, rfl, Lib.hid (W_zero i), Lib.hid (fun k a b => by omega), rfl⟩
  case round =>
    obtain ⟨r, t, hr, htr, rfl, rfl, HT, HE, rfl⟩ := hrel
    cases r with
    | zero =>
      have b0 : ¬ (0 : Int) ≤ ((0 : Nat) : Int) - 1 := by omega
      have Hv : Hid (upP L i = -1) := Lib.hid (upF_none i fun k hk => HE.out k (Nat.zero_le _) hk)
      go_wp2
      go_ret
      exact ⟨by rw [Hv.out]; rfl, rfl⟩
    | succ p =>
      rw [show ((p + 1 : Nat) : Int) - 1 = (p : Int) by omega]
      have b0 : (0 : Int) ≤ (p : Int) := by omega
      have b1 : (p : Int) < (L.length : Int) := by omega
      obtain ⟨g, o, rfl, hg, hat⟩ := Hr.out.at (Below.refl _ _) (show p < L.length by omega)
      have d1 := hat.2.1
      have ha := Hw.out.all (show p < L.length by omega)
      have hK : Kp L p = (nthP L p).c := rfl
      rw [hK] at ha
      obtain ⟨D, hD⟩ : ∃ D : Nat, (nthP L p).c = (D : Int) := ⟨(nthP L p).c.toNat, by omega⟩
      rw [hD] at ha d1
      rw [Int.toNat_natCast] at ha
      have hDn : D ≤ L.length := by omega
      by_cases hgt : t < D
      · have b2 : (t : Int) < (D : Int) := by omega
        have hs := W_cat (b := D - t) HT.out
        rw [show t + (D - t) = D by omega, ha.2.2.2.2.2] at hs
        have hge := W_ge hs.symm
        have Hv : Hid (upP L i = (p : Int)) := Lib.hid (up_is (by omega) (by omega) fun k a b => HE.out k (by omega) b)
        clear hs hge ha hat hD hK
        go_wp2
        go_ret
        exact ⟨by rw [Hv.out]; rfl, rfl⟩
      · have b2 : ¬ (t : Int) < (D : Int) := by omega
        have hst : W L.length (Kp L) p (t - D + 1) = some i := by
          rw [W_up (by omega) (by rw [hK, hD]; omega), hK, hD, Int.toNat_natCast, show t - D + D = t by omega]
          exact HT.out
        obtain ⟨e1, h1, h2, h3⟩ := W_first hst
        have hEp : E L.length (Kp L) p ≤ i := by unfold E; rw [h1]; exact h3
        have HT2 := Lib.hid hst
        have HE2 : Hid (∀ k, p ≤ k → k < i → E L.length (Kp L) k ≤ i) := Lib.hid fun k a b => by
          by_cases e : k = p
          · subst e; exact hEp
          · exact HE.out k (by omega) b
        clear hst h1 h2 h3 hEp ha hat hD hK
        go_wp2
        go_roundw
        case rel => exact ⟨p, t - D + 1, by omega, by omega, by go_num, by go_num, HT2, HE2, by first | rfl | trivial⟩
        case measure => first | (simp [intOf]; done) | (simp [intOf]; omega)

theorem pkids_none (i : Int) (x : Option Addr) (c : Nat) (L : List Pt) (w : World) (hr : Pw w x L) (h : ¬ HasP L i) :
    Calls Tryz.prog 19 #[.slice x L.length c, .int .i64 i] w fun e w' => e = .returned (.slice none 0 0) ∧ w' = w := by
  have HH := has_part i x c L w hr
  rw [decide_eq_false h] at HH
  have HH := Lib.hid HH
  clear hr h
  go_enter Tryz.func19, Tryz.ntmps19
  go_wp2_with fail
  refine HH.out.mono ?_
  rintro e w1 ⟨rfl, rfl⟩
  go_wp2
  go_ret
  exact ⟨rfl, rfl⟩
set_option maxHeartbeats 4000000 in
theorem pkids_some (i : Nat) (x : Option Addr) (c : Nat) (L : List Pt) (w : World) (hr : Pw w x L) (hi : i < L.length) (hw : We L) :
    Calls Tryz.prog 19 #[.slice x L.length c, .int .i64 (i : Int)] w fun e w' => ∃ v, e = .returned v ∧ w'.ownsRow w.heap.size 3 1 v (kidP L i).length (iRow ((kidP L i).map fun (k : Nat) => (k : Int))) ∧ Below w.heap.size w w' := by
  have HH := has_part i x c L w hr
  rw [decide_eq_true (show HasP L i from ⟨by omega, by omega, hw⟩)] at HH
  have HH := Lib.hid HH
  have HB := behind_any i x c L w hr (by omega)
  rw [(hw.all hi).1] at HB
  change Calls _ _ _ _ (fun e w' => e = .returned (.int .i64 (E L.length (Kp L) i : Int)) ∧ w' = w) at HB
  have HB := Lib.hid HB
  have HBk : Hid (∀ (k : Nat) (w2 : World), Pw w2 x L → k < L.length → Calls Tryz.prog 33 #[.slice x L.length c, .int .i64 (k : Int)] w2 fun e w' => e = .returned (.int .i64 (E L.length (Kp L) k : Int)) ∧ w' = w2) := Lib.hid fun k w2 h2 hk => by
    have h3 := behind_any k x c L w2 h2 (by omega)
    rw [(hw.all hk).1] at h3
    exact h3
  have Hr := Lib.hid hr
  have hlb := hr.2
  have Hw := Lib.hid hw
  have hch : ∀ c, c < E L.length (Kp L) i → c < E L.length (Kp L) c := fun c hc => (hw.all (by have := (hw.all hi).2.2.1; omega)).2.1
  have hEi := (hw.all hi).2.2.1
  have hi1 := (hw.all hi).2.1
  have Hch := Lib.hid hch
  clear hr hw hch
  go_enter Tryz.func19, Tryz.ntmps19
  go_wp2_with fail
  refine HH.out.mono ?_
  rintro e w1 ⟨rfl, rfl⟩
  go_wp2_with fail
  refine HB.out.mono ?_
  rintro e w1 ⟨rfl, rfl⟩
  go_wp2
  go_loopw [5, 6] (fun ov kv wr => ∃ (k : Nat) (l : List Nat), i < k ∧ k ≤ E L.length (Kp L) i ∧ kv = .int .i64 (k : Int) ∧ Hid (kidP L i = l ++ chain (E L.length (Kp L)) (E L.length (Kp L) i) L.length k) ∧ l.length ≤ k
    ∧ Hid (wr.ownsRow w1.heap.size 3 1 ov (l.map fun (k : Nat) => (k : Int)).length (iRow (l.map fun (k : Nat) => (k : Int)))) ∧ Hid (Below w1.heap.size w1 wr)) (fun _ kv _ => L.length - (intOf kv).toNat)
  case atStart => exact ⟨i + 1, [], by omega, by omega, by go_num, Lib.hid rfl, by simp, Lib.hid (World.ownsRow_nil _ _ _ _), Lib.hid (Below.refl _ _)⟩
  case round =>
    obtain ⟨k, l, hik, hkE, rfl, HK, hl, HO, HB2⟩ := hrel
    obtain ⟨y, cy, hv, himp⟩ := owns_form HO.out
    subst hv
    clear himp
    by_cases hlt : k < E L.length (Kp L) i
    · have b2 : (k : Int) < (E L.length (Kp L) i : Int) := by omega
      have hk : k < L.length := by omega
      have hkn := Hch.out k hlt
      have hlam := Hw.out.lam hi hik hlt
      have hst := chain_step (f := L.length) Hch.out hlt (by omega)
      have HK2 : Hid (kidP L i = (l ++ [k]) ++ chain (E L.length (Kp L)) (E L.length (Kp L) i) L.length (E L.length (Kp L) k)) := Lib.hid (by rw [HK.out, hst, List.append_assoc]; rfl)
      obtain ⟨y2, c3, w3, hrun, hown, hgrow⟩ := push_int HO.out (k : Int) (by rw [List.length_map]; omega) HB2.out.size
      have hb3 := Lib.hid ((HB2.out.alloc HB2.out.size _).grown hgrow (by have := HB2.out.size; simp; omega) (fun k e => (HO.out.lt k e).1))
      have hown : w3.ownsRow w1.heap.size 3 1 (.slice y2 ((l.map fun (k : Nat) => (k : Int)).length + 1) c3) ((l ++ [k]).map fun (k : Nat) => (k : Int)).length (iRow ((l ++ [k]).map fun (k : Nat) => (k : Int))) := by
        rw [List.map_append]; exact hown
      have Hown := Lib.hid hown
      have Hrun := Lib.hid hrun
      have HC := Lib.hid (HBk.out k w3 (Hr.out.keep hb3.out) hk)
      have hl2 : (l ++ [k]).length ≤ k + 1 := by simp; omega
      have HL2 := Lib.hid hl2
      have HHH := Lib.hid (And.intro hlam hkn)
      clear hgrow hown hrun hst HK HO HB2 hl hl2 hlam hkn
      generalize (l.map fun (k : Nat) => (k : Int)).length = Q at Hrun Hown ⊢
      go_wp2_with (at_builtin; refine wpList_app_run rfl _ _ _ _ rfl rfl rfl Hrun.out ?_)
      refine HC.out.mono ?_
      rintro e w4 ⟨rfl, rfl⟩
      go_wp2
      go_roundw
      case rel => exact ⟨_, l ++ [k], by have := HHH.out; omega, HHH.out.1, rfl, HK2, by have := HHH.out; have := HL2.out; omega, Hown, hb3⟩
      case measure => have := HHH.out; simp [intOf]; omega
    · have b2 : ¬ (k : Int) < (E L.length (Kp L) i : Int) := by omega
      have hkl : kidP L i = l := by rw [HK.out, chain_done (by omega), List.append_nil]
      have HO2 := HO.out
      have hm : (l.map fun (k : Nat) => (k : Int)).length = l.length := by simp
      rw [hm] at HO2 ⊢
      have HO3 := Lib.hid HO2
      have Hkl := Lib.hid hkl
      clear HO2 hm hkl
      go_wp2
      go_ret
      exact ⟨_, rfl, by rw [Hkl.out]; exact HO3.out, HB2.out⟩
end Go.Proofs.YtklmiabgalanhaaGreatDoor
