/- Contract of term.Check. -/
import Derived.Test.YtklmiabgalanhaaGreatDoorTeFit
import Derived.Laws.EntriesVeiled
namespace Go.Proofs.YtklmiabgalanhaaGreatDoor
open Go.Shelf Go.RowKit Em
set_option maxRecDepth 100000
set_option linter.unusedVariables false
set_option linter.unusedSimpArgs false

/-- A part that may be. -/
def pOK (p : Pt) : Bool := kf p.k p.c && wf p.k p.x
theorem chk1_any (p : Pt) (w : World) (hc : 0 ≤ p.c) (hx : p.x.size ≤ 140737488355300) :
    Calls Tryz.prog 34 #[.agg #[.int .u8 (p.k : Int), .int .i64 p.c, .string p.x]] w fun e w' => e = .returned (.bool (!pOK p)) ∧ Below w.heap.size w w' := by
  obtain ⟨k, c, x⟩ := p
  dsimp only at hc hx
  have hb : PB (w.alloc (.cells #[.int .u8 (k : Int), .int .i64 c, .string x] 28)) w.heap.size (k : Int) c x := heap_alloc_new w _
  have HB := Lib.hid ((Below.refl w.heap.size w).alloc (Nat.le_refl _) (.cells #[.int .u8 (k : Int), .int .i64 c, .string x] 28))
  have Hb := Lib.hid hb
  have HK := Lib.hid (fun w => kids_any k c w hc)
  have HW := Lib.hid (fun w => wordfits_any k x w hx)
  have hp : pOK ⟨k, c, x⟩ = (kf k c && wf k x) := rfl
  rw [hp]
  clear hb hp
  generalize wf k x = WF at HW ⊢
  cases hkf : kf k c with
  | true =>
    rw [hkf] at HK
    clear hkf
    go_enter Tryz.func34, Tryz.ntmps34
    have k0 := Hb.out.c0
    have k1 := Hb.out.c1
    have k2 := Hb.out.c2
    go_wp2_with fail
    refine (HK.out _).mono ?_
    rintro e w1 ⟨rfl, rfl⟩
    go_wp2_with fail
    refine (HW.out _).mono ?_
    rintro e w2 ⟨rfl, g2⟩
    have HB2 := Lib.hid (HB.out.trans (g2.mono HB.out.size))
    clear g2
    go_wp2
    go_ret
    exact ⟨rfl, HB2.out⟩
  | false =>
    rw [hkf] at HK
    clear hkf
    go_enter Tryz.func34, Tryz.ntmps34
    have k0 := Hb.out.c0
    have k1 := Hb.out.c1
    have k2 := Hb.out.c2
    go_wp2_with fail
    refine (HK.out _).mono ?_
    rintro e w1 ⟨rfl, rfl⟩
    go_wp2
    go_ret
    exact ⟨rfl, HB.out⟩

set_option maxHeartbeats 2000000 in
theorem ixf_any (x : Option Addr) (c : Nat) (L : List Pt) (w : World) (hr : Pw w x L) (hc : ∀ i, i < L.length → 0 ≤ (nthP L i).c) (hx : ∀ i, i < L.length → (nthP L i).x.size ≤ 140737488355300) :
    Calls Tryz.prog 60 #[.slice x L.length c, .func (.func 34) #[] #[]] w fun e w' => ∃ i : Int, e = .returned (.int .i64 i) ∧ (0 ≤ i ↔ ∃ j, j < L.length ∧ pOK (nthP L j) = false) ∧ Below w.heap.size w w' := by
  have Hr := Lib.hid hr
  have hlb := hr.2
  have HC := Lib.hid hc
  have HX := Lib.hid hx
  clear hr hc hx
  go_enter Tryz.func60, Tryz.ntmps60
  go_wp2
  go_loopw [8] (fun kv wr => ∃ k : Nat, k ≤ L.length ∧ kv = .int .i64 (k : Int) ∧ Hid (∀ j, j < k → pOK (nthP L j) = true) ∧ Hid (Below w.heap.size w wr)) (fun kv _ => L.length - (intOf kv).toNat)
  case atStart => exact ⟨0, by omega, rfl, Lib.hid (fun j h => by omega), Lib.hid (Below.refl _ _)⟩
  case round =>
    obtain ⟨k, hk, rfl, HN, HB⟩ := hrel
    by_cases hlt : k < L.length
    · have b0 : (0 : Int) ≤ (k : Int) := by omega
      have b1 : (k : Int) < (L.length : Int) := by omega
      obtain ⟨g, o, rfl, hg, d0, d1, d2⟩ := Hr.out.1.at HB.out hlt
      have HCh := chk1_any (nthP L k) wr (HC.out k hlt) (HX.out k hlt)
      cases hp : pOK (nthP L k) with
      | true =>
        rw [hp] at HCh
        have HCh := Lib.hid HCh
        have HN2 : Hid (∀ j, j < k + 1 → pOK (nthP L j) = true) := Lib.hid fun j hj => by
          by_cases e : j = k
          · subst e; exact hp
          · exact HN.out j (by omega)
        clear hp
        generalize (nthP L k).k = K8 at d0 HCh
        generalize (nthP L k).c = D at d1 HCh
        generalize (nthP L k).x = X at d2 HCh
        go_wp2_with fail
        refine HCh.out.mono ?_
        rintro e w2 ⟨rfl, g2⟩
        have HB2 := Lib.hid (HB.out.trans (g2.mono HB.out.size))
        clear g2
        go_wp2
        go_roundw
        case rel => exact ⟨k + 1, by omega, by go_num, HN2, HB2⟩
        case measure => simp [intOf]; omega
      | false =>
        rw [hp] at HCh
        have HCh := Lib.hid HCh
        have HF : Hid ((0 : Int) ≤ (k : Int) ↔ ∃ j, j < L.length ∧ pOK (nthP L j) = false) := Lib.hid ⟨fun _ => ⟨k, hlt, hp⟩, fun _ => b0⟩
        clear hp
        generalize (nthP L k).k = K8 at d0 HCh
        generalize (nthP L k).c = D at d1 HCh
        generalize (nthP L k).x = X at d2 HCh
        go_wp2_with fail
        refine HCh.out.mono ?_
        rintro e w2 ⟨rfl, g2⟩
        have HB2 := Lib.hid (HB.out.trans (g2.mono HB.out.size))
        clear g2
        go_wp2
        go_ret
        exact ⟨(k : Int), rfl, HF.out, HB2.out⟩
    · have b1 : ¬ (k : Int) < (L.length : Int) := by omega
      have HF : Hid ((0 : Int) ≤ (-1 : Int) ↔ ∃ j, j < L.length ∧ pOK (nthP L j) = false) := Lib.hid ⟨fun h => by omega, fun ⟨j, hj, hp⟩ => by
        have := HN.out j (by omega)
        rw [hp] at this; cases this⟩
      go_wp2
      go_ret
      exact ⟨-1, rfl, HF.out, HB.out⟩
/-- All parts may be. -/
def allB (L : List Pt) : Bool := L.all pOK
theorem allB_iff {L : List Pt} : allB L = false ↔ ∃ j, j < L.length ∧ pOK (nthP L j) = false := by
  unfold allB
  rw [List.all_eq_false]
  constructor
  · rintro ⟨p, hp, h⟩
    obtain ⟨j, hj, rfl⟩ := List.getElem_of_mem hp
    exact ⟨j, hj, by rw [nthP_get hj]; simpa using h⟩
  · rintro ⟨j, hj, h⟩
    rw [nthP_get hj] at h
    exact ⟨L[j], List.getElem_mem hj, by simp [h]⟩
theorem ctf_any (x : Option Addr) (c : Nat) (L : List Pt) (w : World) (hr : Pw w x L) (hc : ∀ i, i < L.length → 0 ≤ (nthP L i).c) (hx : ∀ i, i < L.length → (nthP L i).x.size ≤ 140737488355300) :
    Calls Tryz.prog 37 #[.slice x L.length c, .func (.func 34) #[] #[]] w fun e w' => e = .returned (.bool (!allB L)) ∧ Below w.heap.size w w' := by
  have HI := Lib.hid (ixf_any x c L w hr hc hx)
  clear hr hc hx
  go_enter Tryz.func37, Tryz.ntmps37
  go_wp2_with fail
  refine HI.out.mono ?_
  rintro e w1 ⟨i, rfl, hi, g1⟩
  have hd : decide (0 ≤ i) = !allB L := by
    cases hm : allB L with
    | true => exact decide_eq_false (fun h => by have := allB_iff.2 (hi.1 h); rw [hm] at this; cases this)
    | false => exact decide_eq_true (hi.2 (allB_iff.1 hm))
  have HD := Lib.hid hd
  have HG := Lib.hid g1
  clear hi hd g1
  go_wp2
  go_ret
  exact ⟨by rw [← HD.out]; rfl, HG.out⟩
/-- What Check answers. -/
def chkV (L : List Pt) : Int := if We L ∧ allB L = true then 0 else 8
theorem check_any' (x : Option Addr) (c : Nat) (L : List Pt) (w : World) (hr : Pw w x L) (hx : ∀ i, i < L.length → (nthP L i).x.size ≤ 140737488355300) :
    Calls Tryz.prog 15 #[.slice x L.length c] w fun e w' => e = .returned (.int .i64 (chkV L)) ∧ Below w.heap.size w w' := by
  have HW := well_any x c L w hr
  by_cases hw : We L
  · have HC := ctf_any x c L w hr (fun i hi => (hw.all hi).2.2.2.1) hx
    rw [decide_eq_true hw] at HW
    have HW := Lib.hid HW
    cases ha : allB L with
    | true =>
      rw [ha] at HC
      have HC := Lib.hid HC
      have HV := Lib.hid (show chkV L = 0 from if_pos ⟨hw, ha⟩)
      clear hr hw hx ha
      go_enter Tryz.func15, Tryz.ntmps15
      go_wp2_with fail
      refine HW.out.mono ?_
      rintro e w1 ⟨rfl, rfl⟩
      go_wp2_with fail
      refine HC.out.mono ?_
      rintro e w2 ⟨rfl, g2⟩
      go_wp2
      go_ret
      exact ⟨by rw [HV.out]; rfl, g2⟩
    | false =>
      rw [ha] at HC
      have HC := Lib.hid HC
      have HV := Lib.hid (show chkV L = 8 from if_neg (fun h => by have := h.2; rw [ha] at this; cases this))
      clear hr hw hx ha
      go_enter Tryz.func15, Tryz.ntmps15
      go_wp2_with fail
      refine HW.out.mono ?_
      rintro e w1 ⟨rfl, rfl⟩
      go_wp2_with fail
      refine HC.out.mono ?_
      rintro e w2 ⟨rfl, g2⟩
      go_wp2
      go_ret
      exact ⟨by rw [HV.out]; rfl, g2⟩
  · rw [decide_eq_false hw] at HW
    have HW := Lib.hid HW
    have HV := Lib.hid (show chkV L = 8 from if_neg (fun h => hw h.1))
    clear hr hw hx
    go_enter Tryz.func15, Tryz.ntmps15
    go_wp2_with fail
    refine HW.out.mono ?_
    rintro e w1 ⟨rfl, rfl⟩
    go_wp2
    go_ret
    exact ⟨by rw [HV.out]; rfl, Below.refl _ _⟩
end Go.Proofs.YtklmiabgalanhaaGreatDoor
