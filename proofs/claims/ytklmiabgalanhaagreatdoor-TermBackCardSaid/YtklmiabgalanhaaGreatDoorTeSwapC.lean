/- Contract of term.Swap at the root. -/
import Derived.Test.YtklmiabgalanhaaGreatDoorTeSwapB
namespace Go.Proofs.YtklmiabgalanhaaGreatDoor
open Go.RowKit Km
set_option maxRecDepth 100000
set_option linter.unusedVariables false

theorem bk_root {L : List Pt} (hw : We L) : bkO L 0 1 = some L.length := by
  unfold bkO bkE
  rw [show W L.length (Kp L) 0 1 = some L.length from hw]
  dsimp only
  rw [if_pos rfl, if_pos (Nat.le_refl _)]
set_option maxHeartbeats 8000000 in
theorem swap_root (xl xb : Option Addr) (cl cb : Nat) (L B : List Pt) (w : World) (hr : Pw w xl L) (hb : Pw w xb B) (hw : We L) (hm : Rw B 1) (hcl : L.length ≤ cl) :
    Calls Tryz.prog 30 #[.slice xl L.length cl, .int .i64 0, .int .i64 1, .slice xb B.length cb] w fun e w' => ∃ g, e = .returned (.tuple #[.slice (some ⟨g, 0, none⟩) B.length B.length, .int .i64 0])
      ∧ w.heap.size ≤ g ∧ w'.heap[g]? = some (.cells (pCells B).toArray 28 (0, 0)) ∧ Below w.heap.size w w' := by
  have HW := well_any xl cl L w hr
  rw [decide_eq_true hw] at HW
  have HW := Lib.hid HW
  have HR : Calls Tryz.prog 53 #[.slice xb B.length cb] w fun e w' => e = .returned (.int .i64 1) ∧ w' = w := row_some 1 xb cb B w hb hm
  have HR := Lib.hid HR
  have HT := bk_some 0 1 xl cl L w hr hw.pos hw
  rw [bk_root hw] at HT
  have HT : Calls Tryz.prog 54 #[.slice xl L.length cl, .int .i64 0, .int .i64 1] w fun e w' => e = .returned (.int .i64 (L.length : Int)) ∧ w' = w := HT
  have HT := Lib.hid HT
  have et : ((L.length : Int) == -1) = false := beq_eq_false_iff_ne.2 (by omega)
  have hlb := hr.2
  have hbb := hb.2
  have hB0 : 0 < B.length := by have := W_ge hm; omega
  obtain ⟨Zs, hZl, hmk⟩ := make_parts w B.length (by omega)
  obtain ⟨gl, ol, rfl, hgl, hcl1⟩ := hr.1 hw.pos
  obtain ⟨gb, ob, rfl, hgb, hcb1⟩ := hb.1 hB0
  have hlc : (L.length : Int) ≤ (cl : Int) := by omega
  have hl0 : (0 : Int) ≤ (L.length : Int) := by omega
  have hb00 : (0 : Int) ≤ (B.length : Int) := by omega
  have HRB := Lib.hid hcb1
  have hBn : ¬ B.length = 0 := by omega
  have e1 : (B.length : Int) + (L.length : Int) - (L.length : Int) = (B.length : Int) := by omega
  clear hr hb hw hm hcl1 hcb1
  go_enter Tryz.func30, Tryz.ntmps30
  go_wp2_with fail
  refine HR.out.mono ?_
  rintro e w1 ⟨rfl, rfl⟩
  go_wp2_with fail
  refine HW.out.mono ?_
  rintro e w1 ⟨rfl, rfl⟩
  go_wp2_with fail
  refine HT.out.mono ?_
  rintro e w1 ⟨rfl, rfl⟩
  go_upto_region 8 with fail
  have HG0 : Hid ((w1.alloc (.cells Zs.toArray 28)).heap[w1.heap.size]? = some (.cells Zs.toArray 28 (0, 0))) := Lib.hid (heap_alloc_new w1 _)
  have HB0 := Lib.hid ((Below.refl w1.heap.size w1).alloc (Nat.le_refl _) (.cells Zs.toArray 28))
  clear hmk
  generalize w1.alloc (.cells Zs.toArray 28) = wz at HG0 HB0 ⊢
  obtain ⟨G, hG⟩ : ∃ G, w1.heap.size = G := ⟨_, rfl⟩
  have HGe := Lib.hid hG
  have HG0' := HG0.out
  rw [hG] at HG0' ⊢
  have HG0 := Lib.hid HG0'
  clear HG0' hG
  have hz8 : Nat.min 0 B.length = 0 := Nat.min_eq_left (by omega)
  have hf8 : 0 + ([] : List Value).length ≤ Zs.length := by simp
  go_cut [12] from 13 to 86 (fun mv wx => mv = .slice (some ⟨G, 0, none⟩) B.length B.length ∧ Hid (wx.heap[G]? = some (.cells Zs.toArray 28 (0, 0))) ∧ Hid (Below G wz wx))
  case first =>
    go_wp2_with (refine wpList_copyK rfl _ _ _ _ rfl 28 3 G 0 0 Tryz.underlying22 info_part3 _ _ _ _ _ _ Zs [] _ rfl rfl HG0.out hz8 rfl (fun h => absurd h (Nat.lt_irrefl 0)) hf8 (fun v h => by simp at h) ?_)
    intro w2 HG2 HB2
    go_wp2_with fail
    go_meet
    case rel => exact ⟨rfl, by simpa [splice] using HG2, HB2⟩
  case rest =>
  obtain ⟨rfl, HG2, HB2⟩ := hcut
  have B2 := Lib.hid (HB0.out.trans (HB2.out.mono (by rw [HGe.out]; exact Nat.le_refl _)))
  have hYl : (pCells B).length = B.length * 3 := pCells_len B
  have hz9 : Nat.min B.length B.length = B.length := Nat.min_self _
  have HCB : Hid (∀ j v, (pCells B)[j]? = some v → wc.cell? ((⟨gb, ob, none⟩ : Addr).add j) = some v) := Lib.hid fun j v hv => by
    have := cells_of_ptI (w := wc) (g := gb) (o := ob) (L := B) (fun i hi => (HRB.out i hi).keep B2.out hgb) 0 B.length (Nat.le_refl _) (by omega) j v (by rw [List.drop_zero, List.take_length]; exact hv)
    simpa using this
  obtain ⟨Y, hY⟩ : ∃ Y, Y = pCells B := ⟨_, rfl⟩
  have h1b : ∀ v ∈ Y, v.oneCell' = true := by rw [hY]; exact pCells_one _
  have HY := Lib.hid hY
  rw [← hY] at hYl HCB
  have H1b := Lib.hid h1b
  clear hY h1b
  have hf9 : 0 + Y.length ≤ Zs.length := by omega
  go_upto_region 9 with fail
  go_cut [12] from 13 to 86 (fun mv wx => mv = .slice (some ⟨G, 0, none⟩) B.length B.length ∧ Hid (wx.heap[G]? = some (.cells (splice Zs 0 Y).toArray 28 (0, 0))) ∧ Hid (Below G wc wx))
  case first =>
    go_wp2_with (refine wpList_copyK rfl _ _ _ _ rfl 28 3 G 0 B.length Tryz.underlying22 info_part3 _ _ _ _ _ _ Zs Y _ rfl rfl HG2.out hz9 hYl (fun _ => ⟨rfl, _, rfl, HCB.out⟩) hf9 H1b.out ?_)
    intro w2 HG3 HB3
    go_wp2_with fail
    go_meet
    case rel => exact ⟨rfl, HG3, HB3⟩
  case rest =>
  obtain ⟨rfl, HG3, HB3⟩ := hcut
  have B3 := Lib.hid (B2.out.trans (HB3.out.mono (by rw [HGe.out]; exact Nat.le_refl _)))
  have hsp : splice Zs 0 Y = Y := by
    unfold splice
    rw [List.take_zero, List.nil_append, List.drop_eq_nil_of_le (by omega), List.append_nil]
  rw [hsp, HY.out] at HG3
  have hwB : IntKind.i64.wrap (B.length : Int) = (B.length : Int) := by rw [IntKind.wrap_i64]; omega
  have hwL : IntKind.i64.wrap (L.length : Int) = (L.length : Int) := by clear hwB; rw [IntKind.wrap_i64]; omega
  go_upto_region 10 with fail
  go_cut [0, 12] from 13 to 86 (fun lv mv wx => lv = .slice (some ⟨gl, ol, none⟩) L.length cl ∧ mv = .slice (some ⟨G, 0, none⟩) B.length B.length ∧ Hid (wx.heap[G]? = some (.cells (pCells B).toArray 28 (0, 0))) ∧ Hid (Below w1.heap.size w1 wx))
  case first =>
    have HG3d : Hid (wc.drew.heap[G]? = some (.cells (pCells B).toArray 28 (0, 0))) := Lib.hid HG3.out
    have Hrun : Hid (∃ w4, (Builtin.copy_ #[22, 22] 3 #[.slice (some (⟨G, 0, none⟩ : Addr)) 0 0, .slice (if cl = L.length then some (⟨gl, ol, none⟩ : Addr) else some ⟨gl, ol + L.length * 3, none⟩) 0 (cl - L.length)]).run Tryz.prog wc.drew = .ok (goInt ((0 : Nat) : Int)) w4
        ∧ w4.heap[G]? = some (.cells (pCells B).toArray 28 (0, 0)) ∧ Below G wc.drew w4) := Lib.hid (by
      obtain ⟨w4, q1, q2, q3, _⟩ := run_copyK (P := Tryz.prog) wc.drew 22 22 3 28 3 G 0 0 0 0 (cl - L.length) 0
        (some (⟨G, 0, none⟩ : Addr)) (if cl = L.length then some (⟨gl, ol, none⟩ : Addr) else some ⟨gl, ol + L.length * 3, none⟩) (pCells B) [] 28 Tryz.underlying22 info_part3 HG3d.out rfl rfl
        (fun hn => absurd hn (Nat.lt_irrefl 0)) (by simp) (fun v h => by simp at h)
      exact ⟨w4, q1, by simpa [splice] using q2, q3⟩)
    have Hrun0 := Hrun.out
    obtain ⟨w4, hrun4, hG4, hB4⟩ := Hrun0
    have HR4 := Lib.hid hrun4
    have B4 := Lib.hid (B3.out.trans ((show Below w1.heap.size wc wc.drew from ⟨rfl, rfl, rfl, Nat.le_refl _, fun _ _ => rfl⟩).trans (hB4.mono (by rw [HGe.out]; exact Nat.le_refl _))))
    have HG4 := Lib.hid hG4
    clear hG4 hB4 hrun4 HG3d Hrun
    go_region_law (refine step_copy_run (v := .slice (some (⟨G, 0, none⟩ : Addr)) 0 0) (u := .slice (if cl = L.length then some (⟨gl, ol, none⟩ : Addr) else some ⟨gl, ol + L.length * 3, none⟩) 0 (cl - L.length)) rfl _ _ _ _ (by rfl) (by go_simp) (by go_simp) HR4.out ?_)
    all_goals (go_wp2_with fail)
    all_goals go_meet
    all_goals exact ⟨by first | rfl | (congr 1 <;> omega), by first | rfl | (congr 1 <;> omega), HG4, B4⟩
  case rest =>
  obtain ⟨rfl, rfl, HG4, B4⟩ := hcut
  go_wp2
  refine bodyPost_ret (v := .tuple #[.slice (some ⟨G, 0, none⟩) B.length B.length, .int .i64 0]) ?_ rfl ⟨G, rfl, by rw [HGe.out]; exact Nat.le_refl _, HG4.out, B4.out⟩
  simp [results, Tryz.results30, go_sem]
end Go.Proofs.YtklmiabgalanhaaGreatDoor
