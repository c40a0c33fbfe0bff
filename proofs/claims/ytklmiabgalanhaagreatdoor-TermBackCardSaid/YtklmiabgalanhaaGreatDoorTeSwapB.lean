/- Contract of term.Swap where it goes. -/
import Derived.Test.YtklmiabgalanhaaGreatDoorTeSwap
namespace Go.Proofs.YtklmiabgalanhaaGreatDoor
open Go.RowKit Km
set_option maxRecDepth 100000
set_option linter.unusedVariables false

/-- The list with one part's number of kids changed. -/
def setC (M : List Pt) (q : Nat) (d : Int) : List Pt := M.set q ⟨(nthP M q).k, (nthP M q).c + d, (nthP M q).x⟩
/-- What Swap makes. -/
def swL (L : List Pt) (I N tz : Nat) (B : List Pt) (m : Nat) : List Pt :=
  if I = 0 then L.take I ++ (B ++ L.drop tz) else setC (L.take I ++ (B ++ L.drop tz)) (upP L I).toNat ((m : Int) - (N : Int))
theorem pCells_set : ∀ (L : List Pt) (i : Nat) (c : Int), i < L.length → (pCells L).set (i * 3 + 1) (.int .i64 c) = pCells (L.set i ⟨(nthP L i).k, c, (nthP L i).x⟩)
  | [], i, c, h => by simp at h
  | p :: r, 0, c, _ => rfl
  | p :: r, i + 1, c, h => by
    have ih := pCells_set r i c (by simpa using h)
    have e : pCells (p :: r) = [.int .u8 (p.k : Int), .int .i64 p.c, .string p.x] ++ pCells r := rfl
    have en : nthP (p :: r) (i + 1) = nthP r i := rfl
    rw [e, en, List.set_cons_succ, show pCells (p :: r.set i ⟨(nthP r i).k, c, (nthP r i).x⟩) = [.int .u8 (p.k : Int), .int .i64 p.c, .string p.x] ++ pCells (r.set i ⟨(nthP r i).k, c, (nthP r i).x⟩) from rfl, ← ih, List.set_append_right _ _ (by simp; omega)]
    congr 2
    simp; omega
theorem swap_nth (L B : List Pt) (I tz q : Nat) (h : q < I) (hI : I ≤ L.length) : nthP (L.take I ++ (B ++ L.drop tz)) q = nthP L q := by
  unfold nthP
  simp only [List.getD_eq_getElem?_getD]
  rw [List.getElem?_append_left (by rw [List.length_take]; omega), List.getElem?_take, if_pos h]
theorem swap_len (L B : List Pt) (I tz K : Nat) (hI : I ≤ L.length) (ht : tz ≤ L.length) (h : I + B.length + L.length - tz = K) : (L.take I ++ (B ++ L.drop tz)).length = K := by
  simp only [List.length_append, List.length_take, List.length_drop]; omega
theorem row_cell1 {w : World} {G q : Nat} {M : List Pt} {t : TypeId} (h : w.heap[G]? = some (.cells (pCells M).toArray t (0, 0))) (hq : q < M.length) : w.cell? ⟨G, q * 3 + 1, none⟩ = some (.int .i64 (nthP M q).c) := by
  rw [cell_of_row w G _ _ _ _ h]
  have := (pCells_get M q hq).2.1
  simpa using this
theorem swap_kids {L : List Pt} (hw : We L) {q : Nat} (h : q < L.length) : 0 ≤ (nthP L q).c ∧ (nthP L q).c ≤ (L.length : Int) := by
  obtain ⟨_, _, _, a, b, _⟩ := hw.all (i := q) h
  exact ⟨a, b⟩
theorem info_part : (Tryz.prog.info? 28).map (fun i => (i.zero, i.size, i.bytes)) = some (some (.agg #[.int .u8 0, .int .i64 0, .string ByteArray.empty]), 3, 32) := by kernel_rfl
theorem info_part3 : (Tryz.prog.info? 28).map (·.size) = some 3 := by kernel_rfl
/-- A row of so many parts. -/
theorem make_parts (w : World) (K : Nat) (hK : K ≤ 8388608) : ∃ Zs : List Value, Zs.length = K * 3 ∧ (Instr.makeSlice 22 (.int .i64 (K : Int)) (.int .i64 (K : Int))).run Tryz.prog w = .ok (.slice (some ⟨w.heap.size, 0, none⟩) K K) (w.alloc (.cells Zs.toArray 28)) := by
  obtain ⟨i0, hi, hz0, hz1, hz2⟩ := info_parts info_part
  have hr := run_make (P := Tryz.prog) w 22 28 i0 _ Tryz.underlying22 hi hz0 .i64 .i64 (K : Int) (K : Int) (by omega) (Int.le_refl _) (by rw [hz2]; omega) (by omega)
  simp only [Int.toNat_natCast, hz1] at hr
  refine ⟨(madeCells (Value.agg #[.int .u8 0, .int .i64 0, .string ByteArray.empty]).cells (K * 3)).toList, by rw [Array.length_toList, size_madeCells], ?_⟩
  rw [hr]

set_option maxHeartbeats 8000000 in
theorem swap_ok (I N m tz : Nat) (xl xb : Option Addr) (cl cb : Nat) (L B : List Pt) (w : World) (hr : Pw w xl L) (hb : Pw w xb B) (hw : We L) (hm : Rw B m) (hI : I < L.length) (hto : bkO L I N = some tz) (h0 : 0 < I) (hcl : L.length ≤ cl) :
    Calls Tryz.prog 30 #[.slice xl L.length cl, .int .i64 (I : Int), .int .i64 (N : Int), .slice xb B.length cb] w fun e w' => ∃ g, e = .returned (.tuple #[.slice (some ⟨g, 0, none⟩) (I + B.length + L.length - tz) (I + B.length + L.length - tz), .int .i64 0])
      ∧ w.heap.size ≤ g ∧ w'.heap[g]? = some (.cells (pCells (swL L I N tz B m)).toArray 28 (0, 0)) ∧ Below w.heap.size w w' := by
  have HW := well_any xl cl L w hr
  rw [decide_eq_true hw] at HW
  have HW := Lib.hid HW
  have HR := Lib.hid (row_some m xb cb B w hb hm)
  have HT := bk_some I N xl cl L w hr hI hw
  rw [hto] at HT
  have HT := Lib.hid HT
  have em : ((m : Int) == -1) = false := beq_eq_false_iff_ne.2 (by omega)
  have et : ((tz : Int) == -1) = false := beq_eq_false_iff_ne.2 (by omega)
  -- where it stands
  have hWto : W L.length (Kp L) I N = some tz ∧ tz ≤ bkE L I := by
    unfold bkO at hto
    cases hW : W L.length (Kp L) I N with
    | none => rw [hW] at hto; cases hto
    | some p =>
      rw [hW] at hto
      dsimp only at hto
      split at hto
      · injection hto with hto; subst hto; exact ⟨rfl, by assumption⟩
      · cases hto
  have hge := W_ge hWto.1
  have hle : tz ≤ L.length := Nat.le_trans hWto.2 (bkE_le hw hI)
  have hlb := hr.2
  have hbb := hb.2
  obtain ⟨K, hK⟩ : ∃ K, I + B.length + L.length - tz = K := ⟨_, rfl⟩
  rw [hK]
  obtain ⟨Zs, hZl, hmk⟩ := make_parts w K (by omega)
  have e1 : IntKind.i64.wrap ((I : Int) + (B.length : Int) + (L.length : Int) - (tz : Int)) = (K : Int) := by rw [IntKind.wrap_i64]; omega
  have e1' : (I : Int) + (B.length : Int) + (L.length : Int) - (tz : Int) = (K : Int) := by omega
  obtain ⟨gl, ol, rfl, hgl, hcl1⟩ := hr.1 (by omega)
  have Hml : m ≤ B.length := by have := W_ge hm; omega
  have hNl : N ≤ L.length := by omega
  have HRB := Lib.hid hb.1
  have HRL := Lib.hid hcl1
  have b0 : (0 : Int) ≤ (I : Int) := by omega
  have b1 : (I : Int) ≤ (L.length : Int) := by omega
  have b2 : (I : Int) ≤ (K : Int) := by omega
  clear hr hb hm hto hcl1
  have HU : Hid (∀ w2, Pw w2 (some ⟨gl, ol, none⟩) L → Calls Tryz.prog 18 #[.slice (some ⟨gl, ol, none⟩) L.length cl, .int .i64 (I : Int)] w2 fun e w' => e = .returned (.int .i64 (upP L I)) ∧ w' = w2) := Lib.hid fun w2 h2 => pup_some I (some ⟨gl, ol, none⟩) cl L w2 h2 hI hw
  have HWE := Lib.hid hw
  clear hw
  have hI0 : ¬ I = 0 := by omega
  · have ei : ((I : Int) == 0) = false := beq_eq_false_iff_ne.2 (by omega)
    have ei' : (I == 0) = false := beq_eq_false_iff_ne.2 hI0
    have hgt : (0 : Int) < (I : Int) := by omega
    have hq : Hid (∃ q : Nat, q < I ∧ upP L I = (q : Int)) := Lib.hid (by
      obtain ⟨q, q1, q2, _⟩ := HWE.out.above (i := I) (by omega) hI
      exact ⟨q, q1, q2⟩)
    clear h0
    go_enter Tryz.func30, Tryz.ntmps30
    go_wp2_with fail
    refine HR.out.mono ?_
    rintro e w1 ⟨rfl, rfl⟩
    go_wp2_with fail
    refine HW.out.mono ?_
    rintro e w1 ⟨rfl, rfl⟩
    go_wp2_with fail
    refine HT.out.mono ?_
    rintro e w1 ⟨rfl, rfl⟩
    unfold endV
    dsimp only
    go_upto_region 8 with fail
    obtain ⟨X1, hX1⟩ : ∃ X1, X1 = pCells (L.take I) := ⟨_, rfl⟩
    obtain ⟨Y, hY⟩ : ∃ Y, Y = pCells B := ⟨_, rfl⟩
    obtain ⟨X2, hX2⟩ : ∃ X2, X2 = pCells (L.drop tz) := ⟨_, rfl⟩
    have hX1l : X1.length = I * 3 := by rw [hX1, pCells_len, List.length_take]; omega
    have hYl : Y.length = B.length * 3 := by rw [hY, pCells_len]
    have hX2l : X2.length = (L.length - tz) * 3 := by rw [hX2, pCells_len, List.length_drop]
    have HC1 : Hid (∀ w2, Below w1.heap.size w1 w2 → ∀ j v, X1[j]? = some v → w2.cell? ((⟨gl, ol, none⟩ : Addr).add j) = some v) := Lib.hid fun w2 hb j v hv => by
      have := cells_of_ptI (w := w2) (g := gl) (o := ol) (L := L) (fun i hi => (HRL.out i hi).keep hb hgl) 0 I (by omega) (by omega) j v (by rw [List.drop_zero, ← hX1]; exact hv)
      simpa using this
    have HC3 : Hid (∀ w2, Below w1.heap.size w1 w2 → ∀ j v, X2[j]? = some v → w2.cell? ((⟨gl, ol + tz * 3, none⟩ : Addr).add j) = some v) := Lib.hid fun w2 hb j v hv => by
      have := cells_of_ptI (w := w2) (g := gl) (o := ol) (L := L) (fun i hi => (HRL.out i hi).keep hb hgl) tz L.length (Nat.le_refl _) (by omega) j v (by rw [List.take_length, ← hX2]; exact hv)
      exact this
    have HC2 : Hid (∀ w2, Below w1.heap.size w1 w2 → 0 < B.length → ∃ b : Addr, xb = some b ∧ ∀ j v, Y[j]? = some v → w2.cell? (b.add j) = some v) := Lib.hid fun w2 hb hn => by
      obtain ⟨gb, ob, hx, hgb, hcb⟩ := HRB.out hn
      refine ⟨⟨gb, ob, none⟩, hx, fun j v hv => ?_⟩
      have := cells_of_ptI (w := w2) (g := gb) (o := ob) (L := B) (fun i hi => (hcb i hi).keep hb hgb) 0 B.length (Nat.le_refl _) (by omega) j v (by rw [List.drop_zero, List.take_length, ← hY]; exact hv)
      simpa using this
    have HX1 := Lib.hid hX1
    have HY := Lib.hid hY
    have HX2 := Lib.hid hX2
    have h1a : ∀ v ∈ X1, v.oneCell' = true := by rw [hX1]; exact pCells_one _
    have h1b : ∀ v ∈ Y, v.oneCell' = true := by rw [hY]; exact pCells_one _
    have h1c : ∀ v ∈ X2, v.oneCell' = true := by rw [hX2]; exact pCells_one _
    have H1s := Lib.hid (And.intro h1a (And.intro h1b h1c))
    have HG0 : Hid ((w1.alloc (.cells Zs.toArray 28)).heap[w1.heap.size]? = some (.cells Zs.toArray 28 (0, 0))) := Lib.hid (heap_alloc_new w1 _)
    have HB0 := Lib.hid ((Below.refl w1.heap.size w1).alloc (Nat.le_refl _) (.cells Zs.toArray 28))
    clear hX1 hY hX2 h1a h1b h1c
    generalize w1.alloc (.cells Zs.toArray 28) = wz at HG0 HB0 ⊢
    obtain ⟨G, hG⟩ : ∃ G, w1.heap.size = G := ⟨_, rfl⟩
    have HGe := Lib.hid hG
    have HG0' := HG0.out
    rw [hG] at HG0' ⊢
    have HG0 := Lib.hid HG0'
    clear HG0' hG
    clear hmk
    have hz8 : Nat.min I K = I := Nat.min_eq_left (by omega)
    have hf8 : 0 + X1.length ≤ Zs.length := by omega
    go_cut [12] from 13 to 86 (fun mv wx => mv = .slice (some ⟨G, 0, none⟩) K K ∧ Hid (wx.heap[G]? = some (.cells (splice Zs 0 X1).toArray 28 (0, 0))) ∧ Hid (Below G wz wx))
    case first =>
      go_wp2_with (refine wpList_copyK rfl _ _ _ _ rfl 28 3 G 0 I Tryz.underlying22 info_part3 _ _ _ _ _ _ Zs X1 _ rfl rfl HG0.out hz8 hX1l (fun _ => ⟨rfl, _, rfl, HC1.out wz HB0.out⟩) hf8 H1s.out.1 ?_)
      intro w2 HG2 HB2
      go_wp2_with fail
      go_meet
      case rel => exact ⟨rfl, HG2, HB2⟩
    case rest =>
    obtain ⟨rfl, HG2, HB2⟩ := hcut
    have B2 := Lib.hid (HB0.out.trans (HB2.out.mono (by rw [HGe.out]; exact Nat.le_refl _)))
    have hl2 : (splice Zs 0 X1).length = K * 3 := by rw [length_splice _ _ _ (by omega)]; exact hZl
    have hf9 : I * 3 + Y.length ≤ (splice Zs 0 X1).length := by omega
    have hz9 : Nat.min B.length (K - I) = B.length := Nat.min_eq_left (by omega)
    have hd9 : 0 < B.length → (if K = I then some (⟨G, 0, none⟩ : Addr) else some ⟨G, I * 3, none⟩) = some ⟨G, I * 3, none⟩ := fun hn => if_neg (by omega)
    have HD9 := Lib.hid hd9
    obtain ⟨R2, hR2⟩ : ∃ R2, R2 = splice Zs 0 X1 := ⟨_, rfl⟩
    have HR2 := Lib.hid hR2
    rw [← hR2] at HG2 hl2 hf9
    clear hR2 hd9 hf8 hz8
    go_upto_region 9 with fail
    go_cut [12] from 13 to 86 (fun mv wx => mv = .slice (some ⟨G, 0, none⟩) K K ∧ Hid (wx.heap[G]? = some (.cells (splice R2 (I * 3) Y).toArray 28 (0, 0))) ∧ Hid (Below G wc wx))
    case first =>
      have HC2w := Lib.hid (HC2.out wc B2.out)
      go_upto_region 10 with (refine wpList_copyK rfl _ _ _ _ rfl 28 3 G (I * 3) B.length Tryz.underlying22 info_part3 _ _ _ _ _ _ R2 Y _ rfl rfl HG2.out hz9 hYl (fun hn => ⟨HD9.out hn, HC2w.out hn⟩) hf9 H1s.out.2.1 ?_)
      all_goals (intro w3 HG3 HB3)
      all_goals (go_wp2_with fail)
      all_goals go_meet
      all_goals exact ⟨by first | rfl | (congr 1 <;> omega), HG3, HB3⟩
    case rest =>
    obtain ⟨rfl, HG3, HB3⟩ := hcut
    have B3 := Lib.hid (B2.out.trans (HB3.out.mono (by rw [HGe.out]; exact Nat.le_refl _)))
    have hl3 : (splice R2 (I * 3) Y).length = K * 3 := by rw [length_splice _ _ _ hf9]; exact hl2
    obtain ⟨R3, hR3⟩ : ∃ R3, R3 = splice R2 (I * 3) Y := ⟨_, rfl⟩
    have HR3 := Lib.hid hR3
    rw [← hR3] at HG3 hl3
    clear hR3
    obtain ⟨J, hJn⟩ : ∃ J : Nat, I + B.length = J := ⟨_, rfl⟩
    have hJ : (I : Int) + (B.length : Int) = (J : Int) := by omega
    have c1 : (0 : Int) ≤ (J : Int) := by omega
    have c2 : (J : Int) ≤ (K : Int) := by omega
    have c2' : J ≤ K := by omega
    have c3 : (0 : Int) ≤ (tz : Int) := by omega
    have c4 : (tz : Int) ≤ (L.length : Int) := by omega
    have c5 : tz ≤ cl := by omega
    have c6 : (tz : Int) ≤ (cl : Int) := by omega
    go_upto_region 10 with fail
    go_cut [0, 12] from 13 to 86 (fun lv mv wx => lv = .slice (some ⟨gl, ol, none⟩) L.length cl ∧ mv = .slice (some ⟨G, 0, none⟩) K K ∧ Hid (wx.heap[G]? = some (.cells (pCells (L.take I ++ (B ++ L.drop tz))).toArray 28 (0, 0))) ∧ Hid (Below w1.heap.size w1 wx))
    case first =>
      have hwJ : IntKind.i64.wrap (J : Int) = (J : Int) := by rw [IntKind.wrap_i64]; omega
      have hwT : IntKind.i64.wrap (tz : Int) = (tz : Int) := by clear hwJ; rw [IntKind.wrap_i64]; omega
      have HC3d := Lib.hid (HC3.out wc.drew (B3.out.trans ⟨rfl, rfl, rfl, Nat.le_refl _, fun _ _ => rfl⟩))
      have HG3d : Hid (wc.drew.heap[G]? = some (.cells R3.toArray 28 (0, 0))) := Lib.hid HG3.out
      have Hrun : Hid (∃ w4, (Builtin.copy_ #[22, 22] 3 #[.slice (if K = J then some (⟨G, 0, none⟩ : Addr) else some ⟨G, J * 3, none⟩) (K - J) (K - J), .slice (if cl = tz then some (⟨gl, ol, none⟩ : Addr) else some ⟨gl, ol + tz * 3, none⟩) (L.length - tz) (cl - tz)]).run Tryz.prog wc.drew = .ok (goInt ((L.length - tz : Nat) : Int)) w4
          ∧ w4.heap[G]? = some (.cells (splice R3 (J * 3) X2).toArray 28 (0, 0)) ∧ Below G wc.drew w4) := Lib.hid (by
        obtain ⟨w4, q1, q2, q3, _⟩ := run_copyK (P := Tryz.prog) wc.drew 22 22 3 28 3 G (J * 3) (K - J) (K - J) (L.length - tz) (cl - tz) (L.length - tz)
          (if K = J then some (⟨G, 0, none⟩ : Addr) else some ⟨G, J * 3, none⟩) (if cl = tz then some (⟨gl, ol, none⟩ : Addr) else some ⟨gl, ol + tz * 3, none⟩) R3 X2 28 Tryz.underlying22 info_part3 HG3d.out (Nat.min_eq_left (by omega)) hX2l
          (fun hn => ⟨if_neg (by omega), ⟨gl, ol + tz * 3, none⟩, if_neg (by omega), HC3d.out⟩) (by omega) H1s.out.2.2
        exact ⟨w4, q1, q2, q3⟩)
      have Hrun0 := Hrun.out
      obtain ⟨w4, hrun4, hG4, hB4⟩ := Hrun0
      have HR4 := Lib.hid hrun4
      have B4 := Lib.hid (B3.out.trans ((show Below w1.heap.size wc wc.drew from ⟨rfl, rfl, rfl, Nat.le_refl _, fun _ _ => rfl⟩).trans (hB4.mono (by rw [HGe.out]; exact Nat.le_refl _))))
      have hsp : splice R3 (J * 3) X2 = pCells (L.take I ++ (B ++ L.drop tz)) := by
        rw [pCells_append, pCells_append, ← HX1.out, ← HY.out, ← HX2.out, HR3.out, HR2.out, show J * 3 = I * 3 + B.length * 3 by omega]
        exact splice_splice_splice Zs X1 Y X2 (I * 3) (B.length * 3) hX1l hYl (by omega)
      rw [hsp] at hG4
      have HG4 := Lib.hid hG4
      clear hG4 hB4 hrun4 hsp HC3d HG3d Hrun
      go_region_law (refine step_copy_run (v := .slice (if K = J then some (⟨G, 0, none⟩ : Addr) else some ⟨G, J * 3, none⟩) (K - J) (K - J)) (u := .slice (if cl = tz then some (⟨gl, ol, none⟩ : Addr) else some ⟨gl, ol + tz * 3, none⟩) (L.length - tz) (cl - tz)) rfl _ _ _ _ (by rfl) (by go_simp) (by go_simp) HR4.out ?_)
      all_goals (go_wp2_with fail)
      all_goals go_meet
      all_goals exact ⟨by first | rfl | (congr 1 <;> omega), by first | rfl | (congr 1 <;> omega), HG4, B4⟩
    case rest =>
    obtain ⟨rfl, rfl, HG4, B4⟩ := hcut
    have hMl := swap_len L B I tz K (Nat.le_of_lt hI) hle hK
    clear HG0 HG2 HG3 HB0 HB2 HB3 B2 B3 HC1 HC2 HC3 HR2 HR3 HX1 HX2 HY H1s hf9 hz9 HD9 hl3 hl2 hX1l hYl hX2l
    clear e1 e1' hJ c1 c2 c2' c3 c4 c5 c6
    obtain ⟨q, hqI, hqu⟩ := hq.out
    have HC := HU.out wc ⟨fun hn => ⟨gl, ol, rfl, Nat.lt_of_lt_of_le hgl B4.out.size, fun i hi => (HRL.out i hi).keep B4.out hgl⟩, hlb⟩
    rw [hqu] at HC
    have HC := Lib.hid HC
    have hk2 := swap_kids HWE.out (q := q) (Nat.lt_trans hqI hI)
    have hC4 := row_cell1 HG4.out (q := q) (by rw [hMl]; omega)
    rw [swap_nth L B I tz q hqI (Nat.le_of_lt hI)] at hC4
    have hF4 : wc.frozen? ⟨G, q * 3 + 1, none⟩ = false := frozen_of_row wc G _ _ _ HG4.out
    have hfin : swL L I N tz B m = (L.take I ++ (B ++ L.drop tz)).set q ⟨(nthP (L.take I ++ (B ++ L.drop tz)) q).k, (nthP L q).c + ((m : Int) - (N : Int)), (nthP (L.take I ++ (B ++ L.drop tz)) q).x⟩ := by
      unfold swL setC
      rw [if_neg hI0, hqu, Int.toNat_natCast]
      congr 3
      rw [swap_nth L B I tz q hqI (Nat.le_of_lt hI)]
    have hps := pCells_set (L.take I ++ (B ++ L.drop tz)) q ((nthP L q).c + ((m : Int) - (N : Int))) (by rw [hMl]; omega)
    rw [← hfin] at hps
    have HPS := Lib.hid hps
    obtain ⟨cq, hcq⟩ : ∃ cq, (nthP L q).c = cq := ⟨_, rfl⟩
    rw [hcq] at hC4 hk2 HPS
    obtain ⟨cq0, cq1⟩ := hk2
    have hlt : (q : Int) < (K : Int) := by omega
    have hl0 : (0 : Int) ≤ (q : Int) := by omega
    have ew : IntKind.i64.wrap (cq + ((m : Int) - (N : Int))) = cq + ((m : Int) - (N : Int)) := by rw [IntKind.wrap_i64]; omega
    have ew' : IntKind.i64.wrap ((m : Int) - (N : Int)) = (m : Int) - (N : Int) := by clear ew; rw [IntKind.wrap_i64]; omega
    have HM := Lib.hid hMl
    clear hfin hps hMl hcq
    go_wp2_with fail
    refine HC.out.mono ?_
    rintro e w5 ⟨rfl, rfl⟩
    clear ew'
    go_wp2
    refine bodyPost_ret (v := .tuple #[.slice (some ⟨G, 0, none⟩) K K, .int .i64 0]) ?_ rfl ⟨G, rfl, by rw [HGe.out]; exact Nat.le_refl _, ?_, B4.out.setCell (p := ⟨G, _, none⟩) (by rw [HGe.out]; exact Nat.le_refl _) _⟩
    · simp [results, Tryz.results30, go_sem]
    · have h9 := heap_setCell_same w5 G (q * 3 + 1) (pCells (L.take I ++ (B ++ L.drop tz))).toArray _ (.int .i64 (cq + ((m : Int) - (N : Int)))) HG4.out
      rw [← HPS.out]
      simpa using h9
end Go.Proofs.YtklmiabgalanhaaGreatDoor
