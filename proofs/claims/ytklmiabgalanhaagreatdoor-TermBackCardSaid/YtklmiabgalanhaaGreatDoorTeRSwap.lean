/- Contract of the reference's Swap. -/
import Derived.Test.YtklmiabgalanhaaGreatDoorTeFix
import Derived.Test.YtklmiabgalanhaaGreatDoorTeArg
namespace Go.Proofs.YtklmiabgalanhaaGreatDoor
open Go.Shelf Go.RowKit Em Km
set_option maxRecDepth 100000
set_option linter.unusedVariables false
set_option linter.unusedSimpArgs false

/-- Parts behind a row of the call's own. -/
theorem push_pts {w : World} {B : Nat} {v : Value} {L S : List Pt} (h : w.ownsRow B 28 3 v L.length (pCells L)) (sp : Option Addr) (c : Nat) (hsp : 0 < S.length → ∃ a : Addr, sp = some a ∧ ∀ j u, (pCells S)[j]? = some u → w.cell? (a.add j) = some u) (h0 : S.length = 0 → sp = none → c = 0) (hl : (L.length + S.length) * 32 ≤ 140737488355328) (hB : B ≤ w.heap.size) :
    ∃ (y : Option Addr) (c2 : Nat) (w2 : World), (Builtin.append_ #[22, 22] 22 #[v, .slice sp S.length c]).run Tryz.prog w = .ok (.slice y (L.length + S.length) c2) w2
      ∧ w2.ownsRow B 28 3 (.slice y (L.length + S.length) c2) (L ++ S).length (pCells (L ++ S)) ∧ w.grownBy w2 v.ownBlock := by
  obtain ⟨i0, hi, hz0, hz1, hz2⟩ := info_parts rd_info_part
  cases hs : sp with
  | some a =>
    subst hs
    obtain ⟨v', w2, hrun, hown, hgrow, _⟩ := run_append_own (P := Tryz.prog) w B 22 22 28 i0 _ 3 32 Tryz.underlying22 hi hz0 hz1 hz2 rfl (by decide) v L.length (pCells L) h a S.length c (pCells S)
      (pCells_len S) (fun j u hu => by
        have hj : j < (pCells S).length := (List.getElem?_eq_some_iff.1 hu).1
        rw [pCells_len] at hj
        obtain ⟨b, hb, hc⟩ := hsp (by omega)
        injection hb with hb
        subst hb
        exact hc j u hu) (pCells_one S) (by unfold maxLen; omega) (by omega) hB
    obtain ⟨y, c2, rfl, _⟩ := owns_form hown
    refine ⟨y, c2, w2, hrun, ?_, hgrow⟩
    rw [List.length_append, pCells_append]
    exact hown
  | none =>
    subst hs
    have hS : S = [] := by
      cases S with
      | nil => rfl
      | cons p q => obtain ⟨a, ha, _⟩ := hsp (by simp); cases ha
    subst hS
    have hc := h0 rfl rfl
    subst hc
    have hrun := run_append_owned_none (P := Tryz.prog) w B 22 22 28 i0 3 Tryz.underlying22 hi v L.length (pCells L) h
    obtain ⟨y, c2, rfl, _⟩ := owns_form h
    exact ⟨y, c2, w, hrun, by simpa using h, ⟨rfl, rfl, rfl, Nat.le_refl _, fun _ _ _ => rfl⟩⟩

theorem rswap_tree (i n : Int) (xl xb : Option Addr) (cl cb : Nat) (L B : List Pt) (w : World) (hr : Pw w xl L) (hb : Pw w xb B) (h : ¬ We L ∨ ∀ m, ¬ Rw B m) :
    Calls Tryz.prog 31 #[.slice xl L.length cl, .int .i64 i, .int .i64 n, .slice xb B.length cb] w fun e w' => e = .returned (.tuple #[.slice none 0 0, .int .i64 8]) ∧ w' = w := by
  have HW := rwell_any xl cl L w hr
  by_cases hm : ∃ m, Rw B m
  · obtain ⟨m, hm⟩ := hm
    have HR := Lib.hid (rtrees_some m xb cb B w hb hm)
    rw [decide_eq_false (h.resolve_right (fun h2 => h2 m hm))] at HW
    have HW := Lib.hid HW
    clear hr hb h hm
    go_enter Tryz.func31, Tryz.ntmps31
    go_wp2_with fail
    refine HR.out.mono ?_
    rintro e w1 ⟨rfl, rfl⟩
    go_wp2_with fail
    refine HW.out.mono ?_
    rintro e w1 ⟨rfl, rfl⟩
    go_wp2
    refine bodyPost_ret (v := .tuple #[.slice none 0 0, .int .i64 8]) ?_ rfl ⟨rfl, rfl⟩
    simp [results, Tryz.results31, go_sem]
  · have HR := Lib.hid (rtrees_none xb cb B w hb fun m h2 => hm ⟨m, h2⟩)
    clear hr hb h hm
    cases hB : decide (We L) with
    | true =>
      rw [hB] at HW
      have HW := Lib.hid HW
      clear hB
      go_enter Tryz.func31, Tryz.ntmps31
      go_wp2_with fail
      refine HR.out.mono ?_
      rintro e w1 ⟨rfl, rfl⟩
      go_wp2_with fail
      refine HW.out.mono ?_
      rintro e w1 ⟨rfl, rfl⟩
      go_wp2
      refine bodyPost_ret (v := .tuple #[.slice none 0 0, .int .i64 8]) ?_ rfl ⟨rfl, rfl⟩
      simp [results, Tryz.results31, go_sem]
    | false =>
      rw [hB] at HW
      have HW := Lib.hid HW
      clear hB
      go_enter Tryz.func31, Tryz.ntmps31
      go_wp2_with fail
      refine HR.out.mono ?_
      rintro e w1 ⟨rfl, rfl⟩
      go_wp2_with fail
      refine HW.out.mono ?_
      rintro e w1 ⟨rfl, rfl⟩
      go_wp2
      refine bodyPost_ret (v := .tuple #[.slice none 0 0, .int .i64 8]) ?_ rfl ⟨rfl, rfl⟩
      simp [results, Tryz.results31, go_sem]

/-- The refusals by the numbers alone. -/
def BadN (L : List Pt) (i n : Int) (m : Nat) : Prop := i < 0 ∨ (L.length : Int) ≤ i ∨ n < 0 ∨ (i = 0 ∧ (n ≠ 1 ∨ m ≠ 1))
theorem rswap_bad (i n : Int) (m : Nat) (xl xb : Option Addr) (cl cb : Nat) (L B : List Pt) (w : World) (hr : Pw w xl L) (hb : Pw w xb B) (hw : We L) (hm : Rw B m) (h : BadN L i n m) :
    Calls Tryz.prog 31 #[.slice xl L.length cl, .int .i64 i, .int .i64 n, .slice xb B.length cb] w fun e w' => e = .returned (.tuple #[.slice none 0 0, .int .i64 1]) ∧ w' = w := by
  have HW := rwell_any xl cl L w hr
  rw [decide_eq_true hw] at HW
  have HW := Lib.hid HW
  have HR := Lib.hid (rtrees_some m xb cb B w hb hm)
  have em : ¬ (m : Int) < 0 := by omega
  have hpos : (0 : Int) < (L.length : Int) := by have := hw.pos; omega
  have H : Hid (BadN L i n m) := Lib.hid h
  clear hr hb hw hm h
  go_enter Tryz.func31, Tryz.ntmps31
  go_wp2_with fail
  refine HR.out.mono ?_
  rintro e w1 ⟨rfl, rfl⟩
  go_upto_region 4 with (go_at_call 14; refine HW.out.mono ?_; rintro e w1 ⟨rfl, rfl⟩)
  go_cut [47] from 24 to 48 (fun bv wx => bv = .bool true ∧ wx = w1)
  case first =>
    by_cases h1 : i < 0
    · go_wp2_with fail
      go_meet
      case rel => exact ⟨rfl, rfl⟩
    · by_cases h2 : (L.length : Int) ≤ i
      · go_wp2_with fail
        go_meet
        case rel => exact ⟨rfl, rfl⟩
      · by_cases h3 : n < 0
        · go_wp2_with fail
          go_meet
          case rel => exact ⟨rfl, rfl⟩
        · have h4 : i = 0 ∧ (n ≠ 1 ∨ m ≠ 1) := by
            rcases H.out with h | h | h | h
            · exact absurd h h1
            · exact absurd h h2
            · exact absurd h h3
            · exact h
          obtain ⟨rfl, h5⟩ := h4
          have hn0 : ¬ L.length = 0 := by omega
          by_cases h6 : n = 1
          · have h7 : m ≠ 1 := h5.resolve_left (fun h => h h6)
            have t2 : ((m : Int) == 1) = false := beq_eq_false_iff_ne.2 (by omega)
            have t3 : ((m : Int) != 1) = true := by rw [bne, t2]; rfl
            have t4 : (m == 1) = false := beq_eq_false_iff_ne.2 h7
            subst h6
            clear h5 h7
            go_wp2_with fail
            go_meet
            case rel => exact ⟨rfl, rfl⟩
          · have t2 : (n == 1) = false := beq_eq_false_iff_ne.2 h6
            have t3 : (n != 1) = true := by rw [bne, t2]; rfl
            clear h5 h6
            go_wp2_with fail
            go_meet
            case rel => exact ⟨rfl, rfl⟩
  case rest =>
    obtain ⟨rfl, hwc⟩ := hcut
    subst hwc
    go_wp2
    refine bodyPost_ret (v := .tuple #[.slice none 0 0, .int .i64 1]) ?_ rfl ⟨rfl, rfl⟩
    simp [results, Tryz.results31, go_sem]
theorem src_pti {w : World} {x : Option Addr} {L : List Pt} (h : PtI w x L) : 0 < L.length → ∃ a : Addr, x = some a ∧ ∀ j u, (pCells L)[j]? = some u → w.cell? (a.add j) = some u := fun hn => by
  obtain ⟨g, o, hx, hg, hc⟩ := h hn
  refine ⟨⟨g, o, none⟩, hx, fun j v hv => ?_⟩
  have := cells_of_ptI (w := w) (g := g) (o := o) (L := L) (fun i hi => hc i hi) 0 L.length (Nat.le_refl _) (by omega) j v (by rw [List.drop_zero, List.take_length]; exact hv)
  simpa using this
set_option maxHeartbeats 4000000 in
theorem rswap_root (xl xb : Option Addr) (cl cb : Nat) (L B : List Pt) (w : World) (hr : Pw w xl L) (hb : Pw w xb B) (hw : We L) (hm : Rw B 1) (hcb : xb = none → cb = 0) :
    Calls Tryz.prog 31 #[.slice xl L.length cl, .int .i64 0, .int .i64 1, .slice xb B.length cb] w fun e w' => ∃ v, e = .returned (.tuple #[v, .int .i64 0])
      ∧ w'.ownsRow w.heap.size 28 3 v B.length (pCells B) ∧ Below w.heap.size w w' := by
  have HW := rwell_any xl cl L w hr
  rw [decide_eq_true hw] at HW
  have HW := Lib.hid HW
  have HR : Calls Tryz.prog 55 #[.slice xb B.length cb] w fun e w' => e = .returned (.int .i64 1) ∧ w' = w := rtrees_some 1 xb cb B w hb hm
  have HR := Lib.hid HR
  have hn0 : ¬ L.length = 0 := by have := hw.pos; omega
  have hbb := hb.2
  have h0 : (w.alloc (.cells #[] 28)).ownsRow w.heap.size 28 3 (.slice (some ⟨w.heap.size, 0, none⟩) 0 0) ([] : List Pt).length (pCells []) := by
    refine ⟨rfl, .inr ⟨w.heap.size, 0, #[], rfl, Nat.le_refl _, heap_alloc_new w _, by simp, by unfold maxLen; omega, rfl, rfl⟩⟩
  obtain ⟨y, c2, w2, hrun, hown, hgrow⟩ := push_pts h0 xb cb (src_pti (hb.1.keep ((Below.refl _ _).alloc (Nat.le_refl _) _))) (fun _ h => hcb h) (by simp; omega) (by simp)
  have Hrun := Lib.hid hrun
  have HO : Hid (w2.ownsRow w.heap.size 28 3 (.slice y (([] : List Pt).length + B.length) c2) B.length (pCells B)) := Lib.hid (by simpa using hown)
  have HG := Lib.hid (((Below.refl w.heap.size w).alloc (Nat.le_refl _) (.cells #[] 28)).grown hgrow (by simp) (fun k e => (h0.lt k e).1))
  clear hr hb hw hm h0 hrun hown hgrow
  go_enter Tryz.func31, Tryz.ntmps31
  go_wp2_with fail
  refine HR.out.mono ?_
  rintro e w1 ⟨rfl, rfl⟩
  go_wp2_with fail
  refine HW.out.mono ?_
  rintro e w1 ⟨rfl, rfl⟩
  go_wp2_with (at_builtin; refine wpList_app_run rfl _ _ _ _ rfl rfl rfl Hrun.out ?_)
  refine bodyPost_ret (v := .tuple #[.slice y (([] : List Pt).length + B.length) c2, .int .i64 0]) ?_ rfl ⟨_, rfl, HO.out, HG.out⟩
  simp [results, Tryz.results31, go_sem]
/-- What the reference's Swap answers at a part that is no root. -/
def SwP (L : List Pt) (I N m : Nat) (B : List Pt) (base : Nat) (e : Ending) (w' : World) : Prop := match bkO L I N with
  | none => e = .returned (.tuple #[.slice none 0 0, .int .i64 1])
  | some tz => ∃ v, e = .returned (.tuple #[v, .int .i64 0]) ∧ w'.ownsRow base 28 3 v (swL L I N tz B m).length (pCells (swL L I N tz B m))
set_option maxHeartbeats 8000000 in
theorem rswap_main (I N m : Nat) (xl xb : Option Addr) (cl cb : Nat) (L B : List Pt) (w : World) (hr : Pw w xl L) (hb : Pw w xb B) (hw : We L) (hm : Rw B m) (h0 : 0 < I) (hI : I < L.length) (hcl : L.length ≤ cl) (hcb : xb = none → cb = 0) :
    Calls Tryz.prog 31 #[.slice xl L.length cl, .int .i64 (I : Int), .int .i64 (N : Int), .slice xb B.length cb] w fun e w' => SwP L I N m B w.heap.size e w' ∧ Below w.heap.size w w' := by
  have HW := rwell_any xl cl L w hr
  rw [decide_eq_true hw] at HW
  have HW := Lib.hid HW
  have HR := Lib.hid (rtrees_some m xb cb B w hb hm)
  have em : ¬ (m : Int) < 0 := by omega
  have hlb := hr.2
  have hbb := hb.2
  have HU := rpup_any I xl cl L w hr hI hw
  obtain ⟨q, hqI, hqu, _⟩ := hw.above (i := I) h0 hI
  have hqu2 : upP L I = (q : Int) := hqu
  rw [hqu2] at HU
  have HU := Lib.hid HU
  have hbe : bkE L I = enP L q := by unfold bkE; rw [if_neg (by omega), hqu2]; rfl
  have HE := Lib.hid (fun k (hk : k < L.length) => rpend_some k xl cl L w hr hk hw)
  have hst := fun p => bk_step hw (i := I) (p := p) hI
  have h0s := bk_start hw hI
  have hel := bkE_le hw hI
  have Hwa := Lib.hid (fun k hk => (hw.all (i := k) hk).1)
  have hk2 := swap_kids hw (q := q) (Nat.lt_trans hqI hI)
  have hml : m ≤ B.length := by have := W_ge hm; omega
  obtain ⟨gl, ol, rfl, hgl, hcl1⟩ := hr.1 (by omega)
  have HRL := Lib.hid hcl1
  have HRB := Lib.hid hb.1
  obtain ⟨EN, hEN⟩ : ∃ EN, bkE L I = EN := ⟨_, rfl⟩
  rw [hEN] at hst h0s hel hbe
  have HEN := Lib.hid hEN
  have Hst := Lib.hid hst
  have HQ := Lib.hid hqu2
  have HEq := HE.out q (by omega)
  rw [← hbe] at HEq
  have HEq := Lib.hid HEq
  have e0 : ¬ (I : Int) < 0 := by omega
  have e1 : ¬ (L.length : Int) ≤ (I : Int) := by omega
  have e2 : ¬ (N : Int) < 0 := by omega
  have e3 : ((I : Int) == 0) = false := beq_eq_false_iff_ne.2 (by omega)
  have e4 : (I == 0) = false := beq_eq_false_iff_ne.2 (by omega)
  have e5 : ¬ I = 0 := by omega
  clear hr hb hw hm hcl1 hqu hqu2 hbe hst hEN
  go_enter Tryz.func31, Tryz.ntmps31
  go_wp2_with fail
  refine HR.out.mono ?_
  rintro e w1 ⟨rfl, rfl⟩
  go_wp2_with fail
  refine HW.out.mono ?_
  rintro e w1 ⟨rfl, rfl⟩
  go_wp2_with fail
  refine HU.out.mono ?_
  rintro e w1 ⟨rfl, rfl⟩
  go_wp2
  go_loopw [12, 13] (fun iv tv wr => ∃ t p : Nat, t ≤ N ∧ I ≤ p ∧ p ≤ EN ∧ t + I ≤ p ∧ iv = .int .i64 (p : Int) ∧ tv = .int .i64 (t : Int) ∧ Hid (W L.length (Kp L) I t = some p) ∧ wr = w1) (fun _ tv _ => N - (intOf tv).toNat)
  case atStart => exact ⟨0, I, by omega, by omega, by omega, by omega, rfl, rfl, Lib.hid (W_zero _), rfl⟩
  case round =>
    obtain ⟨t, p, htm, hip, hpe, htp, rfl, rfl, HWk, rfl⟩ := hrel
    by_cases hlt : t < N
    · have b2 : (t : Int) < (N : Int) := by omega
      by_cases hpE : p = EN
      · have hv : bkO L I N = none := by
          unfold bkO
          have hs := W_cat (b := N - t) HWk.out
          rw [show t + (N - t) = N by omega] at hs
          cases hwm : W L.length (Kp L) I N with
          | none => rfl
          | some p2 =>
            dsimp only
            rw [hwm] at hs
            have := W_ge hs.symm
            rw [HEN.out, if_neg (by omega)]
        have Hv := Lib.hid hv
        have b3 : (EN : Int) ≤ (p : Int) := by omega
        subst hpE
        clear hv
        go_wp2_with fail
        refine HEq.out.mono ?_
        rintro e w3 ⟨rfl, rfl⟩
        go_wp2
        refine bodyPost_ret (v := .tuple #[.slice none 0 0, .int .i64 1]) ?_ rfl ⟨by unfold SwP; rw [Hv.out], Below.refl _ _⟩
        simp [results, Tryz.results31, go_sem]
      · obtain ⟨s1, s2⟩ := Hst.out p hip (by omega)
        have HB2 := Lib.hid (HE.out p s1)
        have hw1 := Hwa.out p s1
        have hge := W_ge hw1
        have hW2 : W L.length (Kp L) I (t + 1) = some (enP L p) := by rw [W_cat HWk.out]; exact hw1
        have HW2 := Lib.hid hW2
        have hge2 : p + 1 ≤ enP L p := hge
        have b3 : ¬ (EN : Int) ≤ (p : Int) := by omega
        clear hw1 hge hW2 HWk hpE
        generalize enP L p = EP at HB2 HW2 s2 hge2
        go_wp2_with fail
        refine HEq.out.mono ?_
        rintro e w3 ⟨rfl, rfl⟩
        go_wp2_with fail
        refine HB2.out.mono ?_
        rintro e w3 ⟨rfl, rfl⟩
        go_wp2
        go_roundw
        case rel => exact ⟨t + 1, EP, by omega, by omega, by omega, by omega, rfl, by go_num, HW2, by first | rfl | trivial⟩
        case measure => simp [intOf]; omega
    · have htm2 : t = N := by omega
      subst htm2
      have b2 : ¬ (t : Int) < (t : Int) := by omega
      have hv : bkO L I t = some p := by unfold bkO; rw [HWk.out]; dsimp only; rw [HEN.out, if_pos hpe]
      have Hv := Lib.hid hv
      have hpl : p ≤ L.length := by omega
      have htl : t ≤ L.length := by omega
      -- the rows
      have hI1 : (L.take I).length = I := by rw [List.length_take]; omega
      have hempty : (wr.alloc (.cells #[] 28)).ownsRow wr.heap.size 28 3 (.slice (some ⟨wr.heap.size, 0, none⟩) 0 0) ([] : List Pt).length (pCells []) := by
        refine ⟨rfl, .inr ⟨wr.heap.size, 0, #[], rfl, Nat.le_refl _, heap_alloc_new wr _, by simp, by unfold maxLen; omega, rfl, rfl⟩⟩
      obtain ⟨y1, c1, w2, hrun1, hown1, hgrow1⟩ := push_pts hempty (S := L.take I) (some ⟨gl, ol, none⟩) cl (fun hn => ⟨_, rfl, fun j v hv => by
        have := cells_of_ptI (w := wr.alloc (.cells #[] 28)) (g := gl) (o := ol) (L := L) (fun i hi => (HRL.out i hi).keep ((Below.refl _ _).alloc (Nat.le_refl _) _) hgl) 0 I (by omega) (by omega) j v (by rw [List.drop_zero]; exact hv)
        simpa using this⟩) (fun _ h => by cases h) (by rw [hI1]; simp; omega) (by simp)
      simp only [List.length_nil, Nat.zero_add, List.nil_append] at hrun1 hown1
      rw [hI1] at hrun1 hown1
      have HG1 := Lib.hid (((Below.refl wr.heap.size wr).alloc (Nat.le_refl _) (.cells #[] 28)).grown hgrow1 (by simp) (fun k e => (hempty.lt k e).1))
      have Hrun1 := Lib.hid hrun1
      have HO1 := Lib.hid hown1
      clear hempty hrun1 hown1 hgrow1 hv HR HW HU HE HEq
      have a0 : (0 : Int) ≤ (I : Int) := by omega
      have a1 : (I : Int) ≤ (L.length : Int) := by omega
      have a2 : (I : Int) ≤ (cl : Int) := by omega
      go_upto_region 17 with (at_builtin; refine wpList_app_run rfl _ _ _ _ rfl rfl rfl Hrun1.out ?_)
      obtain ⟨G, rfl⟩ : ∃ G, y1 = some ⟨G, 0, none⟩ := by
        obtain ⟨y, c, hv, hy⟩ := owns_form HO1.out
        injection hv with v1 _ _
        obtain ⟨g, hg⟩ := hy h0
        exact ⟨g, by rw [v1]; exact hg⟩
      have hq1 : q < (L.take I).length := by rw [hI1]; exact hqI
      have hc4 := owns_cell HO1.out (pCells_get (L.take I) q hq1).2.1
      rw [nthP_take hqI] at hc4
      have hf4 := owns_free HO1.out (q * 3 + 1)
      have hrow2 := owns_set HO1.out (q * 3 + 1) (.int .i64 ((nthP L q).c + (m : Int) - (t : Int)))
      rw [rd_set (L.take I) q _ hq1, nthP_take hqI] at hrow2
      have hGb : wr.heap.size ≤ G := (owns_cap HO1.out).2.1
      have HG2 := Lib.hid (HG1.out.setCell (p := ⟨G, q * 3 + 1, none⟩) hGb (.int .i64 ((nthP L q).c + (m : Int) - (t : Int))))
      obtain ⟨L1, hL1⟩ : ∃ L1, (L.take I).set q ⟨(nthP L q).k, (nthP L q).c + (m : Int) - (t : Int), (nthP L q).x⟩ = L1 := ⟨_, rfl⟩
      have hL1l : L1.length = I := by rw [← hL1, List.length_set]; exact hI1
      rw [hL1] at hrow2
      have hsw : swL L I t p B m = L1 ++ (B ++ L.drop p) := by
        have hx : nthP (L.take I ++ (B ++ L.drop p)) q = nthP L q := swap_nth L B I p q hqI (by omega)
        unfold swL setC
        rw [if_neg e5, HQ.out, Int.toNat_natCast, hx, List.set_append_left _ _ hq1, ← hL1, show (nthP L q).c + ((m : Int) - (t : Int)) = (nthP L q).c + (m : Int) - (t : Int) by omega]
      have HSW := Lib.hid hsw
      obtain ⟨C, hC⟩ : ∃ C, (nthP L q).c = C := ⟨_, rfl⟩
      rw [hC] at hc4 hrow2 HG2 hk2
      obtain ⟨k1, k2⟩ := hk2
      have hq2 : (q : Int) < (I : Int) := by omega
      have hq3 : (0 : Int) ≤ (q : Int) := by omega
      have HRow2 := Lib.hid hrow2
      clear hsw hL1 hC hrow2 hq1
      go_upto_region 18 with fail
      clear hc4 hf4
      generalize w2.setCell ⟨G, q * 3 + 1, none⟩ (.int .i64 (C + (m : Int) - (t : Int))) = w3 at HRow2 HG2 ⊢
      have hrow3 : w3.ownsRow wr.heap.size 28 3 (.slice (some ⟨G, 0, none⟩) I c1) L1.length (pCells L1) := by rw [hL1l]; exact HRow2.out
      obtain ⟨y5, c5, w5, hrun5, hown5, hgrow5⟩ := push_pts hrow3 (S := B) xb cb (src_pti (HRB.out.keep HG2.out)) (fun _ h => hcb h) (by omega) HG2.out.size
      rw [hL1l] at hrun5
      rw [show L1.length + B.length = (L1 ++ B).length by simp] at hown5
      have HG5 := Lib.hid (HG2.out.grown hgrow5 HG2.out.size (fun k e => (hrow3.lt k e).1))
      obtain ⟨S, hS⟩ : ∃ S, L.drop p = S := ⟨_, rfl⟩
      have hSl : S.length = L.length - p := by rw [← hS, List.length_drop]
      obtain ⟨y6, c6, w6, hrun6, hown6, hgrow6⟩ := push_pts hown5 (S := S) (if cl = p then some (⟨gl, ol, none⟩ : Addr) else some ⟨gl, ol + p * 3, none⟩) (cl - p) (fun hn => ⟨⟨gl, ol + p * 3, none⟩, if_neg (by omega), fun j v hv => by
        have := cells_of_ptI (w := w5) (g := gl) (o := ol) (L := L) (fun i hi => (HRL.out i hi).keep HG5.out hgl) p L.length (Nat.le_refl _) hpl j v (by rw [List.take_length, hS]; exact hv)
        exact this⟩) (fun _ h => by split at h <;> cases h) (by rw [hSl]; simp [hL1l]; omega) HG5.out.size
      have HG6 := Lib.hid (HG5.out.grown hgrow6 HG5.out.size (fun k e => (hown5.lt k e).1))
      rw [hSl, show (L1 ++ B).length = I + B.length by simp [hL1l]] at hrun6
      have hfin : w6.ownsRow wr.heap.size 28 3 (.slice y6 ((L1 ++ B).length + S.length) c6) (swL L I t p B m).length (pCells (swL L I t p B m)) := by
        rw [HSW.out, ← List.append_assoc, hS]
        exact hown6
      have HFin := Lib.hid hfin
      have hlf : (L1 ++ B).length + S.length = I + B.length + (L.length - p) := by simp [hL1l, hSl]
      rw [hlf] at HFin
      have Hrun5 := Lib.hid hrun5
      have Hrun6 := Lib.hid hrun6
      clear hrow3 hrun5 hown5 hgrow5 hrun6 hown6 hgrow6 hfin hlf HSW hS HRow2
      have b3 : (0 : Int) ≤ (p : Int) := by omega
      have b4 : (p : Int) ≤ (L.length : Int) := by omega
      have b5 : p ≤ cl := by omega
      have b6 : (p : Int) ≤ (cl : Int) := by omega
      go_upto_region 19 with (at_builtin; refine wpList_app_run rfl _ _ _ _ rfl rfl rfl Hrun5.out ?_)
      go_wp2_with (at_builtin; refine wpList_app_run rfl _ _ _ _ rfl rfl rfl Hrun6.out ?_)
      all_goals
        refine bodyPost_ret (v := .tuple #[.slice y6 (I + B.length + (L.length - p)) c6, .int .i64 0]) ?_ rfl ⟨by unfold SwP; rw [Hv.out]; exact ⟨_, rfl, HFin.out⟩, HG6.out⟩
        simp [results, Tryz.results31, go_sem]
end Go.Proofs.YtklmiabgalanhaaGreatDoor
