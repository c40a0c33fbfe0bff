/- Contracts of tree.Depth and of the reference's Depth. -/
import Derived.Test.YtklmiabgalanhaaTrFnB
import Derived.Test.YtklmiabgalanhaaTrRefD
namespace Go.Proofs.Ytklmiabgalanhaa
open Go.RowKit Km Tm
set_option maxRecDepth 100000
set_option linter.unusedVariables false

def dp (U : Nat → Int) : Nat → Nat → Nat
  | 0, _ => 1
  | f + 1, i => if U i < 0 then 1 else dp U f (U i).toNat + 1
theorem dp_fuel {U : Nat → Int} (h : ∀ j, U j < (j : Int)) : ∀ (f g i : Nat), i ≤ f → i ≤ g → dp U f i = dp U g i
  | 0, 0, i, _, _ => rfl
  | 0, g + 1, i, hf, _ => by
    obtain rfl : i = 0 := by omega
    have := h 0
    unfold dp; rw [if_pos (by omega)]
  | f + 1, 0, i, _, hg => by
    obtain rfl : i = 0 := by omega
    have := h 0
    unfold dp; rw [if_pos (by omega)]
  | f + 1, g + 1, i, hf, hg => by
    have hi := h i
    unfold dp
    split
    · rfl
    · rw [dp_fuel h f g (U i).toNat (by omega) (by omega)]
def dD (U : Nat → Int) (i : Nat) : Nat := dp U i i
theorem dD_root {U : Nat → Int} {i : Nat} (h : U i < 0) : dD U i = 1 := by
  unfold dD
  cases i with
  | zero => rfl
  | succ i => unfold dp; rw [if_pos h]
theorem dD_step {U : Nat → Int} (h : ∀ j, U j < (j : Int)) {i p : Nat} (hp : U i = (p : Int)) : dD U i = dD U p + 1 := by
  have hi := h i
  unfold dD
  cases i with
  | zero => omega
  | succ i =>
    have : dp U (i + 1) (i + 1) = dp U i p + 1 := by
      conv => lhs; unfold dp
      rw [if_neg (by omega), hp, Int.toNat_natCast]
    rw [this, dp_fuel h i p p (by omega) (Nat.le_refl _)]
theorem dD_le {U : Nat → Int} (h : ∀ j, U j < (j : Int)) : ∀ i, dD U i ≤ i + 1 := by
  intro i
  induction i using Nat.strongRecOn with
  | ind i ih =>
    by_cases h0 : U i < 0
    · rw [dD_root h0]; omega
    · have hi := h i
      obtain ⟨p, hp⟩ : ∃ p : Nat, U i = (p : Int) := ⟨(U i).toNat, by omega⟩
      rw [dD_step h hp]
      have := ih p (by omega)
      omega
/-- The greatest among the first k. -/
def dM (U : Nat → Int) : Nat → Nat
  | 0 => 0
  | k + 1 => max (dM U k) (dD U k)
theorem upL_lt (L : List Nd) : ∀ j, upL L j < (j : Int) := fun j => (upF_lt (En := E L.length (Kx (nthN L))) (i := j) j).2
theorem upL_ge (L : List Nd) : ∀ j, -1 ≤ upL L j := fun j => (upF_lt (En := E L.length (Kx (nthN L))) (i := j) j).1
def depL (L : List Nd) : Nat := dM (upL L) L.length

theorem depth_none (x : Option Addr) (c : Nat) (L : List Nd) (w : World) (hr : Nw w x L) (h : ¬ TM L) :
    Calls Try.prog 14 #[.slice x L.length c] w fun e w' => e = .returned (.int .i64 0) ∧ Below w.heap.size w w' := by
  have HU := Lib.hid (fun w => ups_any 131072 x c L w)
  have Hr := Lib.hid hr
  have Ht := Lib.hid h
  have hmk : ∀ w, (Instr.makeSlice 30 (.int .i64 0) (.int .i64 0)).run Try.prog w = .ok (.slice (some ⟨w.heap.size, 0, none⟩) 0 0) (w.alloc (.cells (madeCells #[.int .i64 0] 0) 3)) := fun w => run_make_row' (P := Try.prog) 30 3 (.int .i64 0) 8 Try.underlying30 (by kernel_rfl) rfl .i64 .i64 0 (by omega) (by omega) w
  clear hr h
  go_enter Try.func14, Try.ntmps14
  go_wp2_with fail
  refine (HU.out w Hr.out.1 Hr.out.2.1 Hr.out.2.2).mono ?_
  rintro e w1 ⟨a1, a2, b1⟩
  obtain rfl := a2 Ht.out
  have hb2 := b1.alloc b1.size (.cells (madeCells #[.int .i64 0] 0) 3)
  have B1 := Lib.hid hb2
  clear a1 a2 b1 hb2
  go_wp2
  go_loopw [5, 15] (fun mv jv wr => mv = .int .i64 0 ∧ jv = .int .i64 0 ∧ Hid (Below w.heap.size w wr)) (fun _ _ _ => 0)
  case atStart => exact ⟨rfl, rfl, B1⟩
  case round =>
    obtain ⟨rfl, rfl, B2⟩ := hrel
    go_wp2
    go_ret
    exact ⟨rfl, B2.out⟩

set_option maxHeartbeats 4000000 in
theorem depth_some (x : Option Addr) (c : Nat) (L : List Nd) (w : World) (hr : Nw w x L) (h : TM L) :
    Calls Try.prog 14 #[.slice x L.length c] w fun e w' => e = .returned (.int .i64 (depL L : Int)) ∧ Below w.heap.size w w' := by
  have HU := Lib.hid (fun w => ups_any 131072 x c L w)
  have Hr := Lib.hid hr
  have Ht := Lib.hid h
  have hlb : L.length ≤ 5864062014805 := by have := hr.2.1; omega
  have hmk := fun w => run_make_row' (P := Try.prog) 30 3 (.int .i64 0) 8 Try.underlying30 (by kernel_rfl) rfl .i64 .i64 L.length (by omega) (by omega) w
  clear hr h
  go_enter Try.func14, Try.ntmps14
  go_wp2_with fail
  refine (HU.out w Hr.out.1 Hr.out.2.1 Hr.out.2.2).mono ?_
  rintro e w1 ⟨a1, a2, b1⟩
  obtain ⟨g, cc, rfl, hc, _, hF⟩ := a1 Ht.out
  have B1 := Lib.hid b1
  have hF2 : ∀ j, j < L.length → g < w1.heap.size ∧ w1.cell? ⟨g, j, none⟩ = some (.int .i64 (upL L j)) := fun j hj => by
    obtain ⟨g', hx, hg, hcell⟩ := hF (by omega)
    have e : g = g' := by
      have := Option.some.inj hx
      injection this
    subst e
    exact ⟨hg, hcell j hj⟩
  have HF := Lib.hid hF2
  have R0 : Hid (RI (w1.alloc (.cells (madeCells #[.int .i64 0] L.length) 3)) w1.heap.size 3 L.length (fun _ => 0)) := by
    refine Lib.hid ⟨_, heap_alloc_new w1 _, by rw [size_madeCells], fun k hk => ?_⟩
    rw [← Array.getElem?_toList, toList_madeCells_one, List.getElem?_replicate, if_pos hk]
  have B0 := Lib.hid ((Below.refl w1.heap.size w1).alloc (Nat.le_refl _) (.cells (madeCells #[.int .i64 0] L.length) 3))
  have Hlt := Lib.hid (upL_lt L)
  have Hge := Lib.hid (upL_ge L)
  clear a1 a2 b1 hF hF2
  go_wp2
  generalize w1.alloc (.cells (madeCells #[.int .i64 0] L.length) 3) = w2 at R0 B0 ⊢
  obtain ⟨bg, hg⟩ : ∃ bg, w1.heap.size = bg := ⟨_, rfl⟩
  have R1 := R0.out
  rw [hg] at R1 ⊢
  have R1 := Lib.hid R1
  have Hg := Lib.hid hg
  clear hg
  go_loopw [5, 15] (fun mv jv wr => ∃ (j : Nat) (q : Nat → Int), j ≤ L.length ∧ jv = .int .i64 (j : Int) ∧ mv = .int .i64 (dM (upL L) j : Int) ∧ Hid (RI wr bg 3 L.length q) ∧ Hid (∀ k, k < j → q k = (dD (upL L) k : Int)) ∧ Hid (Below w1.heap.size w1 wr)) (fun _ jv _ => L.length - (intOf jv).toNat)
  case atStart => exact ⟨0, _, by omega, rfl, rfl, R1, Lib.hid (fun k hk => by omega), B0⟩
  case round =>
    obtain ⟨j, q, hj, rfl, rfl, HR, HQ, HB⟩ := hrel
    by_cases hlt : j < L.length
    · have b0 : (0 : Int) ≤ (j : Int) := by omega
      have b1 : (j : Int) < (L.length : Int) := by omega
      obtain ⟨hgl, hcell⟩ := HF.out j hlt
      have d1 := (HB.out.cell (p := ⟨g, j, none⟩) hgl).trans hcell
      have hne : ¬ g = bg := by rw [← Hg.out]; omega
      have hne2 : ¬ bg = g := fun e => hne e.symm
      have z1 := HR.out.cell hlt
      have z2 := HR.out.free j
      have hu1 := Hlt.out j
      have hu2 := Hge.out j
      have hdl := dD_le (upL_lt L) j
      have R2 := Lib.hid (HR.out.set j 1)
      have B2 := Lib.hid (HB.out.setCell (p := ⟨bg, j, none⟩) (by rw [Hg.out]; exact Nat.le_refl _) (.int .i64 1))
      have HM : Hid (dM (upL L) (j + 1) = max (dM (upL L) j) (dD (upL L) j)) := Lib.hid rfl
      by_cases hneg : upL L j = -1
      · have hD := dD_root (U := upL L) (i := j) (by omega)
        have HD := Lib.hid hD
        rw [hneg] at d1
        have y1 := R2.out.cell hlt
        rw [upd_same] at y1
        have Q3 : Hid (∀ k, k < j + 1 → upd q j 1 k = (dD (upL L) k : Int)) := Lib.hid fun k hk => by
          by_cases e : k = j
          · subst e; rw [upd_same, HD.out]; rfl
          · rw [upd_far _ _ e]; exact HQ.out k (by omega)
        rw [hD] at HM
        generalize dM (upL L) j = MM at HM ⊢
        clear hcell hgl hu1 hu2 hdl hD hneg
        go_wp2
        go_roundw
        case rel => exact ⟨j + 1, _, by omega, by go_num, by rw [HM.out]; go_num, R2, Q3, B2⟩
        case measure => simp [intOf]; omega
      · obtain ⟨p, hp⟩ : ∃ p : Nat, upL L j = (p : Int) := ⟨(upL L j).toNat, by omega⟩
        have hpj : p < j := by omega
        have hD := dD_step (upL_lt L) hp
        have HD := Lib.hid hD
        rw [hp] at d1
        have y0 := HR.out.cell (k := p) (by omega)
        rw [HQ.out p hpj] at y0
        have R3 := Lib.hid (R2.out.set j (1 + (dD (upL L) p : Int)))
        have y1 := R2.out.cell hlt
        rw [upd_same] at y1
        have y2 := R2.out.cell (k := p) (by omega)
        rw [upd_far _ _ (by omega), HQ.out p hpj] at y2
        have y3 := R3.out.cell hlt
        rw [upd_same] at y3
        have z3 := R2.out.free j
        have B3 := Lib.hid (B2.out.setCell (p := ⟨bg, j, none⟩) (by rw [Hg.out]; exact Nat.le_refl _) (.int .i64 (1 + (dD (upL L) p : Int))))
        have Q3 : Hid (∀ k, k < j + 1 → upd (upd q j 1) j (1 + (dD (upL L) p : Int)) k = (dD (upL L) k : Int)) := Lib.hid fun k hk => by
          by_cases e : k = j
          · subst e; rw [upd_same, HD.out]; omega
          · rw [upd_far _ _ e, upd_far _ _ e]; exact HQ.out k (by omega)
        have hdp := dD_le (upL_lt L) p
        rw [hD] at HM
        have e1 : ((p : Int) != -1) = true := by rw [bne, beq_eq_false_iff_ne.2 (by omega)]; rfl
        have e2 : ((p : Int) == -1) = false := beq_eq_false_iff_ne.2 (by omega)
        have b2 : (0 : Int) ≤ (p : Int) := by omega
        have b3 : (p : Int) < (L.length : Int) := by omega
        have hpj2 : ¬ p = j := by omega
        have hpj3 : ¬ j = p := by omega
        generalize dM (upL L) j = MM at HM ⊢
        generalize dD (upL L) p = DP at *
        clear hcell hgl hu1 hu2 hdl hD hneg
        go_wp2
        go_region
        go_wp2
        go_roundw
        case rel => exact ⟨j + 1, _, by omega, by go_num, by rw [HM.out]; go_num, R3, Q3, Lib.hid (below_drew B3.out)⟩
        case measure => simp [intOf]; omega
    · have hie : j = L.length := by omega
      subst hie
      have b1 : ¬ (L.length : Int) < (L.length : Int) := by omega
      have hsz := Lib.hid B1.out.size
      go_wp2
      go_ret
      exact ⟨rfl, B1.out.trans (HB.out.mono hsz.out)⟩

set_option maxHeartbeats 4000000 in
theorem rdepth_any (x : Option Addr) (c : Nat) (L : List Nd) (w : World) (hr : Nr w x L) (hw : Wl L.length (Kx (nthN L))) :
    Calls Try.prog 19 #[.slice x L.length c] w fun e w' => e = .returned (.int .i64 (depL L : Int)) ∧ Below w.heap.size w w' := by
  have hup : ∀ w (i : Nat), Nr w x L → i < L.length → Calls Try.prog 21 #[.slice x L.length c, .int .i64 (i : Int)] w fun e w' => e = .returned (.int .i64 (upL L i)) ∧ Below w.heap.size w w' := fun w i h hi => rup_any i x c L w h hi hw
  have HUp := Lib.hid hup
  have Hr := Lib.hid hr
  have hlb := hr.2
  have Hlt := Lib.hid (upL_lt L)
  have Hge := Lib.hid (upL_ge L)
  clear hr hw hup
  go_enter Try.func19, Try.ntmps19
  go_wp2
  go_loopw [3, 4] (fun mv jv wr => ∃ (j : Nat), j ≤ L.length ∧ jv = .int .i64 (j : Int) ∧ mv = .int .i64 (dM (upL L) j : Int) ∧ Hid (Below w.heap.size w wr)) (fun _ jv _ => L.length - (intOf jv).toNat)
  case atStart => exact ⟨0, by omega, rfl, rfl, Lib.hid (Below.refl _ _)⟩
  case round =>
    obtain ⟨j, hj, rfl, rfl, HB⟩ := hrel
    by_cases hlt : j < L.length
    · have b0 : (0 : Int) ≤ (j : Int) := by omega
      have b1 : (j : Int) < (L.length : Int) := by omega
      have HC := Lib.hid (HUp.out wr j (Hr.out.keep HB.out) hlt)
      have HM : Hid (dM (upL L) (j + 1) = max (dM (upL L) j) (dD (upL L) j)) := Lib.hid rfl
      have hdl := dD_le (upL_lt L) j
      have hu1 := Hlt.out j
      have hu2 := Hge.out j
      have HS : Hid ((upL L j < 0 ∧ dD (upL L) j = 1) ∨ (∃ p : Nat, p < L.length ∧ upL L j = (p : Int) ∧ 1 + dD (upL L) p = dD (upL L) j)) := by
        by_cases h0 : upL L j < 0
        · exact Lib.hid (.inl ⟨h0, dD_root h0⟩)
        · refine Lib.hid (.inr ⟨(upL L j).toNat, by omega, by omega, ?_⟩)
          rw [dD_step (upL_lt L) (i := j) (p := (upL L j).toNat) (by omega)]; omega
      go_wp2_with fail
      refine HC.out.mono ?_
      rintro e w2 ⟨rfl, b2⟩
      have B2 := Lib.hid (HB.out.trans (b2.mono HB.out.size))
      generalize upL L j = U0 at HS hu1 hu2 ⊢
      clear b2 HC
      go_wp2
      go_loopw [5, 6] (fun dv kv wr2 => ∃ (d : Nat) (k : Int), dv = .int .i64 (d : Int) ∧ kv = .int .i64 k ∧ -1 ≤ k ∧ k < (L.length : Int) ∧ d ≤ dD (upL L) j ∧ Hid ((k < 0 ∧ dD (upL L) j = d) ∨ (∃ p : Nat, p < L.length ∧ k = (p : Int) ∧ d + dD (upL L) p = dD (upL L) j)) ∧ Hid (Below w.heap.size w wr2)) (fun _ kv _ => (intOf kv + 1).toNat)
      case atStart => exact ⟨1, U0, rfl, rfl, hu2, by omega, by rcases HS.out with h | ⟨p, h1, h2, h3⟩ <;> omega, HS, B2⟩
      case round =>
        obtain ⟨d, k, rfl, rfl, hk1, hk2, hdd, HS2, HB3⟩ := hrel
        by_cases hk : k < 0
        · have hd : dD (upL L) j = d := by
            rcases HS2.out with h | ⟨p, h1, h2, h3⟩
            · exact h.2
            · omega
          have HD := Lib.hid hd
          rw [hd] at HM hdl
          generalize dM (upL L) j = MM at HM ⊢
          clear hd hdd HS2 HS
          go_wp2
          go_roundw
          case rel => exact ⟨j + 1, by omega, by go_num, by rw [HM.out]; go_num, HB3⟩
          case measure => simp [intOf]; omega
        · obtain ⟨p, hp, rfl, hpd⟩ : ∃ p : Nat, p < L.length ∧ k = (p : Int) ∧ d + dD (upL L) p = dD (upL L) j := by
            rcases HS2.out with h | h
            · omega
            · exact h
          have HC2 := Lib.hid (HUp.out wr p (Hr.out.keep HB3.out) hp)
          have hv1 := Hlt.out p
          have hv2 := Hge.out p
          have HS3 : Hid ((upL L p < 0 ∧ dD (upL L) j = d + 1) ∨ (∃ p2 : Nat, p2 < L.length ∧ upL L p = (p2 : Int) ∧ d + 1 + dD (upL L) p2 = dD (upL L) j)) := by
            by_cases h0 : upL L p < 0
            · exact Lib.hid (.inl ⟨h0, by rw [← hpd, dD_root h0]⟩)
            · refine Lib.hid (.inr ⟨(upL L p).toNat, by omega, by omega, ?_⟩)
              have := dD_step (upL_lt L) (i := p) (p := (upL L p).toNat) (by omega)
              omega
          have hd1 : d + 1 ≤ dD (upL L) j := by rcases HS3.out with h | ⟨p2, h1, h2, h3⟩ <;> omega
          clear hpd HS2 HS
          go_wp2_with fail
          refine HC2.out.mono ?_
          rintro e w4 ⟨rfl, b4⟩
          have B4 := Lib.hid (HB3.out.trans (b4.mono HB3.out.size))
          generalize upL L p = U1 at HS3 hv1 hv2 ⊢
          clear b4 HC2
          go_wp2
          go_roundw
          case rel => exact ⟨d + 1, U1, by go_num, rfl, hv2, by omega, hd1, HS3, B4⟩
          case measure => simp [intOf]; omega
    · have hie : j = L.length := by omega
      subst hie
      have b1 : ¬ (L.length : Int) < (L.length : Int) := by omega
      go_wp2
      go_ret
      exact ⟨rfl, HB.out⟩
end Go.Proofs.Ytklmiabgalanhaa
