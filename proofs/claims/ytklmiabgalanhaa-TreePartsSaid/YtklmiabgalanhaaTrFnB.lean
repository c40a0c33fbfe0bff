/- Contracts of tree.Kids, Over. -/
import Derived.Test.YtklmiabgalanhaaTrFnA
namespace Go.Proofs.Ytklmiabgalanhaa
open Go.RowKit Km Tm
set_option maxRecDepth 100000
set_option linter.unusedVariables false

theorem kids_none (i : Int) (x : Option Addr) (c : Nat) (L : List Nd) (w : World) (hr : Nw w x L) (h : ¬ (0 ≤ i ∧ i < (L.length : Int) ∧ TM L)) :
    Calls Try.prog 15 #[.slice x L.length c, .int .i64 i] w fun e w' => e = .returned (.slice none 0 0) ∧ Below w.heap.size w w' := by
  have HU := Lib.hid (upsFor_none i x c L w hr h)
  clear hr h
  go_enter Try.func15, Try.ntmps15
  go_wp2_with fail
  refine HU.out.mono ?_
  rintro e w1 ⟨rfl, b1⟩
  have B1 := Lib.hid b1
  clear b1
  go_wp2
  go_loopw [5, 12] (fun kv jv wr => kv = .slice none 0 0 ∧ jv = .int .i64 0 ∧ wr = w1) (fun _ _ _ => 0)
  case atStart => exact ⟨rfl, rfl, rfl⟩
  case round =>
    obtain ⟨rfl, rfl, rfl⟩ := hrel
    go_wp2
    go_ret
    exact ⟨rfl, B1.out⟩

/-- The kids of a node. -/
def kidL (L : List Nd) (i : Nat) : List Nat := kids L.length (Kx (nthN L)) i
/-- Those of them that are ahead of j. -/
def kidT (L : List Nd) (i j : Nat) : List Int := ((List.range j).filter fun k => upL L k == (i : Int)).map fun (k : Nat) => (k : Int)
theorem kidT_len (L : List Nd) (i j : Nat) : (kidT L i j).length ≤ j := by
  unfold kidT
  rw [List.length_map]
  exact Nat.le_trans (List.length_filter_le _ _) (by simp)
theorem kidT_yes {L : List Nd} {i j : Nat} (h : upL L j = (i : Int)) : kidT L i (j + 1) = kidT L i j ++ [(j : Int)] := by
  unfold kidT; rw [List.range_succ, List.filter_append, List.map_append]; simp [h]
theorem kidT_no {L : List Nd} {i j : Nat} (h : ¬ upL L j = (i : Int)) : kidT L i (j + 1) = kidT L i j := by
  unfold kidT; rw [List.range_succ, List.filter_append, List.map_append]; simp [h]
theorem kidT_all {L : List Nd} {i : Nat} (hi : i < L.length) (ht : TM L) : kidT L i L.length = (kidL L i).map fun (k : Nat) => (k : Int) := by
  unfold kidT kidL upL; rw [kids_up ht.1 hi]

set_option maxHeartbeats 4000000 in
theorem kids_some (i : Nat) (x : Option Addr) (c : Nat) (L : List Nd) (w : World) (hr : Nw w x L) (hi : i < L.length) (ht : TM L) :
    Calls Try.prog 15 #[.slice x L.length c, .int .i64 (i : Int)] w fun e w' => ∃ v, e = .returned v ∧ w'.ownsRow w.heap.size 3 1 v (kidL L i).length (iRow ((kidL L i).map fun (k : Nat) => (k : Int))) ∧ Below w.heap.size w w' := by
  have HU := Lib.hid (upsFor_some i x c L w hr hi ht)
  have Hall := Lib.hid (kidT_all hi ht)
  have hlb : L.length ≤ 5864062014805 := by have := hr.2.1; omega
  clear hr ht
  go_enter Try.func15, Try.ntmps15
  go_wp2_with fail
  refine HU.out.mono ?_
  rintro e w1 ⟨g, c2, rfl, hc, hF, b1⟩
  have HF := Lib.hid (And.intro hF (fun j hj => World.block_lt_of_cell? w1 _ (hF j hj)))
  have B1 := Lib.hid b1
  clear b1 hF
  go_wp2
  go_loopw [5, 12] (fun kv jv wr => ∃ j : Nat, j ≤ L.length ∧ jv = .int .i64 (j : Int) ∧ Hid (wr.ownsRow w1.heap.size 3 1 kv (kidT L i j).length (iRow (kidT L i j))) ∧ Hid (Below w1.heap.size w1 wr)) (fun _ jv _ => L.length - (intOf jv).toNat)
  case atStart => exact ⟨0, by omega, rfl, Lib.hid (World.ownsRow_nil _ _ _ _), Lib.hid (Below.refl _ _)⟩
  case round =>
    obtain ⟨j, hj, rfl, HO, HB⟩ := hrel
    obtain ⟨y, cy, hv, _⟩ := owns_form HO.out
    subst hv
    by_cases hlt : j < L.length
    · have b0 : (0 : Int) ≤ (j : Int) := by omega
      have b1 : (j : Int) < (L.length : Int) := by omega
      have d1 := (HB.out.cell (HF.out.2 j hlt)).trans (HF.out.1 j hlt)
      by_cases hu : upL L j = (i : Int)
      · have hlen := kidT_len L i j
        obtain ⟨y2, c3, w3, hrun, hown, hgrow⟩ := push_int HO.out (j : Int) (by omega) HB.out.size
        rw [← kidT_yes hu] at hown
        have hb3 := Lib.hid ((HB.out.alloc HB.out.size _).grown hgrow (by have := HB.out.size; simp; omega) (fun k e => (HO.out.lt k e).1))
        have hl2 : (kidT L i (j + 1)).length = (kidT L i j).length + 1 := by rw [kidT_yes hu]; simp
        have Hown := Lib.hid (show w3.ownsRow w1.heap.size 3 1 (.slice y2 ((kidT L i j).length + 1) c3) (kidT L i (j + 1)).length (iRow (kidT L i (j + 1))) from hown)
        have Hrun := Lib.hid hrun
        rw [hu] at d1
        clear hgrow hown hrun hu hl2 HO HB hlen
        generalize (kidT L i j).length = Q at Hrun Hown ⊢
        have e1 : ((i : Int) == (i : Int)) = true := beq_self_eq_true _
        go_wp2_with (at_builtin; refine wpList_app_run rfl _ _ _ _ rfl rfl rfl Hrun.out ?_)
        go_roundw
        case rel => exact ⟨j + 1, by omega, by go_num, Hown, hb3⟩
        case measure => simp [intOf]; omega
      · have e1 : (upL L j == (i : Int)) = false := beq_eq_false_iff_ne.2 hu
        have HO2 := HO
        rw [← kidT_no hu] at HO2
        have hl : (kidT L i (j + 1)).length = (kidT L i j).length := by rw [kidT_no hu]
        rw [← hl]
        clear hu hl
        generalize upL L j = U at d1 e1
        go_wp2
        go_roundw
        case rel => exact ⟨j + 1, by omega, by go_num, (by assumption), HB⟩
        case measure => simp [intOf]; omega
    · have hie : j = L.length := by omega
      subst hie
      have b1 : ¬ (L.length : Int) < (L.length : Int) := by omega
      have HO2 := HO.out
      rw [Hall.out] at HO2
      rw [Hall.out]
      have hm : ((kidL L i).map fun (k : Nat) => (k : Int)).length = (kidL L i).length := by simp
      rw [hm] at HO2 ⊢
      have HO3 := Lib.hid HO2
      have hsz := Lib.hid B1.out.size
      clear HO2 hm
      go_wp2
      go_ret
      exact ⟨_, rfl, owns_le HO3.out hsz.out, B1.out.trans (HB.out.mono hsz.out)⟩

theorem over_none_t (t : Int) (x : Option Addr) (c : Nat) (L : List Nd) (w : World) (hr : Nw w x L) (h : ¬ TM L) :
    Calls Try.prog 13 #[.slice x L.length c, .int .i64 t] w fun e w' => e = .returned (.int .i64 (-1)) ∧ Below w.heap.size w w' := by
  have HU := Lib.hid (fun w => ups_any 131072 x c L w)
  have Hr := Lib.hid hr
  have Ht := Lib.hid h
  clear hr h
  have hnil := nil_eq
  go_enter Try.func13, Try.ntmps13
  go_wp2_with fail
  refine (HU.out w Hr.out.1 Hr.out.2.1 Hr.out.2.2).mono ?_
  rintro e w1 ⟨a1, a2, b1⟩
  obtain rfl := a2 Ht.out
  have B1 := Lib.hid b1
  clear a1 a2 b1
  go_wp2
  go_ret
  exact ⟨rfl, B1.out⟩
set_option maxHeartbeats 4000000 in
theorem over_some (t : Int) (x : Option Addr) (c : Nat) (L : List Nd) (w : World) (hr : Nw w x L) (h : TM L) :
    Calls Try.prog 13 #[.slice x L.length c, .int .i64 t] w fun e w' => e = .returned (.int .i64 (over (nthN L) t L.length)) ∧ Below w.heap.size w w' := by
  have HU := Lib.hid (fun w => ups_any 131072 x c L w)
  have Hr := Lib.hid hr
  have Ht := Lib.hid h
  have hlb : L.length ≤ 5864062014805 := by have := hr.2.1; omega
  clear hr h
  have hnil := nil_eq
  go_enter Try.func13, Try.ntmps13
  go_wp2_with fail
  refine (HU.out w Hr.out.1 Hr.out.2.1 Hr.out.2.2).mono ?_
  rintro e w1 ⟨a1, a2, b1⟩
  obtain ⟨g, cc, rfl, _⟩ := a1 Ht.out
  have B1 := Lib.hid b1
  have R1 := Lib.hid (Hr.out.1.keep b1)
  clear a1 a2 b1
  go_wp2
  go_loopw [5, 14] (fun ov jv wr => ∃ j : Nat, j ≤ L.length ∧ jv = .int .i64 (j : Int) ∧ ov = .int .i64 (over (nthN L) t j) ∧ Hid (Below w1.heap.size w1 wr)) (fun _ jv _ => L.length - (intOf jv).toNat)
  case atStart => exact ⟨0, by omega, rfl, rfl, Lib.hid (Below.refl _ _)⟩
  case round =>
    obtain ⟨j, hj, rfl, rfl, HB⟩ := hrel
    by_cases hlt : j < L.length
    · have b0 : (0 : Int) ≤ (j : Int) := by omega
      have b1 : (j : Int) < (L.length : Int) := by omega
      obtain ⟨g1, o1, rfl, hg1, hat⟩ := R1.out.at HB.out hlt
      have Hh := fun w => has_any (nthN L j) t w
      have Hov : Hid (over (nthN L) t (j + 1) = if has (nthN L j) t then (j : Int) else over (nthN L) t j) := Lib.hid rfl
      obtain ⟨X, hX⟩ : ∃ X, X = nthN L j := ⟨_, rfl⟩
      rw [← hX] at hat Hh Hov
      obtain ⟨xk, xc, xw, xf, xt⟩ := X
      obtain ⟨d0, d1, d2, d3, d4⟩ := hat
      dsimp only at d0 d1 d2 d3 d4
      unfold ndV at Hh
      dsimp only at Hh
      have hsz := HB.out.size
      have hb2 := Lib.hid (HB.out.alloc hsz (.cells #[.int .u8 (xk : Int), .int .i64 xc, .int .i64 xw, .int .i64 xf, .int .i64 xt] 35))
      cases hB : decide (has ⟨xk, xc, xw, xf, xt⟩ t) with
      | true =>
        have Hv := Hov.out
        rw [if_pos (of_decide_eq_true hB)] at Hv
        rw [hB] at Hh
        have HV := Lib.hid Hv
        have Hh := Lib.hid Hh
        clear hB Hv hX hsz Hov
        go_wp2_with fail
        refine (Hh.out _).mono ?_
        rintro e w3 ⟨rfl, b3⟩
        have B3 := Lib.hid (hb2.out.trans (b3.mono hb2.out.size))
        clear b3 hb2 d0 d1 d2 d3 d4
        generalize over (nthN L) t j = O at HV ⊢
        go_wp2
        go_roundw
        case rel => exact ⟨j + 1, by omega, by go_num, by rw [HV.out], B3⟩
        case measure => simp [intOf]; omega
      | false =>
        have Hv := Hov.out
        rw [if_neg (of_decide_eq_false hB)] at Hv
        rw [hB] at Hh
        have HV := Lib.hid Hv
        have Hh := Lib.hid Hh
        clear hB Hv hX hsz Hov
        go_wp2_with fail
        refine (Hh.out _).mono ?_
        rintro e w3 ⟨rfl, b3⟩
        have B3 := Lib.hid (hb2.out.trans (b3.mono hb2.out.size))
        clear b3 hb2 d0 d1 d2 d3 d4
        rw [← HV.out]
        go_wp2
        go_roundw
        case rel => exact ⟨j + 1, by omega, by go_num, rfl, B3⟩
        case measure => simp [intOf]; omega
    · have hie : j = L.length := by omega
      subst hie
      have b1 : ¬ (L.length : Int) < (L.length : Int) := by omega
      have hsz := Lib.hid B1.out.size
      generalize hO : over (nthN L) t L.length = O
      have HO := Lib.hid hO
      clear hO
      go_wp2
      go_ret
      exact ⟨by rw [HO.out]; rfl, B1.out.trans (HB.out.mono hsz.out)⟩
end Go.Proofs.Ytklmiabgalanhaa
