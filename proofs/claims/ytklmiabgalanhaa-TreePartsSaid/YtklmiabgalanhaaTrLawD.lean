/- The walk of the law TreeParts. -/
import Derived.Test.YtklmiabgalanhaaTrArg
import Derived.Test.YtklmiabgalanhaaTrFix
namespace Go.Proofs.Ytklmiabgalanhaa
open Go.RowKit Km Tm
set_option maxRecDepth 100000
set_option linter.unusedVariables false

def WdP (L : List Nd) (w : World) (e : Ending) (w' : World) : Prop := ∃ b, e = .returned (.bool b) ∧ (b = false → L.length ≤ 200) ∧ ∃ d, w' = w.drewN d
set_option maxHeartbeats 4000000 in
theorem wide_any (x : Option Addr) (c : Nat) (L : List Nd) (w : World) (hr : Nw w x L) :
    Calls Try.prog 10 #[.slice x L.length c] w (WdP L w) := by
  have HR := Lib.hid hr.1
  have hlb : L.length ≤ 5864062014805 := by have := hr.2.1; omega
  clear hr
  go_enter Try.func10, Try.ntmps10
  go_wp2
  go_loopw [3] (fun iv wr => ∃ i d : Nat, i ≤ L.length ∧ iv = .int .i64 (i : Int) ∧ wr = w.drewN d) (fun iv _ => L.length - (intOf iv).toNat)
  case atStart => exact ⟨0, 0, by omega, rfl, rfl⟩
  case round =>
    obtain ⟨i, d, hi, rfl, rfl⟩ := hrel
    by_cases hlt : i < L.length
    · have b0 : (0 : Int) ≤ (i : Int) := by omega
      have b1 : (i : Int) < (L.length : Int) := by omega
      obtain ⟨g, o, rfl, hg, hat⟩ := HR.out.at (Below.refl _ _) hlt
      have d3 := hat.2.2.2.1
      have d4 := hat.2.2.2.2
      generalize (nthN L i).f = F at d3
      generalize (nthN L i).t = T at d4
      clear hat
      by_cases h1 : 0 ≤ F
      · have e1 : decide (0 ≤ F) = true := decide_eq_true h1
        by_cases h2 : T ≤ 131072
        · have e2 : decide (T ≤ 131072) = true := decide_eq_true h2
          by_cases h3 : 2000 < IntKind.i64.wrap (T - F)
          · have e3 : decide (2000 < IntKind.i64.wrap (T - F)) = true := decide_eq_true h3
            generalize hW : IntKind.i64.wrap (T - F) = WV at h3 e3
            go_wp2
            go_quiet (fail)
            go_wp2
            go_ret
            exact ⟨true, rfl, fun h => by (cases h), d + nq, by first | rfl | exact World.drewN_drewN _ _ _⟩
          · have e3 : decide (2000 < IntKind.i64.wrap (T - F)) = false := decide_eq_false h3
            generalize hW : IntKind.i64.wrap (T - F) = WV at h3 e3
            go_wp2
            go_quiet (fail)
            go_wp2
            go_roundw
            case rel => exact ⟨i + 1, _, by omega, by go_num, rfl⟩
            case measure => simp [intOf]; omega
        · have e2 : decide (T ≤ 131072) = false := decide_eq_false h2
          go_wp2
          go_quiet (fail)
          go_wp2
          go_roundw
          case rel => exact ⟨i + 1, _, by omega, by go_num, rfl⟩
          case measure => simp [intOf]; omega
      · have e1 : decide (0 ≤ F) = false := decide_eq_false h1
        go_wp2
        go_quiet (fail)
        go_wp2
        go_roundw
        case rel => exact ⟨i + 1, _, by omega, by go_num, rfl⟩
        case measure => simp [intOf]; omega
    · have b1 : ¬ (i : Int) < (L.length : Int) := by omega
      by_cases h2 : 200 < L.length
      · have e2 : (200 : Int) < (L.length : Int) := by omega
        go_wp2
        go_ret
        exact ⟨true, rfl, fun h => by (cases h), d, rfl⟩
      · have e2 : ¬ (200 : Int) < (L.length : Int) := by omega
        have H2 := Lib.hid (show L.length ≤ 200 by omega)
        go_wp2
        go_ret
        exact ⟨false, rfl, fun h => H2.out, d, rfl⟩

set_option maxHeartbeats 8000000 in
theorem rown_any (i : Nat) (x : Option Addr) (c : Nat) (L : List Nd) (w : World) (hr : Nr w x L) (hi : i < L.length) (ht : TM L) :
    Calls Try.prog 24 #[.slice x L.length c, .int .i64 (i : Int)] w fun e w' => ∃ v, e = .returned v ∧ w'.ownsRow w.heap.size 3 1 v (ownL L i).length (iRow (ownL L i)) ∧ Below w.heap.size w w' := by
  have H1 := Lib.hid (rkids_any i x c L w hr hi ht.1)
  have HR := Lib.hid hr
  have hlb := hr.2
  have hfit := (ht.2 i hi).1
  have hf1 := hfit.2.2.1
  have hf2 := hfit.2.2.2.1
  have hf3 := hfit.2.2.2.2.1
  obtain ⟨F, hF⟩ : ∃ F, (nthN L i).f = F := ⟨_, rfl⟩
  obtain ⟨T, hT⟩ : ∃ T, (nthN L i).t = T := ⟨_, rfl⟩
  rw [hF] at hf1 hf2
  rw [hT] at hf2 hf3
  have HF := Lib.hid hF
  have HTe := Lib.hid hT
  have Hkl : Hid (∀ k ∈ kidL L i, k < L.length) := Lib.hid fun k hk => ((kids_mem ht.1 hi).1 hk).1
  have hklen : (kidL L i).length ≤ L.length := by
    have := kidT_len L i L.length
    rw [kidT_all hi ht, List.length_map] at this; exact this
  have c0 : (0 : Int) ≤ (i : Int) := by omega
  have c1 : (i : Int) < (L.length : Int) := by omega
  clear hr ht hfit hF hT
  go_enter Try.func24, Try.ntmps24
  go_wp2_with fail
  refine H1.out.mono ?_
  rintro e w1 ⟨v, rfl, ho, b1⟩
  change w1.ownsRow _ _ _ _ (kidL L i).length (iRow ((kidL L i).map fun (k : Nat) => (k : Int))) at ho
  obtain ⟨y, cy, hv, _⟩ := owns_form ho
  subst hv
  have hsl := (show ∀ k, k < (kidL L i).length → ∃ g, y = some ⟨g, 0, none⟩ ∧ g < w1.heap.size ∧ w1.cell? ⟨g, k, none⟩ = some (.int .i64 (((kidL L i).getD k 0 : Nat) : Int)) from fun k hk => by
    rcases ho.2 with ⟨hv, h0⟩ | ⟨g, cap', cur, hv, a1, a2, _⟩
    · omega
    · injection hv with v1 v2 v3
      subst v1
      exact ⟨g, rfl, (Array.getElem?_eq_some_iff.1 a2).1, owns_cell ho (iRow_get (by rw [List.getElem?_map, List.getElem?_eq_getElem hk]; simp [hk]))⟩)
  have HSl := Lib.hid hsl
  have B1 := Lib.hid b1
  have R1 := Lib.hid (HR.out.1.keep b1)
  obtain ⟨g1, o1, rfl, hg1, hat⟩ := HR.out.1.at b1 hi
  have d3 := hat.2.2.2.1
  rw [HF.out] at d3
  change Hid (∀ k ∈ kidL L i, k < L.length) at Hkl
  have Hlen : Hid ((kids L.length (Kx (nthN L)) i).length = (kidL L i).length) := Lib.hid rfl
  obtain ⟨KL, hKL⟩ : ∃ KL, kidL L i = KL := ⟨_, rfl⟩
  have HKL := Lib.hid hKL
  rw [hKL] at HSl Hkl hklen ⊢
  clear ho b1 hsl hat hKL Hlen
  go_wp2
  clear d3
  go_loopw [6, 7] (fun ov tv wr => ∃ (d : Nat), F + (d : Int) ≤ T ∧ tv = .int .i64 (F + (d : Int)) ∧ Hid (Below w1.heap.size w1 wr) ∧ Hid (wr.ownsRow w1.heap.size 3 1 ov (ownT L i d).length (iRow (ownT L i d)))) (fun _ tv _ => (T - intOf tv).toNat)
  case atStart => exact ⟨0, by omega, by go_num, Lib.hid (Below.refl _ _), Lib.hid (World.ownsRow_nil _ _ _ _)⟩
  case round =>
    obtain ⟨d, hd, rfl, HB, HO⟩ := hrel
    obtain ⟨yo, co, hv, _⟩ := owns_form HO.out
    subst hv
    obtain ⟨g2, o2, hx2, hg2, hat⟩ := R1.out.at HB.out hi
    injection hx2 with hx2
    injection hx2 with hx3 hx4
    subst hx3 hx4
    have d4 := hat.2.2.2.2
    rw [HTe.out] at d4
    have hdl : d ≤ 131072 := by omega
    have hlen := ownT_len L i d
    clear hat
    by_cases hlt : F + (d : Int) < T
    · obtain ⟨t, htt⟩ : ∃ t, F + (d : Int) = t := ⟨_, rfl⟩
      have Htt := Lib.hid htt
      have htb : t ≤ 131072 ∧ 0 ≤ t := by omega
      rw [htt] at hlt ⊢
      go_wp2
      clear d4
      go_loopw [8, 9] (fun mv kv wr2 => ∃ (k : Nat), k ≤ KL.length ∧ mv = .bool (!((KL.take k).any fun j => decide (has (nthN L j) t))) ∧ kv = .int .i64 (k : Int) ∧ wr2 = wr) (fun _ kv _ => KL.length - (intOf kv).toNat)
      case atStart => exact ⟨0, by omega, rfl, rfl, rfl⟩
      case round =>
        obtain ⟨k, hk, rfl, rfl, rfl⟩ := hrel
        by_cases hkl : k < KL.length
        · have b0 : (0 : Int) ≤ (k : Int) := by omega
          have b1 : (k : Int) < (KL.length : Int) := by omega
          obtain ⟨g, rfl, hg, hc⟩ := HSl.out k hkl
          have hc3 := (HB.out.cell (p := ⟨g, k, none⟩) hg).trans hc
          have hj : KL.getD k 0 < L.length := Hkl.out _ (by rw [List.getD_eq_getElem?_getD, List.getElem?_eq_getElem hkl]; exact List.getElem_mem _)
          have hstep : (KL.take (k + 1)).any (fun j => decide (has (nthN L j) t)) = ((KL.take k).any (fun j => decide (has (nthN L j) t)) || decide (has (nthN L (KL.getD k 0)) t)) := by
            rw [List.take_add_one, List.any_append, List.getElem?_eq_getElem hkl]
            simp [hkl]
          have HS := Lib.hid hstep
          obtain ⟨j, hje⟩ : ∃ j, KL.getD k 0 = j := ⟨_, rfl⟩
          rw [hje] at hc3 hj HS
          obtain ⟨g3, o3, hx3, hg3, hat⟩ := R1.out.at HB.out hj
          injection hx3 with hx3
          injection hx3 with hx4 hx5
          subst hx4 hx5
          have q3 := hat.2.2.2.1
          have q4 := hat.2.2.2.2
          have b2 : (0 : Int) ≤ (j : Int) := by omega
          have b3 : (j : Int) < (L.length : Int) := by omega
          have Hh : Hid (has (nthN L j) t ↔ (nthN L j).f ≤ t ∧ t < (nthN L j).t) := Lib.hid Iff.rfl
          generalize (nthN L j).f = JF at q3 Hh
          generalize (nthN L j).t = JT at q4 Hh
          clear hat hc hje hstep
          by_cases h1 : JF ≤ t
          · by_cases h2 : t < JT
            · have HV := HS.out
              rw [decide_eq_true (Hh.out.2 ⟨h1, h2⟩), Bool.or_true] at HV
              have HV := Lib.hid HV
              generalize (KL.take k).any (fun j => decide (has (nthN L j) t)) = MV at *
              go_wp2
              go_roundw
              case rel => exact ⟨k + 1, by omega, by rw [HV.out]; rfl, by go_num, by first | rfl | trivial⟩
              case measure => simp [intOf]; omega
            · have HV := HS.out
              rw [decide_eq_false (fun h => h2 (Hh.out.1 h).2), Bool.or_false] at HV
              rw [← HV]
              clear HV
              go_wp2
              go_roundw
              case rel => exact ⟨k + 1, by omega, rfl, by go_num, by first | rfl | trivial⟩
              case measure => simp [intOf]; omega
          · have HV := HS.out
            rw [decide_eq_false (fun h => h1 (Hh.out.1 h).1), Bool.or_false] at HV
            rw [← HV]
            clear HV
            go_wp2
            go_roundw
            case rel => exact ⟨k + 1, by omega, rfl, by go_num, by first | rfl | trivial⟩
            case measure => simp [intOf]; omega
        · have hke : k = KL.length := by omega
          subst hke
          have b1 : ¬ (KL.length : Int) < (KL.length : Int) := by omega
          have hm : mine L i (F + (d : Int)) = !((KL.take KL.length).any fun j => decide (has (nthN L j) t)) := by
            unfold mine; rw [HKL.out, List.take_length, Htt.out]
          rw [← hm]
          cases hb : mine L i (F + (d : Int)) with
          | true =>
            have hyes := ownT_yes (L := L) (i := i) (d := d) (by rw [HF.out]; exact hb)
            rw [HF.out, Htt.out] at hyes
            obtain ⟨y2, c3, w6, hrun, hown, hgrow⟩ := push_int HO.out t (by omega) HB.out.size
            rw [← hyes] at hown
            have hb6 := Lib.hid ((HB.out.alloc HB.out.size _).grown hgrow (by have := HB.out.size; simp; omega) (fun k e => (HO.out.lt k e).1))
            have hown : w6.ownsRow w1.heap.size 3 1 (.slice y2 ((ownT L i d).length + 1) c3) (ownT L i (d + 1)).length (iRow (ownT L i (d + 1))) := hown
            have Hown := Lib.hid hown
            have Hrun := Lib.hid hrun
            clear hown hrun hgrow hyes hlen HO hm hb
            generalize (ownT L i d).length = Q at Hrun Hown ⊢
            go_wp2_with (at_builtin; refine wpList_app_run rfl _ _ _ _ rfl rfl rfl Hrun.out ?_)
            go_roundw
            case rel => exact ⟨d + 1, by have := Htt.out; omega, by have := Htt.out; rw [← Htt.out]; go_num, hb6, Hown⟩
            case measure => have := Htt.out; simp [intOf]; omega
          | false =>
            have hno := ownT_no (L := L) (i := i) (d := d) (by rw [HF.out]; exact hb)
            have HO3 := HO
            rw [← hno] at HO3
            have hl : (ownT L i (d + 1)).length = (ownT L i d).length := by rw [hno]
            rw [← hl]
            clear hno hl hlen hm hb
            go_wp2
            go_roundw
            case rel => exact ⟨d + 1, by have := Htt.out; omega, by have := Htt.out; rw [← Htt.out]; go_num, HB, HO3⟩
            case measure => have := Htt.out; simp [intOf]; omega
    · have hde : d = (T - F).toNat := by omega
      have hfin : ownT L i d = ownL L i := by unfold ownL; rw [HF.out, HTe.out, hde]
      rw [hfin] at HO ⊢
      have hsz := Lib.hid B1.out.size
      clear hfin
      go_wp2
      go_ret
      exact ⟨_, rfl, owns_le HO.out hsz.out, B1.out.trans (HB.out.mono hsz.out)⟩
end Go.Proofs.Ytklmiabgalanhaa
