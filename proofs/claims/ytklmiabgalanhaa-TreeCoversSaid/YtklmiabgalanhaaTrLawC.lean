/- The walk of the law TreeCovers. -/
import Derived.Test.YtklmiabgalanhaaTrArg
import Derived.Test.YtklmiabgalanhaaTrFix
namespace Go.Proofs.Ytklmiabgalanhaa
open Go.RowKit Km Tm
set_option maxRecDepth 100000
set_option linter.unusedVariables false

theorem tr_wider {n : Nat} {x : Nat → Nd} {N M : Int} (h : Tr n x N) (hNM : N ≤ M) : Tr n x M :=
  ⟨h.1, fun i hi => ⟨by have := (h.2 i hi).1; exact ⟨this.1, this.2.1, this.2.2.1, this.2.2.2.1, by have := this.2.2.2.2.1; omega, this.2.2.2.2.2⟩, (h.2 i hi).2⟩⟩
theorem mem_ownL {L : List Nd} {i : Nat} (hi : i < L.length) (ht : TM L) {t : Int} : t ∈ ownL L i ↔ own L.length (nthN L) i t := by
  unfold ownL ownT own
  rw [List.mem_filter, List.mem_map]
  have hm : mine L i t = true ↔ ∀ c, c < L.length → up L.length (Kx (nthN L)) c = (i : Int) → ¬ has (nthN L c) t := by
    unfold mine
    rw [Bool.not_eq_true', List.any_eq_false]
    constructor
    · intro h c hc hu hh
      exact h c ((kids_mem ht.1 hi).2 ⟨hc, hu⟩) (decide_eq_true hh)
    · intro h c hc hh
      have := (kids_mem ht.1 hi).1 hc
      exact h c this.1 this.2 (of_decide_eq_true hh)
  rw [hm]
  refine ⟨fun ⟨⟨j, hj, e⟩, h2⟩ => ⟨?_, h2⟩, fun ⟨h1, h2⟩ => ⟨⟨(t - (nthN L i).f).toNat, ?_, ?_⟩, h2⟩⟩
  · rw [List.mem_range] at hj
    unfold has; omega
  · rw [List.mem_range]; unfold has at h1; omega
  · unfold has at h1; omega
theorem ownL_sorted (L : List Nd) (i : Nat) : (ownL L i).Pairwise (· < ·) := by
  unfold ownL ownT
  refine List.Pairwise.filter _ ?_
  rw [List.pairwise_map]
  refine List.Pairwise.imp (R := fun a b => a < b) ?_ (List.pairwise_lt_range ..)
  intro a b h
  omega
theorem count_sorted {t : Int} : ∀ (l : List Int), l.Pairwise (· < ·) → l.count t = if t ∈ l then 1 else 0
  | [], _ => rfl
  | a :: r, h => by
    rw [List.pairwise_cons] at h
    rw [List.count_cons, count_sorted r h.2]
    by_cases e : a = t
    · subst e
      have : ¬ a ∈ r := fun hm => by have := h.1 a hm; omega
      simp [this]
    · have e2 : ¬ t = a := fun h => e h.symm
      simp [e, e2]
/-- How many of the first k are t. -/
def cnt (l : List Int) (t : Int) (k : Nat) : Nat := (l.take k).count t
theorem cnt_yes {l : List Int} {t : Int} {k : Nat} (hk : k < l.length) (h : l.getD k 0 = t) : cnt l t (k + 1) = cnt l t k + 1 := by
  unfold cnt
  rw [List.take_add_one, List.count_append, List.getElem?_eq_getElem hk]
  have : l[k] = t := by rw [← h]; simp [hk]
  simp [this]
theorem cnt_no {l : List Int} {t : Int} {k : Nat} (hk : k < l.length) (h : ¬ l.getD k 0 = t) : cnt l t (k + 1) = cnt l t k := by
  unfold cnt
  rw [List.take_add_one, List.count_append, List.getElem?_eq_getElem hk]
  have : ¬ l[k] = t := by intro e; apply h; rw [← e]; simp [hk]
  simp [this]
theorem cnt_all {l : List Int} {t : Int} (hn : l.Pairwise (· < ·)) : cnt l t l.length = if t ∈ l then 1 else 0 := by
  unfold cnt
  rw [List.take_length]
  exact count_sorted l hn
theorem cnt_le {l : List Int} {t : Int} (k : Nat) : cnt l t k ≤ k := by
  unfold cnt
  exact Nat.le_trans List.count_le_length (by rw [List.length_take]; omega)

set_option maxHeartbeats 8000000 in
theorem walk_TreeCovers (a : Option Addr) (len cap : Nat) (Z : List Nd) (w : World) (h : NdArg w a len cap Z) (hz : cap * 40 ≤ 140737488351232) :
    Calls Try.prog 5 #[.slice a len cap] w fun e w' => e = .returned (.bool true) ∧ Below w.heap.size w w' := by
  have hl := h.len_eq
  have hn := h.nw hz
  generalize Z.take len = L at hl hn
  subst hl
  clear h hz
  by_cases hbig : 60 < L.length
  · have b1 : (60 : Int) < (L.length : Int) := by omega
    clear hn hbig
    go_enter Try.func5, Try.ntmps5
    go_wp2_with fail
    refine (fixed_any w).mono ?_
    rintro e w1 ⟨rfl, hb1⟩
    have B1 := Lib.hid hb1
    clear hb1
    go_wp2
    go_ret
    exact ⟨rfl, B1.out⟩
  · have b1 : ¬ (60 : Int) < (L.length : Int) := by omega
    have HN := Lib.hid hn
    have hlb : L.length ≤ 60 := by omega
    clear hbig
    by_cases ht : Tr L.length (nthN L) 200
    · have HT := Lib.hid ht
      have HTM : Hid (TM L) := Lib.hid (tr_wider ht (by omega))
      have h0 : 0 < L.length := ht.1.pos
      have hf := (ht.2 0 h0).1
      have hf1 := hf.2.2.1
      have hf2 := hf.2.2.2.1
      have hf3 := hf.2.2.2.2.1
      obtain ⟨F, hF⟩ : ∃ F, (nthN L 0).f = F := ⟨_, rfl⟩
      obtain ⟨T, hT⟩ : ∃ T, (nthN L 0).t = T := ⟨_, rfl⟩
      rw [hF] at hf1 hf2
      rw [hT] at hf2 hf3
      have HF := Lib.hid hF
      have HTe := Lib.hid hT
      have b0 : (0 : Int) < (L.length : Int) := by omega
      have e0 : ((L.length : Int) == 0) = false := beq_eq_false_iff_ne.2 (by omega)
      have e0' : (L.length == 0) = false := beq_eq_false_iff_ne.2 (by omega)
      have e1 : IntKind.i64.wrap (T - F) = T - F := by rw [IntKind.wrap_i64]; omega
      have e2 : ¬ (200 : Int) < T - F := by omega
      have e3 : decide ((200 : Int) < T - F) = false := decide_eq_false e2
      clear ht hn hf hF hT
      go_enter Try.func5, Try.ntmps5
      go_wp2_with fail
      refine (check_yes 200 a cap L w (by omega) (by omega) HN.out HT.out).mono ?_
      rintro e w1 ⟨rfl, hb1⟩
      have B1 := Lib.hid hb1
      obtain ⟨g1, o1, rfl, hg1, hat⟩ := HN.out.1.at hb1 h0
      have d3 := hat.2.2.2.1
      have d4 := hat.2.2.2.2
      rw [HF.out] at d3
      rw [HTe.out] at d4
      rw [Nat.zero_mul, Nat.add_zero] at d3 d4
      clear hb1 hat
      go_wp2
      go_quiet (fail)
      go_wp2
      have B1 := Lib.hid (below_draw B1.out nq)
      generalize w1.drewN nq = wq at B1 ⊢
      clear d3 d4 e0 e0' e1 e2 e3
      go_loopw [3] (fun tv wr => ∃ d : Nat, F + (d : Int) ≤ T ∧ tv = .int .i64 (F + (d : Int)) ∧ Hid (Below w.heap.size w wr)) (fun tv _ => (T - intOf tv).toNat)
      case atStart => exact ⟨0, by omega, by go_num, B1⟩
      case round =>
        obtain ⟨d, hd, rfl, HB⟩ := hrel
        obtain ⟨g2, o2, hx2, hg2, hat⟩ := HN.out.1.at HB.out h0
        injection hx2 with hx2
        injection hx2 with hx3 hx4
        subst hx3 hx4
        have d4 := hat.2.2.2.2
        rw [HTe.out] at d4
        rw [Nat.zero_mul, Nat.add_zero] at d4
        have hdl : d ≤ 131072 := by omega
        clear hat
        by_cases hlt : F + (d : Int) < T
        · obtain ⟨v, hv, hov, hown⟩ := HTM.out.owner (t := F + (d : Int)) (by unfold has; rw [HF.out, HTe.out]; omega)
          have Hov := Lib.hid hov
          have Hown := Lib.hid (fun i hi => (mem_ownL hi HTM.out (t := F + (d : Int))).trans (hown i hi))
          clear hov hown
          obtain ⟨t, htt⟩ : ∃ t, F + (d : Int) = t := ⟨_, rfl⟩
          have Htt := Lib.hid htt
          rw [htt] at Hov Hown hlt ⊢
          have htb : t ≤ 131072 ∧ 0 ≤ t := by omega
          clear htt
          go_wp2
          clear d4
          go_loopw [4, 5, 6] (fun ov cv iv wr2 => ∃ (o : Int) (c i : Nat), i ≤ L.length ∧ ov = .int .i64 o ∧ cv = .int .i64 (c : Int) ∧ iv = .int .i64 (i : Int) ∧ c ≤ 1 ∧ Hid (c = if v < i then 1 else 0) ∧ Hid (o = if v < i then (v : Int) else -1) ∧ Hid (Below w.heap.size w wr2)) (fun _ _ iv _ => L.length - (intOf iv).toNat)
          case atStart => exact ⟨-1, 0, 0, by omega, rfl, rfl, rfl, by omega, Lib.hid (by simp), Lib.hid (by simp), HB⟩
          case round =>
            obtain ⟨o, c, i, hi, rfl, rfl, rfl, hc1, HCc, HOo, HB2⟩ := hrel
            by_cases hin : i < L.length
            · have c0 : (0 : Int) ≤ (i : Int) := by omega
              have c1 : (i : Int) < (L.length : Int) := by omega
              have HC := Lib.hid (own_some i (some ⟨g1, o1, none⟩) cap L wr (HN.out.keep HB2.out) hin HTM.out)
              go_wp2_with fail
              refine HC.out.mono ?_
              rintro e w2 ⟨val, rfl, ho, hb2⟩
              obtain ⟨y, cy, hval, _⟩ := owns_form ho
              subst hval
              have B3 := Lib.hid (HB2.out.trans (hb2.mono HB2.out.size))
              have hsl := (show ∀ k, k < (ownL L i).length → ∃ g, y = some ⟨g, 0, none⟩ ∧ g < w2.heap.size ∧ w2.cell? ⟨g, k, none⟩ = some (.int .i64 ((ownL L i).getD k 0)) from fun k hk => by
                rcases ho.2 with ⟨hv, h0⟩ | ⟨g, cap', cur, hv, a1, a2, _⟩
                · omega
                · injection hv with v1 v2 v3
                  subst v1
                  exact ⟨g, rfl, (Array.getElem?_eq_some_iff.1 a2).1, owns_cell ho (iRow_get (by rw [List.getElem?_eq_getElem hk]; simp [hk]))⟩)
              have HSl := Lib.hid hsl
              have hall := (cnt_all (t := t) (ownL_sorted L i))
              have Hall : Hid (cnt (ownL L i) t (ownL L i).length = if i = v then 1 else 0) := Lib.hid (by
                rw [hall]
                by_cases e : i = v
                · rw [if_pos ((Hown.out i hin).2 e), if_pos e]
                · rw [if_neg (fun h => e ((Hown.out i hin).1 h)), if_neg e])
              have hlen0 := ownT_len L i ((nthN L i).t - (nthN L i).f).toNat
              have hfit := (HTM.out.2 i hin).1
              have hlen : (ownL L i).length ≤ 131072 := by
                have h1 := hfit.2.2.1
                have h2 := hfit.2.2.2.1
                have h3 := hfit.2.2.2.2.1
                unfold ownL
                omega
              clear ho hb2 hsl hall hlen0 hfit HC
              generalize ownL L i = O at HSl Hall hlen ⊢
              go_wp2
              go_loopw [4, 5, 8] (fun ov cv kv wr3 => ∃ (o2 : Int) (k : Nat), k ≤ O.length ∧ ov = .int .i64 o2 ∧ cv = .int .i64 ((c + cnt O t k : Nat) : Int) ∧ kv = .int .i64 (k : Int) ∧ Hid (o2 = if cnt O t k = 0 then o else (i : Int)) ∧ wr3 = w2) (fun _ _ kv _ => O.length - (intOf kv).toNat)
              case atStart => exact ⟨o, 0, by omega, rfl, rfl, rfl, Lib.hid rfl, rfl⟩
              case round =>
                obtain ⟨o2, k, hk, rfl, rfl, rfl, HO2, rfl⟩ := hrel
                have hcl := cnt_le (l := O) (t := t) k
                by_cases hkl : k < O.length
                · have c2 : (0 : Int) ≤ (k : Int) := by omega
                  have c3 : (k : Int) < (O.length : Int) := by omega
                  obtain ⟨g, rfl, hg, hcell⟩ := HSl.out k hkl
                  by_cases heq : O.getD k 0 = t
                  · have hcy := cnt_yes hkl heq
                    rw [heq] at hcell
                    have e4 : ((t : Int) == t) = true := by simp
                    have HO3 : Hid ((i : Int) = if cnt O t (k + 1) = 0 then o else (i : Int)) := Lib.hid (by rw [hcy, if_neg (by omega)])
                    have Hcy := Lib.hid hcy
                    clear heq hcy HO2
                    generalize cnt O t k = C at Hcy hcl ⊢
                    go_wp2
                    go_roundw
                    case rel => exact ⟨(i : Int), k + 1, by omega, rfl, by rw [Hcy.out]; go_num, by go_num, HO3, by first | rfl | trivial⟩
                    case measure => simp [intOf]; omega
                  · have hcn := cnt_no hkl heq
                    have e4 : (O.getD k 0 == t) = false := beq_eq_false_iff_ne.2 heq
                    have HO3 : Hid (o2 = if cnt O t (k + 1) = 0 then o else (i : Int)) := Lib.hid (by rw [hcn]; exact HO2.out)
                    rw [← hcn]
                    clear heq hcn HO2
                    generalize O.getD k 0 = OV at hcell e4
                    go_wp2
                    go_roundw
                    case rel => exact ⟨o2, k + 1, by omega, rfl, rfl, by go_num, HO3, by first | rfl | trivial⟩
                    case measure => simp [intOf]; omega
                · have hke : k = O.length := by omega
                  subst hke
                  have c3 : ¬ (O.length : Int) < (O.length : Int) := by omega
                  have hA := Hall.out
                  have hCn := HCc.out
                  have hOn := HOo.out
                  have hO2 := HO2.out
                  generalize cnt O t O.length = C at hA hO2 hcl ⊢
                  have F1 : Hid (c + C = if v < i + 1 then 1 else 0) := Lib.hid (by
                    rw [hCn, hA]
                    by_cases e : i = v
                    · subst e; rw [if_neg (Nat.lt_irrefl _), if_pos rfl, if_pos (Nat.lt_succ_self _)]
                    · by_cases e2 : v < i
                      · rw [if_pos e2, if_neg e, if_pos (by omega)]
                      · rw [if_neg e2, if_neg e, if_neg (by omega)])
                  have F2 : Hid (o2 = if v < i + 1 then (v : Int) else -1) := Lib.hid (by
                    rw [hO2, hOn, hA]
                    by_cases e : i = v
                    · subst e; rw [if_pos rfl, if_neg (by omega), if_pos (Nat.lt_succ_self _)]
                    · by_cases e2 : v < i
                      · rw [if_neg e, if_pos rfl, if_pos e2, if_pos (by omega)]
                      · rw [if_neg e, if_pos rfl, if_neg e2, if_neg (by omega)])
                  have hcc : c + C ≤ 1 := by rw [F1.out]; split <;> omega
                  clear hA hCn hOn hO2
                  generalize hcC : c + C = CC at F1 hcc ⊢
                  clear hcC
                  go_wp2
                  go_roundw
                  case rel => exact ⟨o2, CC, i + 1, by omega, rfl, rfl, by go_num, hcc, F1, F2, B3⟩
                  case measure => simp [intOf]; omega
            · have hie : i = L.length := by omega
              subst hie
              have c1 : ¬ (L.length : Int) < (L.length : Int) := by omega
              have hc : c = 1 := by rw [HCc.out, if_pos hv]
              have ho : o = (v : Int) := by rw [HOo.out, if_pos hv]
              subst hc ho
              have HC := over_some t (some ⟨g1, o1, none⟩) cap L wr (HN.out.keep HB2.out) HTM.out
              rw [Hov.out] at HC
              have HC := Lib.hid HC
              have e5 : ((v : Int) != (v : Int)) = false := by simp
              have e6 : ((v : Int) == (v : Int)) = true := by simp
              go_wp2_with fail
              refine HC.out.mono ?_
              rintro e w3 ⟨rfl, hb3⟩
              have B3 := Lib.hid (HB2.out.trans (hb3.mono HB2.out.size))
              clear hb3
              go_wp2
              go_roundw
              case rel => exact ⟨d + 1, by have := Htt.out; omega, by rw [← Htt.out]; go_num, B3⟩
              case measure => have := Htt.out; simp [intOf]; omega
        · have hle : ¬ F + (d : Int) < T := hlt
          go_wp2_with fail
          refine (fixed_any wr).mono ?_
          rintro e w3 ⟨rfl, hb3⟩
          have B3 := Lib.hid (HB.out.trans (hb3.mono HB.out.size))
          clear hb3
          go_wp2
          go_ret
          exact ⟨rfl, B3.out⟩
    · have HT := Lib.hid ht
      clear ht hn
      go_enter Try.func5, Try.ntmps5
      go_wp2_with fail
      refine (check_no 200 a cap L w (by omega) (by omega) HN.out HT.out).mono ?_
      rintro e w1 ⟨rfl, hb1⟩
      have B1 := Lib.hid hb1
      clear hb1
      go_wp2_with fail
      refine (fixed_any w1).mono ?_
      rintro e w2 ⟨rfl, hb2⟩
      have B2 := Lib.hid (B1.out.trans (hb2.mono B1.out.size))
      clear hb2
      go_wp2
      go_ret
      exact ⟨rfl, B2.out⟩
end Go.Proofs.Ytklmiabgalanhaa
