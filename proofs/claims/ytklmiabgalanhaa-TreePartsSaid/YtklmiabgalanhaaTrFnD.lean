/- Contract of tree.Own. -/
import Derived.Test.YtklmiabgalanhaaTrFnC
namespace Go.Proofs.Ytklmiabgalanhaa
open Go.RowKit Km Tm
set_option maxRecDepth 100000
set_option linter.unusedVariables false

/-- Is a token no kid's? -/
def mine (L : List Nd) (i : Nat) (t : Int) : Bool := !((kidL L i).any fun k => decide (has (nthN L k) t))
/-- The own tokens among the first d. -/
def ownT (L : List Nd) (i d : Nat) : List Int := ((List.range d).map fun (j : Nat) => (nthN L i).f + (j : Int)).filter (mine L i)
def ownL (L : List Nd) (i : Nat) : List Int := ownT L i ((nthN L i).t - (nthN L i).f).toNat
theorem ownT_len (L : List Nd) (i d : Nat) : (ownT L i d).length ≤ d := by
  unfold ownT
  exact Nat.le_trans (List.length_filter_le _ _) (by simp)
theorem ownT_yes {L : List Nd} {i d : Nat} (h : mine L i ((nthN L i).f + (d : Int)) = true) : ownT L i (d + 1) = ownT L i d ++ [(nthN L i).f + (d : Int)] := by
  unfold ownT; rw [List.range_succ, List.map_append, List.filter_append]; simp [h]
theorem ownT_no {L : List Nd} {i d : Nat} (h : mine L i ((nthN L i).f + (d : Int)) = false) : ownT L i (d + 1) = ownT L i d := by
  unfold ownT; rw [List.range_succ, List.map_append, List.filter_append]; simp [h]

theorem sli_of_owns {w : World} {base : Nat} {y : Option Addr} {c : Nat} {r : List Nat} (h : w.ownsRow base 3 1 (.slice y r.length c) r.length (iRow (r.map fun (k : Nat) => (k : Int)))) : SlI w y r ∧ r.length ≤ c := by
  rcases h.2 with ⟨hv, h0⟩ | ⟨g, cap, cur, hv, a1, a2, a3, a4, a5, a6⟩
  · injection hv with v1 v2 v3
    exact ⟨fun hn => by omega, by omega⟩
  · injection hv with v1 v2 v3
    subst v1 v3
    refine ⟨fun hn => ⟨g, 0, rfl, ⟨cur, _, a2⟩, fun j hj => ?_⟩, a3⟩
    have := owns_cell h (k := j) (u := .int .i64 ((r.getD j 0 : Nat) : Int)) (iRow_get (by rw [List.getElem?_map, List.getElem?_eq_getElem hj]; simp [hj]))
    rw [Nat.zero_add]; exact this

/-- What the closure says is right. -/
theorem mine_of {L : List Nd} {i : Nat} (hi : i < L.length) (ht : TM L) {t : Int} {b : Bool} {pre r2 : List Nat} (h : kidL L i = pre ++ r2) (hp : ∀ k ∈ pre, (nthN L k).t ≤ t) (h0 : r2 = [] → b = false) (h1 : ∀ k s, r2 = k :: s → t < (nthN L k).t ∧ b = decide (has (nthN L k) t)) : mine L i t = !b := by
  have hsort : (kidL L i).Pairwise fun c d => (nthN L c).t ≤ (nthN L d).f := ko_sort (ht.2 i hi).2
  unfold mine
  congr 1
  rw [h] at hsort ⊢
  rw [List.any_append]
  have e1 : pre.any (fun k => decide (has (nthN L k) t)) = false := by
    rw [List.any_eq_false]
    intro k hk
    have := hp k hk
    simp only [decide_eq_true_eq]
    intro hh
    have := hh.2
    omega
  rw [e1, Bool.false_or]
  cases r2 with
  | nil => rw [h0 rfl]; rfl
  | cons k s =>
    obtain ⟨h2, h3⟩ := h1 k s rfl
    rw [List.any_cons, h3]
    have e2 : s.any (fun k => decide (has (nthN L k) t)) = false := by
      rw [List.any_eq_false]
      intro j hj
      have := (List.pairwise_append.1 hsort).2.1
      rw [List.pairwise_cons] at this
      have := this.1 j hj
      simp only [decide_eq_true_eq]
      intro hh
      have := hh.1
      omega
    rw [e2, Bool.or_false]

theorem own_none (i : Int) (x : Option Addr) (c : Nat) (L : List Nd) (w : World) (hr : Nw w x L) (h : ¬ (0 ≤ i ∧ i < (L.length : Int) ∧ TM L)) :
    Calls Try.prog 16 #[.slice x L.length c, .int .i64 i] w fun e w' => e = .returned (.slice none 0 0) ∧ Below w.heap.size w w' := by
  have b0 := (Below.refl w.heap.size w).alloc (Nat.le_refl _) (.cells #[.slice x L.length c] 22)
  have HU := Lib.hid (upsFor_none i x c L _ (hr.keep b0) h)
  have B0 := Lib.hid b0
  have hnil := nil_eq
  clear hr h b0
  go_enter Try.func16, Try.ntmps16
  go_wp2_with fail
  refine HU.out.mono ?_
  rintro e w1 ⟨rfl, b1⟩
  have B1 := Lib.hid (B0.out.trans (b1.mono B0.out.size))
  clear b1
  go_wp2
  go_ret
  exact ⟨rfl, B1.out⟩

set_option maxHeartbeats 8000000 in
theorem own_some (i : Nat) (x : Option Addr) (c : Nat) (L : List Nd) (w : World) (hr : Nw w x L) (hi : i < L.length) (ht : TM L) :
    Calls Try.prog 16 #[.slice x L.length c, .int .i64 (i : Int)] w fun e w' => ∃ v, e = .returned v ∧ w'.ownsRow w.heap.size 3 1 v (ownL L i).length (iRow (ownL L i)) ∧ Below w.heap.size w w' := by
  have b0 := (Below.refl w.heap.size w).alloc (Nat.le_refl _) (.cells #[.slice x L.length c] 22)
  have HU := Lib.hid (upsFor_some i x c L _ (hr.keep b0) hi ht)
  have HKs := Lib.hid (fun w2 h => kids_some i x c L w2 h hi ht)
  have B0 := Lib.hid b0
  have Hr := Lib.hid hr
  have Ht := Lib.hid ht
  have LB : Hid ((w.alloc (.cells #[.slice x L.length c] 22)).heap[w.heap.size]? = some (.cells #[.slice x L.length c] 22 (0, 0))) := Lib.hid (heap_alloc_new w _)
  have hlb : L.length ≤ 5864062014805 := by have := hr.2.1; omega
  have hfit := (ht.2 i hi).1
  have hnil := nil_eq
  have c0 : (0 : Int) ≤ (i : Int) := by omega
  have c1 : (i : Int) < (L.length : Int) := by omega
  have hklen : (kidL L i).length ≤ L.length := by
    have := kidT_len L i L.length
    rw [kidT_all hi ht, List.length_map] at this; exact this
  have Hkl : Hid (∀ k ∈ kidL L i, k < L.length) := Lib.hid fun k hk => ((kids_mem ht.1 hi).1 hk).1
  have hf1 := hfit.2.2.1
  have hf2 := hfit.2.2.2.1
  have hf3 := hfit.2.2.2.2.1
  clear hr ht b0 hfit
  obtain ⟨w1, hw1⟩ : ∃ w1, w.alloc (.cells #[.slice x L.length c] 22) = w1 := ⟨_, rfl⟩
  have Hw1 := Lib.hid hw1
  go_enter Try.func16, Try.ntmps16
  have LB := LB.out
  rw [hw1] at LB
  have LC : w1.cell? ⟨w.heap.size, 0, none⟩ = some (.slice x L.length c) := by rw [cell_of_row w1 w.heap.size 0 _ _ _ LB]; rfl
  have LB := Lib.hid LB
  have HU := HU.out
  have B0 := B0.out
  rw [hw1] at HU B0
  have HU := Lib.hid HU
  have B0 := Lib.hid B0
  go_wp2_with fail
  refine HU.out.mono ?_
  rintro e w2 ⟨g, c2, rfl, hc, hF, b1⟩
  have hlt1 := (Array.getElem?_eq_some_iff.1 LB.out).1
  have LC2 := (b1.cell (p := ⟨w.heap.size, 0, none⟩) hlt1).trans LC
  have LB2 := Lib.hid ((b1.block _ hlt1).trans LB.out)
  have B2 := Lib.hid (B0.out.trans (b1.mono B0.out.size))
  have R2 := Lib.hid (Hr.out.keep B2.out)
  have hlt2 := Nat.lt_of_lt_of_le hlt1 b1.size
  clear b1 hF LC hw1
  go_wp2_with fail
  refine (HKs.out w2 R2.out).mono ?_
  rintro e w3 ⟨v, rfl, ho, b3⟩
  obtain ⟨y, cy, hv, _⟩ := owns_form ho
  subst hv
  have LC3 := (b3.cell (p := ⟨w.heap.size, 0, none⟩) hlt2).trans LC2
  have LB3 := Lib.hid ((b3.block _ hlt2).trans LB2.out)
  have B3 := Lib.hid (B2.out.trans (b3.mono B2.out.size))
  have hlt3 := Nat.lt_of_lt_of_le hlt2 b3.size
  have hsl := sli_of_owns ho
  have HM4 : Hid (OwM w (w3.alloc (.cells #[.slice y (kidL L i).length cy] 30)) x c L w3.heap.size w.heap.size y cy (kidL L i)) :=
    Lib.hid ⟨B3.out.alloc B3.out.size _, heap_alloc_new w3 _, B3.out.size, (heap_alloc_old w3 _ hlt3).trans LB3.out, hsl.1.keep ((Below.refl _ _).alloc (Nat.le_refl _) _), hsl.2, fun hn gg oo e => by subst e; exact (ho.lt gg rfl).2⟩
  clear ho b3 hsl LC2
  go_upto_region 6 with fail
  generalize w3.alloc (.cells #[.slice y (kidL L i).length cy] 30) = w4 at HM4 ⊢
  have HLK := Lib.hid hlt3
  generalize w3.heap.size = kb at HM4 HLK ⊢
  obtain ⟨lb, hlbk⟩ : ∃ lb, w.heap.size = lb := ⟨_, rfl⟩
  have HLB := Lib.hid hlbk
  have HM5 := HM4.out
  rw [hlbk] at HM5 HLK ⊢
  have HM6 := Lib.hid HM5
  obtain ⟨g1, o1, rfl, hg1, hat⟩ := Hr.out.1.at HM6.out.be hi
  have d3 := hat.2.2.2.1
  have LC4 := HM6.out.lc
  obtain ⟨F, hF⟩ : ∃ F, (nthN L i).f = F := ⟨_, rfl⟩
  obtain ⟨T, hT⟩ : ∃ T, (nthN L i).t = T := ⟨_, rfl⟩
  rw [hF] at d3 hf1 hf2
  rw [hT] at hf2 hf3
  have HFe := Lib.hid hF
  have HTe := Lib.hid hT
  clear hat hF hT HM5 hlbk HM4 LB LB2 LB3 B3 R2 B2 LC3 hlt1 hlt2 hlt3 hnil HKs
  go_wp2
  go_loopw [7, 8] (fun ov tv wr => ∃ (d : Nat) (pre r : List Nat) (a : Option Addr) (cc : Nat), (F + (d : Int) ≤ T) ∧ tv = .int .i64 (F + (d : Int)) ∧ Hid (kidL L i = pre ++ r) ∧ Hid (∀ k ∈ pre, (nthN L k).t ≤ F + (d : Int)) ∧ Hid (OwM w wr (some ⟨g1, o1, none⟩) c L kb lb a cc r)
    ∧ Hid (wr.ownsRow kb 3 1 ov (ownT L i d).length (iRow (ownT L i d)))) (fun _ tv _ => (T - intOf tv).toNat)
  case atStart => exact ⟨0, [], kidL L i, y, cy, by omega, by go_num, Lib.hid rfl, Lib.hid (fun k hk => by simp at hk), HM6, Lib.hid (World.ownsRow_nil _ _ _ _)⟩
  case round =>
    obtain ⟨d, pre, r, a, cc, hd, rfl, HS, HP, HM, HO⟩ := hrel
    obtain ⟨yo, co, hv, _⟩ := owns_form HO.out
    subst hv
    obtain ⟨g2, o2, hx2, hg2, hat⟩ := Hr.out.1.at HM.out.be hi
    injection hx2 with hx2
    injection hx2 with hx3 hx4
    subst hx3 hx4
    have d4 := hat.2.2.2.2
    rw [HTe.out] at d4
    have LC5 := HM.out.lc
    have hdl : d ≤ 131072 := by omega
    by_cases hlt : F + (d : Int) < T
    · have hrl : ∀ k ∈ r, k < L.length := fun k hk => Hkl.out k (by rw [HS.out]; exact List.mem_append_right _ hk)
      have hrlen : r.length ≤ L.length := by have := congrArg List.length HS.out; rw [List.length_append] at this; omega
      have HC := Lib.hid (isk_any w wr (some ⟨g1, o1, none⟩) c L kb lb a cc r (F + (d : Int)) Hr.out.1 hlb HM.out hrl hrlen)
      clear hat hrl hrlen
      go_wp2_with fail
      refine HC.out.mono ?_
      rintro e w5 ⟨b, pre2, r2, a2, cc2, rfl, e1, e2, e3, e4, HM2, hg⟩
      have Hmine := Lib.hid (mine_of hi Ht.out (t := F + (d : Int)) (b := b) (pre := pre ++ pre2) (r2 := r2) (by rw [HS.out, e1, List.append_assoc]) (fun k hk => by
        rcases List.mem_append.1 hk with h | h
        · exact HP.out k h
        · exact e2 k h) e3 e4)
      have HS2 : Hid (kidL L i = (pre ++ pre2) ++ r2) := Lib.hid (by rw [HS.out, e1, List.append_assoc])
      have HP2 : Hid (∀ k ∈ pre ++ pre2, (nthN L k).t ≤ F + ((d + 1 : Nat) : Int)) := Lib.hid fun k hk => by
        rcases List.mem_append.1 hk with h | h
        · have := HP.out k h; omega
        · have := e2 k h; omega
      have hkt : 30 ≠ 3 := by decide
      have hob : (Value.slice yo (ownT L i d).length co).ownBlock ≠ some kb := by
        intro hgg
        obtain ⟨cs, fz, aa⟩ := Lib.ownsRow_kind HO.out kb hgg
        have bb := HM.out.k1
        rw [aa] at bb
        injection bb with bb
        injection bb with b1 b2
        exact hkt b2.symm
      have HO2 := Lib.hid (HO.out.kept hg (.inr hob))
      have HM2 := Lib.hid HM2
      have hlen := ownT_len L i d
      clear e1 e2 e3 e4 hg hkt
      cases b with
      | true =>
        have hno := ownT_no (L := L) (i := i) (d := d) (by rw [HFe.out]; exact Hmine.out)
        have HO3 := HO2
        rw [← hno] at HO3
        have hl : (ownT L i (d + 1)).length = (ownT L i d).length := by rw [hno]
        rw [← hl]
        clear hno hl hlen
        go_wp2
        go_roundw
        case rel => exact ⟨d + 1, pre ++ pre2, r2, a2, cc2, by omega, by go_num, HS2, HP2, HM2, HO3⟩
        case measure => simp [intOf]; omega
      | false =>
        have hyes := ownT_yes (L := L) (i := i) (d := d) (by rw [HFe.out]; exact Hmine.out)
        rw [HFe.out] at hyes
        obtain ⟨y2, c3, w6, hrun, hown, hgrow⟩ := push_int HO2.out (F + (d : Int)) (by omega) (Nat.le_of_lt (Array.getElem?_eq_some_iff.1 HM2.out.k1).1)
        rw [← hyes] at hown
        have hl2 : (ownT L i (d + 1)).length = (ownT L i d).length + 1 := by rw [hyes]; simp
        have hown : w6.ownsRow kb 3 1 (.slice y2 ((ownT L i d).length + 1) c3) (ownT L i (d + 1)).length (iRow (ownT L i (d + 1))) := hown
        have HM3 : Hid (OwM w w6 (some ⟨g1, o1, none⟩) c L kb lb a2 cc2 r2) := by
          have hM := HM2.out.keep ((Below.refl _ _).alloc (Nat.le_refl _) (.cells #[.int .i64 (F + (d : Int))] 3))
          refine Lib.hid (hM.grown hgrow HLK.out fun k e => ?_)
          have h1 := (HO2.out.lt k e).1
          by_cases h2 : k = kb
          · subst h2; exact absurd e hob
          · omega
        have Hown := Lib.hid hown
        have Hrun := Lib.hid hrun
        clear hown hrun hgrow hl2 hyes hlen HO2 HO
        generalize (ownT L i d).length = Q at Hrun Hown ⊢
        go_wp2_with (at_builtin; refine wpList_app_run rfl _ _ _ _ rfl rfl rfl Hrun.out ?_)
        go_roundw
        case rel => exact ⟨d + 1, pre ++ pre2, r2, a2, cc2, by omega, by go_num, HS2, HP2, HM3, Hown⟩
        case measure => simp [intOf]; omega
    · have hde : d = (T - F).toNat := by omega
      have hfin : ownT L i d = ownL L i := by unfold ownL; rw [HFe.out, HTe.out, hde]
      rw [hfin] at HO ⊢
      have B := Lib.hid HM.out.be
      have HK2 := Lib.hid HM.out.k2
      clear hfin hat
      go_wp2
      go_ret
      exact ⟨_, rfl, owns_le HO.out HK2.out, B.out⟩
end Go.Proofs.Ytklmiabgalanhaa
