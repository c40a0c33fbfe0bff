/- Contracts of slices.IndexFunc and DeleteFunc at tokens (semi.Of's closure): the lexemes that are no blanks and no comments. -/
import Derived.Test.YtnkgbmnjehpkgabGreatGV
import Derived.Laws.CopyRow
import Derived.Laws.CopyOwn
namespace Go.Proofs.YtnkgbmnjehpkgabGreat
open Go.RowKit Em
set_option maxRecDepth 100000
set_option linter.unusedVariables false

def silent (k : Nat) : Bool := decide (k = 10 ∨ k = 11 ∨ k = 12)
/-- What is left. -/
def kept (L : List Sc.Tk) : List Sc.Tk := L.filter fun t => !silent t.k
theorem kept_snoc_yes {L : List Sc.Tk} {x : Sc.Tk} (h : silent x.k = false) : kept (L ++ [x]) = kept L ++ [x] := by simp [kept, h]
theorem kept_snoc_no {L : List Sc.Tk} {x : Sc.Tk} (h : silent x.k = true) : kept (L ++ [x]) = kept L := by simp [kept, h]
theorem kept_all {L : List Sc.Tk} (h : ∀ i, i < L.length → silent (nthT L i).k = false) : kept L = L := by
  unfold kept
  rw [List.filter_eq_self]
  intro x hx
  obtain ⟨i, hi, rfl⟩ := List.getElem_of_mem hx
  have := h i hi
  have e : nthT L i = L[i] := by simp [nthT, hi]
  rw [e] at this
  rw [this]; rfl

/-- The closure that is handed on. -/
theorem del_any (k f t : Nat) (w : World) :
    Calls Tryz.prog 16 #[.agg #[.int .u8 k, .int .i64 f, .int .i64 t]] w fun e w' => e = .returned (.bool (silent k)) ∧ Below w.heap.size w w' := by
  have Hb := Lib.hid ((Below.refl w.heap.size w).alloc (Nat.le_refl _) (.cells #[.int .u8 k, .int .i64 f, .int .i64 t] 41))
  by_cases h1 : k = 10
  · subst h1
    rw [show silent 10 = true from rfl]
    go_enter Tryz.func16, Tryz.ntmps16
    go_wp2
    go_ret
    exact ⟨rfl, Hb.out⟩
  · have d1 : ((k : Int) == 10) = false := beq_eq_false_iff_ne.2 (by omega)
    by_cases h2 : k = 11
    · subst h2
      rw [show silent 11 = true from rfl]
      go_enter Tryz.func16, Tryz.ntmps16
      go_wp2
      go_ret
      exact ⟨rfl, Hb.out⟩
    · have d2 : ((k : Int) == 11) = false := beq_eq_false_iff_ne.2 (by omega)
      by_cases h3 : k = 12
      · subst h3
        rw [show silent 12 = true from rfl]
        go_enter Tryz.func16, Tryz.ntmps16
        go_wp2
        go_ret
        exact ⟨rfl, Hb.out⟩
      · have d3 : ((k : Int) == 12) = false := beq_eq_false_iff_ne.2 (by omega)
        rw [show silent k = false from decide_eq_false (by omega)]
        clear h1 h2 h3
        go_enter Tryz.func16, Tryz.ntmps16
        go_wp2
        go_ret
        exact ⟨rfl, Hb.out⟩

/-- The first that is silent. -/
def idxT (L : List Sc.Tk) : Int := match L.findIdx? fun t => silent t.k with | some i => (i : Int) | none => -1
theorem idx_some {L : List Sc.Tk} {i : Nat} (hi : i < L.length) (h : silent (nthT L i).k = true) (hb : ∀ j, j < i → silent (nthT L j).k = false) : idxT L = i := by
  have e : L.findIdx? (fun t => silent t.k) = some i := by
    rw [List.findIdx?_eq_some_iff_getElem]
    refine ⟨hi, ?_, fun j hj => ?_⟩
    · have e : nthT L i = L[i] := by simp [nthT, hi]
      rw [e] at h; exact h
    · have := hb j hj
      have e : nthT L j = L[j]'(by omega) := by simp [nthT, show j < L.length by omega]
      rw [e] at this
      simp [this]
  unfold idxT; rw [e]
theorem idx_none {L : List Sc.Tk} (hb : ∀ j, j < L.length → silent (nthT L j).k = false) : idxT L = -1 := by
  have e : L.findIdx? (fun t => silent t.k) = none := by
    rw [List.findIdx?_eq_none_iff]
    intro x hx
    obtain ⟨j, hj, rfl⟩ := List.getElem_of_mem hx
    have := hb j hj
    have e : nthT L j = L[j] := by simp [nthT, hj]
    rw [e] at this; exact this
  unfold idxT; rw [e]
theorem idx_cases (L : List Sc.Tk) : (idxT L = -1 ∧ ∀ j, j < L.length → silent (nthT L j).k = false) ∨ ∃ i, i < L.length ∧ idxT L = i ∧ silent (nthT L i).k = true ∧ ∀ j, j < i → silent (nthT L j).k = false := by
  cases hf : L.findIdx? (fun t => silent t.k) with
  | none =>
    refine .inl ⟨by unfold idxT; rw [hf], fun j hj => ?_⟩
    rw [List.findIdx?_eq_none_iff] at hf
    have e : nthT L j = L[j] := by simp [nthT, hj]
    rw [e]
    exact hf _ (List.getElem_mem _)
  | some i =>
    have h0 := hf
    rw [List.findIdx?_eq_some_iff_getElem] at hf
    obtain ⟨hi, h1, h2⟩ := hf
    refine .inr ⟨i, hi, by unfold idxT; rw [h0], ?_, fun j hj => ?_⟩
    · have e : nthT L i = L[i] := by simp [nthT, hi]
      rw [e]; exact h1
    · have e : nthT L j = L[j]'(by omega) := by simp [nthT, show j < L.length by omega]
      rw [e]
      simpa using h2 j hj

set_option maxHeartbeats 2000000 in
theorem index_tk (x : Option Addr) (c : Nat) (L : List Sc.Tk) (w : World) (hx : TkI w x L) (hl : L.length ≤ 4611686018427387904) :
    Calls Tryz.prog 26 #[.slice x L.length c, .func (.func 16) #[] #[]] w fun e w' => e = .returned (.int .i64 (idxT L)) ∧ Below w.heap.size w w' := by
  have Hx := Lib.hid hx
  clear hx
  go_enter Tryz.func26, Tryz.ntmps26
  go_wp2
  go_loopw [8] (fun i wr => ∃ k : Nat, k ≤ L.length ∧ i = .int .i64 k ∧ Hid (∀ j, j < k → silent (nthT L j).k = false) ∧ Below w.heap.size w wr) (fun i _ => L.length - (intOf i).toNat)
  case atStart => exact ⟨0, by omega, rfl, Lib.hid fun j h => by omega, Below.refl _ _⟩
  case round =>
    obtain ⟨k, hk, rfl, Hno, hb⟩ := hrel
    by_cases hlt : k < L.length
    · obtain ⟨g, rfl, hg, d0, d1, d2⟩ := (Hx.out.keep hb).cells hlt
      have Hb := Lib.hid hb
      have b0 : (0 : Int) ≤ (k : Int) := by omega
      have b1 : (k : Int) < (L.length : Int) := by omega
      have hfin : silent (nthT L k).k = true → idxT L = k := fun h => idx_some hlt h Hno.out
      have hnew : silent (nthT L k).k = false → ∀ j, j < k + 1 → silent (nthT L j).k = false := fun h j hj => by
        by_cases e : j = k
        · subst e; exact h
        · exact Hno.out j (by omega)
      have Hfin := Lib.hid hfin
      have Hnew := Lib.hid hnew
      clear hb hfin hnew
      generalize (nthT L k).f = F at d1
      generalize (nthT L k).t = U at d2
      generalize (nthT L k).k = K at d0 Hfin Hnew
      have hd := fun w => del_any K F U w
      cases hs : silent K with
      | true =>
        rw [hs] at hd
        have Hd := Lib.hid hd
        have Hf := Lib.hid (Hfin.out hs)
        clear hd hs
        go_wp2_with fail
        refine (Hd.out _).mono ?_
        rintro e w2 ⟨rfl, hb2⟩
        go_wp2
        go_ret
        exact ⟨ret_int Hf.out.symm, Hb.out.trans (hb2.mono Hb.out.size)⟩
      | false =>
        rw [hs] at hd
        have Hd := Lib.hid hd
        have Hn := Lib.hid (Hnew.out hs)
        clear hd hs
        go_wp2_with fail
        refine (Hd.out _).mono ?_
        rintro e w2 ⟨rfl, hb2⟩
        go_wp2
        go_roundw
        case rel => exact ⟨k + 1, by omega, by go_num, Hn, Hb.out.trans (hb2.mono Hb.out.size)⟩
        case measure => simp [intOf]; omega
    · have hfin : idxT L = -1 := idx_none (fun j hj => Hno.out j (by omega))
      have Hfin := Lib.hid hfin
      have b1 : ¬ (k : Int) < (L.length : Int) := by omega
      clear hfin
      go_wp2
      go_ret
      exact ⟨ret_int Hfin.out.symm, hb⟩

/-! ### A row of tokens that is written -/
theorem tCells_set : ∀ (L : List Sc.Tk) (i : Nat) (x : Sc.Tk), i < L.length → tCells (L.set i x) = (((tCells L).set (i * 3) (.int .u8 x.k)).set (i * 3 + 1) (.int .i64 x.f)).set (i * 3 + 2) (.int .i64 x.t)
  | [], i, x, h => by simp at h
  | e :: l, 0, x, _ => rfl
  | e :: l, i + 1, x, h => by
    have ih := tCells_set l i x (by simpa using h)
    have h1 : tCells ((e :: l).set (i + 1) x) = Value.int .u8 (e.k : Nat) :: .int .i64 (e.f : Nat) :: .int .i64 (e.t : Nat) :: tCells (l.set i x) := rfl
    have h2 : tCells (e :: l) = Value.int .u8 (e.k : Nat) :: .int .i64 (e.f : Nat) :: .int .i64 (e.t : Nat) :: tCells l := rfl
    rw [h1, h2, ih, show (i + 1) * 3 = i * 3 + 1 + 1 + 1 by omega]
    rfl

def RowT (w : World) (g cap : Nat) (L : List Sc.Tk) : Prop := ∃ cur, w.heap[g]? = some (.cells cur 41 (0, 0)) ∧ cur.size = cap * 3 ∧ cur.toList.take (L.length * 3) = tCells L
theorem RowT.tk {w : World} {g cap : Nat} {L : List Sc.Tk} (h : RowT w g cap L) : TkI w (some ⟨g, 0, none⟩) L := by
  obtain ⟨cur, h1, h2, h3⟩ := h
  intro _
  refine ⟨g, rfl, (Array.getElem?_eq_some_iff.1 h1).1, fun i hi => ?_⟩
  obtain ⟨a, b, c⟩ := tCells_at L i hi
  rw [← h3] at a b c
  have key : ∀ j v, j < L.length * 3 → (cur.toList.take (L.length * 3))[j]? = some v → w.cell? ⟨g, j, none⟩ = some v := fun j v hj hv => by
    rw [cell_of_row w g j _ _ _ h1]
    rw [List.getElem?_take_of_lt hj] at hv
    simpa using hv
  exact ⟨key _ _ (by omega) a, key _ _ (by omega) b, key _ _ (by omega) c⟩
theorem RowT.lt {w : World} {g cap : Nat} {L : List Sc.Tk} (h : RowT w g cap L) : g < w.heap.size := by
  obtain ⟨cur, h1, _⟩ := h
  exact (Array.getElem?_eq_some_iff.1 h1).1
theorem RowT.free {w : World} {g cap : Nat} {L : List Sc.Tk} (h : RowT w g cap L) (i : Nat) : w.frozen? ⟨g, i, none⟩ = false := by
  obtain ⟨cur, h1, _⟩ := h
  exact frozen_of_row w g i _ _ h1
theorem RowT.keep {w w' : World} {g cap : Nat} {L : List Sc.Tk} (h : RowT w g cap L) (hb : Below w.heap.size w w') : RowT w' g cap L := by
  obtain ⟨cur, h1, h2, h3⟩ := h
  exact ⟨cur, (hb.block g (Array.getElem?_eq_some_iff.1 h1).1).trans h1, h2, h3⟩
theorem RowT.set {w : World} {g cap : Nat} {L : List Sc.Tk} (h : RowT w g cap L) {i : Nat} (hi : i < L.length) (x : Sc.Tk) :
    RowT (((w.setCell ⟨g, i * 3, none⟩ (.int .u8 x.k)).setCell ⟨g, i * 3 + 1, none⟩ (.int .i64 x.f)).setCell ⟨g, i * 3 + 2, none⟩ (.int .i64 x.t)) g cap (L.set i x) := by
  obtain ⟨cur, h1, h2, h3⟩ := h
  have a1 := heap_setCell_same w g (i * 3) _ _ (.int .u8 x.k) h1
  have a2 := heap_setCell_same _ g (i * 3 + 1) _ _ (.int .i64 x.f) a1
  have a3 := heap_setCell_same _ g (i * 3 + 2) _ _ (.int .i64 x.t) a2
  refine ⟨_, a3, by simpa using h2, ?_⟩
  rw [List.length_set, tCells_set L i x hi, ← h3]
  simp only [Array.toList_setIfInBounds, List.take_set]

theorem below_set3 {B g : Nat} {w w' : World} (h : Below B w w') (hg : B ≤ g) (i j k : Nat) (a b c : Value) : Below B w (((w'.setCell ⟨g, i, none⟩ a).setCell ⟨g, j, none⟩ b).setCell ⟨g, k, none⟩ c) :=
  ((h.setCell (p := ⟨g, i, none⟩) hg a).setCell (p := ⟨g, j, none⟩) hg b).setCell (p := ⟨g, k, none⟩) hg c

theorem take_nth {L : List Sc.Tk} {j : Nat} (h : j < L.length) : L.take (j + 1) = L.take j ++ [nthT L j] := by
  rw [List.take_succ_eq_append_getElem h]; simp [nthT, h]

/-- What the loop has done up to a place. -/
def DelI (L R : List Sc.Tk) (i j : Nat) : Prop := R.length = L.length ∧ i < j ∧ j ≤ L.length ∧ R.take i = kept (L.take j) ∧ R.drop j = L.drop j
theorem del_start {L : List Sc.Tk} {i : Nat} (hi : i < L.length) (h : silent (nthT L i).k = true) (hb : ∀ j, j < i → silent (nthT L j).k = false) : DelI L L i (i + 1) := by
  refine ⟨rfl, by omega, by omega, ?_, rfl⟩
  rw [take_nth hi, kept_snoc_no h]
  symm
  refine kept_all fun j hj => ?_
  rw [List.length_take] at hj
  have e : nthT (L.take i) j = nthT L j := by
    unfold nthT
    rw [List.getD_eq_getElem?_getD, List.getD_eq_getElem?_getD, List.getElem?_take_of_lt (by omega)]
  rw [e]; exact hb j (by omega)
theorem del_nth {L R : List Sc.Tk} {i j : Nat} (h : DelI L R i j) (hj : j < L.length) : nthT R j = nthT L j := by
  have := congrArg (fun l => l[0]?) h.2.2.2.2
  simp only [List.getElem?_drop, Nat.add_zero] at this
  unfold nthT
  rw [List.getD_eq_getElem?_getD, List.getD_eq_getElem?_getD, this]
theorem del_keep {L R : List Sc.Tk} {i j : Nat} (h : DelI L R i j) (hj : j < L.length) (hk : silent (nthT L j).k = false) : DelI L (R.set i (nthT L j)) (i + 1) (j + 1) := by
  obtain ⟨h1, h2, h3, h4, h5⟩ := h
  refine ⟨by rw [List.length_set]; exact h1, by omega, by omega, ?_, ?_⟩
  · have hi : i < (R.set i (nthT L j)).length := by rw [List.length_set]; omega
    rw [List.take_succ_eq_append_getElem hi, take_nth hj, kept_snoc_yes hk, ← h4]
    congr 1
    · rw [List.take_set_of_le (Nat.le_refl _)]
    · simp
  · rw [List.drop_set_of_lt (by omega)]
    have e1 : R.drop (j + 1) = (R.drop j).drop 1 := by rw [List.drop_drop]
    have e2 : L.drop (j + 1) = (L.drop j).drop 1 := by rw [List.drop_drop]
    rw [e1, e2, h5]
theorem del_skip {L R : List Sc.Tk} {i j : Nat} (h : DelI L R i j) (hj : j < L.length) (hk : silent (nthT L j).k = true) : DelI L R i (j + 1) := by
  obtain ⟨h1, h2, h3, h4, h5⟩ := h
  refine ⟨h1, by omega, by omega, by rw [take_nth hj, kept_snoc_no hk]; exact h4, ?_⟩
  have e1 : R.drop (j + 1) = (R.drop j).drop 1 := by rw [List.drop_drop]
  have e2 : L.drop (j + 1) = (L.drop j).drop 1 := by rw [List.drop_drop]
  rw [e1, e2, h5]
theorem del_done {L R : List Sc.Tk} {i : Nat} (h : DelI L R i L.length) : R.take i = kept L ∧ (kept L).length = i := by
  obtain ⟨h1, h2, h3, h4, h5⟩ := h
  rw [List.take_length] at h4
  refine ⟨h4, ?_⟩
  rw [← h4, List.length_take]; omega
end Go.Proofs.YtnkgbmnjehpkgabGreat

/- Contract of slices.DeleteFunc at tokens, with semi.Of's closure. -/
namespace Go.Proofs.YtnkgbmnjehpkgabGreat
open Go.RowKit Em
set_option maxRecDepth 100000
set_option linter.unusedVariables false

theorem zero_tok : ∀ w, (zeroValue 41).run Tryz.prog w = .ok (.agg #[.int .u8 0, .int .i64 0, .int .i64 0]) w := by
  intro w
  cases hq : Tryz.prog.info? 41 with
  | none => have := info_tok; rw [hq] at this; cases this
  | some i =>
    have h := info_tok
    rw [hq] at h
    simp at h
    simp [zeroValue, typeInfo, hq, h.1]

theorem run_clear_tok (w : World) (ty : TypeId) (g o m c : Nat) (cur : Array Value) (hm : 0 < m) (hg : w.heap[g]? = some (.cells cur 41 (0, 0))) (hl : o + m * 3 ≤ cur.size) :
    ∃ zs : List Value, zs.length = m * 3 ∧ (Builtin.clear_ #[23] ty #[.slice (some ⟨g, o, none⟩) m c]).run Tryz.prog w = .ok (.tuple #[]) (w.setRow g (cur.toList.take o ++ zs ++ cur.toList.drop (o + m * 3)).toArray) := by
  refine ⟨(Builtin.zeroCells (Value.agg #[.int .u8 0, .int .i64 0, .int .i64 0]).cells m).toList, by simp [Builtin.zeroCells, Value.cells], ?_⟩
  have hlen : (Builtin.zeroCells (Value.agg #[.int .u8 0, .int .i64 0, .int .i64 0]).cells m).toList.length = m * 3 := by simp [Builtin.zeroCells, Value.cells]
  have h1 : ∀ v ∈ (Builtin.zeroCells (Value.agg #[.int .u8 0, .int .i64 0, .int .i64 0]).cells m).toList, v.oneCell' = true := by
    intro v hv
    simp only [Builtin.zeroCells, Value.cells, Array.toList_map, List.mem_map] at hv
    obtain ⟨i, _, rfl⟩ := hv
    have : i % 3 = 0 ∨ i % 3 = 1 ∨ i % 3 = 2 := by omega
    rcases this with h | h | h <;> simp [h, Value.oneCell']
  have hst := run_storeCells_at (P := Tryz.prog) g o 41 _ 0 cur w hg (by rw [hlen]; omega) h1
  rw [hlen, Nat.add_zero] at hst
  obtain ⟨k, rfl⟩ : ∃ k, m = k + 1 := ⟨m - 1, by omega⟩
  simp [Builtin.clear_, run_underlying Tryz.underlying23, hst]

set_option maxHeartbeats 4000000 in
theorem delete_tk (v : Value) (L : List Sc.Tk) (B : Nat) (w : World) (hown : w.ownsRow B 41 3 v L.length (tCells L)) (hB : B ≤ w.heap.size) (hl : L.length ≤ 65536) :
    Calls Tryz.prog 15 #[v, .func (.func 16) #[] #[]] w fun e w' => ∃ v', e = .returned v' ∧ w'.ownsRow B 41 3 v' (kept L).length (tCells (kept L)) ∧ ∀ B0, B0 ≤ B → Below B0 w w' := by
  rcases idx_cases L with ⟨h1, h2⟩ | ⟨i0, hi0, h1, h2, h3⟩
  · rw [kept_all h2]
    obtain ⟨x, c, rfl, hT, _⟩ := tkI_of_owns hown
    have HI := Lib.hid (fun w hT => index_tk x c L w hT (by omega))
    rw [h1] at HI
    have HT := Lib.hid hT
    have Hown := Lib.hid hown
    clear h1 h2 hT hown
    go_enter Tryz.func15, Tryz.ntmps15
    go_wp2_with fail
    refine (HI.out _ HT.out).mono ?_
    rintro e w1 ⟨rfl, hb1⟩
    go_wp2
    go_ret
    exact ⟨_, rfl, own_below Hown.out hb1, fun B0 h0 => hb1.mono (Nat.le_trans h0 hB)⟩
  · rcases hown.2 with ⟨_, h0⟩ | ⟨g, cap, cur, rfl, hbg, hg, hn, hcm, hs, ht⟩
    · omega
    have hR : RowT w g cap L := ⟨cur, hg, hs, ht⟩
    have HI := Lib.hid (fun w hT => index_tk (some ⟨g, 0, none⟩) cap L w hT (by omega))
    rw [h1] at HI
    have HR := Lib.hid hR
    have HD := Lib.hid (del_start hi0 h2 h3)
    have d1 : ((i0 : Int) == -1) = false := beq_eq_false_iff_ne.2 (by omega)
    clear h1 h2 h3 hR hown hg hs ht
    go_enter Tryz.func15, Tryz.ntmps15
    go_wp2_with fail
    refine (HI.out _ HR.out.tk).mono ?_
    rintro e w1 ⟨rfl, hb1⟩
    have HR1 := Lib.hid (HR.out.keep hb1)
    have HB1 : Hid (∀ B0, B0 ≤ B → Below B0 w w1) := Lib.hid fun B0 h0 => hb1.mono (Nat.le_trans h0 hB)
    clear hb1
    go_wp2
    go_loopw [5, 6] (fun a b wr => ∃ (i j : Nat) (R : List Sc.Tk), a = .int .i64 i ∧ b = .int .i64 j ∧ Hid (DelI L R i j) ∧ Hid (RowT wr g cap R) ∧ Hid (∀ B0, B0 ≤ B → Below B0 w wr)) (fun _ b _ => L.length - (intOf b).toNat)
    case atStart => exact ⟨i0, i0 + 1, L, rfl, by go_num, HD, HR1, HB1⟩
    case round =>
      obtain ⟨i, j, R, rfl, rfl, HDI, HRT, HBB⟩ := hrel
      have hRl := HDI.out.1
      have hij := HDI.out.2.1
      have hjn := HDI.out.2.2.1
      have hgl := HRT.out.lt
      by_cases hlt : j < L.length
      · obtain ⟨g', hx, _, e0, e1, e2⟩ := HRT.out.tk.cells (i := j) (by omega)
        obtain ⟨g'', hx', _, o0, o1, o2⟩ := HRT.out.tk.cells (i := i) (by omega)
        have hgg : g = g' := by
          have := Option.some.inj hx
          injection this
        have hgg' : g = g'' := by
          have := Option.some.inj hx'
          injection this
        subst hgg
        subst hgg'
        clear hx hx'
        rw [del_nth HDI.out hlt] at e0 e1 e2
        have b0 : (0 : Int) ≤ (j : Int) := by omega
        have b1 : (j : Int) < (L.length : Int) := by omega
        have b2 : (0 : Int) ≤ (i : Int) := by omega
        have b3 : (i : Int) < (L.length : Int) := by omega
        have f0 := HRT.out.free (i * 3)
        have f1 := HRT.out.free (i * 3 + 1)
        have f2 := HRT.out.free (i * 3 + 2)
        have Hkeep := Lib.hid (del_keep HDI.out hlt)
        have Hskip := Lib.hid (del_skip HDI.out hlt)
        have Hset := Lib.hid (fun wr hR => @RowT.set wr g cap R hR i (by omega) (nthT L j))
        generalize nthT L j = X at e0 e1 e2 Hkeep Hskip Hset
        obtain ⟨K, F, U⟩ := X
        dsimp only at e0 e1 e2 Hkeep Hskip Hset
        have hd := fun w => del_any K F U w
        have hal := (Below.refl wr.heap.size wr).alloc (Nat.le_refl _) (.cells #[.int .u8 K, .int .i64 F, .int .i64 U] 41)
        have Hal := Lib.hid hal
        have hgl1 : g < wr.heap.size := hgl
        cases hs : silent K with
        | true =>
          rw [hs] at hd
          have Hd := Lib.hid hd
          have Hn := Lib.hid (Hskip.out hs)
          clear hd hs o0 o1 o2 f0 f1 f2 hal
          go_wp2_with fail
          refine (Hd.out _).mono ?_
          rintro e w2 ⟨rfl, hb2⟩
          have hb3 := Hal.out.trans (hb2.mono Hal.out.size)
          have HR2 := Lib.hid (HRT.out.keep hb3)
          have HB2 : Hid (∀ B0, B0 ≤ B → Below B0 w w2) := Lib.hid fun B0 h0 => (HBB.out B0 h0).trans (hb3.mono (Nat.le_trans h0 (Nat.le_trans hB (HBB.out 0 (Nat.zero_le _)).size)))
          clear hb2 hb3
          go_wp2
          go_roundw
          case rel => exact ⟨i, j + 1, R, rfl, by go_num, Hn, HR2, HB2⟩
          case measure => simp [intOf]; omega
        | false =>
          rw [hs] at hd
          have Hd := Lib.hid hd
          have Hn := Lib.hid (Hkeep.out hs)
          clear hd hs hal
          go_wp2_with fail
          refine (Hd.out _).mono ?_
          rintro e w2 ⟨rfl, hb2⟩
          have hb3 := Hal.out.trans (hb2.mono Hal.out.size)
          have HR2 := Lib.hid (HRT.out.keep hb3)
          have HB2 : Hid (∀ B0, B0 ≤ B → Below B0 w w2) := Lib.hid fun B0 h0 => (HBB.out B0 h0).trans (hb3.mono (Nat.le_trans h0 (Nat.le_trans hB (HBB.out 0 (Nat.zero_le _)).size)))
          have HT2 : Hid (TBox w2 wr.heap.size K F U) := Lib.hid ((hb2.block _ (by simp)).trans (heap_alloc_new wr _))
          have x0 := HT2.out.c0
          have x1 := HT2.out.c1
          have x2 := HT2.out.c2
          obtain ⟨gg, hx, _, p0, p1, p2⟩ := HR2.out.tk.cells (i := i) (by omega)
          have hgg : g = gg := by
            have := Option.some.inj hx
            injection this
          subst hgg
          have g0 := HR2.out.free (i * 3)
          have g1 := HR2.out.free (i * 3 + 1)
          have g2 := HR2.out.free (i * 3 + 2)
          have HR3 := Lib.hid (Hset.out w2 HR2.out)
          have HB3 : Hid (∀ B0, B0 ≤ B → Below B0 w _) := Lib.hid fun B0 h0 => below_set3 (HB2.out B0 h0) (g := g) (by omega) (i * 3) (i * 3 + 1) (i * 3 + 2) (.int .u8 K) (.int .i64 F) (.int .i64 U)
          clear hb2 hb3 o0 o1 o2 f0 f1 f2 hx
          generalize (nthT R i).k = a0 at p0
          generalize (nthT R i).f = a1 at p1
          generalize (nthT R i).t = a2 at p2
          go_wp2
          go_roundw
          case rel => exact ⟨i + 1, j + 1, _, by go_num, by go_num, Hn, HR3, HB3⟩
          case measure => simp [intOf]; omega
      · have hj : j = L.length := by omega
        rw [hj] at HDI
        obtain ⟨hk1, hk2⟩ := del_done HDI.out
        obtain ⟨cu, hh, hcs, hct⟩ := HRT.out
        obtain ⟨zs, hz, hcl⟩ := run_clear_tok wr 0 g (i * 3) (L.length - i) (cap - i) cu (by omega) hh (by rw [hcs]; omega)
        have hfin : (wr.setRow g (cu.toList.take (i * 3) ++ (zs ++ cu.toList.drop (i * 3 + (L.length - i) * 3))).toArray).ownsRow B 41 3 (.slice (some ⟨g, 0, none⟩) i cap) (kept L).length (tCells (kept L)) := by
          refine ⟨tCells_len _, .inr ⟨g, cap, _, by rw [hk2], hbg, setRow_heap wr g cu _ _ _ hh, by omega, hcm, ?_, ?_⟩⟩
          · simp [hcs, hz]; omega
          · rw [hk2, ← hk1]
            have e1 : (cu.toList.take (i * 3)).length = i * 3 := by rw [List.length_take]; simp [hcs]; omega
            show List.take (i * 3) (cu.toList.take (i * 3) ++ (zs ++ cu.toList.drop (i * 3 + (L.length - i) * 3))) = _
            rw [List.take_left' e1]
            have e2 : tCells (R.take i) = (tCells R).take (i * 3) := by
              have : ∀ (R : List Sc.Tk) i, tCells (R.take i) = (tCells R).take (i * 3) := by
                intro R
                induction R with
                | nil => intro i; simp [tCells]
                | cons e l ih =>
                  intro i
                  cases i with
                  | zero => simp [tCells]
                  | succ i =>
                    have h1 : tCells ((e :: l).take (i + 1)) = Value.int .u8 (e.k : Nat) :: .int .i64 (e.f : Nat) :: .int .i64 (e.t : Nat) :: tCells (l.take i) := rfl
                    have h2 : tCells (e :: l) = Value.int .u8 (e.k : Nat) :: .int .i64 (e.f : Nat) :: .int .i64 (e.t : Nat) :: tCells l := rfl
                    rw [h1, h2, ih, show (i + 1) * 3 = i * 3 + 1 + 1 + 1 by omega]
                    rfl
              exact this R i
            rw [e2, ← hct, List.take_take, Nat.min_eq_left (by omega)]
        have Hfin := Lib.hid hfin
        have HBf : Hid (∀ B0, B0 ≤ B → Below B0 w (wr.setRow g (cu.toList.take (i * 3) ++ (zs ++ cu.toList.drop (i * 3 + (L.length - i) * 3))).toArray)) := Lib.hid fun B0 h0 => below_setRow (HBB.out B0 h0) (Nat.le_trans h0 hbg) _
        have b1 : ¬ (j : Int) < (L.length : Int) := by omega
        have b2 : (0 : Int) ≤ (i : Int) := by omega
        have b3 : (i : Int) ≤ (L.length : Int) := by omega
        have b4 : (i : Int) ≤ (cap : Int) := by omega
        clear hfin hh hcs hct hz hk1 hk2
        go_wp2
        go_ret
        exact ⟨_, rfl, Hfin.out, HBf.out⟩
end Go.Proofs.YtnkgbmnjehpkgabGreat

/- Contracts of semi.Ends and of the reference's Ends: may a token end a line? -/
namespace Go.Proofs.YtnkgbmnjehpkgabGreat
open Go.RowKit Em
set_option maxRecDepth 100000
set_option linter.unusedVariables false

def endW : List (List UInt8) := [[98, 114, 101, 97, 107], [99, 111, 110, 116, 105, 110, 117, 101], [102, 97, 108, 108, 116, 104, 114, 111, 117, 103, 104], [114, 101, 116, 117, 114, 110]]
def endS : List (List UInt8) := [[43, 43], [45, 45], [41], [93], [125]]
/-- May a token end a line? -/
def endB (k : Nat) (x : List UInt8) : Bool := decide (k = 1 ∨ (3 ≤ k ∧ k ≤ 7)) || (decide (k = 2) && endW.any fun v => x == v) || (decide (k = 8) && endS.any fun v => x == v)

theorem endB_lit {k : Nat} (h : k = 1 ∨ (3 ≤ k ∧ k ≤ 7)) (x : List UInt8) : endB k x = true := by unfold endB; rw [decide_eq_true h]; rfl
theorem endB_word (x : List UInt8) : endB 2 x = endW.any fun v => x == v := by
  show (false || (true && endW.any fun v => x == v) || (false && _)) = _
  simp
theorem endB_op (x : List UInt8) : endB 8 x = endS.any fun v => x == v := by
  show (false || (false && _) || (true && endS.any fun v => x == v)) = _
  simp
theorem endB_no {k : Nat} (h : ¬ (k = 1 ∨ (3 ≤ k ∧ k ≤ 7))) (h2 : k ≠ 2) (h8 : k ≠ 8) (x : List UInt8) : endB k x = false := by
  unfold endB; rw [decide_eq_false h, decide_eq_false h2, decide_eq_false h8]; rfl

theorem ends_word_no (x : ByteArray) (w : World) (h : (endW.any fun v => bl x == v) = false) :
    Calls Tryz.prog 19 #[.int .u8 2, .string x] w fun e w' => e = .returned (.bool false) ∧ w = w' := by
  have h0 := List.any_eq_false.1 h
  clear h
  have e0 : (x.toList == [98, 114, 101, 97, 107]) = false := by rw [Lib.toList_data]; exact Bool.eq_false_iff.mpr (h0 [98, 114, 101, 97, 107] (by simp [endW]))
  have e1 : (x.toList == [99, 111, 110, 116, 105, 110, 117, 101]) = false := by rw [Lib.toList_data]; exact Bool.eq_false_iff.mpr (h0 [99, 111, 110, 116, 105, 110, 117, 101] (by simp [endW]))
  have e2 : (x.toList == [102, 97, 108, 108, 116, 104, 114, 111, 117, 103, 104]) = false := by rw [Lib.toList_data]; exact Bool.eq_false_iff.mpr (h0 [102, 97, 108, 108, 116, 104, 114, 111, 117, 103, 104] (by simp [endW]))
  have e3 : (x.toList == [114, 101, 116, 117, 114, 110]) = false := by rw [Lib.toList_data]; exact Bool.eq_false_iff.mpr (h0 [114, 101, 116, 117, 114, 110] (by simp [endW]))
  clear h0
  go_enter Tryz.func19, Tryz.ntmps19
  go_wp2
  go_ret
  exact ⟨rfl, rfl⟩
theorem ends_word_0 (w : World) : Calls Tryz.prog 19 #[.int .u8 2, .string ⟨#[98, 114, 101, 97, 107]⟩] w fun e w' => e = .returned (.bool true) ∧ w = w' := by
  go_enter Tryz.func19, Tryz.ntmps19
  go_wp2
  go_ret
  exact ⟨rfl, rfl⟩
theorem ends_word_1 (w : World) : Calls Tryz.prog 19 #[.int .u8 2, .string ⟨#[99, 111, 110, 116, 105, 110, 117, 101]⟩] w fun e w' => e = .returned (.bool true) ∧ w = w' := by
  go_enter Tryz.func19, Tryz.ntmps19
  go_wp2
  go_ret
  exact ⟨rfl, rfl⟩
theorem ends_word_2 (w : World) : Calls Tryz.prog 19 #[.int .u8 2, .string ⟨#[102, 97, 108, 108, 116, 104, 114, 111, 117, 103, 104]⟩] w fun e w' => e = .returned (.bool true) ∧ w = w' := by
  go_enter Tryz.func19, Tryz.ntmps19
  go_wp2
  go_ret
  exact ⟨rfl, rfl⟩
theorem ends_word_3 (w : World) : Calls Tryz.prog 19 #[.int .u8 2, .string ⟨#[114, 101, 116, 117, 114, 110]⟩] w fun e w' => e = .returned (.bool true) ∧ w = w' := by
  go_enter Tryz.func19, Tryz.ntmps19
  go_wp2
  go_ret
  exact ⟨rfl, rfl⟩
theorem ends_word (x : ByteArray) (w : World) :
    Calls Tryz.prog 19 #[.int .u8 2, .string x] w fun e w' => e = .returned (.bool (endW.any fun v => bl x == v)) ∧ w = w' := by
  cases h : (endW.any fun v => bl x == v) with
  | false => exact ends_word_no x w h
  | true =>
    obtain ⟨v, hv, he⟩ := List.any_eq_true.1 h
    rw [beq_iff_eq] at he
    have hs : x = txt v := bl_inj (by rw [txt_bl]; exact he)
    subst hs
    clear he h
    simp only [endW, List.mem_cons, List.not_mem_nil, or_false] at hv
    rcases hv with rfl | rfl | rfl | rfl
    · exact ends_word_0 w
    · exact ends_word_1 w
    · exact ends_word_2 w
    · exact ends_word_3 w

theorem ends_op_no (x : ByteArray) (w : World) (h : (endS.any fun v => bl x == v) = false) :
    Calls Tryz.prog 19 #[.int .u8 8, .string x] w fun e w' => e = .returned (.bool false) ∧ w = w' := by
  have h0 := List.any_eq_false.1 h
  clear h
  have e0 : (x.toList == [43, 43]) = false := by rw [Lib.toList_data]; exact Bool.eq_false_iff.mpr (h0 [43, 43] (by simp [endS]))
  have e1 : (x.toList == [45, 45]) = false := by rw [Lib.toList_data]; exact Bool.eq_false_iff.mpr (h0 [45, 45] (by simp [endS]))
  have e2 : (x.toList == [41]) = false := by rw [Lib.toList_data]; exact Bool.eq_false_iff.mpr (h0 [41] (by simp [endS]))
  have e3 : (x.toList == [93]) = false := by rw [Lib.toList_data]; exact Bool.eq_false_iff.mpr (h0 [93] (by simp [endS]))
  have e4 : (x.toList == [125]) = false := by rw [Lib.toList_data]; exact Bool.eq_false_iff.mpr (h0 [125] (by simp [endS]))
  clear h0
  go_enter Tryz.func19, Tryz.ntmps19
  go_wp2
  go_ret
  exact ⟨rfl, rfl⟩
theorem ends_op_0 (w : World) : Calls Tryz.prog 19 #[.int .u8 8, .string ⟨#[43, 43]⟩] w fun e w' => e = .returned (.bool true) ∧ w = w' := by
  go_enter Tryz.func19, Tryz.ntmps19
  go_wp2
  go_ret
  exact ⟨rfl, rfl⟩
theorem ends_op_1 (w : World) : Calls Tryz.prog 19 #[.int .u8 8, .string ⟨#[45, 45]⟩] w fun e w' => e = .returned (.bool true) ∧ w = w' := by
  go_enter Tryz.func19, Tryz.ntmps19
  go_wp2
  go_ret
  exact ⟨rfl, rfl⟩
theorem ends_op_2 (w : World) : Calls Tryz.prog 19 #[.int .u8 8, .string ⟨#[41]⟩] w fun e w' => e = .returned (.bool true) ∧ w = w' := by
  go_enter Tryz.func19, Tryz.ntmps19
  go_wp2
  go_ret
  exact ⟨rfl, rfl⟩
theorem ends_op_3 (w : World) : Calls Tryz.prog 19 #[.int .u8 8, .string ⟨#[93]⟩] w fun e w' => e = .returned (.bool true) ∧ w = w' := by
  go_enter Tryz.func19, Tryz.ntmps19
  go_wp2
  go_ret
  exact ⟨rfl, rfl⟩
theorem ends_op_4 (w : World) : Calls Tryz.prog 19 #[.int .u8 8, .string ⟨#[125]⟩] w fun e w' => e = .returned (.bool true) ∧ w = w' := by
  go_enter Tryz.func19, Tryz.ntmps19
  go_wp2
  go_ret
  exact ⟨rfl, rfl⟩
theorem ends_op (x : ByteArray) (w : World) :
    Calls Tryz.prog 19 #[.int .u8 8, .string x] w fun e w' => e = .returned (.bool (endS.any fun v => bl x == v)) ∧ w = w' := by
  cases h : (endS.any fun v => bl x == v) with
  | false => exact ends_op_no x w h
  | true =>
    obtain ⟨v, hv, he⟩ := List.any_eq_true.1 h
    rw [beq_iff_eq] at he
    have hs : x = txt v := bl_inj (by rw [txt_bl]; exact he)
    subst hs
    clear he h
    simp only [endS, List.mem_cons, List.not_mem_nil, or_false] at hv
    rcases hv with rfl | rfl | rfl | rfl | rfl
    · exact ends_op_0 w
    · exact ends_op_1 w
    · exact ends_op_2 w
    · exact ends_op_3 w
    · exact ends_op_4 w

theorem ends_lit1 (x : ByteArray) (w : World) : Calls Tryz.prog 19 #[.int .u8 1, .string x] w fun e w' => e = .returned (.bool true) ∧ w = w' := by
  go_enter Tryz.func19, Tryz.ntmps19
  go_wp2
  go_ret
  exact ⟨rfl, rfl⟩
theorem ends_lit3 (x : ByteArray) (w : World) : Calls Tryz.prog 19 #[.int .u8 3, .string x] w fun e w' => e = .returned (.bool true) ∧ w = w' := by
  go_enter Tryz.func19, Tryz.ntmps19
  go_wp2
  go_ret
  exact ⟨rfl, rfl⟩
theorem ends_lit4 (x : ByteArray) (w : World) : Calls Tryz.prog 19 #[.int .u8 4, .string x] w fun e w' => e = .returned (.bool true) ∧ w = w' := by
  go_enter Tryz.func19, Tryz.ntmps19
  go_wp2
  go_ret
  exact ⟨rfl, rfl⟩
theorem ends_lit5 (x : ByteArray) (w : World) : Calls Tryz.prog 19 #[.int .u8 5, .string x] w fun e w' => e = .returned (.bool true) ∧ w = w' := by
  go_enter Tryz.func19, Tryz.ntmps19
  go_wp2
  go_ret
  exact ⟨rfl, rfl⟩
theorem ends_lit6 (x : ByteArray) (w : World) : Calls Tryz.prog 19 #[.int .u8 6, .string x] w fun e w' => e = .returned (.bool true) ∧ w = w' := by
  go_enter Tryz.func19, Tryz.ntmps19
  go_wp2
  go_ret
  exact ⟨rfl, rfl⟩
theorem ends_lit7 (x : ByteArray) (w : World) : Calls Tryz.prog 19 #[.int .u8 7, .string x] w fun e w' => e = .returned (.bool true) ∧ w = w' := by
  go_enter Tryz.func19, Tryz.ntmps19
  go_wp2
  go_ret
  exact ⟨rfl, rfl⟩

theorem ends_any (k : Nat) (x : ByteArray) (w : World) :
    Calls Tryz.prog 19 #[.int .u8 (k : Int), .string x] w fun e w' => e = .returned (.bool (endB k (bl x))) ∧ w = w' := by
  by_cases h2 : k = 2
  · subst h2; rw [endB_word]; exact ends_word x w
  by_cases h8 : k = 8
  · subst h8; rw [endB_op]; exact ends_op x w
  by_cases h1 : k = 1 ∨ (3 ≤ k ∧ k ≤ 7)
  · rw [endB_lit h1]
    have : k = 1 ∨ k = 3 ∨ k = 4 ∨ k = 5 ∨ k = 6 ∨ k = 7 := by omega
    rcases this with rfl | rfl | rfl | rfl | rfl | rfl
    · exact ends_lit1 x w
    · exact ends_lit3 x w
    · exact ends_lit4 x w
    · exact ends_lit5 x w
    · exact ends_lit6 x w
    · exact ends_lit7 x w
  · rw [endB_no h1 h2 h8]
    have d1 : ((k : Int) == 1) = false := beq_eq_false_iff_ne.2 (by omega)
    have d3 : ((k : Int) == 3) = false := beq_eq_false_iff_ne.2 (by omega)
    have d4 : ((k : Int) == 4) = false := beq_eq_false_iff_ne.2 (by omega)
    have d5 : ((k : Int) == 5) = false := beq_eq_false_iff_ne.2 (by omega)
    have d6 : ((k : Int) == 6) = false := beq_eq_false_iff_ne.2 (by omega)
    have d7 : ((k : Int) == 7) = false := beq_eq_false_iff_ne.2 (by omega)
    have d2 : ((k : Int) == 2) = false := beq_eq_false_iff_ne.2 (by omega)
    have d8 : ((k : Int) == 8) = false := beq_eq_false_iff_ne.2 (by omega)
    clear h1 h2 h8
    go_enter Tryz.func19, Tryz.ntmps19
    go_wp2
    go_ret
    exact ⟨rfl, rfl⟩
end Go.Proofs.YtnkgbmnjehpkgabGreat

/- Plain mathematics of tokens: lexemes in order; the semicolons of line ends. -/
namespace Go.Proofs.YtnkgbmnjehpkgabGreat
open Go.RowKit Em
set_option maxRecDepth 100000
set_option linter.unusedVariables false

/-- Tokens in order, within so many bytes. -/
def Ord (n : Nat) (L : List Sc.Tk) : Prop := L.Pairwise (fun a b => a.t ≤ b.f) ∧ ∀ t ∈ L, t.f < t.t ∧ t.t ≤ n
theorem lexs_ord : ∀ (f p : Nat) (l : List UInt8), Sc.Wf l → (Sc.lexs isW f p l).1.Pairwise (fun a b => a.t ≤ b.f) ∧ ∀ t ∈ (Sc.lexs isW f p l).1, p ≤ t.f ∧ t.f < t.t ∧ t.t ≤ p + l.length
  | 0, p, l, _ => by simp [Sc.lexs]
  | f + 1, p, l, hw => by
    by_cases hl : l = []
    · subst hl; rw [Sc.lexs_nil]; simp
    · by_cases hn : (Sc.lex isW l).2 = 0
      · rw [Sc.lexs_no isW hl hn]; simp
      · rw [Sc.lexs_yes isW hl hn]
        obtain ⟨h1, _, h2⟩ := Sc.lex_cut isW hw hn
        obtain ⟨i1, i2⟩ := lexs_ord f (p + (Sc.lex isW l).2) (l.drop (Sc.lex isW l).2) h2
        rw [List.length_drop] at i2
        refine ⟨List.pairwise_cons.2 ⟨fun t ht => (i2 t ht).1, i1⟩, fun t ht => ?_⟩
        rcases List.mem_cons.1 ht with rfl | ht
        · dsimp only; omega
        · have := i2 t ht; omega
theorem allA_ord (s : ByteArray) : Ord s.size (allA s).1 := by
  unfold allA
  split
  · exact ⟨.nil, by simp⟩
  · split
    · exact ⟨.nil, by simp⟩
    · rename_i h
      have hw : Sc.Wf (bl s) := clean_wf (by omega)
      obtain ⟨h1, h2⟩ := lexs_ord s.size 0 (bl s) hw
      split
      · refine ⟨h1, fun t ht => ?_⟩
        have := h2 t ht
        rw [bl_size] at this
        omega
      · exact ⟨.nil, by simp⟩
theorem kept_ord {n : Nat} {L : List Sc.Tk} (h : Ord n L) : Ord n (kept L) :=
  ⟨h.1.filter _, fun t ht => h.2 t (List.mem_filter.1 ht).1⟩
theorem nthT_get {L : List Sc.Tk} {i : Nat} (h : i < L.length) : nthT L i = L[i] := by simp [nthT, h]
theorem ord_at {n : Nat} {L : List Sc.Tk} (h : Ord n L) {i : Nat} (hi : i < L.length) : (nthT L i).f < (nthT L i).t ∧ (nthT L i).t ≤ n := by
  rw [nthT_get hi]; exact h.2 _ (List.getElem_mem _)
theorem ord_next {n : Nat} {L : List Sc.Tk} (h : Ord n L) {i : Nat} (hi : i + 1 < L.length) : (nthT L i).t ≤ (nthT L (i + 1)).f := by
  rw [nthT_get hi, nthT_get (show i < L.length by omega)]
  exact List.pairwise_iff_getElem.1 h.1 i (i + 1) _ _ (by omega)

/-- The bytes between two places. -/
def cutT (s : ByteArray) (f t : Nat) : List UInt8 := ((bl s).take t).drop f
theorem cutT_ext (s : ByteArray) (f t : Nat) : bl (s.extract f t) = cutT s f t := bl_extract _ _ _

/-- Does a line end behind a token? -/
def lineE (s : ByteArray) (L : List Sc.Tk) (i : Nat) : Bool := decide (i + 1 = L.length) || decide (0 ≤ Lib.indexByte (cutT s (nthT L i).t (nthT L (i + 1)).f) 10)
/-- Is a semicolon put behind it? -/
def putB (s : ByteArray) (L : List Sc.Tk) (i : Nat) : Bool := endB (nthT L i).k (cutT s (nthT L i).f (nthT L i).t) && lineE s L i
def semis (s : ByteArray) (L : List Sc.Tk) : Nat → List Sc.Tk
  | 0 => []
  | i + 1 => semis s L i ++ (if putB s L i = true then [nthT L i, ⟨9, (nthT L i).t, (nthT L i).t⟩] else [nthT L i])
theorem semis_yes {s : ByteArray} {L : List Sc.Tk} {i : Nat} (h : putB s L i = true) : semis s L (i + 1) = semis s L i ++ [nthT L i] ++ [⟨9, (nthT L i).t, (nthT L i).t⟩] := by
  rw [semis, if_pos h, List.append_assoc]; rfl
theorem semis_no {s : ByteArray} {L : List Sc.Tk} {i : Nat} (h : putB s L i = false) : semis s L (i + 1) = semis s L i ++ [nthT L i] := by
  rw [semis, h]; rfl
theorem semis_len (s : ByteArray) (L : List Sc.Tk) : ∀ i, (semis s L i).length ≤ 2 * i
  | 0 => by simp [semis]
  | i + 1 => by
    have := semis_len s L i
    rw [semis, List.length_append]
    split <;> simp <;> omega

/-- What semi.Of answers. -/
def semA (s : ByteArray) : List Sc.Tk × Int × Int :=
  if (allA s).2.1 = 0 then (semis s (kept (allA s).1) (kept (allA s).1).length, 0, 0) else ([], (allA s).2.1, (allA s).2.2)
theorem allA_fault (s : ByteArray) : ((allA s).2.1 = 0 ∧ (allA s).2.2 = 0) ∨ ((allA s).2.1 ≠ 0 ∧ (allA s).1 = []) := by
  unfold allA
  split
  · exact .inr ⟨by decide, rfl⟩
  · split
    · exact .inr ⟨show (3 : Int) ≠ 0 by decide, rfl⟩
    · split
      · exact .inl ⟨rfl, rfl⟩
      · exact .inr ⟨show (4 : Int) ≠ 0 by decide, rfl⟩
theorem kept_len (L : List Sc.Tk) : (kept L).length ≤ L.length := List.length_filter_le ..
theorem lexs_len : ∀ (f p : Nat) (l : List UInt8), (Sc.lexs isW f p l).1.length ≤ f
  | 0, p, l => by simp [Sc.lexs]
  | f + 1, p, l => by
    rw [Sc.lexs]
    split
    · simp
    · split
      · simp
      · simp only [List.length_cons]
        have := lexs_len f (p + (Sc.lex isW l).2) (l.drop (Sc.lex isW l).2)
        omega
theorem allA_most (s : ByteArray) : (allA s).1.length ≤ 65536 := by
  unfold allA
  split
  · simp
  · split
    · simp
    · split
      · have := lexs_len s.size 0 (bl s)
        dsimp only
        omega
      · simp
theorem allA_ok_size {s : ByteArray} (h : (allA s).2.1 = 0) : s.size ≤ 65536 := by
  unfold allA at h
  split at h
  · exact absurd h (by decide)
  · omega
end Go.Proofs.YtnkgbmnjehpkgabGreat

