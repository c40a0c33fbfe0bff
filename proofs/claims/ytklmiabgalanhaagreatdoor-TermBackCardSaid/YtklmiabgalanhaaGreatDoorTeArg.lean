/- A slice of parts that came in: what the walk is told of it. -/
import Derived.Test.YtklmiabgalanhaaGreatDoorTeCore
import Derived.ProofKit
import Derived.OpenShut
import Derived.SizedLaws
import Derived.Below
import Derived.Deep.Slices
import Derived.Deep.Fields
import Derived.ChangeSame
namespace Go.Proofs.YtklmiabgalanhaaGreatDoor
open Go.ChangeShapes Go.WideShapes Go.ChangeAt Go.RowKit Km
set_option maxRecDepth 100000
set_option linter.unusedVariables false

/-- A part's reading. -/
def dPt {H : Type} (e : Pt) : DataW H := .agg [.lit (.int .u8 (e.k : Int)), .lit (.int .i64 e.c), .lit (.string e.x.data.toList)]
/-- What came in. -/
def PtArg (w : World) (a : Option Addr) (len cap : Nat) (Z : List Pt) : Prop := Z.length = cap ∧ len ≤ cap ∧ cap ≤ maxLen ∧ PtI w a Z ∧ ∀ i, i < Z.length → (nthP Z i).c ≤ 9223372036854775807 ∧ -9223372036854775808 ≤ (nthP Z i).c ∧ (nthP Z i).k ≤ 255
def PtDat {H : Type} (d : DataW H) (len : Nat) (Z : List Pt) : Prop := (Z = [] ∧ d = .nil) ∨ d = .slice ((Z.take len).map dPt) ((Z.drop len).map dPt)
theorem nthP_take {Z : List Pt} {n i : Nat} (hi : i < n) : nthP (Z.take n) i = nthP Z i := by
  unfold nthP
  simp [List.getD, hi]
theorem PtArg.len_eq {w : World} {a : Option Addr} {len cap : Nat} {Z : List Pt} (h : PtArg w a len cap Z) : (Z.take len).length = len := by
  obtain ⟨h1, h2, _⟩ := h
  rw [List.length_take]; omega
theorem PtArg.read {w : World} {a : Option Addr} {len cap : Nat} {Z : List Pt} (h : PtArg w a len cap Z) : PtI w a (Z.take len) := by
  have e := h.len_eq
  obtain ⟨h1, h2, _, h4, _⟩ := h
  intro hn
  obtain ⟨g, o, hx, hg, hc⟩ := h4 (by omega)
  refine ⟨g, o, hx, hg, fun i hi => ?_⟩
  rw [nthP_take (by omega)]
  exact hc i (by omega)
theorem add_at (g o j : Nat) : (⟨g, o, none⟩ : Addr).add j = ⟨g, o + j, none⟩ := by unfold Addr.add; split <;> simp_all
theorem spot_none {w : World} {a : Addr} {v : Value} (h : w.cell? (a.add 0) = some v) : a.spot = none := by
  simpa [Addr.add] using World.cell?_spot h
theorem pwf_i64 {n : Int} (h : (Lit.int .i64 n).wf = true) : n ≤ 9223372036854775807 ∧ -9223372036854775808 ≤ n := by
  have e : IntKind.i64.max = 9223372036854775807 := rfl
  have e2 : IntKind.i64.min = -9223372036854775808 := rfl
  simp [Lit.wf] at h; omega
theorem pwf_u8 {n : Int} (h : (Lit.int .u8 n).wf = true) : 0 ≤ n ∧ n ≤ 255 := by
  have e : IntKind.u8.min = 0 := rfl
  have e2 : IntKind.u8.max = 255 := rfl
  simp [Lit.wf] at h; omega

section
variable {H : Type} {enc : TypeId × Value → H} {w : World} {base : Nat} {held : Bool}
theorem open_part {n : Nat} {cs : List Value} {y : DataW H × List MemPlace} (h : DataW.trod enc Tryz.prog w base (fun _ => true) held n 28 cs = some y) :
    ∃ e : Pt, cs = [.int .u8 (e.k : Int), .int .i64 e.c, .string e.x] ∧ y.1 = dPt e ∧ e.c ≤ 9223372036854775807 ∧ -9223372036854775808 ≤ e.c ∧ e.k ≤ 255 := by
  obtain ⟨xs, m, _, hy, hl, hlen, hf⟩ := DataW.trod_struct Tryz.underlying28 h
  have hl3 : cs.length = 3 := hl.trans (by kernel_rfl)
  have c0 : Tryz.prog.cellsOf 5 = 1 := by kernel_rfl
  have c1 : Tryz.prog.cellsOf 3 = 1 := by kernel_rfl
  have c2 : Tryz.prog.cellsOf 9 = 1 := by kernel_rfl
  match cs, hl3 with
  | [a, b, c], _ =>
    match xs, hlen with
    | [p, q, r], _ =>
      have g0 := hf 0 _ rfl
      have g1 := hf 1 _ rfl
      have g2 := hf 2 _ rfl
      simp [c0, c1, c2] at g0 g1 g2
      obtain ⟨n0, e0, d0, w0⟩ := DataW.trod_int Tryz.underlying5 g0
      obtain ⟨n1, e1, d1, w1⟩ := DataW.trod_int Tryz.underlying3 g1
      obtain ⟨s, e2, d2, _⟩ := DataW.trod_string Tryz.underlying9 g2
      simp at e0 e1 e2
      subst e0 e1 e2
      obtain ⟨u1, u2⟩ := pwf_u8 w0
      obtain ⟨v1, v2⟩ := pwf_i64 w1
      have hk : ((n0.toNat : Nat) : Int) = n0 := Int.toNat_of_nonneg u1
      refine ⟨⟨n0.toNat, n1, s⟩, ?_, ?_, v1, v2, by dsimp only; omega⟩
      · show _ = [Value.int .u8 (n0.toNat : Int), _, _]
        rw [hk]
      · rw [hy, d0, d1, d2]
        show _ = DataW.agg [.lit (.int .u8 (n0.toNat : Int)), _, _]
        rw [hk]
        rfl

theorem open_parts {fuel : Nat} {cs : List Value} {x : DataW H × List MemPlace} (h : DataW.trod enc Tryz.prog w base (fun _ => true) held fuel 22 cs = some x) :
    ∃ (a : Option Addr) (len cap : Nat) (Z : List Pt), cs = [.slice a len cap] ∧ PtArg w a len cap Z ∧ PtDat x.1 len Z := by
  have hC : Tryz.prog.cellsOf 28 = 3 := by kernel_rfl
  rcases Go.Deep.open_slice Tryz.underlying22 h with ⟨hcs, hx⟩ | ⟨a, len, m0, cap, n, D, Pl, hcs, hb, hl, hm, hmm, hx, hi⟩
  · exact ⟨none, 0, 0, [], hcs, ⟨rfl, Nat.le_refl _, by unfold maxLen; omega, fun h => by simp at h, fun i hi => by simp at hi⟩, .inl ⟨rfl, by rw [hx]⟩⟩
  · obtain rfl : cap = m0 := by simpa using hmm
    rw [hC] at hi
    obtain ⟨E, hE⟩ := Go.Deep.choose_lt (α := Pt) (p := fun i e => w.cell? (a.add (i * 3)) = some (.int .u8 (e.k : Int)) ∧ w.cell? (a.add (i * 3 + 1)) = some (.int .i64 e.c) ∧ w.cell? (a.add (i * 3 + 2)) = some (.string e.x) ∧ D i = dPt e ∧ e.c ≤ 9223372036854775807 ∧ -9223372036854775808 ≤ e.c ∧ e.k ≤ 255) (fun i hi' => by
      obtain ⟨cs', h1, h2⟩ := hi i hi'
      obtain ⟨_, hlen, hat⟩ := World.cells?_some h1
      obtain ⟨e, he, hd, hw⟩ := open_part h2
      subst he
      have t0 := hat 0 (by omega)
      have t1 := hat 1 (by omega)
      have t2 := hat 2 (by omega)
      rw [Go.Deep.add_add] at t0 t1 t2
      exact ⟨e, t0, t1, t2, hd, hw⟩)
    have hZ : ∀ i, i < cap → nthP ((List.range cap).map E) i = E i := fun i hi => by simp [nthP, hi]
    have hmap : ∀ j k, j + k ≤ cap → (List.range k).map (fun i => D (j + i)) = (((List.range cap).map E).drop j |>.take k).map dPt := fun j k hjk => by
      apply List.ext_getElem
      · simp; omega
      · intro i h1 h2
        have hik : i < k := by simpa using h1
        simp [(hE (j + i) (by omega)).2.2.2.1]
    refine ⟨some a, len, cap, (List.range cap).map E, hcs, ⟨by simp, hl, hm, fun hn => ?_, fun i hi => ?_⟩, .inr ?_⟩
    · have hc0 : 0 < cap := by simpa using hn
      have hs := spot_none (a := a) (by have := (hE 0 hc0).1; simpa using this)
      obtain ⟨g, o, s⟩ := a
      change s = none at hs
      subst hs
      have ad := add_at g o
      refine ⟨g, o, rfl, ?_, fun i hi' => ?_⟩
      · have := World.block_lt_of_cell? w _ (hE 0 hc0).1
        rw [ad] at this; exact this
      · have hic : i < cap := by simpa using hi'
        rw [hZ i hic]
        obtain ⟨t0, t1, t2, _⟩ := hE i hic
        rw [ad] at t0 t1 t2
        exact ⟨t0, by rw [Nat.add_assoc]; exact t1, by rw [Nat.add_assoc]; exact t2⟩
    · have hic : i < cap := by simpa using hi
      rw [hZ i hic]
      exact (hE i hic).2.2.2.2
    · rw [hx]
      have e1 := hmap 0 len (by omega)
      have e2 := hmap len (cap - len) (by omega)
      simp only [Nat.zero_add, List.drop_zero] at e1
      rw [List.take_of_length_le (by simp)] at e2
      show DataW.slice _ _ = _
      rw [← e1, ← e2]

theorem pmem_weights {P : Program} {e : TypeId} {n : Nat} : ∀ {l : List (DataW H)} {d : DataW H}, d ∈ l → n ∈ d.weights P e → n ∈ DataW.weightsAll P e l
  | x :: r, d, hm, hn => by
    rw [DataW.weightsAll, List.mem_append]
    rcases List.mem_cons.1 hm with rfl | hm
    · exact .inl hn
    · exact .inr (pmem_weights hm hn)
theorem reach_parts {ts : List TypeId} {ds : List (DataW H)} {d : DataW H} {w : World} {a : Option Addr} {len cap : Nat} {Z : List Pt} (h : PtArg w a len cap Z) (he : PtDat d len Z)
    (hs : (DataW.weightsEach Tryz.prog ts ds).all (· ≤ reachBytes) = true) {j : Nat} (ht : ts[j]? = some 22) (hd : ds[j]? = some d) :
    cap * 32 ≤ 140737488351232 ∧ ∀ i, i < Z.length → (nthP Z i).x.size ≤ 140737488351232 := by
  obtain ⟨h1, h2, _, _⟩ := h
  rcases he with ⟨rfl, _⟩ | rfl
  · simp at h1; subst h1; exact ⟨by omega, fun i hi => by simp at hi⟩
  · have b := sized_slice hs ht hd Tryz.underlying22
    rw [show Tryz.prog.bytesOf 28 = 32 by kernel_rfl] at b
    simp only [List.length_map, List.length_take, List.length_drop] at b
    unfold reachBytes at b hs
    refine ⟨by omega, fun i hi => ?_⟩
    have key : (nthP Z i).x.data.toList.length ∈ DataW.weights (H := H) Tryz.prog 28 (dPt (nthP Z i)) := by
      simp [dPt, DataW.weights, Tryz.underlying28, DataW.weightsEach]
    have hmem : dPt (H := H) (nthP Z i) ∈ ((Z.take len).map dPt ++ (Z.drop len).map dPt) := by
      rw [← List.map_append, List.take_append_drop]
      refine List.mem_map.2 ⟨_, ?_, rfl⟩
      have e : nthP Z i = Z[i] := by simp [nthP, hi]
      rw [e]; exact List.getElem_mem hi
    have hin : (nthP Z i).x.data.toList.length ∈ DataW.weights (H := H) Tryz.prog 22 (.slice ((Z.take len).map dPt) ((Z.drop len).map dPt)) := by
      rw [DataW.weights, Tryz.underlying22]
      refine List.mem_cons.2 (.inr (List.mem_append.2 ?_))
      rcases List.mem_append.1 hmem with hm | hm
      · exact .inl (pmem_weights hm key)
      · exact .inr (pmem_weights hm key)
    have := List.all_eq_true.1 hs _ (DataW.weights_mem_each ht hd _ hin)
    rw [Array.length_toList] at this
    exact of_decide_eq_true this
end
end Go.Proofs.YtklmiabgalanhaaGreatDoor
