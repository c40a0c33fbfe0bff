/- A slice of nodes that came in: what the walk is told of it. -/
import Derived.Test.YtklmiabgalanhaaTrFnA
import Derived.ProofKit
import Derived.OpenShut
import Derived.SizedLaws
import Derived.Below
import Derived.Deep.Slices
import Derived.Deep.Fields
import Derived.ChangeSame
namespace Go.Proofs.Ytklmiabgalanhaa
open Go.ChangeShapes Go.WideShapes Go.ChangeAt Go.RowKit Km Tm

/-- What came in. -/
def NdArg (w : World) (a : Option Addr) (len cap : Nat) (Z : List Nd) : Prop := Z.length = cap ∧ len ≤ cap ∧ cap ≤ maxLen ∧ NdI w a Z ∧ ∀ i, i < Z.length → (nthN Z i).c ≤ 9223372036854775807
def NdDat {H : Type} (d : DataW H) (cap : Nat) : Prop := (cap = 0 ∧ d = .nil) ∨ ∃ E S, d = .slice E S ∧ E.length + S.length = cap
theorem nthN_take {Z : List Nd} {n i : Nat} (hi : i < n) : nthN (Z.take n) i = nthN Z i := by
  unfold nthN
  simp [List.getD, hi]
theorem NdArg.len_eq {w : World} {a : Option Addr} {len cap : Nat} {Z : List Nd} (h : NdArg w a len cap Z) : (Z.take len).length = len := by
  obtain ⟨h1, h2, _⟩ := h
  rw [List.length_take]; omega
theorem NdArg.read {w : World} {a : Option Addr} {len cap : Nat} {Z : List Nd} (h : NdArg w a len cap Z) : NdI w a (Z.take len) ∧ ∀ i, i < (Z.take len).length → (nthN (Z.take len) i).c ≤ 9223372036854775807 := by
  have e := h.len_eq
  obtain ⟨h1, h2, _, h4, h5⟩ := h
  refine ⟨fun hn => ?_, fun i hi => ?_⟩
  · obtain ⟨g, o, hx, hg, hc⟩ := h4 (by omega)
    refine ⟨g, o, hx, hg, fun i hi => ?_⟩
    rw [nthN_take (by omega)]
    exact hc i (by omega)
  · rw [nthN_take (by omega)]
    exact h5 i (by omega)
theorem add_at (g o j : Nat) : (⟨g, o, none⟩ : Addr).add j = ⟨g, o + j, none⟩ := by unfold Addr.add; split <;> simp_all
theorem spot_none {w : World} {a : Addr} {v : Value} (h : w.cell? (a.add 0) = some v) : a.spot = none := by
  simpa [Addr.add] using World.cell?_spot h

section
variable {H : Type} {enc : TypeId × Value → H} {w : World} {base : Nat} {held : Bool}
theorem wf_i64 {n : Int} (h : (Lit.int .i64 n).wf = true) : n ≤ 9223372036854775807 := by
  have e : IntKind.i64.max = 9223372036854775807 := rfl
  simp [Lit.wf] at h; omega
theorem wf_u8 {n : Int} (h : (Lit.int .u8 n).wf = true) : 0 ≤ n := by
  have e : IntKind.u8.min = 0 := rfl
  simp [Lit.wf] at h; omega
theorem open_node {n : Nat} {cs : List Value} {y : DataW H × List MemPlace} (h : DataW.trod enc Try.prog w base (fun _ => true) held n 35 cs = some y) :
    ∃ e : Nd, cs = [.int .u8 (e.k : Int), .int .i64 e.c, .int .i64 e.w, .int .i64 e.f, .int .i64 e.t] ∧ e.c ≤ 9223372036854775807 := by
  obtain ⟨xs, m, _, hy, hl, hlen, hf⟩ := DataW.trod_struct Try.underlying35 h
  have hl3 : cs.length = 5 := hl.trans (by kernel_rfl)
  have c1 : Try.prog.cellsOf 3 = 1 := by kernel_rfl
  have c2 : Try.prog.cellsOf 5 = 1 := by kernel_rfl
  match cs, hl3 with
  | [a, b, c, d, e], _ =>
    match xs, hlen with
    | [p, q, r, s, t], _ =>
      have g0 := hf 0 _ rfl
      have g1 := hf 1 _ rfl
      have g2 := hf 2 _ rfl
      have g3 := hf 3 _ rfl
      have g4 := hf 4 _ rfl
      simp [c1, c2] at g0 g1 g2 g3 g4
      obtain ⟨n0, e0, _, w0⟩ := DataW.trod_int Try.underlying5 g0
      obtain ⟨n1, e1, _, w1⟩ := DataW.trod_int Try.underlying3 g1
      obtain ⟨n2, e2, _, _⟩ := DataW.trod_int Try.underlying3 g2
      obtain ⟨n3, e3, _, _⟩ := DataW.trod_int Try.underlying3 g3
      obtain ⟨n4, e4, _, _⟩ := DataW.trod_int Try.underlying3 g4
      simp at e0 e1 e2 e3 e4
      subst e0 e1 e2 e3 e4
      have := wf_u8 w0
      refine ⟨⟨n0.toNat, n1, n2, n3, n4⟩, ?_, wf_i64 w1⟩
      show _ = [Value.int .u8 (n0.toNat : Int), _, _, _, _]
      rw [Int.toNat_of_nonneg this]

theorem open_nodes {fuel : Nat} {cs : List Value} {x : DataW H × List MemPlace} (h : DataW.trod enc Try.prog w base (fun _ => true) held fuel 22 cs = some x) :
    ∃ (a : Option Addr) (len cap : Nat) (Z : List Nd), cs = [.slice a len cap] ∧ NdArg w a len cap Z ∧ NdDat x.1 cap := by
  have hC : Try.prog.cellsOf 35 = 5 := by kernel_rfl
  rcases Go.Deep.open_slice Try.underlying22 h with ⟨hcs, hx⟩ | ⟨a, len, m0, cap, n, D, Pl, hcs, hb, hl, hm, hmm, hx, hi⟩
  · exact ⟨none, 0, 0, [], hcs, ⟨rfl, Nat.le_refl _, by unfold maxLen; omega, fun h => by simp at h, fun i hi => by simp at hi⟩, .inl ⟨rfl, by rw [hx]⟩⟩
  · obtain rfl : cap = m0 := by simpa using hmm
    rw [hC] at hi
    obtain ⟨E, hE⟩ := Go.Deep.choose_lt (α := Nd) (p := fun i e => w.cell? (a.add (i * 5)) = some (.int .u8 (e.k : Int)) ∧ w.cell? (a.add (i * 5 + 1)) = some (.int .i64 e.c) ∧ w.cell? (a.add (i * 5 + 2)) = some (.int .i64 e.w) ∧ w.cell? (a.add (i * 5 + 3)) = some (.int .i64 e.f) ∧ w.cell? (a.add (i * 5 + 4)) = some (.int .i64 e.t) ∧ e.c ≤ 9223372036854775807) (fun i hi' => by
      obtain ⟨cs', h1, h2⟩ := hi i hi'
      obtain ⟨_, hlen, hat⟩ := World.cells?_some h1
      obtain ⟨e, he, hw⟩ := open_node h2
      subst he
      have t0 := hat 0 (by omega)
      have t1 := hat 1 (by omega)
      have t2 := hat 2 (by omega)
      have t3 := hat 3 (by omega)
      have t4 := hat 4 (by omega)
      rw [Go.Deep.add_add] at t0 t1 t2 t3 t4
      exact ⟨e, t0, t1, t2, t3, t4, hw⟩)
    have hZ : ∀ i, i < cap → nthN ((List.range cap).map E) i = E i := fun i hi => by simp [nthN, hi]
    refine ⟨some a, len, cap, (List.range cap).map E, hcs, ⟨by simp, hl, hm, fun hn => ?_, fun i hi => ?_⟩, .inr ⟨_, _, by rw [hx], by simp; omega⟩⟩
    · have hc0 : 0 < cap := by simpa using hn
      have hs := spot_none (a := a) (by have := (hE 0 hc0).1; simpa using this)
      obtain ⟨g, o, s⟩ := a
      change s = none at hs
      subst hs
      have ad := add_at g o
      refine ⟨g, o, rfl, ?_, fun i hi' => ?_⟩
      · have := World.block_lt_of_cell? w _ (hE 0 hc0).1
        rw [ad] at this; exact this
      · have hic : i < cap := by simpa using hi'
        rw [hZ i hic]
        obtain ⟨t0, t1, t2, t3, t4, _⟩ := hE i hic
        rw [ad] at t0 t1 t2 t3 t4
        exact ⟨t0, by rw [Nat.add_assoc]; exact t1, by rw [Nat.add_assoc]; exact t2, by rw [Nat.add_assoc]; exact t3, by rw [Nat.add_assoc]; exact t4⟩
    · have hic : i < cap := by simpa using hi
      rw [hZ i hic]
      exact (hE i hic).2.2.2.2.2
theorem reach_nodes {ts : List TypeId} {ds : List (DataW H)} {d : DataW H} {w : World} {a : Option Addr} {len cap : Nat} {Z : List Nd} (h : NdArg w a len cap Z) (he : NdDat d cap)
    (hs : (DataW.weightsEach Try.prog ts ds).all (· ≤ reachBytes) = true) {j : Nat} (ht : ts[j]? = some 22) (hd : ds[j]? = some d) : cap * 40 ≤ 140737488351232 := by
  rcases he with ⟨rfl, _⟩ | ⟨E, S, rfl, hl⟩
  · omega
  · have b := sized_slice hs ht hd Try.underlying22
    rw [show Try.prog.bytesOf 35 = 40 by kernel_rfl] at b
    unfold reachBytes at b
    omega
end
/-- The list that the law is handed. -/
theorem NdArg.nw {w : World} {a : Option Addr} {len cap : Nat} {Z : List Nd} (h : NdArg w a len cap Z) (hz : cap * 40 ≤ 140737488351232) : Nw w a (Z.take len) := by
  have hl := h.len_eq
  have h2 := h.2.1
  exact ⟨h.read.1, by rw [hl]; omega, h.read.2⟩
end Go.Proofs.Ytklmiabgalanhaa
