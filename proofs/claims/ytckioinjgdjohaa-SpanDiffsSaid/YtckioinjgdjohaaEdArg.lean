/- A slice of edits that came in: what the walk is told of it. -/
import Derived.Test.YtckioinjgdjohaaEdCore
import Derived.ProofKit
import Derived.OpenShut
import Derived.SizedLaws
import Derived.Below
import Derived.Deep.Slices
import Derived.Deep.Fields
import Derived.ChangeSame
namespace Go.Proofs.Ytckioinjgdjohaa
open Go.ChangeShapes Go.WideShapes Go.ChangeAt Go.RowKit Em

/-- An edit's reading. -/
def dEd {H : Type} (e : Ed) : DataW H := .agg [.lit (.int .i64 e.f), .lit (.int .i64 e.t), .lit (.string (bl e.x))]

/-- What came in. -/
def EdArg (w : World) (a : Option Addr) (len cap : Nat) (Z : List Ed) : Prop := Z.length = cap ∧ len ≤ cap ∧ cap ≤ maxLen ∧ EdI w a Z
def EdDat {H : Type} (d : DataW H) (len : Nat) (Z : List Ed) : Prop := (Z = [] ∧ d = .nil) ∨ d = .slice ((Z.take len).map dEd) ((Z.drop len).map dEd)

theorem nthE_take {Z : List Ed} {n i : Nat} (hi : i < n) : nthE (Z.take n) i = nthE Z i := by
  unfold nthE
  simp [List.getD, hi]

theorem EdArg.len_eq {w : World} {a : Option Addr} {len cap : Nat} {Z : List Ed} (h : EdArg w a len cap Z) : (Z.take len).length = len := by
  obtain ⟨h1, h2, _⟩ := h
  rw [List.length_take]; omega
theorem EdArg.read {w : World} {a : Option Addr} {len cap : Nat} {Z : List Ed} (h : EdArg w a len cap Z) : EdI w a (Z.take len) := by
  have e := h.len_eq
  obtain ⟨h1, h2, _, h4⟩ := h
  intro hn
  obtain ⟨g, o, hx, hg, hc⟩ := h4 (by omega)
  refine ⟨g, o, hx, hg, fun i hi => ?_⟩
  rw [nthE_take (by omega)]
  exact hc i (by omega)

theorem add_at (g o j : Nat) : (⟨g, o, none⟩ : Addr).add j = ⟨g, o + j, none⟩ := by unfold Addr.add; split <;> simp_all
theorem spot_none {w : World} {a : Addr} {v : Value} (h : w.cell? (a.add 0) = some v) : a.spot = none := by
  simpa [Addr.add] using World.cell?_spot h
instance : Inhabited Ed := ⟨⟨0, 0, ByteArray.empty⟩⟩

section
variable {H : Type} {enc : TypeId × Value → H} {w : World} {base : Nat} {held : Bool}

theorem open_one {n : Nat} {cs : List Value} {y : DataW H × List MemPlace} (h : DataW.trod enc Try.prog w base (fun _ => true) held n 36 cs = some y) :
    ∃ e : Ed, cs = [.int .i64 e.f, .int .i64 e.t, .string e.x] ∧ y.1 = dEd e := by
  obtain ⟨xs, m, _, hy, hl, hlen, hf⟩ := DataW.trod_struct Try.underlying36 h
  have hl3 : cs.length = 3 := hl.trans (by kernel_rfl)
  have c1 : Try.prog.cellsOf 3 = 1 := by kernel_rfl
  have c2 : Try.prog.cellsOf 9 = 1 := by kernel_rfl
  match cs, hl3 with
  | [a, b, c], _ =>
    match xs, hlen with
    | [p, q, r], _ =>
      have g0 := hf 0 _ rfl
      have g1 := hf 1 _ rfl
      have g2 := hf 2 _ rfl
      simp [c1, c2] at g0 g1 g2
      obtain ⟨n0, e0, d0, _⟩ := DataW.trod_int Try.underlying3 g0
      obtain ⟨n1, e1, d1, _⟩ := DataW.trod_int Try.underlying3 g1
      obtain ⟨s, e2, d2, _⟩ := DataW.trod_string Try.underlying9 g2
      simp at e0 e1 e2
      subst e0 e1 e2
      refine ⟨⟨n0, n1, s⟩, rfl, ?_⟩
      rw [hy, d0, d1, d2]
      rfl

theorem open_edits {fuel : Nat} {cs : List Value} {x : DataW H × List MemPlace} (h : DataW.trod enc Try.prog w base (fun _ => true) held fuel 22 cs = some x) :
    ∃ (a : Option Addr) (len cap : Nat) (Z : List Ed), cs = [.slice a len cap] ∧ EdArg w a len cap Z ∧ EdDat x.1 len Z := by
  have hC : Try.prog.cellsOf 36 = 3 := by kernel_rfl
  rcases Go.Deep.open_slice Try.underlying22 h with ⟨hcs, hx⟩ | ⟨a, len, m0, cap, n, D, Pl, hcs, hb, hl, hm, hmm, hx, hi⟩
  · exact ⟨none, 0, 0, [], hcs, ⟨rfl, Nat.le_refl _, by unfold maxLen; omega, fun h => by simp at h⟩, .inl ⟨rfl, by rw [hx]⟩⟩
  · obtain rfl : cap = m0 := by simpa using hmm
    rw [hC] at hi
    obtain ⟨E, hE⟩ := Go.Deep.choose_lt (α := Ed) (p := fun i e => w.cell? (a.add (i * 3)) = some (.int .i64 e.f) ∧ w.cell? (a.add (i * 3 + 1)) = some (.int .i64 e.t) ∧ w.cell? (a.add (i * 3 + 2)) = some (.string e.x) ∧ D i = dEd e) (fun i hi' => by
      obtain ⟨cs', h1, h2⟩ := hi i hi'
      obtain ⟨_, hlen, hat⟩ := World.cells?_some h1
      obtain ⟨e, he, hd⟩ := open_one h2
      subst he
      have t0 := hat 0 (by omega)
      have t1 := hat 1 (by omega)
      have t2 := hat 2 (by omega)
      rw [Go.Deep.add_add] at t0 t1 t2
      exact ⟨e, t0, t1, t2, hd⟩)
    have hZ : ∀ i, i < cap → nthE ((List.range cap).map E) i = E i := fun i hi => by simp [nthE, hi]
    have hmap : ∀ j k, j + k ≤ cap → (List.range k).map (fun i => D (j + i)) = (((List.range cap).map E).drop j |>.take k).map dEd := fun j k hjk => by
      apply List.ext_getElem
      · simp; omega
      · intro i h1 h2
        have hik : i < k := by simpa using h1
        simp [(hE (j + i) (by omega)).2.2.2]
    refine ⟨some a, len, cap, (List.range cap).map E, hcs, ⟨by simp, hl, hm, fun hn => ?_⟩, .inr ?_⟩
    · have hc0 : 0 < cap := by simpa using hn
      have hs := spot_none (a := a) (by have := (hE 0 hc0).1; simpa using this)
      obtain ⟨g, o, s⟩ := a
      change s = none at hs
      subst hs
      have ad := add_at g o
      refine ⟨g, o, rfl, ?_, fun i hi' => ?_⟩
      · have := World.block_lt_of_cell? w _ (hE 0 hc0).1
        rw [ad] at this; exact this
      · have hic : i < cap := by simpa using hi'
        rw [hZ i hic]
        obtain ⟨t0, t1, t2, _⟩ := hE i hic
        rw [ad] at t0 t1 t2
        exact ⟨t0, by rw [Nat.add_assoc]; exact t1, by rw [Nat.add_assoc]; exact t2⟩
    · rw [hx]
      have e1 := hmap 0 len (by omega)
      have e2 := hmap len (cap - len) (by omega)
      simp only [Nat.zero_add, List.drop_zero] at e1
      rw [List.take_of_length_le (by simp)] at e2
      show DataW.slice _ _ = _
      rw [← e1, ← e2]
end

theorem bulk_ed {H : Type} : ∀ (Z : List Ed), Z.length + put Z ≤ Rows.uptoBulkAll (Z.map (dEd (H := H)))
  | [] => by simp [put]
  | e :: l => by
    have := bulk_ed (H := H) l
    have e1 : Rows.uptoBulk (dEd (H := H) e) = e.x.size + 4 := by simp [dEd, Rows.uptoBulk, Rows.uptoBulkAll, bl_size]; omega
    rw [List.map_cons, Rows.uptoBulkAll, e1, List.length_cons, put]
    omega
theorem put_append : ∀ (A B : List Ed), put (A ++ B) = put A + put B
  | [], B => by simp [put]
  | e :: l, B => by show e.x.size + put (l ++ B) = e.x.size + put l + put B; rw [put_append l B]; omega
theorem put_take (Z : List Ed) (n : Nat) : put (Z.take n) + put (Z.drop n) = put Z := by
  rw [← put_append, List.take_append_drop]
theorem bulk_edits {H : Type} {l : List (DataW H)} {d : DataW H} {w : World} {a : Option Addr} {len cap : Nat} {Z : List Ed} (h : EdArg w a len cap Z) (he : EdDat d len Z) (hk : Rows.uptoBulkAll l ≤ 1048576) (hm : Rows.uptoBulk d ≤ Rows.uptoBulkAll l) :
    cap + put Z ≤ 1048576 := by
  obtain ⟨h1, h2, _, _⟩ := h
  rcases he with ⟨rfl, _⟩ | rfl
  · simp at h1; subst h1; simp [put]
  · rw [Rows.uptoBulk] at hm
    have b1 := bulk_ed (H := H) (Z.take len)
    have b2 := bulk_ed (H := H) (Z.drop len)
    have e := put_take Z len
    rw [List.length_take] at b1
    rw [List.length_drop] at b2
    omega

theorem mem_weights {H : Type} {P : Program} {e : TypeId} {n : Nat} : ∀ {l : List (DataW H)} {d : DataW H}, d ∈ l → n ∈ d.weights P e → n ∈ DataW.weightsAll P e l
  | x :: r, d, hm, hn => by
    rw [DataW.weightsAll, List.mem_append]
    rcases List.mem_cons.1 hm with rfl | hm
    · exact .inl hn
    · exact .inr (mem_weights hm hn)

theorem reach_edits {H : Type} {ts : List TypeId} {ds : List (DataW H)} {d : DataW H} {w : World} {a : Option Addr} {len cap : Nat} {Z : List Ed} (h : EdArg w a len cap Z) (he : EdDat d len Z)
    (hs : (DataW.weightsEach Try.prog ts ds).all (· ≤ reachBytes) = true) {j : Nat} (ht : ts[j]? = some 22) (hd : ds[j]? = some d) :
    cap * 32 ≤ 140737488351232 ∧ ∀ i, i < Z.length → (nthE Z i).x.size ≤ 140737488351232 := by
  obtain ⟨h1, h2, _, _⟩ := h
  rcases he with ⟨rfl, _⟩ | rfl
  · simp at h1; subst h1; exact ⟨by omega, fun i hi => by simp at hi⟩
  · have b := sized_slice hs ht hd Try.underlying22
    rw [show Try.prog.bytesOf 36 = 32 by kernel_rfl] at b
    simp only [List.length_map, List.length_take, List.length_drop] at b
    unfold reachBytes at b hs
    refine ⟨by omega, fun i hi => ?_⟩
    have key : (bl (nthE Z i).x).length ∈ DataW.weights (H := H) Try.prog 36 (dEd (nthE Z i)) := by
      simp [dEd, DataW.weights, Try.underlying36, DataW.weightsEach]
    have hmem : dEd (H := H) (nthE Z i) ∈ ((Z.take len).map dEd ++ (Z.drop len).map dEd) := by
      rw [← List.map_append, List.take_append_drop]
      refine List.mem_map.2 ⟨_, ?_, rfl⟩
      have e : nthE Z i = Z[i] := by simp [nthE, hi]
      rw [e]; exact List.getElem_mem hi
    have hin : (bl (nthE Z i).x).length ∈ DataW.weights (H := H) Try.prog 22 (.slice ((Z.take len).map dEd) ((Z.drop len).map dEd)) := by
      rw [DataW.weights, Try.underlying22]
      refine List.mem_cons.2 (.inr (List.mem_append.2 ?_))
      rcases List.mem_append.1 hmem with hm | hm
      · exact .inl (mem_weights hm key)
      · exact .inr (mem_weights hm key)
    have := List.all_eq_true.1 hs _ (DataW.weights_mem_each ht hd _ hin)
    rw [bl_size] at this
    simpa using this
end Go.Proofs.Ytckioinjgdjohaa
