/- What the second form's bound gives of each argument; what a walk is told of a slice of integers. -/
import Derived.Test.YtklmiabgalanhaaGreatDoorRows
import Derived.WalkKit
import Derived.ProofKit
import Derived.OpenShut
import Derived.SizedLaws
import Derived.Below
namespace Go.Proofs.YtklmiabgalanhaaGreatDoor
open Go.ChangeShapes Go.WideShapes Go.ChangeAt Go.RowKit
set_option maxRecDepth 100000

/-- A slice of integers that came in: nil, or a row of 'cap' cells that hold the numbers zs, the first 'len' of them its elements. -/
def IsRow (k : IntKind) (w : World) (a : Option Addr) (len cap : Nat) (zs : List Int) : Prop :=
  (a = none ∧ len = 0 ∧ cap = 0 ∧ zs = []) ∨
  ∃ x, a = some x ∧ len ≤ cap ∧ cap ≤ maxLen ∧ zs.length = cap ∧ (∀ i, i < zs.length → w.cell? (x.add i) = some (.int k (zs.getD i 0))) ∧ ∀ n ∈ zs, (Lit.int k n).wf = true

theorem row_below {k : IntKind} {w w' : World} {a : Option Addr} {len cap : Nat} {zs : List Int} (h : IsRow k w a len cap zs) (hb : Below w.heap.size w w') : IsRow k w' a len cap zs := by
  rcases h with h | ⟨x, h1, h2, h3, h4, h5, h6⟩
  · exact .inl h
  · exact .inr ⟨x, h1, h2, h3, h4, fun i hi => (hb.cell (World.block_lt_of_cell? w _ (h5 i hi))).trans (h5 i hi), h6⟩

theorem bulk_pos {H : Type} (d : DataW H) : 1 ≤ Rows.uptoBulk d := by
  cases d with
  | lit l => cases l <;> simp [Rows.uptoBulk]
  | _ => simp [Rows.uptoBulk]

theorem bulk_mem {H : Type} {d : DataW H} : ∀ {l : List (DataW H)}, d ∈ l → Rows.uptoBulk d ≤ Rows.uptoBulkAll l
  | x :: r, h => by
    rw [Rows.uptoBulkAll]
    rcases List.mem_cons.1 h with rfl | h
    · omega
    · have := bulk_mem h; omega

theorem bulk_count {H : Type} : ∀ l : List (DataW H), l.length ≤ Rows.uptoBulkAll l
  | [] => by simp
  | x :: r => by
    have := bulk_pos x
    have := bulk_count r
    rw [Rows.uptoBulkAll, List.length_cons]
    omega

theorem bulk_bound {H : Type} {l : List (DataW H)} (hk : Rows.uptoSmall H l = true) : Rows.uptoBulkAll l ≤ 1048576 := of_decide_eq_true hk

theorem bulk_string {H : Type} {l : List (DataW H)} {s : ByteArray} (hk : Rows.uptoSmall H l = true) (hm : DataW.lit (.string s.data.toList) ∈ l) : s.size ≤ 1048576 := by
  have h1 := bulk_bound hk
  have h2 := bulk_mem hm
  rw [Rows.uptoBulk] at h2
  have e : s.data.toList.length = s.size := by rw [Array.length_toList]; rfl
  omega

theorem bulk_row {H : Type} {l : List (DataW H)} {d : DataW H} {k : IntKind} {w : World} {a : Option Addr} {len cap : Nat} {zs : List Int} (hr : IsRow k w a len cap zs)
    (he : (zs = [] ∧ d = .nil) ∨ d = .slice (lits k (zs.take len)) (lits k (zs.drop len))) (hk : Rows.uptoSmall H l = true) (hm : d ∈ l) : cap ≤ 1048576 := by
  have h1 := bulk_bound hk
  have h2 := bulk_mem hm
  rcases hr with ⟨_, _, rfl, _⟩ | ⟨x, _, hlc, _, hz, _⟩
  · omega
  · rcases he with ⟨rfl, _⟩ | rfl
    · simp at hz; omega
    · rw [Rows.uptoBulk] at h2
      have c1 := bulk_count (lits (H := H) k (zs.take len))
      have c2 := bulk_count (lits (H := H) k (zs.drop len))
      have e1 : (lits (H := H) k (zs.take len)).length = min len zs.length := by unfold lits; rw [List.length_map, List.length_take]
      have e2 : (lits (H := H) k (zs.drop len)).length = zs.length - len := by unfold lits; rw [List.length_map, List.length_drop]
      omega

theorem reach_string {H : Type} {P : Program} {ts : List TypeId} {ds : List (DataW H)} (h : (DataW.weightsEach P ts ds).all (· ≤ reachBytes) = true) {j : Nat} {t : TypeId} {s : ByteArray}
    (ht : ts[j]? = some t) (hd : ds[j]? = some (.lit (.string s.data.toList))) : s.size ≤ 140737488351232 := by
  have h1 := sized_string h ht hd
  have e : s.data.toList.length = s.size := by rw [Array.length_toList]; rfl
  unfold reachBytes at h1
  omega

theorem reach_row {H : Type} {P : Program} {ts : List TypeId} {ds : List (DataW H)} {d : DataW H} {k : IntKind} {w : World} {a : Option Addr} {len cap : Nat} {zs : List Int} (hr : IsRow k w a len cap zs)
    (he : (zs = [] ∧ d = .nil) ∨ d = .slice (lits k (zs.take len)) (lits k (zs.drop len))) (h : (DataW.weightsEach P ts ds).all (· ≤ reachBytes) = true) {j : Nat} {t e : TypeId} {n : Nat}
    (ht : ts[j]? = some t) (hd : ds[j]? = some d) (hu : P.underlying t = some (.slice e)) (hb : P.bytesOf e = n) : cap * n ≤ 140737488351232 := by
  rcases hr with ⟨_, _, rfl, _⟩ | ⟨x, _, hlc, _, hz, _⟩
  · omega
  · rcases he with ⟨rfl, _⟩ | rfl
    · simp at hz; subst hz; omega
    · have h1 := sized_slice h ht hd hu
      have e1 : (lits (H := H) k (zs.take len)).length = min len zs.length := by unfold lits; rw [List.length_map, List.length_take]
      have e2 : (lits (H := H) k (zs.drop len)).length = zs.length - len := by unfold lits; rw [List.length_map, List.length_drop]
      rw [e1, e2, hb, show min len zs.length + (zs.length - len) = cap by omega] at h1
      unfold reachBytes at h1
      exact h1
end Go.Proofs.YtklmiabgalanhaaGreatDoor
