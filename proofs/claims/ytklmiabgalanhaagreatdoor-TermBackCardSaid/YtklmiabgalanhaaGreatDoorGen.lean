/- Rows that a call has made itself; two rows held against each other: what no layer names. -/
import Derived.Test.YtklmiabgalanhaaGreatDoorRows
import Derived.WalkKit
import Derived.WalkSpells
import Derived.WalkLawsBesides
import Derived.Outline
import Derived.Lib.Hide
import Derived.BigQuiet
import Derived.Below
import Derived.Deep.QuietTactic
import Derived.Deep.Cut
import Derived.Deep.CutRange
import Derived.Deep.RegionWith
import Derived.Deep.RegionHeld3
import Derived.Deep.AppendLies
import Derived.Deep.Slices
import Derived.Lib.SmallJoins
import Derived.Lib.OwnKind
import Derived.Test.YtklmiabgalanhaaGreatDoorKmMath
import Derived.Lib.JoinLaws
import Derived.Deep.OwnRows
namespace Go.Proofs.YtklmiabgalanhaaGreatDoor
open Go.RowKit Km
set_option maxRecDepth 100000
set_option linter.unusedVariables false

theorem below_drew {B : Nat} {w wr : World} (h : Below B w wr) : Below B w wr.drew := ⟨h.os, h.tape, h.output, h.size, fun i hi => h.block i hi⟩
theorem below_draw {B : Nat} {w wr : World} (h : Below B w wr) (n : Nat) : Below B w (wr.drewN n) := ⟨h.os, h.tape, h.output, h.size, fun i hi => h.block i hi⟩
section
variable {w : World} {base : Nat} {e : TypeId} {size : Nat} {g n cap : Nat} {xs : List Value}
theorem owns_cut (h : w.ownsRow base e size (.slice (some ⟨g, 0, none⟩) n cap) n xs) {m : Nat} (hm : m ≤ n) : w.ownsRow base e size (.slice (some ⟨g, 0, none⟩) m cap) m (xs.take (m * size)) := by
  obtain ⟨h1, h2⟩ := h
  have hms : m * size ≤ n * size := Nat.mul_le_mul_right _ hm
  refine ⟨by rw [List.length_take, h1]; omega, ?_⟩
  rcases h2 with ⟨hv, _⟩ | ⟨g', cap', cur, hv, a1, a2, a3, a4, a5, a6⟩
  · cases hv
  · injection hv with v1 v2 v3
    injection v1 with v1
    injection v1 with v1
    subst v1 v3
    exact .inr ⟨g, cap, cur, rfl, a1, a2, by omega, a4, a5, by rw [← a6, List.take_take, Nat.min_eq_left hms]⟩
theorem owns_set (h : w.ownsRow base e size (.slice (some ⟨g, 0, none⟩) n cap) n xs) (k : Nat) (u : Value) : (w.setCell ⟨g, k, none⟩ u).ownsRow base e size (.slice (some ⟨g, 0, none⟩) n cap) n (xs.set k u) := by
  obtain ⟨h1, h2⟩ := h
  refine ⟨by rw [List.length_set, h1], ?_⟩
  rcases h2 with ⟨hv, _⟩ | ⟨g', cap', cur, hv, a1, a2, a3, a4, a5, a6⟩
  · cases hv
  · injection hv with v1 v2 v3
    injection v1 with v1
    injection v1 with v1
    subst v1 v3
    exact .inr ⟨g, cap, cur.setIfInBounds k u, rfl, a1, heap_setCell_same w g k _ _ _ a2, a3, a4, by rw [Array.size_setIfInBounds]; exact a5, by rw [Array.toList_setIfInBounds, List.take_set, a6]⟩
theorem owns_far {v : Value} (h : w.ownsRow base e size v n xs) {p : Addr} (u : Value) (hp : v.ownBlock ≠ some p.block) : (w.setCell p u).ownsRow base e size v n xs := by
  refine ⟨h.1, ?_⟩
  rcases h.2 with hn | ⟨g', cap', cur, rfl, a1, a2, a3⟩
  · exact .inl hn
  · refine .inr ⟨g', cap', cur, rfl, a1, ?_, a3⟩
    exact (Below.heap_setCell w p u g' (fun e => hp (by rw [← e]; rfl))).trans a2
theorem owns_keep {v : Value} {w' : World} (h : w.ownsRow base e size v n xs) (hb : Below w.heap.size w w') : w'.ownsRow base e size v n xs :=
  h.kept (row := none) ⟨hb.os, hb.tape, hb.output, hb.size, fun k hk _ => hb.block k hk⟩ (by cases hv : v.ownBlock <;> simp)
theorem owns_free (h : w.ownsRow base e size (.slice (some ⟨g, 0, none⟩) n cap) n xs) (k : Nat) : w.frozen? ⟨g, k, none⟩ = false := by
  rcases h.2 with ⟨hv, _⟩ | ⟨g', cap', cur, hv, a1, a2, _⟩
  · cases hv
  · injection hv with v1 v2 v3
    injection v1 with v1
    injection v1 with v1
    subst v1
    exact frozen_of_row w g k _ _ a2
theorem owns_cell (h : w.ownsRow base e size (.slice (some ⟨g, 0, none⟩) n cap) n xs) {k : Nat} {u : Value} (hk : xs[k]? = some u) : w.cell? ⟨g, k, none⟩ = some u := by
  have := h.cells (g := g) rfl k u hk
  have ea : (⟨g, 0, none⟩ : Addr).add k = ⟨g, k, none⟩ := by unfold Addr.add; split <;> simp_all
  rwa [ea] at this
theorem owns_cap (h : w.ownsRow base e size (.slice (some ⟨g, 0, none⟩) n cap) n xs) : n ≤ cap ∧ base ≤ g ∧ g < w.heap.size := by
  rcases h.2 with ⟨hv, _⟩ | ⟨g', cap', cur, hv, a1, a2, a3, _⟩
  · cases hv
  · injection hv with v1 v2 v3
    injection v1 with v1
    injection v1 with v1
    subst v1 v3
    exact ⟨a3, a1, (Array.getElem?_eq_some_iff.1 a2).1⟩
theorem owns_le {v : Value} {b2 : Nat} (h : w.ownsRow base e size v n xs) (hb : b2 ≤ base) : w.ownsRow b2 e size v n xs := by
  refine ⟨h.1, ?_⟩
  rcases h.2 with hn | ⟨g', cap', cur, hv, a1, a2⟩
  · exact .inl hn
  · exact .inr ⟨g', cap', cur, hv, Nat.le_trans hb a1, a2⟩
/-- The form of such a slice. -/
theorem owns_form {v : Value} (h : w.ownsRow base e size v n xs) : ∃ (y : Option Addr) (c : Nat), v = .slice y n c ∧ (0 < n → ∃ g, y = some ⟨g, 0, none⟩) := by
  rcases h.2 with ⟨rfl, rfl⟩ | ⟨g, cap, cur, rfl, _⟩
  · exact ⟨none, 0, rfl, fun h => by omega⟩
  · exact ⟨_, _, rfl, fun _ => ⟨g, rfl⟩⟩
/-- Rows of two sorts lie in two blocks. -/
theorem owns_apart {e2 : TypeId} {base2 size2 n2 : Nat} {v v2 : Value} {ys : List Value} (h : w.ownsRow base e size v n xs) (h2 : w.ownsRow base2 e2 size2 v2 n2 ys) (hne : e ≠ e2) : ∀ g, v.ownBlock = some g → v2.ownBlock ≠ some g := by
  intro g hg hg2
  obtain ⟨c, fz, a⟩ := Lib.ownsRow_kind h g hg
  obtain ⟨c2, fz2, b⟩ := Lib.ownsRow_kind h2 g hg2
  rw [a] at b
  injection b with b
  injection b with b1 b2 b3
  exact hne b2
end

theorem wpList_app_run {P : Program} {ops : Array Oper} {rest : List Oper} {o : Oper} {a : Act} {w : World} {Q : Exit → Act → World → Prop}
    (hg : o.guard = none) (d x : Operand) (dT sT : TypeId) (hop : o.op = Op.call { callee := Callee.builtin Builtin.append, args := #[d, x], argTypes := #[dT, sT] })
    {v u r : Value} {w' : World} (hd : a.eval d = v) (hx : a.eval x = u) (hrun : (Builtin.append_ #[dT, sT] o.type #[v, u]).run P w = .ok r w') (hK : wpList P ops Q rest (a.put o.dst r) w') :
    wpList P ops Q (o :: rest) a w := by
  refine wpList_plain hg fun K hK' => ?_
  unfold Oper.wp
  simp [execOp, hop, resolve, invoke, builtin, hd, hx, hrun, Result.andThen]
  exact hK' _ _ hK

theorem ge_info_i64 : (Tryz.prog.info? 3).map (fun i => (i.zero, i.size, i.bytes)) = some (some (.int .i64 0), 1, 8) := by kernel_rfl

/-- Integers in a row. -/
def iRow (L : List Int) : List Value := L.map (Value.int .i64)
theorem iRow_len (L : List Int) : (iRow L).length = L.length := by simp [iRow]
theorem iRow_snoc (L : List Int) (k : Int) : iRow (L ++ [k]) = iRow L ++ [.int .i64 k] := by simp [iRow]
theorem iRow_get {L : List Int} {i : Nat} {v : Int} (h : L[i]? = some v) : (iRow L)[i]? = some (.int .i64 v) := by simp [iRow, h]
/-- One integer more on a row of the call's own. -/
theorem push_int {w : World} {B : Nat} {v : Value} {L : List Int} (h : w.ownsRow B 3 1 v L.length (iRow L)) (a : Int) (hl : (L.length + 1) * 8 ≤ 140737488355328) (hB : B ≤ w.heap.size) :
    ∃ (y : Option Addr) (c : Nat) (w2 : World), (Builtin.append_ #[31, 31] 31 #[v, .slice (some ⟨w.heap.size, 0, none⟩) 1 1]).run Tryz.prog (w.alloc (.cells #[.int .i64 a] 3)) = .ok (.slice y (L.length + 1) c) w2
      ∧ w2.ownsRow B 3 1 (.slice y (L.length + 1) c) (L ++ [a]).length (iRow (L ++ [a])) ∧ (w.alloc (.cells #[.int .i64 a] 3)).grownBy w2 v.ownBlock := by
  obtain ⟨i0, hi, hz0, hz1, hz2⟩ := info_parts ge_info_i64
  obtain ⟨v', w2, hrun, hown, hgrow, _⟩ := run_append_own (P := Tryz.prog) (w.alloc (.cells #[.int .i64 a] 3)) B 31 31 3 i0 (.int .i64 0) 1 8 Tryz.underlying31 hi hz0 hz1 hz2 rfl (by decide) v L.length (iRow L) (h.alloc _) ⟨w.heap.size, 0, none⟩ 1 1 [.int .i64 a]
    rfl (World.news_of_block (cs := #[.int .i64 a]) (t := 3) (fr := (0, 0)) (heap_alloc_new w _)) (by simp [Value.oneCell']) (by unfold maxLen; omega) (by omega) (by simp; omega)
  obtain ⟨y, c, rfl, _⟩ := owns_form hown
  refine ⟨y, c, w2, hrun, ?_, hgrow⟩
  rw [List.length_append, iRow_snoc]
  exact hown
def upd (q : Nat → Int) (k : Nat) (v : Int) : Nat → Int := fun j => if j = k then v else q j
theorem upd_same (q : Nat → Int) (k : Nat) (v : Int) : upd q k v k = v := if_pos rfl
theorem upd_far (q : Nat → Int) {k j : Nat} (v : Int) (h : j ≠ k) : upd q k v j = q j := if_neg h
/-- So many integers in a block. -/
def RI (w : World) (g : Nat) (ty : TypeId) (n : Nat) (q : Nat → Int) : Prop := ∃ cs : Array Value, w.heap[g]? = some (.cells cs ty (0, 0)) ∧ cs.size = n ∧ ∀ k, k < n → cs[k]? = some (.int .i64 (q k))
theorem RI.lt {w : World} {g : Nat} {ty : TypeId} {n : Nat} {q : Nat → Int} (h : RI w g ty n q) : g < w.heap.size := by
  obtain ⟨cs, h1, _⟩ := h; exact (Array.getElem?_eq_some_iff.1 h1).1
theorem RI.cell {w : World} {g : Nat} {ty : TypeId} {n : Nat} {q : Nat → Int} (h : RI w g ty n q) {k : Nat} (hk : k < n) : w.cell? ⟨g, k, none⟩ = some (.int .i64 (q k)) := by
  obtain ⟨cs, h1, _, h3⟩ := h
  rw [cell_of_row w g k _ _ _ h1]; exact h3 k hk
theorem RI.free {w : World} {g : Nat} {ty : TypeId} {n : Nat} {q : Nat → Int} (h : RI w g ty n q) (k : Nat) : w.frozen? ⟨g, k, none⟩ = false := by
  obtain ⟨cs, h1, _⟩ := h; exact frozen_of_row w g k _ _ h1
theorem RI.set {w : World} {g : Nat} {ty : TypeId} {n : Nat} {q : Nat → Int} (h : RI w g ty n q) (k : Nat) (v : Int) : RI (w.setCell ⟨g, k, none⟩ (.int .i64 v)) g ty n (upd q k v) := by
  obtain ⟨cs, h1, h2, h3⟩ := h
  refine ⟨cs.setIfInBounds k (.int .i64 v), heap_setCell_same w g k _ _ _ h1, by simpa using h2, fun j hj => ?_⟩
  rw [Array.getElem?_setIfInBounds]
  by_cases e : k = j
  · subst e; rw [if_pos rfl, if_pos (by omega), upd_same]
  · rw [if_neg e, upd_far _ _ (fun h => e h.symm)]; exact h3 j hj
theorem RI.far {w : World} {g : Nat} {ty : TypeId} {n : Nat} {q : Nat → Int} (h : RI w g ty n q) {p : Addr} (hp : g ≠ p.block) (v : Value) : RI (w.setCell p v) g ty n q := by
  obtain ⟨cs, h1, h2⟩ := h; exact ⟨cs, (Below.heap_setCell w p v g hp).trans h1, h2⟩
theorem RI.alloc {w : World} {g : Nat} {ty : TypeId} {n : Nat} {q : Nat → Int} (h : RI w g ty n q) (o : Obj) : RI (w.alloc o) g ty n q := by
  have hl := h.lt
  obtain ⟨cs, h1, h2⟩ := h; exact ⟨cs, (heap_alloc_old w o hl).trans h1, h2⟩
theorem RI.keep {w w' : World} {g : Nat} {ty : TypeId} {n : Nat} {q : Nat → Int} (h : RI w g ty n q) (hb : Below w.heap.size w w') : RI w' g ty n q := by
  have hl := h.lt
  obtain ⟨cs, h1, h2⟩ := h; exact ⟨cs, (hb.block g hl).trans h1, h2⟩
theorem RI.draw {w : World} {g : Nat} {ty : TypeId} {n : Nat} {q : Nat → Int} (h : RI w g ty n q) (d : Nat) : RI (w.drewN d) g ty n q := h
theorem RI.cong {w : World} {g : Nat} {ty : TypeId} {n : Nat} {q q' : Nat → Int} (h : RI w g ty n q) (hq : ∀ k, k < n → q k = q' k) : RI w g ty n q' := by
  obtain ⟨cs, h1, h2, h3⟩ := h; exact ⟨cs, h1, h2, fun k hk => by rw [← hq k hk]; exact h3 k hk⟩
theorem wrap_pred (k : Nat) (h : k ≤ 4611686018427387904) : IntKind.i64.wrap ((k : Int) + 1 - 1) = (k : Int) := by rw [IntKind.wrap_i64]; omega
theorem wrap_nat (k : Nat) (h : k ≤ 4611686018427387904) : wrap64 (k : Int) = (k : Int) := by unfold wrap64; omega
set_option maxHeartbeats 2000000 in
/-- Rows of the same integers are the same. -/
theorem ints_same (x y : Option Addr) (cx cy : Nat) (S : List Int) (bx bY : Nat) (w : World) (hx : w.ownsRow bx 3 1 (.slice x S.length cx) S.length (iRow S)) (hy : w.ownsRow bY 3 1 (.slice y S.length cy) S.length (iRow S)) (hn : S.length ≤ 4611686018427387904) :
    Calls Tryz.prog 22 #[.slice x S.length cx, .slice y S.length cy] w fun e w' => e = .returned (.bool true) ∧ ∃ d, w' = w.drewN d := by
  have hc : ∀ {z : Option Addr} {cz bz : Nat}, w.ownsRow bz 3 1 (.slice z S.length cz) S.length (iRow S) → ∀ i, (hi : i < S.length) → ∃ g, z = some ⟨g, 0, none⟩ ∧ w.cell? ⟨g, i, none⟩ = some (.int .i64 (S.getD i 0)) := by
    intro z cz bz h i hi
    rcases h.2 with ⟨hv, h0⟩ | ⟨g, cap, cur, hv, _⟩
    · omega
    · injection hv with v1 v2 v3
      subst v1
      exact ⟨g, rfl, owns_cell h (iRow_get (by rw [List.getElem?_eq_getElem hi]; simp [hi]))⟩
  have Hx := Lib.hid (hc hx)
  have Hy := Lib.hid (hc hy)
  clear hx hy hc
  generalize hN : S.length = n at *
  go_enter Tryz.func22, Tryz.ntmps22
  go_wp2
  go_loopw [5] (fun iv wr => ∃ i d : Nat, i ≤ n ∧ iv = .int .i64 i ∧ wr = w.drewN d) (fun iv _ => n - (intOf iv).toNat)
  case atStart => exact ⟨0, 0, by omega, rfl, rfl⟩
  case round =>
    obtain ⟨i, d, hi, rfl, rfl⟩ := hrel
    by_cases hlt : i < n
    · obtain ⟨g, rfl, d0⟩ := Hx.out i (by omega)
      obtain ⟨g2, rfl, e0⟩ := Hy.out i (by omega)
      generalize S.getD i 0 = V at d0 e0
      have b0 : (0 : Int) ≤ (i : Int) := by omega
      have b1 : (i : Int) < (n : Int) := by omega
      have v1 : ((V : Int) == V) = true := beq_self_eq_true _
      have v2 : ((V : Int) != V) = false := by rw [bne, v1]; rfl
      go_wp2
      go_quiet (fail)
      go_wp2
      go_roundw
      case rel => exact ⟨i + 1, _, by omega, by go_num, rfl⟩
      case measure => simp [intOf]; omega
    · have b1 : ¬ (i : Int) < (n : Int) := by omega
      go_wp2
      go_ret
      exact ⟨rfl, d, rfl⟩

def endV (o : Option Nat) : Int := match o with | some e => (e : Int) | none => -1
def lenV : Value → Nat
  | .slice _ n _ => n
  | _ => 0
end Go.Proofs.YtklmiabgalanhaaGreatDoor
