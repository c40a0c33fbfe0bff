/- Contract of the closure of span.Apply that puts pieces behind what is there. -/
import Derived.Test.YtckioinjgdjohaaEdTrims
import Derived.Lib.BufferWrite
import Derived.Lib.SlBytesRow
import Derived.Deep.OwnRows
import Derived.Deep.RegionLaw
namespace Go.Proofs.Ytckioinjgdjohaa
open Go.RowKit Em

theorem step_copy_run {P : Program} {ops : Array Oper} {o : Oper} {a : Act} {w : World} {K : Act → World → Prop} {Q : Exit → Act → World → Prop} {E : Prop}
    (hg : o.guard = none) (d x : Operand) (dT sT : TypeId) (hop : o.op = Op.call { callee := Callee.builtin Builtin.copy, args := #[d, x], argTypes := #[dT, sT] })
    {v u r : Value} {w' : World} (hd : a.eval d = v) (hx : a.eval x = u) (hrun : (Builtin.copy_ #[dT, sT] o.type #[v, u]).run P w = .ok r w') (hK : K (a.put o.dst r) w') :
    if Region.wanted o (yielded ops a.tmps) = true then Oper.wp P o a w K Q else E := by
  have hw : Region.wanted o (yielded ops a.tmps) = true := by simp [Region.wanted, hg]
  rw [if_pos hw]
  unfold Oper.wp
  simp [execOp, hop, resolve, invoke, builtin, hd, hx, hrun, Result.andThen]
  exact hK

/-- The three blocks of Apply: the made bytes, with P at their head; where the next one goes; the slice. -/
structure Made (w : World) (ge gm g n : Nat) (P : List UInt8) : Prop where
  e : w.heap[ge]? = some (.cells #[.int .i64 P.length] 3 (0, 0))
  m : w.heap[gm]? = some (.cells #[.slice (some ⟨g, 0, none⟩) n n] 43 (0, 0))
  r : ∃ cur, w.heap[g]? = some (.cells cur 5 (0, 0)) ∧ cur.size = n ∧ cur.toList.take P.length = Lib.byteCells P
  d1 : ge ≠ gm
  d2 : ge ≠ g
  d3 : gm ≠ g

theorem Made.keep {w w' : World} {ge gm g n : Nat} {P : List UInt8} (h : Made w ge gm g n P) (hb : Below w.heap.size w w') : Made w' ge gm g n P := by
  obtain ⟨h1, h2, ⟨cur, h3, h4⟩, h5, h6, h7⟩ := h
  have k := fun (j : Nat) o (hj : w.heap[j]? = some o) => (hb.block j (Array.getElem?_eq_some_iff.1 hj).1).trans hj
  exact ⟨k _ _ h1, k _ _ h2, ⟨cur, k _ _ h3, h4⟩, h5, h6, h7⟩

theorem byteCells_append (a b : List UInt8) : Lib.byteCells (a ++ b) = Lib.byteCells a ++ Lib.byteCells b := by simp [Lib.byteCells]

theorem setRow_far (w : World) (g j : Nat) (cs : Array Value) (h : j ≠ g) : (w.setRow g cs).heap[j]? = w.heap[j]? := by
  simp only [World.setRow, Array.getElem?_modify]
  rw [if_neg (fun e => h e.symm)]

/-- The copy's run. -/
theorem put_run {w : World} {ge gm g n : Nat} {P : List UInt8} (h : Made w ge gm g n P) (s : ByteArray) (hfit : P.length + s.size ≤ n) :
    ∃ w', (Builtin.copy_ #[43, 9] 3 #[.slice (if n = P.length then some ⟨g, 0, none⟩ else some ⟨g, P.length, none⟩) (n - P.length) (n - P.length), .string s]).run Try.prog w = .ok (.int .i64 s.size) w' ∧
      w'.heap[ge]? = some (.cells #[.int .i64 P.length] 3 (0, 0)) ∧ w'.heap[gm]? = some (.cells #[.slice (some ⟨g, 0, none⟩) n n] 43 (0, 0)) ∧
      (∃ cur, w'.heap[g]? = some (.cells cur 5 (0, 0)) ∧ cur.size = n ∧ cur.toList.take (P.length + s.size) = Lib.byteCells (P ++ bl s)) ∧
      w'.heap.size = w.heap.size ∧ (∀ B, B ≤ g → Below B w w') ∧ ∀ j, j ≠ g → w'.heap[j]? = w.heap[j]? := by
  obtain ⟨h1, h2, ⟨cur, h3, h4, h5⟩, h6, h7, h8⟩ := h
  have hcl : cur.toList.length = n := by rw [Array.length_toList]; exact h4
  by_cases h0 : s.size = 0
  · have hr := Lib.run_copy_empty_string (P := Try.prog) w 43 9 3 5 (if n = P.length then some ⟨g, 0, none⟩ else some ⟨g, P.length, none⟩) (n - P.length) (n - P.length) s Try.underlying43 (by kernel_rfl) h0
    refine ⟨w, by rw [hr, h0]; rfl, h1, h2, ⟨cur, h3, h4, ?_⟩, rfl, fun B _ => Below.refl _ _, fun _ _ => rfl⟩
    have : bl s = [] := List.eq_nil_of_length_eq_zero (by rw [bl_size]; exact h0)
    rw [h0, this, List.append_nil, Nat.add_zero]; exact h5
  · rw [if_neg (by omega)]
    have hr := Lib.run_copy_row_string (P := Try.prog) w 43 9 3 5 g P.length (n - P.length) (n - P.length) s cur 5 Try.underlying43 (by kernel_rfl) h3 (by omega) (by omega)
    have hbl : (Lib.byteCells s.data.toList).length = s.size := by rw [Lib.byteCells_length, ← Lib.size_eq]
    refine ⟨_, hr, ?_, ?_, ⟨_, setRow_heap w g _ _ _ _ h3, ?_, ?_⟩, by simp, fun B hB => ⟨rfl, rfl, rfl, by simp, fun k hk => setRow_far w g k _ (by omega)⟩, fun j hj => setRow_far w g j _ hj⟩
    · rw [setRow_far w g ge _ h7]; exact h1
    · rw [setRow_far w g gm _ h8]; exact h2
    · simp only [List.size_toArray, List.length_append, List.length_take, List.length_drop, hbl, hcl]; omega
    · show ((cur.toList.take P.length ++ Lib.byteCells s.data.toList) ++ _).take _ = _
      rw [List.take_left' (by rw [List.length_append, List.length_take, hbl, hcl]; omega), h5, byteCells_append]; rfl

set_option maxRecDepth 100000 in
set_option maxHeartbeats 4000000 in
theorem put_any (ge gm g n : Nat) (P : List UInt8) (s : ByteArray) (w : World) (h : Made w ge gm g n P) (hfit : P.length + s.size ≤ n) (hn : n ≤ 4611686018427387904) :
    Calls Try.prog 28 #[.string s, .pointer (some ⟨ge, 0, none⟩), .pointer (some ⟨gm, 0, none⟩)] w fun e w' => e = .returned (.tuple #[]) ∧ Made w' ge gm g n (P ++ bl s) ∧ (∀ B, B ≤ ge → B ≤ g → Below B w w') ∧ ∀ j, j ≠ ge → j ≠ g → w'.heap[j]? = w.heap[j]? := by
  have hd : Made w.drew ge gm g n P := ⟨h.e, h.m, h.r, h.d1, h.d2, h.d3⟩
  have c0 : w.cell? ⟨ge, 0, none⟩ = some (.int .i64 P.length) := by rw [cell_of_row w ge 0 _ _ _ h.e]; rfl
  have c1 : w.cell? ⟨gm, 0, none⟩ = some (.slice (some ⟨g, 0, none⟩) n n) := by rw [cell_of_row w gm 0 _ _ _ h.m]; rfl
  have hw1 : IntKind.i64.wrap ((P.length : Int) + (s.size : Int)) = (P.length : Int) + (s.size : Int) := IntWalk.i64_in _ (by omega)
  have b0 : (0 : Int) ≤ (P.length : Int) := by omega
  have b1 : (P.length : Int) ≤ (n : Int) := by omega
  obtain ⟨W, hrun, q1, q2, q3, q4, q5, q6⟩ := put_run hd s hfit
  have k0 : W.cell? ⟨ge, 0, none⟩ = some (.int .i64 P.length) := by rw [cell_of_row W ge 0 _ _ _ q1]; rfl
  have k1 : W.cell? ⟨gm, 0, none⟩ = some (.slice (some ⟨g, 0, none⟩) n n) := by rw [cell_of_row W gm 0 _ _ _ q2]; rfl
  have k2 : W.frozen? ⟨ge, 0, none⟩ = false := frozen_of_row W ge 0 _ _ q1
  have hfin : Made (W.setCell ⟨ge, 0, none⟩ (.int .i64 ((P.length : Int) + (s.size : Int)))) ge gm g n (P ++ bl s) := by
    refine ⟨?_, ?_, ?_, h.d1, h.d2, h.d3⟩
    · have := heap_setCell_same W ge 0 _ _ (.int .i64 ((P.length : Int) + (s.size : Int))) q1
      rw [this]
      simp [bl_size]
    · rw [Below.heap_setCell _ _ _ _ (fun e => h.d1 e.symm)]; exact q2
    · rw [Below.heap_setCell _ _ _ _ (fun e => h.d2 e.symm), List.length_append, bl_size]; exact q3
  have Hfin := Lib.hid hfin
  have hbel : ∀ B, B ≤ ge → B ≤ g → Below B w (W.setCell ⟨ge, 0, none⟩ (.int .i64 ((P.length : Int) + (s.size : Int)))) := fun B x1 x3 => ((below_drew (Below.refl B w)).trans (q5 B x3)).setCell x1 _
  have Hbel := Lib.hid hbel
  have hfar : ∀ j, j ≠ ge → j ≠ g → (W.setCell ⟨ge, 0, none⟩ (.int .i64 ((P.length : Int) + (s.size : Int)))).heap[j]? = w.heap[j]? := fun j x1 x2 => (Below.heap_setCell _ _ _ _ x1).trans (q6 j x2)
  have Hfar := Lib.hid hfar
  have Hrun := Lib.hid hrun
  clear hd h hfin hbel hfar hrun q1 q2 q3 q4 q5 q6
  go_enter Try.func28, Try.ntmps28
  go_wp2_with fail
  go_region_law ((refine step_copy_run rfl _ _ _ _ (by rfl) (by rfl) (by rfl) Hrun.out ?_))
  all_goals (go_wp2; all_goals (go_end0; first | exact ⟨rfl, Hfin.out, Hbel.out, Hfar.out⟩ | (have en : n = P.length := (by assumption); have hf := Hfin.out; rw [en] at hf; exact ⟨rfl, hf, Hbel.out, Hfar.out⟩)))
end Go.Proofs.Ytckioinjgdjohaa
