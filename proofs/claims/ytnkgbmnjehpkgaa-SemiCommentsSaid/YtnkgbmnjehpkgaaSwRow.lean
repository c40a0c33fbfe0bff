/- A row of bytes that the call owns grows: by bytes written out, by a text; is a byte 10 among the first? -/
import Derived.Test.YtnkgbmnjehpkgaaSwLaw
import Derived.Test.YtnkgbmnjehpkgaaSwCm
import Derived.Test.YtnkgbmnjehpkgaaGL
import Derived.Test.YtnkgbmnjehpkgaaGM
namespace Go.Proofs.Ytnkgbmnjehpkgaa
open Go.RowKit Em
set_option maxRecDepth 100000
set_option linter.unusedVariables false

theorem wpList_append_run {P : Program} {ops : Array Oper} {rest : List Oper} {o : Oper} {a : Act} {w : World} {Q : Exit → Act → World → Prop}
    (hg : o.guard = none) (d x : Operand) (dT sT : TypeId) (hop : o.op = Op.call { callee := Callee.builtin Builtin.append, args := #[d, x], argTypes := #[dT, sT] })
    {v u r : Value} {w' : World} (hd : a.eval d = v) (hx : a.eval x = u) (hrun : (Builtin.append_ #[dT, sT] o.type #[v, u]).run P w = .ok r w') (hK : wpList P ops Q rest (a.put o.dst r) w') :
    wpList P ops Q (o :: rest) a w := by
  refine wpList_plain hg fun K hK' => ?_
  unfold Oper.wp
  simp [execOp, hop, resolve, invoke, builtin, hd, hx, hrun, Result.andThen]
  exact hK' _ _ hK

theorem app_lit (w0 w : World) (B : Nat) (v : Value) (T : List UInt8) (X : List UInt8) (cs : List Value) (m : Nat) (hcs : cs = bCells X) (hm : X.length = m)
    (ho : w.ownsRow B 5 1 v T.length (bCells T)) (hlen : T.length + m ≤ 140737488355328) (hb : Below B w0 w) (hB : B ≤ w0.heap.size) :
    ∃ (x : Option Addr) (c : Nat) (w2 : World), (Builtin.append_ #[35, 35] 35 #[v, .slice (some ⟨w.heap.size, 0, none⟩) m m]).run Try.prog (w.alloc (.cells cs.toArray 5)) = .ok (.slice x (T.length + m) c) w2
      ∧ w2.ownsRow B 5 1 (.slice x (T ++ X).length c) (T ++ X).length (bCells (T ++ X)) ∧ Below B w0 w2 := by
  obtain ⟨i0, hi, hz0, hz1, hz2⟩ := info_parts info_u8
  have hbs : B ≤ w.heap.size := by have := hb.size; omega
  have hlt := ho.lt
  subst hm
  have hcl : cs.length = X.length := by rw [hcs, bCells_len]
  obtain ⟨v', w2, hrun, hown, hgrow, _⟩ := run_append_own (P := Try.prog) (w.alloc (.cells cs.toArray 5)) B 35 35 5 i0 (.int .u8 0) 1 1 Try.underlying35 hi hz0 hz1 hz2 rfl (by decide) v T.length (bCells T) (ho.alloc _) ⟨w.heap.size, 0, none⟩ X.length X.length cs
    (by rw [hcl, Nat.mul_one]) (fun j u hu => by
      have ea : (⟨w.heap.size, 0, none⟩ : Addr).add j = ⟨w.heap.size, j, none⟩ := by unfold Addr.add; split <;> simp_all
      have hh : (w.alloc (.cells cs.toArray 5)).heap[w.heap.size]? = some (.cells cs.toArray 5 (0, 0)) := heap_alloc_new w _
      rw [ea, cell_of_row _ w.heap.size j _ _ _ hh, List.getElem?_toArray]; exact hu)
    (fun u hu => by rw [hcs] at hu; unfold bCells at hu; obtain ⟨b, _, rfl⟩ := List.mem_map.1 hu; rfl) (by unfold maxLen; omega) (by omega) (by simp; omega)
  obtain ⟨x, c, rfl⟩ := own_slice hown
  rw [hcs, ← bCells_append] at hown
  refine ⟨x, c, w2, hrun, ?_, (hb.alloc hbs _).grown hgrow (by simp; omega) (fun q e => (hlt q e).1)⟩
  rw [List.length_append]; exact hown
theorem app_str (w0 w : World) (B : Nat) (v : Value) (T : List UInt8) (xs : ByteArray)
    (ho : w.ownsRow B 5 1 v T.length (bCells T)) (hlen : T.length + xs.size ≤ 140737488355328) (hb : Below B w0 w) (hB : B ≤ w0.heap.size) :
    ∃ (x : Option Addr) (c : Nat) (w2 : World), (Builtin.append_ #[35, 9] 35 #[v, .string xs]).run Try.prog w = .ok (.slice x (T ++ bl xs).length c) w2
      ∧ w2.ownsRow B 5 1 (.slice x (T ++ bl xs).length c) (T ++ bl xs).length (bCells (T ++ bl xs)) ∧ Below B w0 w2 := by
  obtain ⟨i0, hi, hz0, hz1, hz2⟩ := info_parts info_u8
  have hbs : B ≤ w.heap.size := by have := hb.size; omega
  have hlt := ho.lt
  obtain ⟨v', w2, hrun, hown, hgrow, _⟩ := Lib.run_append_own_string (P := Try.prog) w B 35 9 35 5 i0 Try.underlying35 Try.underlying9 hi hz0 hz1 hz2 v T.length (bCells T) ho xs (by unfold maxLen; omega) (by omega) hbs
  have hl : T.length + xs.size = (T ++ bl xs).length := by rw [List.length_append, bl_size]
  obtain ⟨x, c, rfl⟩ := own_slice hown
  rw [bCells_str, hl] at hown
  rw [hl] at hrun
  exact ⟨x, c, w2, hrun, hown, hb.grown hgrow hbs (fun q e => (hlt q e).1)⟩

theorem take_next (s : ByteArray) (k : Nat) (h : k < s.size) : ∃ c : UInt8, (bl s).take (k + 1) = (bl s).take k ++ [c] ∧ c.toNat = byN s k := by
  have hl : k < (bl s).length := by rw [bl_size]; exact h
  refine ⟨(bl s)[k], List.take_succ_eq_append_getElem hl, ?_⟩
  rw [← byN_get s k h]; rfl
/-- 10 or 32: is a byte 10 among the bytes? -/
def nlC (l : List UInt8) : Nat := if hasNL l = true then 10 else 32
theorem nlC_nil : nlC [] = 32 := rfl
theorem nlC_yes {s : ByteArray} {k : Nat} (h : k < s.size) (hb : byN s k = 10) : nlC ((bl s).take (k + 1)) = 10 := by
  obtain ⟨c, h1, h2⟩ := take_next s k h
  rw [h1]
  unfold nlC
  have : c = 10 := UInt8.toNat_inj.1 (by rw [h2, hb]; rfl)
  rw [hasNL_append, hasNL_cons, decide_eq_true this, Bool.true_or, Bool.or_true, if_pos rfl]
theorem nlC_no {s : ByteArray} {k : Nat} (h : k < s.size) (hb : byN s k ≠ 10) : nlC ((bl s).take (k + 1)) = nlC ((bl s).take k) := by
  obtain ⟨c, h1, h2⟩ := take_next s k h
  rw [h1]
  unfold nlC
  have : ¬ c = 10 := fun e => hb (by rw [← h2, e]; rfl)
  rw [hasNL_append, hasNL_cons, decide_eq_false this, Bool.false_or, show hasNL [] = false from rfl, Bool.or_false]
theorem nlC_cvD (l : List UInt8) : (cvD 12 l).toNat = nlC l := by
  unfold cvD nlC
  rw [if_neg (by decide)]
  split <;> rfl

/-! ### The text put together, so far -/
def cmL (s : ByteArray) (A : List Sc.Tk) (i : Nat) : List UInt8 := cv (tksOf s (A.take i))
theorem cmL_step (s : ByteArray) (A : List Sc.Tk) {i : Nat} (hi : i < A.length) : cmL s A (i + 1) = cmL s A i ++ cvT (nthT A i).k (cutT s (nthT A i).f (nthT A i).t) := by
  unfold cmL tksOf
  rw [take_succ A i hi, List.map_append]
  unfold cv
  rw [List.flatMap_append]
  simp
theorem cv_len : ∀ X : List (Nat × List UInt8), (∀ x ∈ X, x.2 ≠ []) → (cv X).length ≤ (cat X).length
  | [], _ => by simp [cv, cat]
  | (k, x) :: X, h => by
    have ih := cv_len X (fun y hy => h y (by simp [hy]))
    have hp := List.length_pos_iff.2 (h (k, x) (by simp))
    dsimp only at hp
    rw [cat_cons, cv_cons, List.length_append, List.length_append]
    unfold cvT
    split
    · simp only [List.length_singleton]; omega
    · omega
theorem cmL_len {s : ByteArray} (h : (allA s).2.1 = 0) (i : Nat) : (cmL s (allA s).1 i).length ≤ s.size := by
  obtain ⟨_, hcat⟩ := ch_all h
  have hal := alone_all h
  have h1 : (cmL s (allA s).1 i).length ≤ (cat (tksOf s ((allA s).1.take i))).length := cv_len _ (fun x hx => by
    have : x ∈ tksOf s (allA s).1 := by
      unfold tksOf at hx ⊢
      rw [List.map_take] at hx
      exact List.mem_of_mem_take hx
    exact (hal x this).ne)
  have h2 : cat (tksOf s (allA s).1) = cat (tksOf s ((allA s).1.take i)) ++ cat (tksOf s ((allA s).1.drop i)) := by
    have e : (allA s).1.take i ++ (allA s).1.drop i = (allA s).1 := List.take_append_drop i _
    have h3 : cat (tksOf s ((allA s).1.take i ++ (allA s).1.drop i)) = cat (tksOf s ((allA s).1.take i)) ++ cat (tksOf s ((allA s).1.drop i)) := by
      unfold cat tksOf; rw [List.map_append, List.flatMap_append]
    rwa [e] at h3
  rw [hcat] at h2
  have h3 := congrArg List.length h2
  rw [bl_size, List.length_append] at h3
  omega
end Go.Proofs.Ytnkgbmnjehpkgaa

