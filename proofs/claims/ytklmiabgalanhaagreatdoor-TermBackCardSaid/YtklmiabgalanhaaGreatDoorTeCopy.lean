/- 'copy' of elements of several cells into a row that is known whole. -/
import Derived.Test.YtklmiabgalanhaaGreatDoorTeBk
import Derived.Laws.CopyOwn
namespace Go.Proofs.YtklmiabgalanhaaGreatDoor
open Go.RowKit Km
set_option maxRecDepth 100000
set_option linter.unusedVariables false

theorem run_copyK {P : Program} (w : World) (dT sT ty elem : TypeId) (k g off dLen dCap sLen sCap m : Nat) (dp sp : Option Addr) (cur cs : List Value) (t : TypeId)
    (hu : P.underlying dT = some (.slice elem)) (hs : (P.info? elem).map (·.size) = some k) (hg : w.heap[g]? = some (.cells cur.toArray t (0, 0))) (hm : Nat.min sLen dLen = m) (hl : cs.length = m * k)
    (hpos : 0 < m → dp = some ⟨g, off, none⟩ ∧ ∃ b : Addr, sp = some b ∧ ∀ j v, cs[j]? = some v → w.cell? (b.add j) = some v) (hfit : off + cs.length ≤ cur.length) (h1 : ∀ v ∈ cs, v.oneCell' = true) :
    ∃ w', (Builtin.copy_ #[dT, sT] ty #[.slice dp dLen dCap, .slice sp sLen sCap]).run P w = .ok (goInt m) w' ∧ w'.heap[g]? = some (.cells (splice cur off cs).toArray t (0, 0)) ∧ Below g w w' ∧ (∀ b, b ≠ g → w'.heap[b]? = w.heap[b]?) := by
  cases hq : P.info? elem with
  | none => simp [hq] at hs
  | some i =>
    have hi : i.size = k := by simpa [hq] using hs
    rcases Nat.eq_zero_or_pos m with h0 | h0
    · subst h0
      have hcs : cs = [] := List.eq_nil_of_length_eq_zero (by omega)
      subst hcs
      have hll : ∀ (x : Addr), (loadCells x 0).run P w = .ok #[] w := fun x => by simpa using run_loadCells_list (P := P) w x [] (by simp)
      refine ⟨w, ?_, ?_, ⟨rfl, rfl, rfl, Nat.le_refl _, fun _ _ => rfl⟩, fun _ _ => rfl⟩
      · cases dp <;> cases sp <;> simp [Builtin.copy_, run_underlying hu, Builtin.lenOf, Builtin.firstCells, sizeOf, typeInfo, hq, hm, storeCells, hll]
      · rw [hg]; simp [splice]
    · obtain ⟨rfl, b, rfl, hsrc⟩ := hpos h0
      have hf := run_firstCells_some (P := P) w k m b sLen sCap cs hl hsrc
      have hst := run_storeCells_at P g off t cs 0 cur.toArray w hg (by simpa using hfit) h1
      simp only [Nat.add_zero] at hst
      refine ⟨w.setRow g (splice cur off cs).toArray, ?_, ?_, below_setRow (Below.refl g w) (Nat.le_refl _) _, fun b' hb' => ?_⟩
      · simp [Builtin.copy_, run_underlying hu, Builtin.lenOf, sizeOf, typeInfo, hq, hi, hm, hf, hst, splice]
      · exact setRow_heap w g _ _ t _ hg
      · simp [World.setRow, Array.getElem?_modify, hb'.symm]
theorem wpList_copyK {P : Program} {w : World} {ops : Array Oper} {rest : List Oper} {o : Oper} {a : Act} {Q : Exit → Act → World → Prop} (hgd : o.guard = none) (d s : Operand) (dT sT : TypeId)
    (ho : o.op = .call { callee := .builtin .copy, args := #[d, s], argTypes := #[dT, sT] }) (elem : TypeId) (k g off m : Nat) (hu : P.underlying dT = some (.slice elem)) (hsz : (P.info? elem).map (·.size) = some k)
    (dp sp : Option Addr) (dLen dCap sLen sCap : Nat) (cur cs : List Value) (t : TypeId) (hd : a.eval d = .slice dp dLen dCap) (hs : a.eval s = .slice sp sLen sCap)
    (hg : w.heap[g]? = some (.cells cur.toArray t (0, 0))) (hm : Nat.min sLen dLen = m) (hl : cs.length = m * k)
    (hpos : 0 < m → dp = some ⟨g, off, none⟩ ∧ ∃ b : Addr, sp = some b ∧ ∀ j v, cs[j]? = some v → w.cell? (b.add j) = some v) (hfit : off + cs.length ≤ cur.length) (h1 : ∀ v ∈ cs, v.oneCell' = true)
    (h : ∀ w', Hid (w'.heap[g]? = some (.cells (splice cur off cs).toArray t (0, 0))) → Hid (Below g w w') → wpList P ops Q rest (a.put o.dst (goInt m)) w') : wpList P ops Q (o :: rest) a w := by
  obtain ⟨w', hrun, hr, hb, _⟩ := run_copyK (P := P) w dT sT o.type elem k g off dLen dCap sLen sCap m dp sp cur cs t hu hsz hg hm hl hpos hfit h1
  refine wpList_plain hgd fun K hK => ?_
  unfold Oper.wp
  simp [execOp, ho, resolve, invoke, builtin, hd, hs, hrun, Result.andThen]
  exact hK _ _ (h w' (Lib.hid hr) (Lib.hid hb))

/-- The cells of parts. -/
def pCells (L : List Pt) : List Value := L.flatMap fun p => [.int .u8 (p.k : Int), .int .i64 p.c, .string p.x]
theorem pCells_len : ∀ (L : List Pt), (pCells L).length = L.length * 3
  | [] => rfl
  | p :: r => by unfold pCells; rw [List.flatMap_cons, List.length_append]; have := pCells_len r; unfold pCells at this; rw [this, List.length_cons]; simp; omega
theorem pCells_append (A B : List Pt) : pCells (A ++ B) = pCells A ++ pCells B := by unfold pCells; exact List.flatMap_append ..
theorem pCells_one (L : List Pt) : ∀ v ∈ pCells L, v.oneCell' = true := by
  intro v hv
  unfold pCells at hv
  rw [List.mem_flatMap] at hv
  obtain ⟨p, _, hp⟩ := hv
  simp at hp
  rcases hp with rfl | rfl | rfl <;> rfl
theorem pCells_get : ∀ (L : List Pt) (i : Nat), i < L.length → (pCells L)[i * 3]? = some (.int .u8 ((nthP L i).k : Int)) ∧ (pCells L)[i * 3 + 1]? = some (.int .i64 (nthP L i).c) ∧ (pCells L)[i * 3 + 2]? = some (.string (nthP L i).x)
  | [], i, h => by simp at h
  | p :: r, 0, _ => ⟨rfl, rfl, rfl⟩
  | p :: r, i + 1, h => by
    have ih := pCells_get r i (by simpa using h)
    have e : pCells (p :: r) = [.int .u8 (p.k : Int), .int .i64 p.c, .string p.x] ++ pCells r := rfl
    have en : nthP (p :: r) (i + 1) = nthP r i := rfl
    rw [e, en]
    refine ⟨?_, ?_, ?_⟩
    · rw [List.getElem?_append_right (by simp; omega)]; simpa [Nat.add_mul] using ih.1
    · rw [List.getElem?_append_right (by simp; omega), show (i + 1) * 3 + 1 - [Value.int .u8 (p.k : Int), .int .i64 p.c, .string p.x].length = i * 3 + 1 by simp; omega]; exact ih.2.1
    · rw [List.getElem?_append_right (by simp; omega), show (i + 1) * 3 + 2 - [Value.int .u8 (p.k : Int), .int .i64 p.c, .string p.x].length = i * 3 + 2 by simp; omega]; exact ih.2.2
/-- A row of parts that is known whole. -/
theorem ptI_of_row {w : World} {g : Nat} {L : List Pt} {t : TypeId} (h : w.heap[g]? = some (.cells (pCells L).toArray t (0, 0))) : PtI w (some ⟨g, 0, none⟩) L := by
  intro hn
  refine ⟨g, 0, rfl, (Array.getElem?_eq_some_iff.1 h).1, fun i hi => ?_⟩
  obtain ⟨a0, a1, a2⟩ := pCells_get L i hi
  rw [Nat.zero_add]
  refine ⟨?_, ?_, ?_⟩
  · rw [cell_of_row w g _ _ _ _ h]; simpa using a0
  · rw [cell_of_row w g _ _ _ _ h]; simpa using a1
  · rw [cell_of_row w g _ _ _ _ h]; simpa using a2
/-- The cells of a cut of parts that are read. -/
theorem cells_of_ptI {w : World} {g o : Nat} {L : List Pt} (h : ∀ i, i < L.length → At3 w g (o + i * 3) (nthP L i)) (f t : Nat) (ht : t ≤ L.length) (hft : f ≤ t) : ∀ j v, (pCells ((L.take t).drop f))[j]? = some v → w.cell? ((⟨g, o + f * 3, none⟩ : Addr).add j) = some v := by
  intro j v hv
  have hlen : ((L.take t).drop f).length = t - f := by rw [List.length_drop, List.length_take]; omega
  have hj : j < (t - f) * 3 := by
    have := (List.getElem?_eq_some_iff.1 hv).1
    rw [pCells_len, hlen] at this; exact this
  have hi : j / 3 < t - f := by omega
  obtain ⟨a0, a1, a2⟩ := pCells_get _ (j / 3) (by rw [hlen]; exact hi)
  have hn : nthP ((L.take t).drop f) (j / 3) = nthP L (f + j / 3) := by
    unfold nthP
    simp only [List.getD_eq_getElem?_getD, List.getElem?_drop, List.getElem?_take]
    rw [if_pos (by omega)]
  rw [hn] at a0 a1 a2
  obtain ⟨b0, b1, b2⟩ := h (f + j / 3) (by omega)
  have ea : (⟨g, o + f * 3, none⟩ : Addr).add j = ⟨g, o + f * 3 + j, none⟩ := by unfold Addr.add; split <;> simp_all
  rw [ea]
  have hm : j % 3 = 0 ∨ j % 3 = 1 ∨ j % 3 = 2 := by omega
  rcases hm with hm | hm | hm
  · rw [show j = j / 3 * 3 by omega, a0] at hv
    rw [← hv, ← b0]; congr 2; omega
  · rw [show j = j / 3 * 3 + 1 by omega, a1] at hv
    rw [← hv, ← b1]; congr 2; omega
  · rw [show j = j / 3 * 3 + 2 by omega, a2] at hv
    rw [← hv, ← b2]; congr 2; omega
end Go.Proofs.YtklmiabgalanhaaGreatDoor
