/- Contracts of runes.All and of the reference's All. -/
import Derived.Test.YtlmhcjomegiibaaBad
import Derived.WalkSmall
namespace Go.Proofs.Ytlmhcjomegiibaa
open Go.RowKit

def cells (k : IntKind) (l : List Nat) : List Value := l.map fun c : Nat => Value.int k (c : Int)
theorem cells_len (k : IntKind) (l : List Nat) : (cells k l).length = l.length := by simp [cells]
theorem cells_snoc (k : IntKind) (l : List Nat) (c : Nat) : cells k (l ++ [c]) = cells k l ++ [.int k (c : Int)] := by simp [cells]

theorem info_i32 : (Try.prog.info? 21).map (fun i => (i.zero, i.size, i.bytes)) = some (some (.int .i32 0), 1, 4) := by kernel_rfl
theorem info_i64 : (Try.prog.info? 2).map (fun i => (i.zero, i.size, i.bytes)) = some (some (.int .i64 0), 1, 8) := by kernel_rfl

theorem one_cell {w : World} {v : Value} {t : TypeId} : ∀ j u, ([v] : List Value)[j]? = some u → (w.alloc (.cells #[v] t)).cell? ((⟨w.heap.size, 0, none⟩ : Addr).add j) = some u := by
  intro j u hj
  match j, hj with
  | 0, hj => simp at hj; subst hj; simp [Addr.add]

theorem grown_iter {w w' : World} {row : Option Nat} (h : w.grownBy w' row) {k : Nat} {s : ByteArray} {p : Nat} (hk : w.heap[k]? = some (.stringIter s p)) (hne : some k ≠ row) : w'.heap[k]? = some (.stringIter s p) :=
  (h.block k (Array.getElem?_eq_some_iff.1 hk).1 hne).trans hk

theorem alloc_iter {w : World} {k : Nat} {s : ByteArray} {p : Nat} (hk : w.heap[k]? = some (.stringIter s p)) (o : Obj) : (w.alloc o).heap[k]? = some (.stringIter s p) :=
  (Below.heap_alloc w o k (Array.getElem?_eq_some_iff.1 hk).1).trans hk

theorem owns_weaken {w : World} {base base' : Nat} {e : TypeId} {size : Nat} {v : Value} {n : Nat} {xs : List Value} (h : w.ownsRow base e size v n xs) (hb : base' ≤ base) : w.ownsRow base' e size v n xs := by
  refine ⟨h.1, ?_⟩
  rcases h.2 with h2 | ⟨g, cap, cur, a, b, c⟩
  · exact .inl h2
  · exact .inr ⟨g, cap, cur, a, by omega, c⟩

/-- Behind a step of the iterator and a new block: what is owned is owned. -/
theorem allC_of {s : ByteArray} {f pos : Nat} {acc : List Nat} (hp : ¬ pos < s.size) (hbad : Um.badP s f pos = Um.badP s s.size 0) (hch : acc ++ Um.chs s f pos = Um.chs s s.size 0) : Um.allC s = acc ∧ Um.allB s = true := by
  rw [Um.badP_end hp] at hbad
  rw [Um.chs_end hp, List.append_nil] at hch
  unfold Um.allC Um.allB
  rw [← hbad, if_pos rfl, ← hch]
  exact ⟨rfl, decide_eq_true rfl⟩

theorem allB_of {s : ByteArray} {f pos : Nat} (hp : pos < s.size) (hk : Um.okAt s pos = false) (hbad : Um.badP s (f + 1) pos = Um.badP s s.size 0) : Um.allC s = [] ∧ Um.allB s = false := by
  rw [Um.badP_bad hp hk] at hbad
  unfold Um.allC Um.allB
  rw [← hbad]
  exact ⟨if_neg (by simp), decide_eq_false (by simp)⟩

set_option maxHeartbeats 2000000 in
theorem all_any (s : ByteArray) (w : World) (hs : s.size ≤ 17592186044416) :
    Calls Try.prog 21 #[.string s] w fun e w' => ∃ v, e = .returned (.tuple #[v, .bool (Um.allB s)]) ∧ w'.ownsRow w.heap.size 21 1 v (Um.allC s).length (cells .i32 (Um.allC s)) ∧ Below w.heap.size w w' := by
  obtain ⟨i0, hi, hz0, hz1, hz2⟩ := info_parts info_i32
  have hb0 : Below w.heap.size w (w.iter s 0) := (Below.refl _ _).alloc (Nat.le_refl _) _
  have hk0 := World.iter_heap w s 0
  go_enter Try.func21, Try.ntmps21
  go_wp2
  go_loopw [4] (fun l wr => ∃ pos f n : Nat, ∃ acc : List Nat, s.size ≤ pos + f ∧ pos ≤ s.size ∧ n ≤ pos ∧ wr.heap[w.heap.size]? = some (.stringIter s pos) ∧ acc.length = n ∧ acc ++ Um.chs s f pos = Um.chs s s.size 0 ∧ Um.badP s f pos = Um.badP s s.size 0 ∧ wr.ownsRow (w.heap.size + 1) 21 1 l n (cells .i32 acc) ∧ Below w.heap.size w wr) (fun _ wr => s.size - wr.iterPos w.heap.size)
  case atStart => exact ⟨0, s.size, 0, [], by omega, by omega, by omega, hk0, rfl, rfl, rfl, World.ownsRow_nil _ _ _ _, hb0⟩
  case round =>
    obtain ⟨pos, f, n, acc, hf, hps, hn, hk, hlen, hch, hbad, hown, hnx⟩ := hrel
    have Hch := Lib.hid hch
    have Hbad := Lib.hid hbad
    have Hlen := Lib.hid hlen
    clear hch hbad hlen hk0 hb0
    by_cases hp : pos < s.size
    · obtain ⟨f, rfl⟩ : ∃ g, f = g + 1 := ⟨f - 1, by omega⟩
      have hw := Um.wid_pos s pos
      cases hkk : Um.okAt s pos with
      | true =>
        have hnext : ∀ ty, (Instr.next (.pointer (some ⟨w.heap.size, 0, none⟩)) true ty).run Try.prog wr = _ := fun ty => Lib.run_next_any_at wr w.heap.size s pos ty hk hp
        have hfit := Um.ok_fits hp hkk
        have hmu : wr.iterPos w.heap.size = pos := iterPos_of hk
        have Hst := Lib.hid (Um.badP_step (f := f) hp hkk)
        have Hst2 := Lib.hid (Um.chs_step (f := f) hp hkk)
        have hown1 := ownsRow_iterAt hown (show w.heap.size < w.heap.size + 1 by omega) s (pos + Um.wid s pos)
        have hk1 := Lib.iterAt_heap wr w.heap.size s pos (pos + Um.wid s pos) hk
        have hnx1 : Below w.heap.size w (wr.iterAt w.heap.size s (pos + Um.wid s pos)) := Lib.below_iterAt hnx (Nat.le_refl _) s _
        change ∀ ty, (Instr.next (.pointer (some ⟨w.heap.size, 0, none⟩)) true ty).run Try.prog wr = .ok (.tuple #[.bool true, .int .i64 pos, .int .i32 (Um.chr s pos)]) (wr.iterAt w.heap.size s (pos + Um.wid s pos)) at hnext
        generalize wr.iterAt w.heap.size s (pos + Um.wid s pos) = W1 at hnext hown1 hk1 hnx1
        have hsz := hnx1.size
        have hlt := (Array.getElem?_eq_some_iff.1 hk1).1
        go_wp2_with (first
          | (go_at_call 43; refine (begins_at s pos _ _ hp rfl).mono ?_; rintro e w' ⟨rfl, rfl⟩)
          | (at_builtin; refine wpList_append_own _ rfl _ _ 32 rfl (w.heap.size + 1) 21 i0 (.int .i32 0) 1 4 Try.underlying32 hi hz0 hz1 hz2 rfl (by decide) _ _ _ rfl (hown1.alloc _) ⟨W1.heap.size, 0, none⟩ 1 1 [.int .i32 (Um.chr s pos)] rfl rfl ?c1 ?c2 ?c3 ?c4 ?c5 ?_))
        case c1 => exact one_cell
        case c2 => intro u hu; simp at hu; subst hu; rfl
        case c3 => unfold maxLen; omega
        case c4 => omega
        case c5 => simp; omega
        · intro v' w2 hown2 hgrow _
          have hl2 := (hown1.alloc (.cells #[.int .i32 (Um.chr s pos)] 21)).lt
          have hk2 := grown_iter hgrow (alloc_iter hk1 _) (fun e => by have := hl2 _ e.symm; omega)
          have hb2 : Below w.heap.size w w2 := (hnx1.alloc hsz _).grown hgrow (by simp; omega) (fun k e => by have := hl2 _ e; omega)
          go_wp2
          go_roundw
          case rel =>
            refine ⟨pos + Um.wid s pos, f, n + 1, acc ++ [Um.chr s pos], by omega, by omega, by omega, hk2, by rw [List.length_append, Hlen.out]; rfl, ?_, by rw [← Hst.out]; exact Hbad.out, by rw [cells_snoc]; exact hown2, hb2⟩
            rw [← Hch.out, Hst2.out, List.append_assoc]; rfl
          case measure =>
            have hmu2 : w2.iterPos w.heap.size = pos + Um.wid s pos := iterPos_of hk2
            rw [hmu, hmu2]
            omega
      | false =>
        have hnext : ∀ ty, (Instr.next (.pointer (some ⟨w.heap.size, 0, none⟩)) true ty).run Try.prog wr = _ := fun ty => Lib.run_next_any_at wr w.heap.size s pos ty hk hp
        have hfin := allB_of hp hkk Hbad.out
        have Hfin := Lib.hid hfin
        have hnx1 : Below w.heap.size w (wr.iterAt w.heap.size s (pos + Um.wid s pos)) := Lib.below_iterAt hnx (Nat.le_refl _) s _
        clear hfin
        go_wp2_with (go_at_call 43; refine (begins_at s pos _ _ hp rfl).mono ?_; rintro e w' ⟨rfl, rfl⟩)
        go_ret2
        refine ⟨.slice none 0 0, by rw [Hfin.out.2]; rfl, ?_, hnx1⟩
        rw [Hfin.out.1]
        exact World.ownsRow_nil _ _ _ _
    · have hnext : ∀ ty, (Instr.next (.pointer (some ⟨w.heap.size, 0, none⟩)) true ty).run Try.prog wr = _ := fun ty => Lib.run_next_end_at wr w.heap.size s pos ty hk hp
      have hfin := allC_of hp Hbad.out Hch.out
      have Hfin := Lib.hid hfin
      clear hfin
      go_wp2
      go_ret2
      refine ⟨_, by rw [Hfin.out.2]; rfl, ?_, hnx⟩
      rw [Hfin.out.1, Hlen.out]
      exact owns_weaken hown (by omega)
end Go.Proofs.Ytlmhcjomegiibaa
