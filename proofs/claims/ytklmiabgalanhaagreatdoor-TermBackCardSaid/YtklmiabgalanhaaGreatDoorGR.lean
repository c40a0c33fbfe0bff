/- Contracts of runes.All and of the reference's All. -/
import Derived.Test.YtklmiabgalanhaaGreatDoorGD
import Derived.WalkSmall
import Derived.Test.YtklmiabgalanhaaGreatDoorGE
import Derived.Test.YtklmiabgalanhaaGreatDoorGA
namespace Go.Proofs.YtklmiabgalanhaaGreatDoor
open Go.RowKit

def cells (k : IntKind) (l : List Nat) : List Value := l.map fun c : Nat => Value.int k (c : Int)
theorem cells_len (k : IntKind) (l : List Nat) : (cells k l).length = l.length := by simp [cells]
theorem cells_snoc (k : IntKind) (l : List Nat) (c : Nat) : cells k (l ++ [c]) = cells k l ++ [.int k (c : Int)] := by simp [cells]

theorem info_i32 : (Tryz.prog.info? 21).map (fun i => (i.zero, i.size, i.bytes)) = some (some (.int .i32 0), 1, 4) := by kernel_rfl
theorem info_i64 : (Tryz.prog.info? 2).map (fun i => (i.zero, i.size, i.bytes)) = some (some (.int .i64 0), 1, 8) := by kernel_rfl

theorem one_cell {w : World} {v : Value} {t : TypeId} : ∀ j u, ([v] : List Value)[j]? = some u → (w.alloc (.cells #[v] t)).cell? ((⟨w.heap.size, 0, none⟩ : Addr).add j) = some u := by
  intro j u hj
  match j, hj with
  | 0, hj => simp at hj; subst hj; simp [Addr.add]

theorem grown_iter {w w' : World} {row : Option Nat} (h : w.grownBy w' row) {k : Nat} {s : ByteArray} {p : Nat} (hk : w.heap[k]? = some (.stringIter s p)) (hne : some k ≠ row) : w'.heap[k]? = some (.stringIter s p) :=
  (h.block k (Array.getElem?_eq_some_iff.1 hk).1 hne).trans hk

theorem alloc_iter {w : World} {k : Nat} {s : ByteArray} {p : Nat} (hk : w.heap[k]? = some (.stringIter s p)) (o : Obj) : (w.alloc o).heap[k]? = some (.stringIter s p) :=
  (Below.heap_alloc w o k (Array.getElem?_eq_some_iff.1 hk).1).trans hk

theorem owns_weaken {w : World} {base base' : Nat} {e : TypeId} {size : Nat} {v : Value} {n : Nat} {xs : List Value} (h : w.ownsRow base e size v n xs) (hb : base' ≤ base) : w.ownsRow base' e size v n xs := by
  refine ⟨h.1, ?_⟩
  rcases h.2 with h2 | ⟨g, cap, cur, a, b, c⟩
  · exact .inl h2
  · exact .inr ⟨g, cap, cur, a, by omega, c⟩

/-- Behind a step of the iterator and a new block: what is owned is owned. -/
theorem allC_of {s : ByteArray} {f pos : Nat} {acc : List Nat} (hp : ¬ pos < s.size) (hbad : Um.badP s f pos = Um.badP s s.size 0) (hch : acc ++ Um.chs s f pos = Um.chs s s.size 0) : Um.allC s = acc ∧ Um.allB s = true := by
  rw [Um.badP_end hp] at hbad
  rw [Um.chs_end hp, List.append_nil] at hch
  unfold Um.allC Um.allB
  rw [← hbad, if_pos rfl, ← hch]
  exact ⟨rfl, decide_eq_true rfl⟩

theorem allB_of {s : ByteArray} {f pos : Nat} (hp : pos < s.size) (hk : Um.okAt s pos = false) (hbad : Um.badP s (f + 1) pos = Um.badP s s.size 0) : Um.allC s = [] ∧ Um.allB s = false := by
  rw [Um.badP_bad hp hk] at hbad
  unfold Um.allC Um.allB
  rw [← hbad]
  exact ⟨if_neg (by simp), decide_eq_false (by simp)⟩
end Go.Proofs.YtklmiabgalanhaaGreatDoor

/- Rows of one-cell elements as they are read; numbers of characters. -/
namespace Go.Proofs.YtklmiabgalanhaaGreatDoor
open Go.RowKit
set_option linter.unusedVariables false

theorem chs_ok (s : ByteArray) : ∀ f p, ∀ c ∈ Um.chs s f p, Um.okN c
  | 0, p, c, h => by simp [Um.chs] at h
  | f + 1, p, c, h => by
    by_cases hp : p < s.size
    · cases hk : Um.okAt s p with
      | false => rw [Um.chs_bad hk] at h; simp at h
      | true =>
        rw [Um.chs_step hp hk] at h
        have ho : Utf8.decode s p ≠ (65533, 1) := by unfold Um.okAt at hk; exact of_decide_eq_true hk
        rcases List.mem_cons.1 h with rfl | h
        · exact (Um.decode_at hp ho).1
        · exact chs_ok s f _ c h
    · rw [Um.chs_end hp] at h; simp at h

theorem allC_ok (s : ByteArray) : ∀ c ∈ Um.allC s, Um.okN c := by
  intro c h
  unfold Um.allC at h
  split at h
  · exact chs_ok s _ _ c h
  · simp at h

theorem allC_le (s : ByteArray) : ∀ c ∈ Um.allC s, c ≤ 1114111 := fun c h => by have := allC_ok s c h; unfold Um.okN at this; omega
/-- An owned row of one-cell elements, as the walk reads it. -/
theorem owns_shape {w : World} {B : Nat} {e : TypeId} {v : Value} {n : Nat} {xs : List Value} (h : w.ownsRow B e 1 v n xs) :
    ∃ (x : Option Addr) (c : Nat), v = .slice x n c ∧ (0 < n → ∃ g, x = some ⟨g, 0, none⟩ ∧ B ≤ g ∧ g < w.heap.size ∧ ∀ i u, xs[i]? = some u → w.cell? ⟨g, i, none⟩ = some u) := by
  have hc := fun g (hg : v.ownBlock = some g) => h.cells (g := g) hg
  rcases h.2 with ⟨rfl, rfl⟩ | ⟨g, cap, cur, rfl, hb, hg, _⟩
  · exact ⟨none, 0, rfl, fun h => by omega⟩
  · refine ⟨_, _, rfl, fun _ => ⟨g, rfl, hb, (Array.getElem?_eq_some_iff.1 hg).1, fun i u hu => ?_⟩⟩
    have := hc g rfl i u hu
    rwa [add_zero] at this

/-- The number at a place of a list. -/
def nth (L : List Nat) (i : Nat) : Nat := L.getD i 0
theorem nth_left {A B : List Nat} {i : Nat} (h : i < A.length) : nth (A ++ B) i = nth A i := by unfold nth; simp [List.getD, List.getElem?_append_left h]
theorem nth_right {A B : List Nat} {i : Nat} (h : A.length ≤ i) : nth (A ++ B) i = nth B (i - A.length) := by unfold nth; simp [List.getD, List.getElem?_append_right h]
theorem nth_mem {L : List Nat} {i : Nat} (h : i < L.length) : nth L i ∈ L := by
  unfold nth
  rw [show L.getD i 0 = L[i] by simp [h]]
  exact List.getElem_mem h
theorem cells_at {k : IntKind} {L : List Nat} {i : Nat} (h : i < L.length) : (cells k L)[i]? = some (.int k (nth L i : Nat)) := by simp [cells, nth, h]

/-- A slice's address and the numbers behind it, if there is one. -/
def Row (w : World) (k : IntKind) (x : Option Addr) (n : Nat) (f : Nat → Nat) : Prop :=
  0 < n → ∃ g, x = some ⟨g, 0, none⟩ ∧ g < w.heap.size ∧ ∀ i, i < n → w.cell? ⟨g, i, none⟩ = some (.int k (f i : Nat))

theorem row_of {w : World} {B : Nat} {e : TypeId} {k : IntKind} {v : Value} {L : List Nat} (h : w.ownsRow B e 1 v L.length (cells k L)) :
    ∃ (x : Option Addr) (c : Nat), v = .slice x L.length c ∧ Row w k x L.length (nth L) := by
  obtain ⟨x, c, rfl, r⟩ := owns_shape h
  refine ⟨x, c, rfl, fun hn => ?_⟩
  obtain ⟨g, hx, _, hg, hc⟩ := r hn
  exact ⟨g, hx, hg, fun i hi => hc i _ (cells_at hi)⟩

theorem Row.below {w w' : World} {k : IntKind} {x : Option Addr} {n : Nat} {f : Nat → Nat} (h : Row w k x n f) (hb : Below w.heap.size w w') : Row w' k x n f := by
  intro hn
  obtain ⟨g, hx, hg, hc⟩ := h hn
  exact ⟨g, hx, Nat.lt_of_lt_of_le hg hb.size, fun i hi => (hb.cell hg).trans (hc i hi)⟩
end Go.Proofs.YtklmiabgalanhaaGreatDoor

/- Contract of the reference's All. -/
namespace Go.Proofs.YtklmiabgalanhaaGreatDoor
open Go.RowKit

theorem grown_of_below {w w' : World} (h : Below w.heap.size w w') : w.grownBy w' none := ⟨h.os, h.tape, h.output, h.size, fun k hk _ => h.block k hk⟩
theorem owns_below {w w' : World} {base : Nat} {e : TypeId} {size : Nat} {v : Value} {n : Nat} {xs : List Value} (h : w.ownsRow base e size v n xs) (hb : Below w.heap.size w w') : w'.ownsRow base e size v n xs :=
  h.kept (grown_of_below hb) (by cases v.ownBlock <;> simp)

set_option maxHeartbeats 2000000 in
theorem rall_any (s : ByteArray) (w : World) (hs : s.size ≤ 17592186044416) :
    Calls Tryz.prog 80 #[.string s] w fun e w' => ∃ v, e = .returned (.tuple #[v, .bool (Um.allB s)]) ∧ w'.ownsRow w.heap.size 2 1 v (Um.allC s).length (cells .i64 (Um.allC s)) ∧ Below w.heap.size w w' := by
  obtain ⟨i0, hi, hz0, hz1, hz2⟩ := info_parts info_i64
  have hs2 : s.size ≤ 9223372036854775807 := by omega
  go_enter Tryz.func80, Tryz.ntmps80
  go_wp2
  go_loopw [4, 5] (fun l at' wr => ∃ pos f n : Nat, ∃ acc : List Nat, s.size ≤ pos + f ∧ pos ≤ s.size ∧ n ≤ pos ∧ at' = .int .i64 pos ∧ acc.length = n ∧ acc ++ Um.chs s f pos = Um.chs s s.size 0 ∧ Um.badP s f pos = Um.badP s s.size 0 ∧ wr.ownsRow w.heap.size 2 1 l n (cells .i64 acc) ∧ Below w.heap.size w wr) (fun _ at' _ => s.size - (intOf at').toNat)
  case atStart => exact ⟨0, s.size, 0, [], by omega, by omega, by omega, rfl, rfl, rfl, rfl, World.ownsRow_nil _ _ _ _, Below.refl _ _⟩
  case round =>
    obtain ⟨pos, f, n, acc, hf, hps, hn, rfl, hlen, hch, hbad, hown, hnx⟩ := hrel
    have Hch := Lib.hid hch
    have Hbad := Lib.hid hbad
    have Hlen := Lib.hid hlen
    clear hch hbad hlen
    by_cases hp : pos < s.size
    · obtain ⟨f, rfl⟩ : ∃ g, f = g + 1 := ⟨f - 1, by omega⟩
      have hw := Um.wid_pos s pos
      cases hkk : Um.okAt s pos with
      | true =>
        have hfit := Um.ok_fits hp hkk
        have Hst := Lib.hid (Um.badP_step (f := f) hp hkk)
        have Hst2 := Lib.hid (Um.chs_step (f := f) hp hkk)
        have hne : ((Um.wid s pos : Int) == 0) = false := beq_eq_false_iff_ne.2 (by omega)
        go_wp2_with fail
        refine (rread_at s pos _ hp hs2).mono ?_
        rw [(rd_ok hkk).1, (rd_ok hkk).2]
        rintro e W1 ⟨rfl, hb2⟩
        have hown1 := owns_below hown hb2
        have hnx1 : Below w.heap.size w W1 := hnx.trans (hb2.mono hnx.size)
        clear hown hnx hb2
        have hsz := hnx1.size
        go_wp2_with (at_builtin; refine wpList_append_own _ rfl _ _ 97 rfl w.heap.size 2 i0 (.int .i64 0) 1 8 Tryz.underlying97 hi hz0 hz1 hz2 rfl (by decide) _ _ _ rfl (hown1.alloc _) ⟨W1.heap.size, 0, none⟩ 1 1 [.int .i64 (Um.chr s pos)] rfl rfl ?c1 ?c2 ?c3 ?c4 ?c5 ?_)
        case c1 => exact one_cell
        case c2 => intro u hu; simp at hu; subst hu; rfl
        case c3 => unfold maxLen; omega
        case c4 => omega
        case c5 => simp; omega
        · intro v' w2 hown2 hgrow _
          have hl2 := (hown1.alloc (.cells #[.int .i64 (Um.chr s pos)] 2)).lt
          have hb3 : Below w.heap.size w w2 := (hnx1.alloc hsz _).grown hgrow (by simp; omega) (fun k e => by have := hl2 _ e; omega)
          go_wp2
          go_roundw
          case rel =>
            refine ⟨pos + Um.wid s pos, f, n + 1, acc ++ [Um.chr s pos], by omega, by omega, by omega, by go_num, by rw [List.length_append, Hlen.out]; rfl, ?_, by rw [← Hst.out]; exact Hbad.out, by rw [cells_snoc]; exact hown2, hb3⟩
            rw [← Hch.out, Hst2.out, List.append_assoc]; rfl
          case measure =>
            simp [intOf]
            omega
      | false =>
        have hfin := allB_of hp hkk Hbad.out
        have Hfin := Lib.hid hfin
        clear hfin
        go_wp2_with (go_at_call 99; refine (rread_at s pos _ hp hs2).mono ?_; rw [(rd_bad hkk).1, (rd_bad hkk).2]; rintro e w' ⟨rfl, hb2⟩)
        go_ret2
        refine ⟨.slice none 0 0, by rw [Hfin.out.2]; rfl, ?_, hnx.trans (hb2.mono hnx.size)⟩
        rw [Hfin.out.1]
        exact World.ownsRow_nil _ _ _ _
    · have hfin := allC_of hp Hbad.out Hch.out
      have Hfin := Lib.hid hfin
      clear hfin
      go_wp2
      go_ret2
      refine ⟨_, by rw [Hfin.out.2]; rfl, ?_, hnx⟩
      rw [Hfin.out.1, Hlen.out]
      exact hown
end Go.Proofs.YtklmiabgalanhaaGreatDoor

/- class.Name and the reference's Name. -/
namespace Go.Proofs.YtklmiabgalanhaaGreatDoor
open Go.RowKit

def letterN (c : Nat) : Bool := Cm.inB Cm.letters c
def digitN (c : Nat) : Bool := Cm.inB Cm.digits c
def tailOk (L : List Nat) : Bool := L.all fun c => letterN c || digitN c
def nameOk : List Nat → Bool
  | [] => false
  | c :: L => letterN c && tailOk L
/-- What Name answers. -/
def nameB (s : ByteArray) : Bool := Um.allB s && !isWord s && nameOk (Um.allC s)

theorem tail_cons (c : Nat) (L : List Nat) : tailOk (c :: L) = ((letterN c || digitN c) && tailOk L) := rfl

theorem empty_iff (s : ByteArray) : s.toList.isEmpty = decide (s.size = 0) := by
  rw [Um.toList_eq]
  have : s.data.toList.length = s.size := by rw [Array.length_toList]; rfl
  cases h : s.data.toList with
  | nil =>
    rw [h] at this
    rw [decide_eq_true (by simpa using this.symm)]; rfl
  | cons a b =>
    rw [h, List.length_cons] at this
    rw [decide_eq_false (by omega)]; rfl

theorem name_empty (s : ByteArray) (w : World) (h : s.size = 0) :
    Calls Tryz.prog 56 #[.string s] w fun e w' => e = .returned (.bool false) ∧ w = w' := by
  have e : s.toList.isEmpty = true := by rw [empty_iff, decide_eq_true h]
  go_enter Tryz.func56, Tryz.ntmps56
  go_wp2
  go_ret
  exact ⟨rfl, rfl⟩

theorem name_bad (s : ByteArray) (w : World) (h0 : 0 < s.size) (h : Um.allB s = false) :
    Calls Tryz.prog 56 #[.string s] w fun e w' => e = .returned (.bool false) ∧ Below w.heap.size w w' := by
  have e : s.toList.isEmpty = false := by rw [empty_iff, decide_eq_false (by omega)]
  have hb := Um.bad_nonneg h
  clear h
  go_enter Tryz.func56, Tryz.ntmps56
  go_wp2_with fail
  refine (bad_any s w).mono ?_
  rintro e w1 ⟨rfl, g1⟩
  go_wp2
  go_ret
  exact ⟨rfl, g1⟩

theorem name_word (s : ByteArray) (w : World) (h0 : 0 < s.size) (h : Um.allB s = true) (hw : isWord s = true) :
    Calls Tryz.prog 56 #[.string s] w fun e w' => e = .returned (.bool false) ∧ Below w.heap.size w w' := by
  have e : s.toList.isEmpty = false := by rw [empty_iff, decide_eq_false (by omega)]
  have H := fun wx => bad_any s wx
  rw [Um.good_bad h] at H
  clear h
  go_enter Tryz.func56, Tryz.ntmps56
  go_wp2_with fail
  refine (H w).mono ?_
  rintro e w1 ⟨rfl, g1⟩
  go_wp2_with fail
  refine (word_any s w1).mono ?_
  rw [hw]
  rintro e w2 ⟨rfl, rfl⟩
  go_wp2
  go_ret
  exact ⟨rfl, g1⟩

set_option maxHeartbeats 2000000 in
theorem name_walk (s : ByteArray) (w : World) (h0 : 0 < s.size) (h : Um.allB s = true) (hw : isWord s = false) :
    Calls Tryz.prog 56 #[.string s] w fun e w' => e = .returned (.bool (nameOk (Um.allC s))) ∧ Below w.heap.size w w' := by
  have e : s.toList.isEmpty = false := by rw [empty_iff, decide_eq_false (by omega)]
  have H := fun wx => bad_any s wx
  have hr := Um.reads_all h
  have hne : Um.allC s ≠ [] := by
    intro e0
    rw [e0] at hr
    unfold Um.Reads at hr
    omega
  rw [Um.good_bad h] at H
  clear h
  generalize Um.allC s = A at hr hne
  go_enter Tryz.func56, Tryz.ntmps56
  go_wp2_with fail
  refine (H w).mono ?_
  rintro e w1 ⟨rfl, g1⟩
  go_wp2_with fail
  refine (word_any s w1).mono ?_
  rw [hw]
  rintro e w2 ⟨rfl, rfl⟩
  have s1 := g1.size
  have hb0 : Below w.heap.size w (w1.iter s 0) := g1.trans ((Below.refl _ _).alloc s1 _)
  have hk0 := World.iter_heap w1 s 0
  have hlt0 : w1.heap.size < (w1.iter s 0).heap.size := (Array.getElem?_eq_some_iff.1 hk0).1
  clear H hw
  go_wp2
  go_loopw [] (fun wr => ∃ pos : Nat, ∃ R : List Nat, wr.heap[w1.heap.size]? = some (.stringIter s pos) ∧ Um.Reads s pos R ∧ ((pos = 0 ∧ R = A) ∨ (0 < pos ∧ nameOk A = tailOk R)) ∧ Below w.heap.size w wr) (fun wr => s.size - wr.iterPos w1.heap.size)
  case atStart => exact ⟨0, A, hk0, hr, .inl ⟨rfl, rfl⟩, hb0⟩
  case round =>
    obtain ⟨pos, R, hk, hR, hst, hnx⟩ := hrel
    have Hst := Lib.hid hst
    have hmu : wr.iterPos w1.heap.size = pos := iterPos_of hk
    clear hst hk0 hb0 hlt0
    cases R with
    | nil =>
      have hp : ¬ pos < s.size := by unfold Um.Reads at hR; omega
      have hnext : ∀ ty, (Instr.next (.pointer (some ⟨w1.heap.size, 0, none⟩)) true ty).run Tryz.prog wr = _ := fun ty => Lib.run_next_end_at wr w1.heap.size s pos ty hk hp
      have hfin : nameOk A = true := by
        rcases Hst.out with ⟨_, e0⟩ | ⟨_, e0⟩
        · exact absurd e0.symm hne
        · rw [e0]; rfl
      have Hfin := Lib.hid hfin
      clear hfin
      go_wp2
      go_ret
      exact ⟨ret_bool Hfin.out.symm, hnx⟩
    | cons c R =>
      obtain ⟨hc, hat, hR⟩ := hR
      have hd := Um.decode_of hc hat
      have hfit := Um.at_fits hat
      have hl := Um.len_pos c
      have hp : pos < s.size := by omega
      have hnext : ∀ ty, (Instr.next (.pointer (some ⟨w1.heap.size, 0, none⟩)) true ty).run Tryz.prog wr = _ := fun ty => Lib.run_next_any_at wr w1.heap.size s pos ty hk hp
      have hk1 := Lib.iterAt_heap wr w1.heap.size s pos (pos + Um.len c) hk
      have hnx1 : Below w.heap.size w (wr.iterAt w1.heap.size s (pos + Um.len c)) := Lib.below_iterAt hnx s1 s _
      rw [hd] at hnext
      change ∀ ty, (Instr.next (.pointer (some ⟨w1.heap.size, 0, none⟩)) true ty).run Tryz.prog wr = .ok (.tuple #[.bool true, .int .i64 pos, .int .i32 c]) (wr.iterAt w1.heap.size s (pos + Um.len c)) at hnext
      generalize wr.iterAt w1.heap.size s (pos + Um.len c) = W1 at hnext hk1 hnx1
      have hlt1 := (Array.getElem?_eq_some_iff.1 hk1).1
      have hsz1 := hnx1.size
      have HR := Lib.hid hR
      clear hR hd hat
      cases hL : letterN c with
      | true =>
        have Hl := Lib.hid hL
        go_wp2_with fail
        refine (letter_any c W1).mono ?_
        rw [show Cm.inB Cm.letters (c : Int) = true from Hl.out]
        rintro e w3 ⟨rfl, g3⟩
        have hk3 : w3.heap[w1.heap.size]? = some (.stringIter s (pos + Um.len c)) := (g3.block _ hlt1).trans hk1
        have hmu3 : w3.iterPos w1.heap.size = pos + Um.len c := iterPos_of hk3
        go_wp2
        go_roundw
        case rel =>
          refine ⟨pos + Um.len c, R, hk3, HR.out, .inr ⟨by omega, ?_⟩, hnx1.trans (g3.mono hsz1)⟩
          rcases Hst.out with ⟨_, e0⟩ | ⟨_, e0⟩
          · rw [← e0, nameOk, Hl.out]; rfl
          · rw [e0, tail_cons, Hl.out]; rfl
        case measure => rw [hmu, hmu3]; omega
      | false =>
        have Hl := Lib.hid hL
        by_cases hz : pos = 0
        · have hfin : nameOk A = false := by
            rcases Hst.out with ⟨_, e0⟩ | ⟨e1, _⟩
            · rw [← e0, nameOk, Hl.out]; rfl
            · omega
          have Hfin := Lib.hid hfin
          have hz2 : ((pos : Int) == 0) = true := by rw [hz]; rfl
          clear hfin
          go_wp2_with fail
          refine (letter_any c W1).mono ?_
          rw [show Cm.inB Cm.letters (c : Int) = false from Hl.out]
          rintro e w3 ⟨rfl, g3⟩
          go_wp2
          go_ret
          exact ⟨ret_bool Hfin.out.symm, hnx1.trans (g3.mono hsz1)⟩
        · have hz2 : ((pos : Int) == 0) = false := beq_eq_false_iff_ne.2 (by omega)
          have Hz := Lib.hid hz
          clear hz
          go_wp2_with fail
          refine (letter_any c W1).mono ?_
          rw [show Cm.inB Cm.letters (c : Int) = false from Hl.out]
          rintro e w3 ⟨rfl, g3⟩
          have hk3 : w3.heap[w1.heap.size]? = some (.stringIter s (pos + Um.len c)) := (g3.block _ hlt1).trans hk1
          have hlt3 := (Array.getElem?_eq_some_iff.1 hk3).1
          have hb3 := hnx1.trans (g3.mono hsz1)
          have hsz3 := hb3.size
          cases hD : digitN c with
          | true =>
            have Hd := Lib.hid hD
            go_wp2_with fail
            refine (digit_any c w3).mono ?_
            rw [show Cm.inB Cm.digits (c : Int) = true from Hd.out]
            rintro e w4 ⟨rfl, g4⟩
            have hk4 : w4.heap[w1.heap.size]? = some (.stringIter s (pos + Um.len c)) := (g4.block _ hlt3).trans hk3
            have hmu4 : w4.iterPos w1.heap.size = pos + Um.len c := iterPos_of hk4
            go_wp2
            go_roundw
            case rel =>
              refine ⟨pos + Um.len c, R, hk4, HR.out, .inr ⟨by omega, ?_⟩, hb3.trans (g4.mono hsz3)⟩
              rcases Hst.out with ⟨e1, _⟩ | ⟨_, e0⟩
              · exact absurd e1 Hz.out
              · rw [e0, tail_cons, Hl.out, Hd.out]; rfl
            case measure => rw [hmu, hmu4]; omega
          | false =>
            have Hd := Lib.hid hD
            have hfin : nameOk A = false := by
              rcases Hst.out with ⟨e1, _⟩ | ⟨_, e0⟩
              · exact absurd e1 Hz.out
              · rw [e0, tail_cons, Hl.out, Hd.out]; rfl
            have Hfin := Lib.hid hfin
            clear hfin
            go_wp2_with fail
            refine (digit_any c w3).mono ?_
            rw [show Cm.inB Cm.digits (c : Int) = false from Hd.out]
            rintro e w4 ⟨rfl, g4⟩
            go_wp2
            go_ret
            exact ⟨ret_bool Hfin.out.symm, hb3.trans (g4.mono hsz3)⟩

theorem name_any (s : ByteArray) (w : World) :
    Calls Tryz.prog 56 #[.string s] w fun e w' => e = .returned (.bool (nameB s)) ∧ Below w.heap.size w w' := by
  by_cases h0 : 0 < s.size
  · cases h : Um.allB s with
    | false =>
      have e : nameB s = false := by unfold nameB; rw [h]; rfl
      rw [e]; exact name_bad s w h0 h
    | true =>
      cases hw : isWord s with
      | true =>
        have e : nameB s = false := by unfold nameB; rw [h, hw]; rfl
        rw [e]; exact name_word s w h0 h hw
      | false =>
        have e : nameB s = nameOk (Um.allC s) := by unfold nameB; rw [h, hw]; rfl
        rw [e]; exact name_walk s w h0 h hw
  · have e : nameB s = false := by
      have h1 : Um.allC s = [] := by
        have := Um.allC_length s
        exact List.eq_nil_of_length_eq_zero (by omega)
      unfold nameB
      rw [h1]
      simp [nameOk]
    rw [e]
    refine (name_empty s w (by omega)).mono ?_
    rintro e w1 ⟨rfl, rfl⟩
    exact ⟨rfl, Below.refl _ _⟩
end Go.Proofs.YtklmiabgalanhaaGreatDoor

/- The reference's Name; the laws' helper 'fixed' of layer 2. -/
namespace Go.Proofs.YtklmiabgalanhaaGreatDoor
open Go.RowKit

theorem nameOk_at {A : List Nat} (h : 0 < A.length) : nameOk A = (letterN (nth A 0) && (A.drop 1).all fun c => letterN c || digitN c) := by
  cases A with
  | nil => simp at h
  | cons c L => rfl

theorem tail_dropC {A : List Nat} {k : Nat} (h : k < A.length) : tailOk (A.drop k) = ((letterN (nth A k) || digitN (nth A k)) && tailOk (A.drop (k + 1))) := by
  rw [List.drop_eq_getElem_cons h, tail_cons]
  have e : nth A k = A[k] := by unfold nth; simp [h]
  rw [e]

theorem name_tail {A : List Nat} (h : 0 < A.length) : nameOk A = (letterN (nth A 0) && tailOk A) := by
  cases A with
  | nil => simp at h
  | cons c L =>
    show (letterN c && tailOk L) = (letterN c && tailOk (c :: L))
    rw [tail_cons]
    cases letterN c <;> rfl

set_option maxHeartbeats 2000000 in
theorem rname_any (s : ByteArray) (w : World) (hs : s.size ≤ 17592186044416) :
    Calls Tryz.prog 61 #[.string s] w fun e w' => e = .returned (.bool (nameB s)) ∧ Below w.heap.size w w' := by
  have H := fun wx => rall_any s wx hs
  have hls := Um.allC_length s
  cases h : Um.allB s with
  | false =>
    have hn : nameB s = false := by unfold nameB; rw [h]; rfl
    have Hn := Lib.hid hn
    rw [h] at H
    clear hn h
    go_enter Tryz.func61, Tryz.ntmps61
    go_wp2_with fail
    refine (H w).mono ?_
    rintro e w1 ⟨va, rfl, oa, g1⟩
    obtain ⟨xa, ca, rfl, -⟩ := owns_shape oa
    go_wp2
    go_ret
    exact ⟨ret_bool Hn.out.symm, g1⟩
  | true =>
    have hnb : nameB s = (!isWord s && nameOk (Um.allC s)) := by unfold nameB; rw [h]; rfl
    have Hn := Lib.hid hnb
    rw [h] at H
    clear hnb h
    generalize Um.allC s = A at H hls Hn
    by_cases hA : A.length = 0
    · have hz : ((A.length : Int) == 0) = true := by rw [hA]; rfl
      have e0 : A = [] := List.eq_nil_of_length_eq_zero hA
      have hf : nameB s = false := by rw [Hn.out, e0]; simp [nameOk]
      have Hf := Lib.hid hf
      clear hf e0 hA
      go_enter Tryz.func61, Tryz.ntmps61
      go_wp2_with fail
      refine (H w).mono ?_
      rintro e w1 ⟨va, rfl, oa, g1⟩
      obtain ⟨xa, ca, rfl, -⟩ := owns_shape oa
      go_wp2
      go_ret
      exact ⟨ret_bool Hf.out.symm, g1⟩
    · have hz : ((A.length : Int) == 0) = false := beq_eq_false_iff_ne.2 (by omega)
      cases hw : isWord s with
      | true =>
        have hf : nameB s = false := by rw [Hn.out, hw]; rfl
        have Hf := Lib.hid hf
        clear hf
        go_enter Tryz.func61, Tryz.ntmps61
        go_wp2_with fail
        refine (H w).mono ?_
        rintro e w1 ⟨va, rfl, oa, g1⟩
        obtain ⟨xa, ca, rfl, -⟩ := owns_shape oa
        go_wp2_with fail
        refine (rword_any s w1).mono ?_
        rw [hw]
        rintro e w2 ⟨rfl, g2⟩
        go_wp2
        go_ret
        exact ⟨ret_bool Hf.out.symm, g1.trans (g2.mono g1.size)⟩
      | false =>
        have hf : nameB s = (letterN (nth A 0) && tailOk A) := by rw [Hn.out, hw, name_tail (by omega)]; rfl
        have Hf := Lib.hid hf
        clear hf
        go_enter Tryz.func61, Tryz.ntmps61
        go_wp2_with fail
        refine (H w).mono ?_
        rintro e w1 ⟨va, rfl, oa, g1⟩
        obtain ⟨xa, ca, rfl, ra⟩ := row_of oa
        have s1 := g1.size
        go_wp2_with fail
        refine (rword_any s w1).mono ?_
        rw [hw]
        rintro e w2 ⟨rfl, g2⟩
        have ra2 := ra.below g2
        have s2 := g2.size
        have gb2 := g1.trans (g2.mono s1)
        obtain ⟨ga, rfl, hga, hc⟩ := ra2 (by omega)
        have c0 := hc 0 (by omega)
        have Hc := Lib.hid hc
        have b00 : (0 : Int) < (A.length : Int) := by omega
        have hgN : 0 < A.length := by omega
        clear hc ra ra2 oa g1 g2 H hw Hn
        cases hL : letterN (nth A 0) with
        | false =>
          have hfin : nameB s = false := by rw [Hf.out, hL]; rfl
          have Hfin := Lib.hid hfin
          have HL := Lib.hid hL
          clear hfin hL
          go_wp2_with fail
          refine (rletter_any _ w2).mono ?_
          rw [show Cm.inB Cm.letters (nth A 0 : Nat) = false from HL.out]
          rintro e w3 ⟨rfl, g3⟩
          go_wp2
          go_ret
          exact ⟨ret_bool Hfin.out.symm, gb2.trans (g3.mono (by omega))⟩
        | true =>
          have hfin : nameB s = tailOk A := by rw [Hf.out, hL]; rfl
          have Hfin := Lib.hid hfin
          have HL := Lib.hid hL
          clear hfin hL
          go_wp2_with fail
          refine (rletter_any _ w2).mono ?_
          rw [show Cm.inB Cm.letters (nth A 0 : Nat) = true from HL.out]
          rintro e w3 ⟨rfl, g3⟩
          have gb3 := gb2.trans (g3.mono (by omega))
          have hcc : ∀ i, i < A.length → w3.cell? ⟨ga, i, none⟩ = some (.int .i64 (nth A i : Nat)) := fun i hi => (g3.cell hga).trans (Hc.out i hi)
          have Hcc := Lib.hid hcc
          have hga3 := Nat.lt_of_lt_of_le hga g3.size
          have s3 := gb3.size
          clear hcc Hc c0 g3 gb2
          go_wp2
          go_loopw [5] (fun i wr => ∃ k : Nat, k ≤ A.length ∧ i = .int .i64 k ∧ tailOk (A.drop k) = tailOk A ∧ Below w3.heap.size w3 wr) (fun i _ => A.length - (intOf i).toNat)
          case atStart => exact ⟨0, by omega, rfl, rfl, Below.refl _ _⟩
          case round =>
            obtain ⟨k, hk, rfl, htl, hnx⟩ := hrel
            have Htl := Lib.hid htl
            clear htl
            have hsx := hnx.size
            by_cases hlt : k < A.length
            · have c1 := (hnx.cell (p := ⟨ga, k, none⟩) hga3).trans (Hcc.out k hlt)
              have b0 : (0 : Int) ≤ (k : Int) := by omega
              have b1 : (k : Int) < (A.length : Int) := by omega
              have htd := tail_dropC hlt
              have Htd := Lib.hid htd
              clear htd
              cases hL : letterN (nth A k) with
              | true =>
                have HL2 := Lib.hid hL
                clear hL
                go_wp2_with fail
                refine (rletter_any _ wr).mono ?_
                rw [show Cm.inB Cm.letters (nth A k : Nat) = true from HL2.out]
                rintro e w4 ⟨rfl, g4⟩
                go_wp2
                go_roundw
                case rel => exact ⟨k + 1, by omega, by go_num, by rw [← Htl.out, Htd.out, HL2.out]; rfl, hnx.trans (g4.mono hsx)⟩
                case measure => simp [intOf]; omega
              | false =>
                have HL2 := Lib.hid hL
                clear hL
                go_wp2_with fail
                refine (rletter_any _ wr).mono ?_
                rw [show Cm.inB Cm.letters (nth A k : Nat) = false from HL2.out]
                rintro e w4 ⟨rfl, g4⟩
                have hb4 := hnx.trans (g4.mono hsx)
                have c2 := (hb4.cell (p := ⟨ga, k, none⟩) hga3).trans (Hcc.out k hlt)
                have hs4 := hb4.size
                cases hD : digitN (nth A k) with
                | true =>
                  have HD := Lib.hid hD
                  clear hD
                  go_wp2_with fail
                  refine (rdigit_any _ w4).mono ?_
                  rw [show Cm.inB Cm.digits (nth A k : Nat) = true from HD.out]
                  rintro e w5 ⟨rfl, g5⟩
                  go_wp2
                  go_roundw
                  case rel => exact ⟨k + 1, by omega, by go_num, by rw [← Htl.out, Htd.out, HL2.out, HD.out]; rfl, hb4.trans (g5.mono hs4)⟩
                  case measure => simp [intOf]; omega
                | false =>
                  have HD := Lib.hid hD
                  have hfin2 : nameB s = false := by rw [Hfin.out, ← Htl.out, Htd.out, HL2.out, HD.out]; rfl
                  have Hfin2 := Lib.hid hfin2
                  clear hD hfin2
                  go_wp2_with fail
                  refine (rdigit_any _ w4).mono ?_
                  rw [show Cm.inB Cm.digits (nth A k : Nat) = false from HD.out]
                  rintro e w5 ⟨rfl, g5⟩
                  go_wp2
                  go_ret
                  exact ⟨ret_bool Hfin2.out.symm, gb3.trans ((hb4.trans (g5.mono hs4)).mono s3)⟩
            · have hfin2 : nameB s = true := by rw [Hfin.out, ← Htl.out, List.drop_of_length_le (by omega)]; rfl
              have Hfin2 := Lib.hid hfin2
              clear hfin2
              go_wp2
              go_ret
              exact ⟨ret_bool Hfin2.out.symm, gb3.trans (hnx.mono s3)⟩
end Go.Proofs.YtklmiabgalanhaaGreatDoor

