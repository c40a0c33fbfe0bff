/- Contracts of lines.Count, lines.Starts and of the reference's Starts, Ints. -/
import Derived.Test.YtckioinjgdjohabLnShelf
import Derived.Test.YtckioinjgdjohabLnMath
import Derived.WalkKit
import Derived.WalkSpells
import Derived.WalkLawsBesides
import Derived.Outline
import Derived.Lib.Hide
import Derived.BigQuiet
import Derived.Deep.QuietTactic
import Derived.Deep.AppendLies
import Derived.OwnWalk
import Derived.IntWalk
import Derived.Laws.MakeOwn
namespace Go.Proofs.Ytckioinjgdjohab
open Go.RowKit Em

theorem ret_int {k : IntKind} {a b : Int} (h : a = b) : Ending.returned (.int k a) = .returned (.int k b) := by rw [h]
theorem ret_bool {a b : Bool} (h : a = b) : Ending.returned (.bool a) = .returned (.bool b) := by rw [h]
theorem below_draw {B : Nat} {w wr : World} (h : Below B w wr) (n : Nat) : Below B w (wr.drewN n) := ⟨h.os, h.tape, h.output, h.size, fun i hi => h.block i hi⟩
theorem below_drew {B : Nat} {w wr : World} (h : Below B w wr) : Below B w wr.drew := ⟨h.os, h.tape, h.output, h.size, fun i hi => h.block i hi⟩
theorem info_int : (Try.prog.info? 3).map (fun i => (i.zero, i.size, i.bytes)) = some (some (.int .i64 0), 1, 8) := by kernel_rfl
theorem owns_weaken {w : World} {base base' : Nat} {e : TypeId} {size : Nat} {v : Value} {n : Nat} {xs : List Value} (h : w.ownsRow base e size v n xs) (hb : base' ≤ base) : w.ownsRow base' e size v n xs := by
  refine ⟨h.1, ?_⟩
  rcases h.2 with h2 | ⟨g, cap, cur, a, b, c⟩
  · exact .inl h2
  · exact .inr ⟨g, cap, cur, a, by omega, c⟩

/-- Places as cells. -/
def nCells (S : List Nat) : List Value := S.map fun x : Nat => Value.int .i64 (x : Int)
theorem nCells_snoc (S : List Nat) (x : Nat) : nCells (S ++ [x]) = nCells S ++ [.int .i64 (x : Int)] := by simp [nCells]

/-- Places in memory, as they are read. -/
def RowN (w : World) (x : Option Addr) (S : List Nat) : Prop :=
  0 < S.length → ∃ g, x = some ⟨g, 0, none⟩ ∧ g < w.heap.size ∧ ∀ i, i < S.length → w.cell? ⟨g, i, none⟩ = some (.int .i64 (nthN S i : Nat))
theorem RowN.keep {w w' : World} {x : Option Addr} {S : List Nat} (h : RowN w x S) (hb : Below w.heap.size w w') : RowN w' x S := by
  intro hn
  obtain ⟨g, hx, hg, hc⟩ := h hn
  exact ⟨g, hx, Nat.lt_of_lt_of_le hg hb.size, fun i hi => (hb.cell hg).trans (hc i hi)⟩
theorem add_at (g o j : Nat) : (⟨g, o, none⟩ : Addr).add j = ⟨g, o + j, none⟩ := by unfold Addr.add; split <;> simp_all
theorem rowN_of_owns {w : World} {B e : Nat} {v : Value} {S : List Nat} (h : w.ownsRow B e 1 v S.length (nCells S)) : ∃ (x : Option Addr) (c : Nat), v = .slice x S.length c ∧ RowN w x S := by
  rcases h.2 with ⟨rfl, h0⟩ | ⟨g, cap, cur, rfl, hb, hg, hn, _, hs, ht⟩
  · exact ⟨none, 0, by rw [h0], fun h => by omega⟩
  · refine ⟨_, cap, rfl, fun hp => ⟨g, rfl, (Array.getElem?_eq_some_iff.1 hg).1, fun i hi => ?_⟩⟩
    have hc := h.cells (g := g) rfl i (.int .i64 (nthN S i : Nat)) (by simp [nCells, nthN, hi])
    rw [add_at, Nat.zero_add] at hc
    exact hc

theorem starts_step {l : List UInt8} {k : Nat} {acc : List Nat} {c : UInt8} (h : acc ++ nl k (l.drop k) = starts l) (hc : l[k]? = some c) :
    (c = 10 → (acc ++ [k + 1]) ++ nl (k + 1) (l.drop (k + 1)) = starts l) ∧ (c ≠ 10 → acc ++ nl (k + 1) (l.drop (k + 1)) = starts l) := by
  obtain ⟨hk, he⟩ := List.getElem?_eq_some_iff.1 hc
  rw [List.drop_eq_getElem_cons hk, he, nl] at h
  constructor
  · intro h10
    rw [if_pos h10] at h
    rw [← h, List.append_assoc]; rfl
  · intro h10
    rw [if_neg h10] at h
    exact h

theorem starts_pos (l : List UInt8) : 0 < (starts l).length := by rw [starts_len]; omega
theorem starts_most (s : ByteArray) : (starts (bl s)).length ≤ s.size + 1 := by
  rw [starts_len, ← bl_size]
  have := List.count_le_length (a := (10 : UInt8)) (l := bl s)
  omega

theorem count_any (s : ByteArray) (w : World) (hs : s.size ≤ 1099511627776) :
    Calls Try.prog 14 #[.string s] w fun e w' => e = .returned (.int .i64 ((starts (bl s)).length : Nat)) ∧ w = w' := by
  have hc := count_one s 10 w
  have e : Lib.countByte s.data.toList 10 = (bl s).count 10 := rfl
  rw [e] at hc
  have hl := starts_len (bl s)
  have hm := starts_most s
  have Hl := Lib.hid hl
  have hb : (bl s).count 10 ≤ 1099511627776 := by omega
  clear hl hm
  generalize (bl s).count 10 = n at hc hb Hl
  go_enter Try.func14, Try.ntmps14
  go_wp2_with fail
  refine hc.mono ?_
  rintro e w1 ⟨rfl, rfl⟩
  go_wp2
  go_ret
  exact ⟨ret_int (by rw [Hl.out]; omega), rfl⟩

theorem byte_test {s : ByteArray} {k : Nat} (h : k < s.size) : (bl s)[k]? = some (s[k]'h) ∧ (byN s k = 10 ↔ s[k]'h = 10) := by
  refine ⟨bl_get s k h, ?_⟩
  rw [← byN_get s k h]
  constructor
  · intro e
    have : (s[k]'h).toNat = (10 : UInt8).toNat := e
    exact UInt8.toNat_inj.1 this
  · intro e; rw [e]; rfl

set_option maxHeartbeats 2000000 in
theorem starts_any (s : ByteArray) (w : World) (hs : s.size ≤ 1099511627776) :
    Calls Try.prog 10 #[.string s] w fun e w' => ∃ v, e = .returned v ∧ w'.ownsRow w.heap.size 3 1 v (starts (bl s)).length (nCells (starts (bl s))) ∧ Below w.heap.size w w' := by
  obtain ⟨i0, hi, hz0, hz1, hz2⟩ := info_parts info_int
  have hlen := bl_size s
  have hpos := starts_pos (bl s)
  have hmost := starts_most s
  have hcn := count_any s w hs
  have Hst : Hid (([0] : List Nat) ++ nl 0 ((bl s).drop 0) = starts (bl s)) := Lib.hid rfl
  have hmk : ∀ w : World, (Instr.makeSlice 22 (.int .i64 1) (.int .i64 ((starts (bl s)).length : Nat))).run Try.prog w = .ok (.slice (some ⟨w.heap.size, 0, none⟩) 1 (starts (bl s)).length) (w.alloc (.cells (madeCells #[.int .i64 0] (starts (bl s)).length) 3)) := fun w => by
    have := run_make (P := Try.prog) w 22 3 i0 (.int .i64 0) Try.underlying22 hi hz0 .i64 .i64 1 ((starts (bl s)).length : Nat) (by omega) (by omega) (by rw [hz2]; omega) (by omega)
    rw [this, hz1, Nat.mul_one]; rfl
  have hown0 : (w.alloc (.cells (madeCells #[.int .i64 0] (starts (bl s)).length) 3)).ownsRow w.heap.size 3 1 (.slice (some ⟨w.heap.size, 0, none⟩) 1 (starts (bl s)).length) 1 (nCells [0]) := by
    refine ⟨rfl, .inr ⟨w.heap.size, _, _, rfl, Nat.le_refl _, heap_alloc_new w _, hpos, by unfold maxLen; omega, by rw [size_madeCells]; omega, ?_⟩⟩
    have h1 : (madeCells #[Value.int .i64 0] (starts (bl s)).length).toList = List.replicate (starts (bl s)).length (.int .i64 0) := toList_madeCells_one _ _
    rw [h1]
    obtain ⟨m, hm⟩ : ∃ m, (starts (bl s)).length = m + 1 := ⟨(starts (bl s)).length - 1, by omega⟩
    rw [hm, List.replicate_succ]; rfl
  have hb0 : Below w.heap.size w (w.alloc (.cells (madeCells #[.int .i64 0] (starts (bl s)).length) 3)) := (Below.refl _ _).alloc (Nat.le_refl _) _
  have Hlen := Lib.hid hlen
  clear hlen
  go_enter Try.func10, Try.ntmps10
  go_wp2_with (go_at_call 14; refine hcn.mono ?_; rintro e w' ⟨rfl, rfl⟩)
  clear hmk hcn
  go_loopw [3, 4] (fun v i wr => ∃ (k n : Nat) (acc : List Nat), k ≤ s.size ∧ i = .int .i64 k ∧ n ≤ k + 1 ∧ acc.length = n ∧ acc ++ nl k ((bl s).drop k) = starts (bl s) ∧ wr.ownsRow w.heap.size 3 1 v n (nCells acc) ∧ Below w.heap.size w wr) (fun _ i _ => s.size - (intOf i).toNat)
  case atStart => exact ⟨0, 1, [0], by omega, rfl, by omega, rfl, Hst.out, hown0, hb0⟩
  case round =>
    clear hown0 hb0
    obtain ⟨k, n, acc, hk, rfl, hn, hacc, hst, hown, hb⟩ := hrel
    have Hacc := Lib.hid hacc
    have Hst2 := Lib.hid hst
    clear hacc hst
    by_cases hlt : k < s.size
    · obtain ⟨t1, t2⟩ := byte_test hlt
      obtain ⟨u1, u2⟩ := starts_step Hst2.out t1
      have e1 := byN_get s k hlt
      have l1 := byN_lt s k
      have b0 : (0 : Int) ≤ (k : Int) := by omega
      have b1 : (k : Int) < (s.size : Int) := by omega
      by_cases hc : byN s k = 10
      · have Hu := Lib.hid (u1 (t2.1 hc))
        rw [hc] at e1
        have hgs := hb.size
        have Hb := Lib.hid hb
        clear t1 t2 u1 u2 hc l1 hb
        go_wp2_with (at_builtin; refine wpList_append_own _ rfl _ _ 22 rfl w.heap.size 3 i0 (.int .i64 0) 1 8 Try.underlying22 hi hz0 hz1 hz2 rfl (by decide) _ n (nCells acc) rfl (hown.alloc _) ⟨wr.heap.size, 0, none⟩ 1 1 [.int .i64 ((k : Int) + 1)] rfl rfl ?c1 ?c2 ?c3 ?c4 ?c5 ?_)
        case c1 => exact World.news_of_block (cs := #[.int .i64 ((k : Int) + 1)]) (t := 3) (fr := (0, 0)) (heap_alloc_new wr _)
        case c2 => simp [Value.oneCell']
        case c3 => unfold maxLen; omega
        case c4 => omega
        case c5 => simp; omega
        · intro v' w2 hown2 hgrow _
          have hb2 : Below w.heap.size w w2 := (Hb.out.alloc hgs _).grown hgrow (by simp; omega) (fun k e => (hown.lt k e).1)
          go_wp2
          go_roundw
          case rel => exact ⟨k + 1, n + 1, acc ++ [k + 1], by omega, by go_num, by omega, by rw [List.length_append, Hacc.out]; rfl, Hu.out, by rw [nCells_snoc]; exact hown2, hb2⟩
          case measure => simp [intOf]; omega
      · have Hu := Lib.hid (u2 (fun e => hc (t2.2 e)))
        have d1 : ((byN s k : Int) == 10) = false := beq_eq_false_iff_ne.2 (by omega)
        have Hb := Lib.hid hb
        clear t1 t2 u1 u2 hc hb
        generalize byN s k = B at e1 l1 d1
        go_wp2
        go_roundw
        case rel => exact ⟨k + 1, n, acc, by omega, by go_num, by omega, Hacc.out, Hu.out, hown, Hb.out⟩
        case measure => simp [intOf]; omega
    · have hfin : acc = starts (bl s) := by
        have : (bl s).drop k = [] := List.drop_of_length_le (by rw [Hlen.out]; omega)
        rw [← Hst2.out, this]; exact (List.append_nil _).symm
      have hnl : (starts (bl s)).length = n := by rw [← hfin]; exact Hacc.out
      have Hfin := Lib.hid hfin
      have Hnl := Lib.hid hnl
      clear hfin hnl
      go_wp2
      go_ret
      refine ⟨_, rfl, ?_, hb⟩
      rw [Hnl.out, ← Hfin.out]
      exact hown

set_option maxHeartbeats 2000000 in
theorem rstarts_any (s : ByteArray) (w : World) (hs : s.size ≤ 1099511627776) :
    Calls Try.prog 13 #[.string s] w fun e w' => ∃ v, e = .returned v ∧ w'.ownsRow w.heap.size 3 1 v (starts (bl s)).length (nCells (starts (bl s))) ∧ Below w.heap.size w w' := by
  obtain ⟨i0, hi, hz0, hz1, hz2⟩ := info_parts info_int
  have hlen := bl_size s
  have Hst : Hid (([0] : List Nat) ++ nl 0 ((bl s).drop 0) = starts (bl s)) := Lib.hid rfl
  have hown0 : (w.alloc (.cells #[.int .i64 0] 3)).ownsRow w.heap.size 3 1 (.slice (some ⟨w.heap.size, 0, none⟩) 1 1) 1 (nCells [0]) :=
    ⟨rfl, .inr ⟨w.heap.size, _, _, rfl, Nat.le_refl _, heap_alloc_new w _, Nat.le_refl _, by unfold maxLen; omega, rfl, rfl⟩⟩
  have hb0 : Below w.heap.size w (w.alloc (.cells #[.int .i64 0] 3)) := (Below.refl _ _).alloc (Nat.le_refl _) _
  have Hlen := Lib.hid hlen
  clear hlen
  go_enter Try.func13, Try.ntmps13
  go_wp2
  go_loopw [3, 4] (fun v i wr => ∃ (k n : Nat) (acc : List Nat), k ≤ s.size ∧ i = .int .i64 k ∧ n ≤ k + 1 ∧ acc.length = n ∧ acc ++ nl k ((bl s).drop k) = starts (bl s) ∧ wr.ownsRow w.heap.size 3 1 v n (nCells acc) ∧ Below w.heap.size w wr) (fun _ i _ => s.size - (intOf i).toNat)
  case atStart => exact ⟨0, 1, [0], by omega, rfl, by omega, rfl, Hst.out, hown0, hb0⟩
  case round =>
    clear hown0 hb0
    obtain ⟨k, n, acc, hk, rfl, hn, hacc, hst, hown, hb⟩ := hrel
    have Hacc := Lib.hid hacc
    have Hst2 := Lib.hid hst
    clear hacc hst
    by_cases hlt : k < s.size
    · obtain ⟨t1, t2⟩ := byte_test hlt
      obtain ⟨u1, u2⟩ := starts_step Hst2.out t1
      have e1 := byN_get s k hlt
      have l1 := byN_lt s k
      have b0 : (0 : Int) ≤ (k : Int) := by omega
      have b1 : (k : Int) < (s.size : Int) := by omega
      by_cases hc : byN s k = 10
      · have Hu := Lib.hid (u1 (t2.1 hc))
        rw [hc] at e1
        have hgs := hb.size
        have Hb := Lib.hid hb
        clear t1 t2 u1 u2 hc l1 hb
        go_wp2_with (at_builtin; refine wpList_append_own _ rfl _ _ 22 rfl w.heap.size 3 i0 (.int .i64 0) 1 8 Try.underlying22 hi hz0 hz1 hz2 rfl (by decide) _ n (nCells acc) rfl (hown.alloc _) ⟨wr.heap.size, 0, none⟩ 1 1 [.int .i64 ((k : Int) + 1)] rfl rfl ?c1 ?c2 ?c3 ?c4 ?c5 ?_)
        case c1 => exact World.news_of_block (cs := #[.int .i64 ((k : Int) + 1)]) (t := 3) (fr := (0, 0)) (heap_alloc_new wr _)
        case c2 => simp [Value.oneCell']
        case c3 => unfold maxLen; omega
        case c4 => omega
        case c5 => simp; omega
        · intro v' w2 hown2 hgrow _
          have hb2 : Below w.heap.size w w2 := (Hb.out.alloc hgs _).grown hgrow (by simp; omega) (fun k e => (hown.lt k e).1)
          go_wp2
          go_roundw
          case rel => exact ⟨k + 1, n + 1, acc ++ [k + 1], by omega, by go_num, by omega, by rw [List.length_append, Hacc.out]; rfl, Hu.out, by rw [nCells_snoc]; exact hown2, hb2⟩
          case measure => simp [intOf]; omega
      · have Hu := Lib.hid (u2 (fun e => hc (t2.2 e)))
        have d1 : ((byN s k : Int) == 10) = false := beq_eq_false_iff_ne.2 (by omega)
        have Hb := Lib.hid hb
        clear t1 t2 u1 u2 hc hb
        generalize byN s k = B at e1 l1 d1
        go_wp2
        go_roundw
        case rel => exact ⟨k + 1, n, acc, by omega, by go_num, by omega, Hacc.out, Hu.out, hown, Hb.out⟩
        case measure => simp [intOf]; omega
    · have hfin : acc = starts (bl s) := by
        have : (bl s).drop k = [] := List.drop_of_length_le (by rw [Hlen.out]; omega)
        rw [← Hst2.out, this]; exact (List.append_nil _).symm
      have hnl : (starts (bl s)).length = n := by rw [← hfin]; exact Hacc.out
      have Hfin := Lib.hid hfin
      have Hnl := Lib.hid hnl
      clear hfin hnl
      go_wp2
      go_ret
      refine ⟨_, rfl, ?_, hb⟩
      rw [Hnl.out, ← Hfin.out]
      exact hown

set_option maxHeartbeats 2000000 in
theorem ints_any (x y : Option Addr) (cx cy : Nat) (S : List Nat) (w : World) (hx : RowN w x S) (hy : RowN w y S) (hl : S.length ≤ 4611686018427387904) :
    Calls Try.prog 12 #[.slice x S.length cx, .slice y S.length cy] w fun e w' => e = .returned (.bool true) ∧ Below w.heap.size w w' := by
  have Hx := Lib.hid hx
  have Hy := Lib.hid hy
  clear hx hy
  go_enter Try.func12, Try.ntmps12
  go_wp2
  go_loopw [5] (fun i wr => ∃ (k q : Nat), k ≤ S.length ∧ i = .int .i64 k ∧ wr = w.drewN q) (fun i _ => S.length - (intOf i).toNat)
  case atStart => exact ⟨0, 0, by omega, rfl, rfl⟩
  case round =>
    obtain ⟨k, q, hk, rfl, rfl⟩ := hrel
    by_cases hlt : k < S.length
    · obtain ⟨g, rfl, _, hc⟩ := Hx.out (by omega)
      obtain ⟨g', rfl, _, hc'⟩ := Hy.out (by omega)
      have c1 := hc k hlt
      have c2 := hc' k hlt
      have b0 : (0 : Int) ≤ (k : Int) := by omega
      have b1 : (k : Int) < (S.length : Int) := by omega
      clear hc hc'
      generalize nthN S k = B at c1 c2
      have n1 : ((B : Int) != (B : Int)) = false := by simp
      go_wp2
      go_quiet (fail)
      clear n1
      go_wp2
      go_roundw
      case rel => exact ⟨k + 1, q + nq, by omega, by go_num, rfl⟩
      case measure => simp [intOf]; omega
    · go_wp2
      go_ret
      exact ⟨rfl, below_draw (Below.refl _ _) q⟩
end Go.Proofs.Ytckioinjgdjohab
