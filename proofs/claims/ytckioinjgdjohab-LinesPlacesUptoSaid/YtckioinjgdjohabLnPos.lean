/- Contract of lines.At. -/
import Derived.Test.YtckioinjgdjohabLnAt
namespace Go.Proofs.Ytckioinjgdjohab
open Go.RowKit Em

/-- A block of the call's own that holds a line and a column. -/
def PBox (w : World) (g : Nat) (l c : Int) : Prop := w.heap[g]? = some (.cells #[.int .i64 l, .int .i64 c] 33 (0, 0))
theorem PBox.c0 {w : World} {g : Nat} {l c : Int} (h : PBox w g l c) : w.cell? ⟨g, 0, none⟩ = some (.int .i64 l) := by rw [cell_of_row w g 0 _ _ _ h]; rfl
theorem PBox.c1 {w : World} {g : Nat} {l c : Int} (h : PBox w g l c) : w.cell? ⟨g, 1, none⟩ = some (.int .i64 c) := by rw [cell_of_row w g 1 _ _ _ h]; rfl
theorem PBox.free {w : World} {g : Nat} {l c : Int} (h : PBox w g l c) (i : Nat) : w.frozen? ⟨g, i, none⟩ = false := frozen_of_row w g i _ _ h
theorem PBox.set0 {w : World} {g : Nat} {l c l' : Int} (h : PBox w g l c) : PBox (w.setCell ⟨g, 0, none⟩ (.int .i64 l')) g l' c := heap_setCell_same w g 0 _ _ _ h
theorem PBox.set1 {w : World} {g : Nat} {l c c' : Int} (h : PBox w g l c) : PBox (w.setCell ⟨g, 1, none⟩ (.int .i64 c')) g l c' := heap_setCell_same w g 1 _ _ _ h
theorem PBox.far {w : World} {g : Nat} {l c : Int} (h : PBox w g l c) {p : Addr} (hp : g ≠ p.block) (v : Value) : PBox (w.setCell p v) g l c := (Below.heap_setCell w p v g hp).trans h
theorem PBox.draw {w : World} {g : Nat} {l c : Int} (h : PBox w g l c) (n : Nat) : PBox (w.drewN n) g l c := h
theorem PBox.keep {w w' : World} {g : Nat} {l c : Int} (h : PBox w g l c) (hb : Below w.heap.size w w') : PBox w' g l c := (hb.block g (Array.getElem?_eq_some_iff.1 h).1).trans h

/-- What At answers. -/
def posV (l c : Int) : Value := .agg #[.int .i64 l, .int .i64 c]
def atV (s : ByteArray) (o : Int) : Value := if o < 0 ∨ (s.size : Int) < o then .tuple #[posV 0 0, .int .i64 1] else .tuple #[posV (ln (bl s) o.toNat : Nat) (o - (bg (bl s) o.toNat : Nat) + 1), .int .i64 0]

set_option maxHeartbeats 4000000 in
set_option maxRecDepth 100000 in
theorem at_bad (s : ByteArray) (o : Int) (w : World) (h : o < 0 ∨ (s.size : Int) < o) :
    Calls Try.prog 17 #[.string s, .int .i64 o] w fun e w' => e = .returned (.tuple #[posV 0 0, .int .i64 1]) ∧ Below w.heap.size w w' := by
  have hp : PBox ((w.alloc (.cells #[.int .i64 o] 3)).alloc (.cells #[.int .i64 0, .int .i64 0] 33)) (w.heap.size + 1) 0 0 := heap_alloc2_new w _ _
  have r0 := hp.c0
  have r1 := hp.c1
  have hb : Below w.heap.size w ((w.alloc (.cells #[.int .i64 o] 3)).alloc (.cells #[.int .i64 0, .int .i64 0] 33)) := ((Below.refl _ _).alloc (Nat.le_refl _) _).alloc (by simp) _
  have Hb := Lib.hid hb
  clear hb hp
  by_cases h1 : o < 0
  · clear h
    go_enter Try.func17, Try.ntmps17
    go_wp2
    refine bodyPost_ret (v := .tuple #[posV 0 0, .int .i64 1]) ?_ ?_ ?_
    · simp [posV, results, Try.results17, go_sem, r0, r1]
    · rfl
    · exact ⟨rfl, Hb.out⟩
  · have h2 : (s.size : Int) < o := by omega
    clear h
    go_enter Try.func17, Try.ntmps17
    go_wp2
    refine bodyPost_ret (v := .tuple #[posV 0 0, .int .i64 1]) ?_ ?_ ?_
    · simp [posV, results, Try.results17, go_sem, r0, r1]
    · rfl
    · exact ⟨rfl, Hb.out⟩

set_option maxHeartbeats 4000000 in
set_option maxRecDepth 100000 in
theorem at_good (s : ByteArray) (o : Nat) (w : World) (h : o ≤ s.size) (hs : s.size ≤ 1099511627776) :
    Calls Try.prog 17 #[.string s, .int .i64 o] w fun e w' => e = .returned (.tuple #[posV (ln (bl s) o : Nat) ((o : Int) - (bg (bl s) o : Nat) + 1), .int .i64 0]) ∧ Below w.heap.size w w' := by
  have hol : o ≤ (bl s).length := by rw [bl_size]; exact h
  have hp : PBox ((w.alloc (.cells #[.int .i64 o] 3)).alloc (.cells #[.int .i64 0, .int .i64 0] 33)) (w.heap.size + 1) 0 0 := heap_alloc2_new w _ _
  have ho : ((w.alloc (.cells #[.int .i64 o] 3)).alloc (.cells #[.int .i64 0, .int .i64 0] 33)).cell? ⟨w.heap.size, 0, none⟩ = some (.int .i64 o) := by
    rw [cell_of_row _ _ 0 _ _ _ (heap_alloc2_old w _ _)]; rfl
  have hb : Below w.heap.size w ((w.alloc (.cells #[.int .i64 o] 3)).alloc (.cells #[.int .i64 0, .int .i64 0] 33)) := ((Below.refl _ _).alloc (Nat.le_refl _) _).alloc (by simp) _
  have Hp := Lib.hid hp
  have Ho := Lib.hid ho
  have Hb := Lib.hid hb
  have Hol := Lib.hid hol
  clear hb hp ho hol
  go_enter Try.func17, Try.ntmps17
  go_wp2_with fail
  refine (starts_any s _ hs).mono ?_
  rintro e w2 ⟨v, rfl, o2, b2⟩
  obtain ⟨x, c, rfl, r2⟩ := rowN_of_owns o2
  have hbase := (o2.lt)
  have p2 := Hp.out.keep b2
  have q2 := (b2.cell (World.block_lt_of_cell? _ _ Ho.out)).trans Ho.out
  have hsz : w.heap.size + 1 + 1 ≤ w2.heap.size := by have := b2.size; simp at this; omega
  have Hb2 := Lib.hid (Hb.out.trans (b2.mono (by simp; omega)))
  have b3 : Below w2.heap.size w2 (w2.alloc (.cells #[.slice x (starts (bl s)).length c] 22)) := (Below.refl _ _).alloc (Nat.le_refl _) _
  have p3 := p2.keep b3
  have q3 := (b3.cell (World.block_lt_of_cell? _ _ q2)).trans q2
  have r3 := r2.keep b3
  have x3 : (w2.alloc (.cells #[.slice x (starts (bl s)).length c] 22)).cell? ⟨w2.heap.size, 0, none⟩ = some (.slice x (starts (bl s)).length c) := by rw [cell_of_row _ _ 0 _ _ _ (heap_alloc_new w2 _)]; rfl
  have hS := search_any w2.heap.size w.heap.size x c s o _ h hs x3 q3 r3
  have Hb3 := Lib.hid (Hb2.out.trans (b3.mono (by omega)))
  have P3 := Lib.hid p3
  have Q3 := Lib.hid q3
  have R3 := Lib.hid r3
  have X3 := Lib.hid x3
  clear o2 b2 p2 q2 b3 p3 q3 r3 x3 r2
  go_wp2_with fail
  refine hS.mono ?_
  rintro e w4 ⟨rfl, b4⟩
  clear hS
  have hln := ln_pos (bl s) o
  have hlen := ln_le (bl s) o Hol.out
  obtain ⟨g, rfl, hg, hc⟩ := (R3.out.keep b4) (by omega)
  obtain ⟨hg1, _⟩ := hbase g rfl
  have hgn : w.heap.size + 1 < g := by simp at hg1; omega
  have c1 := hc (ln (bl s) o - 1) (by omega)
  rw [starts_bg (bl s) o Hol.out] at c1
  have hbg := bg_le (bl s) o
  have p4 := P3.out.keep b4
  have q4 := (b4.cell (World.block_lt_of_cell? _ _ Q3.out)).trans Q3.out
  have x4 := (b4.cell (World.block_lt_of_cell? _ _ X3.out)).trans X3.out
  have Hb4 := Lib.hid (Hb3.out.trans (b4.mono (by simp; omega)))
  have hm := starts_most s
  obtain ⟨i, hi⟩ : ∃ i, ln (bl s) o = i + 1 := ⟨ln (bl s) o - 1, by omega⟩
  have HI := Lib.hid hi
  rw [show ln (bl s) o - 1 = i by omega] at c1
  generalize hG : bg (bl s) o = G at c1 hbg
  have HG := Lib.hid hG
  have hil : i < (starts (bl s)).length := by omega
  generalize (starts (bl s)).length = n at hil hm x4
  rw [hi]
  have z0 := p4.free 0
  have z1 := p4.free 1
  have y0 := p4.c0
  have y1 := p4.c1
  have b0 : (0 : Int) ≤ (i : Int) := by omega
  have b1 : (i : Int) < (n : Int) := by omega
  have b2 : (G : Int) ≤ (o : Int) := by omega
  have v1 : IntKind.i64.wrap ((i : Int) + 1 - 1) = (i : Int) := by rw [IntKind.wrap_i64]; omega
  have v2 : IntKind.i64.wrap ((o : Int) - (G : Int)) = (o : Int) - (G : Int) := by rw [IntKind.wrap_i64]; omega
  have v3 : IntKind.i64.wrap ((o : Int) - (G : Int) + 1) = (o : Int) - (G : Int) + 1 := by rw [IntKind.wrap_i64]; omega
  have v0 : IntKind.i64.wrap (i : Int) = (i : Int) := by rw [IntKind.wrap_i64]; omega
  have n1 : ¬ g = w.heap.size + 1 := by omega
  have n2 : ¬ w.heap.size + 1 = g := by omega
  have n3 : ¬ w2.heap.size = w.heap.size + 1 := by omega
  have n4 : ¬ w.heap.size + 1 = w2.heap.size := by omega
  have P4 := Lib.hid p4
  clear hi hG p4 hc hln hlen b4 hbase hg1 P3 Q3 X3 R3 Hb2 Hb3
  push_cast
  go_wp2
  go_region_held3 (fun w' => w'.cell? ⟨w.heap.size, 0, none⟩ = some (.int .i64 o) ∧ w'.cell? ⟨w2.heap.size, 0, none⟩ = some (.slice (some ⟨g, 0, none⟩) n c) ∧ w'.cell? ⟨g, i, none⟩ = some (.int .i64 G))
    (go_keep)
    (fail)
  clear v0 v1 v2 v3
  have hbf : PBox (((w4.setCell ⟨w.heap.size + 1, 0, none⟩ (.int .i64 ((i : Int) + 1))).setCell ⟨w.heap.size + 1, 1, none⟩ (.int .i64 ((o : Int) - (G : Int) + 1))).drew) (w.heap.size + 1) ((i : Int) + 1) ((o : Int) - (G : Int) + 1) := (P4.out.set0 (l' := (i : Int) + 1)).set1 (c' := (o : Int) - (G : Int) + 1)
  have r0 := hbf.c0
  have r1 := hbf.c1
  go_wp2
  refine bodyPost_ret (v := .tuple #[posV ((i : Int) + 1) ((o : Int) - (G : Int) + 1), .int .i64 0]) ?_ ?_ ?_
  · simp [posV, results, Try.results17, go_sem, r0, r1]
  · rfl
  · exact ⟨by rw [HI.out, HG.out]; push_cast; rfl, below_drew ((Hb4.out.setCell (by simp) _).setCell (by simp) _)⟩

theorem at_any (s : ByteArray) (o : Int) (w : World) (hs : s.size ≤ 1099511627776) :
    Calls Try.prog 17 #[.string s, .int .i64 o] w fun e w' => e = .returned (atV s o) ∧ Below w.heap.size w w' := by
  by_cases h : o < 0 ∨ (s.size : Int) < o
  · have e : atV s o = .tuple #[posV 0 0, .int .i64 1] := if_pos h
    rw [e]; exact at_bad s o w h
  · obtain ⟨k, rfl⟩ := Int.eq_ofNat_of_zero_le (show 0 ≤ o by omega)
    have e : atV s (k : Int) = .tuple #[posV (ln (bl s) k : Nat) ((k : Int) - (bg (bl s) k : Nat) + 1), .int .i64 0] := if_neg h
    rw [e]; exact at_good s k w (by omega) hs

set_option maxHeartbeats 4000000 in
set_option maxRecDepth 100000 in
theorem rat_bad (s : ByteArray) (o : Int) (w : World) (h : o < 0 ∨ (s.size : Int) < o) :
    Calls Try.prog 18 #[.string s, .int .i64 o] w fun e w' => e = .returned (.tuple #[posV 0 0, .int .i64 1]) ∧ Below w.heap.size w w' := by
  have hp : PBox (w.alloc (.cells #[.int .i64 0, .int .i64 0] 33)) w.heap.size 0 0 := heap_alloc_new w _
  have r0 := hp.c0
  have r1 := hp.c1
  have Hb := Lib.hid ((Below.refl w.heap.size w).alloc (Nat.le_refl _) (.cells #[.int .i64 0, .int .i64 0] 33))
  clear hp
  by_cases h1 : o < 0
  · clear h
    go_enter Try.func18, Try.ntmps18
    go_wp2
    refine bodyPost_ret (v := .tuple #[posV 0 0, .int .i64 1]) ?_ ?_ ?_
    · simp [posV, results, Try.results18, go_sem, r0, r1]
    · rfl
    · exact ⟨rfl, Hb.out⟩
  · have h2 : (s.size : Int) < o := by omega
    clear h
    go_enter Try.func18, Try.ntmps18
    go_wp2
    refine bodyPost_ret (v := .tuple #[posV 0 0, .int .i64 1]) ?_ ?_ ?_
    · simp [posV, results, Try.results18, go_sem, r0, r1]
    · rfl
    · exact ⟨rfl, Hb.out⟩

set_option maxHeartbeats 4000000 in
set_option maxRecDepth 100000 in
theorem rat_good (s : ByteArray) (o : Nat) (w : World) (h : o ≤ s.size) (hs : s.size ≤ 1099511627776) :
    Calls Try.prog 18 #[.string s, .int .i64 o] w fun e w' => e = .returned (.tuple #[posV (ln (bl s) o : Nat) ((o : Int) - (bg (bl s) o : Nat) + 1), .int .i64 0]) ∧ Below w.heap.size w w' := by
  have hp : PBox ((w.alloc (.cells #[.int .i64 0, .int .i64 0] 33)).alloc (.cells #[.int .i64 1, .int .i64 1] 33)) w.heap.size 0 0 := heap_alloc2_old w _ _
  have hq : PBox ((w.alloc (.cells #[.int .i64 0, .int .i64 0] 33)).alloc (.cells #[.int .i64 1, .int .i64 1] 33)) (w.heap.size + 1) (ln (bl s) 0 : Nat) (((0 : Nat) : Int) - (bg (bl s) 0 : Nat) + 1) := by rw [ln_zero]; exact heap_alloc2_new w _ _
  have hb : Below w.heap.size w ((w.alloc (.cells #[.int .i64 0, .int .i64 0] 33)).alloc (.cells #[.int .i64 1, .int .i64 1] 33)) := ((Below.refl _ _).alloc (Nat.le_refl _) _).alloc (by simp) _
  go_enter Try.func18, Try.ntmps18
  go_wp2
  go_loopw [7] (fun i wr => ∃ k : Nat, k ≤ o ∧ i = .int .i64 k ∧ PBox wr (w.heap.size + 1) (ln (bl s) k : Nat) ((k : Int) - (bg (bl s) k : Nat) + 1) ∧ PBox wr w.heap.size 0 0 ∧ Below w.heap.size w wr) (fun i _ => o - (intOf i).toNat)
  case atStart => exact ⟨0, by omega, rfl, hq, hp, hb⟩
  case round =>
    clear hp hq hb
    obtain ⟨k, hk, rfl, q, p, hb⟩ := hrel
    have Q := Lib.hid q
    have P := Lib.hid p
    have Hb := Lib.hid hb
    have k0 := q.c0
    have k1 := q.c1
    have f0 := q.free 0
    have f1 := q.free 1
    have j0 := p.c0
    have j1 := p.c1
    have g0 := p.free 0
    have g1 := p.free 1
    have hbg := bg_le (bl s) k
    have hlnk : ln (bl s) k ≤ s.size + 1 := Nat.le_trans (ln_le (bl s) k (by rw [bl_size]; omega)) (starts_most s)
    clear q p hb
    by_cases hlt : k < o
    · have hks : k < s.size := by omega
      obtain ⟨t1, t2⟩ := byte_test hks
      have e1 := byN_get s k hks
      have l1 := byN_lt s k
      have b0 : (0 : Int) ≤ (k : Int) := by omega
      have b1 : (k : Int) < (s.size : Int) := by omega
      by_cases hc : byN s k = 10
      · rw [t2.1 hc] at t1
        obtain ⟨u1, u2⟩ := ln_hit t1
        rw [hc] at e1
        have Hu : Hid (((ln (bl s) (k + 1) : Nat) : Int) = (ln (bl s) k : Nat) + 1 ∧ (((k + 1 : Nat) : Int) - (bg (bl s) (k + 1) : Nat) + 1) = 1) := Lib.hid ⟨by rw [u1]; push_cast; rfl, by rw [u2]; omega⟩
        clear t1 t2 u1 u2 hc l1
        generalize hL : ln (bl s) k = L at k0 hlnk Hu Q
        generalize hG : bg (bl s) k = G at k1 hbg Q
        clear hL hG
        go_wp2
        go_roundw
        case rel =>
          refine ⟨k + 1, by omega, by go_num, ?_, ?_, ?_⟩
          · rw [Hu.out.1, Hu.out.2]
            exact ((Q.out.set1 (c' := _)).set0 (l' := _)).set1 (c' := _)
          · exact ((P.out.far (by simp) _).far (by simp) _).far (by simp) _
          · exact ((Hb.out.setCell (by simp) _).setCell (by simp) _).setCell (by simp) _
        case measure => simp [intOf]; omega
      · obtain ⟨u1, u2⟩ := ln_miss t1 (fun e => hc (t2.2 e))
        have d1 : ((byN s k : Int) == 10) = false := beq_eq_false_iff_ne.2 (by omega)
        have Hu : Hid (((ln (bl s) (k + 1) : Nat) : Int) = (ln (bl s) k : Nat) ∧ (((k + 1 : Nat) : Int) - (bg (bl s) (k + 1) : Nat) + 1) = (k : Int) - (bg (bl s) k : Nat) + 1 + 1) := Lib.hid ⟨by rw [u1], by rw [u2]; omega⟩
        clear t1 t2 u1 u2 hc
        generalize byN s k = B at e1 l1 d1
        generalize hL : ln (bl s) k = L at k0 hlnk Hu Q
        generalize hG : bg (bl s) k = G at k1 hbg Hu Q
        clear hL hG
        go_wp2
        go_roundw
        case rel =>
          refine ⟨k + 1, by omega, by go_num, ?_, ?_, ?_⟩
          · rw [Hu.out.1, Hu.out.2]
            exact Q.out.set1 (c' := _)
          · exact P.out.far (by simp) _
          · exact Hb.out.setCell (by simp) _
        case measure => simp [intOf]; omega
    · obtain rfl : o = k := by omega
      have hbf : PBox ((wr.setCell ⟨w.heap.size, 0, none⟩ (.int .i64 (ln (bl s) o : Nat))).setCell ⟨w.heap.size, 1, none⟩ (.int .i64 ((o : Int) - (bg (bl s) o : Nat) + 1))) w.heap.size (ln (bl s) o : Nat) ((o : Int) - (bg (bl s) o : Nat) + 1) := (P.out.set0 (l' := _)).set1 (c' := _)
      have r0 := hbf.c0
      have r1 := hbf.c1
      clear hbf
      go_wp2
      refine bodyPost_ret (v := .tuple #[posV (ln (bl s) o : Nat) ((o : Int) - (bg (bl s) o : Nat) + 1), .int .i64 0]) ?_ ?_ ?_
      · simp [posV, results, Try.results18, go_sem, r0, r1]
      · rfl
      · exact ⟨rfl, (Hb.out.setCell (Nat.le_refl _) _).setCell (Nat.le_refl _) _⟩

theorem rat_any (s : ByteArray) (o : Int) (w : World) (hs : s.size ≤ 1099511627776) :
    Calls Try.prog 18 #[.string s, .int .i64 o] w fun e w' => e = .returned (atV s o) ∧ Below w.heap.size w w' := by
  by_cases h : o < 0 ∨ (s.size : Int) < o
  · have e : atV s o = .tuple #[posV 0 0, .int .i64 1] := if_pos h
    rw [e]; exact rat_bad s o w h
  · obtain ⟨k, rfl⟩ := Int.eq_ofNat_of_zero_le (show 0 ≤ o by omega)
    have e : atV s (k : Int) = .tuple #[posV (ln (bl s) k : Nat) ((k : Int) - (bg (bl s) k : Nat) + 1), .int .i64 0] := if_neg h
    rw [e]; exact rat_good s k w (by omega) hs
end Go.Proofs.Ytckioinjgdjohab
