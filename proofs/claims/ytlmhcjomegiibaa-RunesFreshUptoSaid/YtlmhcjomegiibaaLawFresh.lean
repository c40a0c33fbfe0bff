/- The walk of the law RunesFresh. -/
import Derived.Test.YtlmhcjomegiibaaLawBack
namespace Go.Proofs.Ytlmhcjomegiibaa
open Go.RowKit

/-- 'append(made, l...)' into room that was made for it. -/
theorem fits_run {W : World} {B g : Nat} {a : Option Addr} {len cap : Nat} {zs : List Int} (h : IsRow .i32 W a len cap zs) (hown : W.ownsRow B 21 1 (.slice (some ⟨g, 0, none⟩) 0 (len + 1)) 0 []) :
    ∃ W', (Builtin.append_ #[32, 32] 32 #[.slice (some ⟨g, 0, none⟩) 0 (len + 1), .slice a len cap]).run Try.prog W = .ok (.slice (some ⟨g, 0, none⟩) len (len + 1)) W' ∧
      W'.ownsRow B 21 1 (.slice (some ⟨g, 0, none⟩) len (len + 1)) len ((zs.take len).map (Value.int .i32)) ∧ W.grownBy W' (some g) := by
  obtain ⟨i0, hi, hz0, hz1, hz2⟩ := info_parts info_i32
  rcases h with ⟨rfl, rfl, rfl, rfl⟩ | ⟨x, rfl, hl, hm, hz, hc, _⟩
  · have hr := run_append_owned_none (P := Try.prog) W B 32 32 21 i0 1 Try.underlying32 hi _ 0 [] hown
    exact ⟨W, hr, hown, World.grownBy.refl _ _⟩
  · have e : (zs.take len).length = len := by rw [List.length_take]; omega
    obtain ⟨W', hr, h2, h3⟩ := run_append_fits (P := Try.prog) W B 32 32 21 i0 1 Try.underlying32 hi hz1 g 0 (len + 1) [] hown x len cap ((zs.take len).map (Value.int .i32)) (by simp; omega)
      (fun j u hu => by
        have hj : j < len := by have := (List.getElem?_eq_some_iff.1 hu).1; rw [List.length_map, e] at this; exact this
        rw [hc j (by omega)]
        rw [List.getElem?_map, List.getElem?_take_of_lt hj, List.getElem?_eq_getElem (show j < zs.length by omega)] at hu
        rw [← Option.some.inj hu]
        simp [show j < zs.length by omega])
      (ints_oneCell .i32 _) (by omega)
    simp only [Nat.zero_add, List.nil_append] at hr h2
    exact ⟨W', hr, h2, h3⟩

/-- What stands in a made row of n + 1: the numbers that came in, and one more. -/
theorem rowI_more {w : World} {B : Nat} {e : TypeId} {g c n : Nat} {l : List Int} {x : Int} (hn : l.length = n) (h : w.ownsRow B e 1 (.slice (some ⟨g, 0, none⟩) (n + 1) c) (n + 1) (l.map (Value.int .i32) ++ [.int .i32 x])) :
    B ≤ g ∧ g < w.heap.size ∧ (∀ i, i < n → w.cell? ⟨g, i, none⟩ = some (.int .i32 (nthI l i))) ∧ w.cell? ⟨g, n, none⟩ = some (.int .i32 x) := by
  have hc := h.cells (g := g) rfl
  obtain ⟨hb, hg⟩ := h.lt g rfl
  refine ⟨hb, hg, fun i hi => ?_, ?_⟩
  · have := hc i (.int .i32 (nthI l i)) (by rw [List.getElem?_append_left (by simp; omega)]; simp [nthI, hn, hi])
    rwa [add_zero] at this
  · have := hc n (.int .i32 x) (by rw [List.getElem?_append_right (by simp; omega)]; simp [hn])
    rwa [add_zero] at this

/-- A row of cells that may be written. -/
def Cells (w : World) (g n : Nat) : Prop := ∃ cur, w.heap[g]? = some (.cells cur 21 (0, 0)) ∧ n ≤ cur.size
theorem Cells.cell {w : World} {g n k : Nat} (h : Cells w g n) (hk : k < n) : ∃ v, w.cell? ⟨g, k, none⟩ = some v := by
  obtain ⟨cur, hg, hn⟩ := h
  exact ⟨cur[k]'(by omega), by rw [cell_of_row w g k cur _ _ hg]; simp [show k < cur.size by omega]⟩
theorem Cells.free {w : World} {g n : Nat} (h : Cells w g n) (k : Nat) : w.frozen? ⟨g, k, none⟩ = false := by
  obtain ⟨cur, hg, hn⟩ := h
  simp [World.frozen?, hg]
theorem Cells.set {w : World} {g n : Nat} (h : Cells w g n) (k : Nat) (v : Value) : Cells (w.setCell ⟨g, k, none⟩ v) g n := by
  obtain ⟨cur, hg, hn⟩ := h
  refine ⟨cur.setIfInBounds k v, ?_, by simpa using hn⟩
  simp [World.setCell, Array.getElem?_modify, hg]
theorem cells_of {w : World} {B : Nat} {x : Option Addr} {n c : Nat} {xs : List Value} (h : w.ownsRow B 21 1 (.slice x n c) n xs) (hn : 0 < n) : ∃ g, x = some ⟨g, 0, none⟩ ∧ B ≤ g ∧ Cells w g n := by
  rcases h.2 with ⟨e, h0⟩ | ⟨g, cap, cur, e, hb, hg, hnc, _, hs, _⟩
  · omega
  · cases e
    exact ⟨g, rfl, hb, cur, hg, by omega⟩

/-- The made row holds the numbers that came in, and 77 behind them. -/
def Given (w : World) (g n : Nat) (l : List Int) : Prop := g < w.heap.size ∧ (∀ i, i < n → w.cell? ⟨g, i, none⟩ = some (.int .i32 (nthI l i))) ∧ w.cell? ⟨g, n, none⟩ = some (.int .i32 77)
theorem Given.below {w w' : World} {g n B : Nat} {l : List Int} (h : Given w g n l) (hb : Below B w w') (hB : g < B) : Given w' g n l :=
  ⟨Nat.lt_of_lt_of_le h.1 hb.size, fun i hi => (hb.cell hB).trans (h.2.1 i hi), (hb.cell hB).trans h.2.2⟩
theorem Given.keep {w w' : World} {g n : Nat} {l : List Int} (h : Given w g n l) (hb : Below w.heap.size w w') : Given w' g n l := h.below hb h.1

/-- Behind stores into a row that a call made: nothing else has turned. -/
def Wrote (w wr : World) (x : Option Addr) (n lo hi : Nat) : Prop :=
  (n = 0 ∧ wr = w) ∨ ∃ g, x = some ⟨g, 0, none⟩ ∧ lo ≤ g ∧ g < hi ∧ Cells wr g n ∧ w.grownBy wr (some g)
theorem Wrote.below {w wr : World} {x : Option Addr} {n lo hi : Nat} (h : Wrote w wr x n lo hi) (hlo : lo ≤ w.heap.size) : Below lo w wr := by
  rcases h with ⟨_, rfl⟩ | ⟨g, _, hg, _, _, hw⟩
  · exact Below.refl _ _
  · exact (Below.refl _ _).grown hw hlo (fun k e => by cases e; exact hg)
theorem Wrote.owns {w wr : World} {x : Option Addr} {n lo hi : Nat} (h : Wrote w wr x n lo hi) {e : TypeId} {size : Nat} {v : Value} {m : Nat} {xs : List Value} (ho : w.ownsRow hi e size v m xs) : wr.ownsRow hi e size v m xs := by
  rcases h with ⟨_, rfl⟩ | ⟨g, _, _, hg, _, hw⟩
  · exact ho
  · refine ho.kept hw ?_
    cases hv : v.ownBlock with
    | none => exact .inl rfl
    | some k =>
      have := (ho.lt k hv).1
      exact .inr (fun e => by have := Option.some.inj e; omega)

set_option maxRecDepth 100000 in
set_option maxHeartbeats 4000000 in
theorem walk_RunesFresh (s : ByteArray) (a : Option Addr) (len cap : Nat) (zs : List Int) (w : World) (hs : s.size ≤ 1048576) (hrow : IsRow .i32 w a len cap zs) (hcap : cap ≤ 1048576) :
    Calls Try.prog 9 #[.string s, .slice a len cap] w fun e w' => e = .returned (.bool true) ∧ Below w.heap.size w w' := by
  have hle : len ≤ cap := by
    rcases hrow with ⟨_, rfl, rfl, _⟩ | ⟨x, _, h, _⟩
    · omega
    · exact h
  obtain ⟨hlen, hra⟩ := rowI_of_row hrow
  obtain ⟨i0, hi, hz0, hz1, hz2⟩ := info_parts info_i32
  have hls := Um.allC_length s
  go_enter Try.func9, Try.ntmps9
  go_wp2_with (at_make; refine wpList_make_own _ rfl _ _ 32 rfl w.heap.size 21 i0 (.int .i32 0) 1 Try.underlying32 hi hz0 hz1 _ _ _ (len + 1) rfl rfl (by omega) ?b1 ?b2 ?b3 ?_)
  case b1 => rw [hz2]; omega
  case b2 => unfold maxLen; omega
  case b3 => exact Nat.le_refl _
  intro w1 hown1 hgrow1
  have g1 : Below w.heap.size w w1 := (Below.refl _ _).grown hgrow1 (Nat.le_refl _) (fun k e => by cases e)
  obtain ⟨w2, hrun, hown2, hgrow2⟩ := fits_run (row_below hrow g1) hown1
  have g2 : Below w.heap.size w w2 := g1.grown hgrow2 g1.size (fun k e => by cases e; exact Nat.le_refl _)
  generalize zs.take len = l at hlen hra hown2
  have Hrun := Lib.hid hrun
  clear hrow hrun hown1 hgrow1 hgrow2
  have tok1 : True := trivial
  go_wp2_with (first
    | (at_builtin; have _t := tok1; refine wpList_append_run rfl _ _ 32 rfl _ _ _ rfl rfl Hrun.out ?_; clear tok1 _t)
    | (at_builtin; refine wpList_append_fits _ rfl _ _ 32 rfl w.heap.size 21 i0 1 Try.underlying32 hi hz1 w.heap.size len (len + 1) _ rfl (hown2.alloc _) ⟨w2.heap.size, 0, none⟩ 1 1 [.int .i32 77] rfl rfl one_cell ?c2 (by omega) ?_))
  case c2 => intro u hu; simp at hu; subst hu; rfl
  intro w3 hown3 hgrow3
  have g3 : Below w.heap.size w w3 := (g2.alloc g2.size _).grown hgrow3 (by have := g2.size; simp; omega) (fun k e => by cases e; exact Nat.le_refl _)
  obtain ⟨-, m1, m2, m3⟩ := rowI_more hlen hown3
  have hG : Given w3 w.heap.size len l := ⟨m1, m2, m3⟩
  subst hlen
  clear hown3 hgrow3 hown2 Hrun g1 g2 m1 m2 m3 hi hz0 hz1 hz2
  go_wp2_with fail
  refine (all_any s w3 (by omega)).mono ?_
  rintro e w4 ⟨va, rfl, oa, g4⟩
  obtain ⟨xa, ca, rfl, ra⟩ := owns_shape oa
  go_wp2_with fail
  refine (all_any s w4 (by omega)).mono ?_
  rintro e w5 ⟨vb, rfl, ob, g5⟩
  have oa5 := owns_below oa g5
  have hG5 := (hG.keep g4).keep g5
  have hrg : RowI w5 (some ⟨w.heap.size, 0, none⟩) l := fun _ => ⟨_, _, rfl, hG5.1, fun i hi => by rw [Nat.zero_add]; exact hG5.2.1 i hi⟩
  go_wp2_with fail
  refine (join_any _ (l.length + 1) l w5 hrg (by omega)).mono ?_
  rintro e w6 ⟨rfl, g6⟩
  have oa6 := owns_below oa5 g6
  have ob6 := owns_below ob g6
  have hG6 := hG5.keep g6
  have s3 := g3.size; have s4 := g4.size; have s5 := g5.size; have s6 := g6.size
  have gb6 : Below w.heap.size w w6 := ((g3.trans (g4.mono (by omega))).trans (g5.mono (by omega))).trans (g6.mono (by omega))
  have hW0 : Wrote w6 w6 xa (Um.allC s).length w3.heap.size w4.heap.size := by
    by_cases hn : (Um.allC s).length = 0
    · exact .inl ⟨hn, rfl⟩
    · obtain ⟨g, e1, q1, q2, -⟩ := ra (by omega)
      obtain ⟨g', e2, -, hc⟩ := cells_of oa6 (by omega)
      rw [e1] at e2
      obtain rfl : g = g' := by injection e2 with e2; injection e2
      exact .inr ⟨g, e1, q1, q2, hc, World.grownBy.refl _ _⟩
  have hok := allC_le s
  have H7 := fun wx => rall_any s wx (by omega)
  have Hra := Lib.hid hra
  have hGs : w.heap.size < w3.heap.size := hG.1
  clear oa oa5 oa6 ra ob hG hG5 hrg g3 g4 g5 g6 hra
  generalize Um.allC s = A at hW0 ob6 hok H7 hls
  go_wp2
  go_loopw [10] (fun i wr => ∃ k : Nat, k ≤ A.length ∧ i = .int .i64 k ∧ Wrote w6 wr xa A.length w3.heap.size w4.heap.size) (fun i _ => A.length - (intOf i).toNat)
  case atStart => exact ⟨0, by omega, rfl, hW0⟩
  case round =>
    obtain ⟨k, hk, rfl, hW⟩ := hrel
    by_cases hlt : k < A.length
    · rcases hW with ⟨h0, _⟩ | ⟨g, rfl, q1, q2, hc, hw⟩
      · omega
      · obtain ⟨v0, hv0⟩ := hc.cell hlt
        have hf0 := hc.free k
        have Hc := Lib.hid hc
        have b0 : (0 : Int) ≤ (k : Int) := by omega
        have b1 : (k : Int) < (A.length : Int) := by omega
        clear hc hW0
        go_wp2
        go_roundw
        case rel =>
          refine ⟨k + 1, by omega, by go_num, .inr ⟨g, rfl, q1, q2, Hc.out.set k _, ?_⟩⟩
          exact ⟨hw.os, hw.tape, hw.output, by simpa [World.setCell] using hw.size, fun j hj hne => (Below.heap_setCell _ _ _ _ (fun e => hne (by rw [e]))).trans (hw.block j hj hne)⟩
        case measure => simp [intOf]; omega
    · have hbw := hW.below (by omega)
      have ob7 := hW.owns ob6
      have hG7 := hG6.below hbw hGs
      have gb7 := gb6.trans (hbw.mono (by omega))
      have s7 := hbw.size
      clear hW hW0 ob6 hG6 gb6 hbw
      have Hbound := Lib.hid (show A.length ≤ 1000000000000 by omega)
      go_wp2_with fail
      refine (H7 wr).mono ?_
      rintro e w8 ⟨vc, rfl, oc, g8⟩
      have ob8 := owns_below ob7 g8
      have hG8 := hG7.keep g8
      have gb8 := gb7.trans (g8.mono (by omega))
      have s8 := g8.size
      clear ob7 hG7 gb7 g8 H7
      go_wp2_with fail
      refine (fixed_any w8).mono ?_
      rintro e w9 ⟨rfl, g9⟩
      have ob9 := owns_below ob8 g9
      have oc9 := owns_below oc g9
      have hG9 := hG8.keep g9
      have gb9 := gb8.trans (g9.mono (by omega))
      have s9 := g9.size
      clear ob8 hG8 gb8 g9 oc
      go_wp2_with fail
      refine (same_own _ _ vb vc A w9 Hbound.out hok ob9 oc9).mono ?_
      rintro e w10 ⟨rfl, g10⟩
      have hG10 := hG9.keep g10
      have gb10 := gb9.trans (g10.mono (by omega))
      have hrw : RowI w10 a l := (RowI.below Hra.out (gb9.trans (g10.mono (by omega))))
      clear ob9 oc9 hG9 gb9 g10
      obtain ⟨-, hgc, hgl⟩ := hG10
      have Hgc := Lib.hid hgc
      have Hrw := Lib.hid hrw
      clear hgc hrw
      have b0 : (0 : Int) ≤ (l.length : Int) := by omega
      have b1 : (l.length : Int) < (l.length : Int) + 1 := by omega
      go_wp2
      go_loopw [13] (fun i wr => ∃ k q : Nat, k ≤ l.length ∧ i = .int .i64 k ∧ wr = w10.drewN q) (fun i _ => l.length - (intOf i).toNat)
      case atStart => exact ⟨0, 0, by omega, rfl, rfl⟩
      case round =>
        obtain ⟨j, q, hj, rfl, rfl⟩ := hrel
        by_cases hjl : j < l.length
        · obtain ⟨g, o, rfl, hg, hc⟩ := Hrw.out (by omega)
          have c1 := hc j hjl
          have c2 := Hgc.out j hjl
          clear hc hgl
          generalize nthI l j = y at c1 c2
          have y1 : (y == y) = true := beq_self_eq_true _
          have y2 : (y != y) = false := by unfold bne; rw [y1]; rfl
          have d0 : (0 : Int) ≤ (j : Int) := by omega
          have d1 : (j : Int) < (l.length : Int) := by omega
          have d2 : (j : Int) < (l.length : Int) + 1 := by omega
          go_wp2
          go_quiet (fail)
          clear y1 y2
          go_wp2
          go_roundw
          case rel => exact ⟨j + 1, q + nq, by omega, by go_num, rfl⟩
          case measure => simp [intOf]; omega
        · go_wp2
          go_ret
          exact ⟨rfl, gb10.trans ⟨rfl, rfl, rfl, Nat.le_refl _, fun _ _ => rfl⟩⟩
end Go.Proofs.Ytlmhcjomegiibaa
