/- The walk of the law ScanLong. -/
import Derived.Test.YtnkgbmnjehpkgaaScLongMath
import Derived.Test.YtnkgbmnjehpkgaaGV
import Derived.Laws.MakeOwn
import Derived.Lib.SlBytesRow
namespace Go.Proofs.Ytnkgbmnjehpkgaa
open Go.RowKit Em
set_option maxRecDepth 100000
set_option linter.unusedVariables false

/-- A row of 65537 bytes whose first k are blanks. -/
def RowZ (w : World) (g k : Nat) : Prop := ∃ cur : Array Value, w.heap[g]? = some (.cells cur 5 (0, 0)) ∧ cur.size = 65537 ∧ ∀ j, j < k → cur[j]? = some (.int .u8 32)
theorem RowZ.cell {w : World} {g k : Nat} (h : RowZ w g k) {j : Nat} (hj : j < 65537) : ∃ v, w.cell? ⟨g, j, none⟩ = some v := by
  obtain ⟨cur, h1, h2, h3⟩ := h
  exact ⟨cur[j]'(by omega), by rw [cell_of_row w g j _ _ _ h1]; simp [h2, hj]⟩
theorem RowZ.free {w : World} {g k : Nat} (h : RowZ w g k) (j : Nat) : w.frozen? ⟨g, j, none⟩ = false := by
  obtain ⟨cur, h1, _⟩ := h
  exact frozen_of_row w g j _ _ h1
theorem RowZ.lt {w : World} {g k : Nat} (h : RowZ w g k) : g < w.heap.size := by
  obtain ⟨cur, h1, _⟩ := h
  exact (Array.getElem?_eq_some_iff.1 h1).1
theorem RowZ.keep {w w' : World} {g k : Nat} (h : RowZ w g k) (hb : Below w.heap.size w w') : RowZ w' g k := by
  obtain ⟨cur, h1, h2⟩ := h
  exact ⟨cur, (hb.block g (Array.getElem?_eq_some_iff.1 h1).1).trans h1, h2⟩
theorem RowZ.step {w : World} {g k : Nat} (h : RowZ w g k) (hk : k < 65537) : RowZ (w.setCell ⟨g, k, none⟩ (.int .u8 32)) g (k + 1) := by
  obtain ⟨cur, h1, h2, h3⟩ := h
  refine ⟨_, heap_setCell_same w g k cur _ _ h1, by simpa using h2, fun j hj => ?_⟩
  by_cases e : j = k
  · subst e
    rw [Array.getElem?_setIfInBounds_self]
    simp [h2, hk]
  · rw [Array.getElem?_setIfInBounds_ne (by omega)]
    exact h3 j (by omega)
theorem RowZ.bytes {w : World} {g k n : Nat} (h : RowZ w g k) (hn : n ≤ k) : Lib.Bytes w g 0 (blanks n) := by
  intro i hi
  have hi' : i < n := by rw [size_blanks] at hi; exact hi
  obtain ⟨cur, h1, h2, h3⟩ := h
  have e : (blanks n)[i] = 32 := by
    show ((List.replicate n (32 : UInt8)).toArray)[i]'(by simpa using hi') = 32
    simp
  rw [Nat.zero_add, cell_of_row w g i _ _ _ h1, h3 i (by omega), e]
  rfl
theorem conv_blanks {w : World} {g k n : Nat} (h : RowZ w g k) (hn : n ≤ k) (cap : Nat) :
    (convert 35 9 (.slice (some ⟨g, 0, none⟩) n cap)).run Try.prog w = .ok (.string (blanks n)) w := by
  have := Lib.run_convert_whole (P := Try.prog) w 35 5 9 Try.underlying35 Try.underlying5 Try.underlying9 g 0 (blanks n) (h.bytes hn) cap
  rw [size_blanks] at this
  exact this
theorem info_byte8 : (Try.prog.info? 5).map (fun i => (i.zero, i.size, i.bytes)) = some (some (.int .u8 0), 1, 1) := by kernel_rfl
theorem mk_row (w : World) : ∃ C : Array Value, C.size = 65537 ∧ (Instr.makeSlice 35 (.int .i64 65537) (.int .i64 65537)).run Try.prog w = .ok (.slice (some ⟨w.heap.size, 0, none⟩) 65537 65537) (w.alloc (.cells C 5)) := by
  obtain ⟨i0, hi, hz0, hz1, hz2⟩ := info_parts info_byte8
  have := run_make (P := Try.prog) w 35 5 i0 (.int .u8 0) Try.underlying35 hi hz0 .i64 .i64 65537 65537 (by omega) (by omega) (by rw [hz2]; omega) (by omega)
  exact ⟨_, by rw [size_madeCells, hz1]; rfl, this⟩

set_option maxHeartbeats 4000000 in
theorem walk_ScanLong (w : World) (hm : Mx w) :
    Calls Try.prog 6 #[] w fun e w' => e = .returned (.bool true) ∧ Below w.heap.size w w' := by
  obtain ⟨C, hC, hmk⟩ := mk_row w
  have hr0 : RowZ (w.alloc (.cells C 5)) w.heap.size 0 := ⟨C, heap_alloc_new w _, hC, fun j hj => by omega⟩
  have hb0 : Below w.heap.size w (w.alloc (.cells C 5)) := (Below.refl _ _).alloc (Nat.le_refl _) _
  have H1 := fun w hm => all_scan (blanks 65536) w hm
  have H2 := fun w hm => all_scan (blanks 65537) w hm
  unfold AllP at H1 H2
  rw [show allA (blanks 65536) = ([⟨10, 0, 65536⟩], 0, 0) from allA_blanks 65535 (by omega)] at H1
  rw [allA_long] at H2
  dsimp only [fauV] at H1 H2
  have H1 := Lib.hid H1
  have H2 := Lib.hid H2
  have Hm := Lib.hid hm
  have Hr0 := Lib.hid hr0
  have Hb0 := Lib.hid hb0
  have q1 := fun w => run_equal_fau w 0 0 0 0
  have q2 := fun w => run_equal_tok w 10 0 65536 10 0 65536
  have q3 := fun w => run_equal_fau w 2 0 2 0
  rw [faEq_self] at q1 q3
  rw [tkEq_self] at q2
  have m1 := guard_tok
  have m2 := guard_fau
  clear hm hr0 hb0 hC
  go_enter Try.func6, Try.ntmps6
  go_wp2
  generalize w.alloc (.cells C 5) = w0 at Hr0 Hb0 ⊢
  go_loopw [2] (fun at' wr => ∃ k : Nat, k ≤ 65537 ∧ at' = .int .i64 k ∧ Hid (RowZ wr w.heap.size k) ∧ Below w.heap.size w wr) (fun at' _ => 65537 - (intOf at').toNat)
  case atStart => exact ⟨0, by omega, rfl, Hr0, Hb0.out⟩
  case round =>
    obtain ⟨k, hk, rfl, HR, hb⟩ := hrel
    by_cases hlt : k < 65537
    · obtain ⟨v, hv⟩ := HR.out.cell hlt
      have hf := HR.out.free k
      have b0 : (0 : Int) ≤ (k : Int) := by omega
      have b1 : (k : Int) < 65537 := by omega
      have HS := Lib.hid (HR.out.step hlt)
      have HB := Lib.hid (hb.setCell (p := ⟨w.heap.size, k, none⟩) (Nat.le_refl _) (.int .u8 32))
      clear hb
      go_wp2
      go_roundw
      case rel => exact ⟨k + 1, by omega, by go_num, HS, HB.out⟩
      case measure => simp [intOf]; omega
    · have hke : k = 65537 := by omega
      subst hke
      have HB := Lib.hid hb
      have b1 : ¬ ((65537 : Nat) : Int) < 65537 := by omega
      have hcv1 := conv_blanks (n := 65536) HR.out (by omega) 65537
      clear hb
      go_wp2_with fail
      refine (H1.out _ (Hm.out.keep HB.out)).mono ?_
      rintro e w1 ⟨v1, rfl, o1, b1⟩
      obtain ⟨x, c, rfl, hT, _⟩ := tkI_of_owns o1
      have hB1 := HB.out.trans (b1.mono HB.out.size)
      have HB1 := Lib.hid (hB1.alloc hB1.size (.cells #[.int .i64 0, .int .i64 0] 28))
      have HF1 : Hid (FBox (w1.alloc (.cells #[.int .i64 0, .int .i64 0] 28)) w1.heap.size 0 0) := Lib.hid (heap_alloc_new w1 _)
      have ha1 := (Below.refl w1.heap.size w1).alloc (Nat.le_refl _) (.cells #[.int .i64 0, .int .i64 0] 28)
      have HT1 := Lib.hid (hT.keep ha1)
      have HR1 := Lib.hid ((HR.out.keep b1).keep ha1)
      have hcv2 := conv_blanks (n := 65537) HR1.out (by omega) 65537
      clear b1 o1 hT hB1 ha1 hcv1
      go_wp2_with fail
      refine (H2.out _ (Hm.out.keep HB1.out)).mono ?_
      rintro e w2 ⟨v2, rfl, o2, b2⟩
      obtain ⟨x2, c2, rfl, hT2, _⟩ := tkI_of_owns o2
      have hB2 := HB1.out.trans (b2.mono HB1.out.size)
      have HB2 := Lib.hid (hB2.alloc hB2.size (.cells #[.int .i64 2, .int .i64 0] 28))
      have hF3 := HF1.out.keep b2
      have hT3 := HT1.out.keep b2
      obtain ⟨g, hx, hg, c0, c1, c2⟩ := hT3.cells (i := 0) (by decide)
      subst hx
      change w2.cell? ⟨g, 0, none⟩ = some (.int .u8 10) at c0
      change w2.cell? ⟨g, 1, none⟩ = some (.int .i64 0) at c1
      change w2.cell? ⟨g, 2, none⟩ = some (.int .i64 65536) at c2
      have hl1 := hF3.lt
      have a0 := hF3.c0
      have a1 := hF3.c1
      clear o2 b2 hB2 hF3 hT3 hT2 hcv2
      go_wp2_with fail
      refine (fixed7_any _ (Hm.out.keep HB2.out)).mono ?_
      rintro e w4 ⟨rfl, b4⟩
      have HB4 := Lib.hid (HB2.out.trans (b4.mono HB2.out.size))
      clear b4
      go_wp2
      go_ret
      exact ⟨rfl, HB4.out⟩
end Go.Proofs.Ytnkgbmnjehpkgaa

