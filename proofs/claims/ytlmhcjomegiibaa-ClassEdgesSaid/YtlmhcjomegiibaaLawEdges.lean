/- The walk of the law ClassEdges. -/
import Derived.Test.YtlmhcjomegiibaaLawLonger
namespace Go.Proofs.Ytlmhcjomegiibaa
open Go.RowKit

/-- Both ends of every range are in the table, and what stands beside them is not. -/
def edges (l : List (Int × Int)) : Bool := (List.range l.length).all fun k =>
  Cm.inB l (Cm.lo l k) && Cm.inB l (Cm.hi l k) && !Cm.inB l (Cm.lo l k - 1) && !Cm.inB l (Cm.hi l k + 1) && decide (1 ≤ Cm.lo l k) && decide (Cm.lo l k ≤ 1114111) && decide (0 ≤ Cm.hi l k) && decide (Cm.hi l k ≤ 1114111)
theorem letters_edges : edges Cm.letters = true := by decide +kernel
theorem digits_edges : edges Cm.digits = true := by decide +kernel
theorem edge_at {l : List (Int × Int)} (h : edges l = true) {k : Nat} (hk : k < l.length) :
    Cm.inB l (Cm.lo l k) = true ∧ Cm.inB l (Cm.hi l k) = true ∧ Cm.inB l (Cm.lo l k - 1) = false ∧ Cm.inB l (Cm.hi l k + 1) = false ∧ 1 ≤ Cm.lo l k ∧ Cm.lo l k ≤ 1114111 ∧ 0 ≤ Cm.hi l k ∧ Cm.hi l k ≤ 1114111 := by
  unfold edges at h
  have := List.all_eq_true.1 h k (List.mem_range.2 hk)
  simp only [Bool.and_eq_true, Bool.not_eq_true', decide_eq_true_eq] at this
  obtain ⟨⟨⟨⟨⟨⟨⟨a, b⟩, c⟩, d⟩, e⟩, f⟩, g⟩, i⟩ := this
  exact ⟨a, b, c, d, e, f, g, i⟩

theorem words_edges : (List.range 25).all (fun k => isWord (wordAt k) && !nameB (wordAt k) && nameB (wordAt k ++ ⟨#[95]⟩) && decide ((wordAt k).size ≤ 20)) = true := by decide +kernel
theorem word_edge {k : Nat} (hk : k < 25) : isWord (wordAt k) = true ∧ nameB (wordAt k) = false ∧ nameB (wordAt k ++ ⟨#[95]⟩) = true ∧ (wordAt k).size ≤ 20 := by
  have := List.all_eq_true.1 words_edges k (List.mem_range.2 hk)
  simp only [Bool.and_eq_true, Bool.not_eq_true', decide_eq_true_eq] at this
  obtain ⟨⟨⟨a, b⟩, c⟩, d⟩ := this
  exact ⟨a, b, c, d⟩

set_option maxRecDepth 100000 in
set_option maxHeartbeats 8000000 in
theorem walk_ClassEdges (w : World) :
    Calls Try.prog 14 #[] w fun e w' => e = .returned (.bool true) ∧ Below w.heap.size w w' := by
  have hb : Below w.heap.size w (w.alloc (.cells (Cm.flat .i64 Cm.letters).toArray 53)) := (Below.refl _ _).alloc (Nat.le_refl _) _
  have ht : Cm.Tab (w.alloc (.cells (Cm.flat .i64 Cm.letters).toArray 53)) .i64 w.heap.size Cm.letters := Cm.tab_of (heap_alloc_new w _)
  obtain ⟨gLh, ht⟩ := ht
  have gLt := Lib.hid ht
  clear ht
  go_enter Try.func14, Try.ntmps14
  go_wp2_with fail
  refine (letters_any w).mono ?_
  rintro e w1 ⟨rfl, rfl⟩
  generalize w.alloc (.cells (Cm.flat .i64 Cm.letters).toArray 53) = w1 at hb gLh gLt
  have s1 := hb.size
  obtain ⟨gL, hgL⟩ : ∃ gL, gL = w.heap.size := ⟨_, rfl⟩
  rw [← hgL] at gLh gLt ⊢
  clear hgL
  go_wp2
  go_loopw [2] (fun i wr => ∃ k : Nat, k ≤ Cm.letters.length ∧ i = .int .i64 k ∧ Below w1.heap.size w1 wr) (fun i _ => Cm.letters.length - (intOf i).toNat)
  case atStart => exact ⟨0, by omega, rfl, Below.refl _ _⟩
  case round =>
    obtain ⟨k, hk, rfl, hnx⟩ := hrel
    by_cases hlt : k < Cm.letters.length
    · have F := edge_at letters_edges hlt
      obtain ⟨f1, f2, f3, f4, f5, f6, f7, f8⟩ := F
      have A1 := fun wx => letter_any (Cm.lo Cm.letters k) wx
      have A2 := fun wx => letter_any (Cm.hi Cm.letters k) wx
      have A3 := fun wx => letter_any (Cm.lo Cm.letters k - 1) wx
      have A4 := fun wx => letter_any (Cm.hi Cm.letters k + 1) wx
      rw [f1] at A1
      rw [f2] at A2
      rw [f3] at A3
      rw [f4] at A4
      obtain ⟨c1, c2⟩ := gLt.out k hlt
      have hsx := hnx.size
      have d1 := (hnx.cell (p := ⟨gL, k * 2, none⟩) gLh).trans c1
      have b0 : (0 : Int) ≤ (k : Int) := by omega
      have b1 : (k : Int) < (Cm.letters.length : Int) := by omega
      have b2 : (k : Int) < 33 := by have := (show Cm.letters.length = 33 from rfl); omega
      have d0 : decide ((k : Int) < 33) = true := by rw [decide_eq_true_eq]; exact b2
      have C1 := Lib.hid c1
      have C2 := Lib.hid c2
      clear c1 c2 f1 f2 f3 f4
      generalize Cm.lo Cm.letters k = lo at A1 A3 C1 d1 f5 f6
      generalize Cm.hi Cm.letters k = hi at A2 A4 C2 f7 f8
      go_wp2_with fail
      refine (A1 wr).mono ?_
      rintro e x1 ⟨rfl, q1⟩
      have p1 := hnx.trans (q1.mono hsx)
      have t1 := p1.size
      have e2 := (p1.cell (p := ⟨gL, k * 2 + 1, none⟩) gLh).trans C2.out
      clear q1 d1 A1
      go_wp2_with fail
      refine (A2 x1).mono ?_
      rintro e x2 ⟨rfl, q2⟩
      have p2 := p1.trans (q2.mono t1)
      have t2 := p2.size
      have e3 := (p2.cell (p := ⟨gL, k * 2, none⟩) gLh).trans C1.out
      clear q2 e2 A2 p1 t1
      go_wp2_with fail
      refine (A3 x2).mono ?_
      rintro e x3 ⟨rfl, q3⟩
      have p3 := p2.trans (q3.mono t2)
      have t3 := p3.size
      have e4 := (p3.cell (p := ⟨gL, k * 2 + 1, none⟩) gLh).trans C2.out
      clear q3 e3 A3 p2 t2
      go_wp2_with fail
      refine (A4 x3).mono ?_
      rintro e x4 ⟨rfl, q4⟩
      have p4 := p3.trans (q4.mono t3)
      clear q4 e4 A4 p3 t3
      go_wp2
      go_roundw
      case rel => exact ⟨k + 1, by omega, by go_num, p4⟩
      case measure => simp [intOf]; omega
    · have hw2 : Below w.heap.size w wr := hb.trans (hnx.mono s1)
      have sw := hw2.size
      have hbd : Below wr.heap.size wr (wr.alloc (.cells (Cm.flat .i64 Cm.digits).toArray 53)) := (Below.refl _ _).alloc (Nat.le_refl _) _
      have htd : Cm.Tab (wr.alloc (.cells (Cm.flat .i64 Cm.digits).toArray 53)) .i64 wr.heap.size Cm.digits := Cm.tab_of (heap_alloc_new wr _)
      obtain ⟨gDh, htd⟩ := htd
      have gDt := Lib.hid htd
      have d0 : decide ((k : Int) < 33) = false := by rw [decide_eq_false_iff_not]; have := (show Cm.letters.length = 33 from rfl); omega
      have d00 : ¬ (k : Int) < 33 := by have := (show Cm.letters.length = 33 from rfl); omega
      clear htd gLt gLh hnx hb s1
      go_wp2_with fail
      refine (digits_any wr).mono ?_
      rintro e wd ⟨rfl, rfl⟩
      generalize wr.alloc (.cells (Cm.flat .i64 Cm.digits).toArray 53) = w2 at hbd gDh gDt
      have hwd := hw2.trans (hbd.mono sw)
      have s2 := hwd.size
      obtain ⟨gD, hgD⟩ : ∃ gD, gD = wr.heap.size := ⟨_, rfl⟩
      rw [← hgD] at gDh gDt ⊢
      clear hgD hw2 hbd sw hk hlt
      go_wp2
      go_loopw [4] (fun i wr => ∃ k : Nat, k ≤ Cm.digits.length ∧ i = .int .i64 k ∧ Below w2.heap.size w2 wr) (fun i _ => Cm.digits.length - (intOf i).toNat)
      case atStart => exact ⟨0, by omega, rfl, Below.refl _ _⟩
      case round =>
        obtain ⟨k, hk, rfl, hnx⟩ := hrel
        by_cases hlt : k < Cm.digits.length
        · have F := edge_at digits_edges hlt
          obtain ⟨f1, f2, f3, f4, f5, f6, f7, f8⟩ := F
          have A1 := fun wx => digit_any (Cm.lo Cm.digits k) wx
          have A2 := fun wx => digit_any (Cm.hi Cm.digits k) wx
          have A3 := fun wx => digit_any (Cm.lo Cm.digits k - 1) wx
          have A4 := fun wx => digit_any (Cm.hi Cm.digits k + 1) wx
          rw [f1] at A1
          rw [f2] at A2
          rw [f3] at A3
          rw [f4] at A4
          obtain ⟨c1, c2⟩ := gDt.out k hlt
          have hsx := hnx.size
          have d1 := (hnx.cell (p := ⟨gD, k * 2, none⟩) gDh).trans c1
          have b0 : (0 : Int) ≤ (k : Int) := by omega
          have b1 : (k : Int) < (Cm.digits.length : Int) := by omega
          have b2 : (k : Int) < 5 := by have := (show Cm.digits.length = 5 from rfl); omega
          have d0 : decide ((k : Int) < 5) = true := by rw [decide_eq_true_eq]; exact b2
          have C1 := Lib.hid c1
          have C2 := Lib.hid c2
          clear c1 c2 f1 f2 f3 f4
          generalize Cm.lo Cm.digits k = lo at A1 A3 C1 d1 f5 f6
          generalize Cm.hi Cm.digits k = hi at A2 A4 C2 f7 f8
          go_wp2_with fail
          refine (A1 wr).mono ?_
          rintro e x1 ⟨rfl, q1⟩
          have p1 := hnx.trans (q1.mono hsx)
          have t1 := p1.size
          have e2 := (p1.cell (p := ⟨gD, k * 2 + 1, none⟩) gDh).trans C2.out
          clear q1 d1 A1
          go_wp2_with fail
          refine (A2 x1).mono ?_
          rintro e x2 ⟨rfl, q2⟩
          have p2 := p1.trans (q2.mono t1)
          have t2 := p2.size
          have e3 := (p2.cell (p := ⟨gD, k * 2, none⟩) gDh).trans C1.out
          clear q2 e2 A2 p1 t1
          go_wp2_with fail
          refine (A3 x2).mono ?_
          rintro e x3 ⟨rfl, q3⟩
          have p3 := p2.trans (q3.mono t2)
          have t3 := p3.size
          have e4 := (p3.cell (p := ⟨gD, k * 2 + 1, none⟩) gDh).trans C2.out
          clear q3 e3 A3 p2 t2
          go_wp2_with fail
          refine (A4 x3).mono ?_
          rintro e x4 ⟨rfl, q4⟩
          have p4 := p3.trans (q4.mono t3)
          clear q4 e4 A4 p3 t3
          go_wp2
          go_roundw
          case rel => exact ⟨k + 1, by omega, by go_num, p4⟩
          case measure => simp [intOf]; omega
        · have hw3 : Below w.heap.size w wr := hwd.trans (hnx.mono s2)
          have sw := hw3.size
          have hbw : Below wr.heap.size wr (wr.alloc (.cells wordCells.toArray 9)) := (Below.refl _ _).alloc (Nat.le_refl _) _
          have hcw : ∀ i, i < 25 → (wr.alloc (.cells wordCells.toArray 9)).cell? ⟨wr.heap.size, i, none⟩ = some (.string (wordAt i)) := fun i hi => by
            rw [cell_of_row _ _ i _ _ _ (heap_alloc_new wr _)]
            have := word_cell hi
            simpa using this
          have gWh : wr.heap.size < (wr.alloc (.cells wordCells.toArray 9)).heap.size := by simp
          have gWt := Lib.hid hcw
          have d00 : ¬ (k : Int) < 5 := by have := (show Cm.digits.length = 5 from rfl); omega
          clear hcw gDt gDh hnx hwd s2
          go_wp2_with fail
          refine (words_any wr).mono ?_
          rintro e wd ⟨rfl, rfl⟩
          generalize wr.alloc (.cells wordCells.toArray 9) = w3 at hbw gWh gWt
          have hwe := hw3.trans (hbw.mono sw)
          have s3 := hwe.size
          obtain ⟨gW, hgW⟩ : ∃ gW, gW = wr.heap.size := ⟨_, rfl⟩
          rw [← hgW] at gWh gWt ⊢
          clear hgW hw3 hbw sw hk hlt
          go_wp2
          go_loopw [6] (fun i wr => ∃ k : Nat, k ≤ 25 ∧ i = .int .i64 k ∧ Below w3.heap.size w3 wr) (fun i _ => 25 - (intOf i).toNat)
          case atStart => exact ⟨0, by omega, rfl, Below.refl _ _⟩
          case round =>
            obtain ⟨k, hk, rfl, hnx⟩ := hrel
            by_cases hlt : k < 25
            · obtain ⟨f1, f2, f3, f4⟩ := word_edge hlt
              have A1 := fun wx => word_any (wordAt k) wx
              have A2 := fun wx => name_any (wordAt k) wx
              have A3 := fun wx => name_any (wordAt k ++ ⟨#[95]⟩) wx
              rw [f1] at A1
              rw [f2] at A2
              rw [f3] at A3
              have hsx := hnx.size
              have d1 := (hnx.cell (p := ⟨gW, k, none⟩) gWh).trans (gWt.out k hlt)
              have D1 := Lib.hid (gWt.out k hlt)
              have b0 : (0 : Int) ≤ (k : Int) := by omega
              have b1 : (k : Int) < 25 := by omega
              clear f1 f2 f3
              generalize wordAt k = v at A1 A2 A3 d1 D1 f4
              go_wp2_with fail
              refine (A1 wr).mono ?_
              rintro e x1 ⟨rfl, rfl⟩
              go_wp2_with fail
              refine (A2 wr).mono ?_
              rintro e x2 ⟨rfl, q2⟩
              have p2 := hnx.trans (q2.mono hsx)
              have t2 := p2.size
              have e3 := (p2.cell (p := ⟨gW, k, none⟩) gWh).trans D1.out
              clear q2 d1 A1 A2
              go_wp2_with fail
              refine (A3 x2).mono ?_
              rintro e x3 ⟨rfl, q3⟩
              have p3 := p2.trans (q3.mono t2)
              clear q3 e3 A3
              go_wp2
              go_roundw
              case rel => exact ⟨k + 1, by omega, by go_num, p3⟩
              case measure => simp [intOf]; omega
            · have d00 : ¬ (k : Int) < 25 := by omega
              have hwf : Below w.heap.size w wr := hwe.trans (hnx.mono s3)
              go_wp2_with fail
              refine (fixed2_any wr).mono ?_
              rintro e x1 ⟨rfl, q1⟩
              go_wp2
              go_ret
              exact ⟨rfl, hwf.trans (q1.mono hwf.size)⟩
end Go.Proofs.Ytlmhcjomegiibaa
