/- The document's examples: the laws' helpers 'sum' and 'fixed'. -/
import Derived.Test.YtklmiabgalanhaaGreatDoorTeChk
import Derived.Test.YtklmiabgalanhaaGreatDoorTeSwapC
import Derived.Test.YtklmiabgalanhaaGreatDoorTeSame
import Derived.Test.YtklmiabgalanhaaGreatDoorTeShow
namespace Go.Proofs.YtklmiabgalanhaaGreatDoor
open Go.Shelf Go.RowKit Em Tx Km
set_option maxRecDepth 100000
set_option linter.unusedVariables false
set_option linter.unusedSimpArgs false

def sumL : List Pt := [⟨37, 2, ⟨#[43]⟩⟩, ⟨26, 0, ⟨#[97]⟩⟩, ⟨26, 0, ⟨#[98]⟩⟩]
def sumT : ByteArray := ⟨#[40, 51, 55, 32, 34, 43, 34, 32, 40, 50, 54, 32, 34, 97, 34, 41, 32, 40, 50, 54, 32, 34, 98, 34, 41, 41]⟩
def litL : List Pt := [⟨27, 0, ⟨#[49]⟩⟩]
theorem sum_we : We sumL := by decide +kernel
theorem sum_get (i : Nat) (h : i < sumL.length) : (nthP sumL i).k < 256 ∧ (nthP sumL i).x.size ≤ 140737488351232 := by
  have : i = 0 ∨ i = 1 ∨ i = 2 := by have : sumL.length = 3 := rfl; omega
  rcases this with rfl | rfl | rfl <;> exact ⟨by decide, by decide⟩
theorem dec37 : Lib.decDigits 37 = [51, 55] := by rw [dec_ge (by omega), dec_lt (by omega)]; rfl
theorem dec26 : Lib.decDigits 26 = [50, 54] := by rw [dec_ge (by omega), dec_lt (by omega)]; rfl
theorem tx1 : txA (37, ⟨#[43]⟩) = [40, 51, 55, 32, 34, 43, 34] := by unfold txA; rw [dec37]; rfl
theorem tx2 : txA (26, ⟨#[97]⟩) = [40, 50, 54, 32, 34, 97, 34] := by unfold txA; rw [dec26]; rfl
theorem tx3 : txA (26, ⟨#[98]⟩) = [40, 50, 54, 32, 34, 98, 34] := by unfold txA; rw [dec26]; rfl
theorem sum_tx : txL sumL = bl sumT := by
  have e : sumL.map ofP = [((37, ⟨#[43]⟩), 2), ((26, ⟨#[97]⟩), 0), ((26, ⟨#[98]⟩), 0)] := rfl
  unfold txL
  rw [e]
  simp only [sF, Tx.step, tx1, tx2, tx3]
  rfl
theorem sum_rd : rdL (bl sumT) = some sumL := by
  rw [← sum_tx]
  exact rdL_txL sum_we fun i hi => (sum_get i hi).1
theorem sum_sh : shV sumL = .tuple #[.string sumT, .int .i64 0] := by
  rw [shV_ok (by rw [sum_tx]; decide), sum_tx, bl_txt]
theorem sum_all : allB sumL = true := by
  have h1 : nameB ⟨#[97]⟩ = true := by decide +kernel
  have h2 : nameB ⟨#[98]⟩ = true := by decide +kernel
  have e : allB sumL = (pOK ⟨37, 2, ⟨#[43]⟩⟩ && (pOK ⟨26, 0, ⟨#[97]⟩⟩ && (pOK ⟨26, 0, ⟨#[98]⟩⟩ && true))) := rfl
  have p1 : pOK ⟨37, 2, ⟨#[43]⟩⟩ = true := by decide +kernel
  have p2 : pOK ⟨26, 0, ⟨#[97]⟩⟩ = true := by
    show (kf 26 0 && wf 26 ⟨#[97]⟩) = true
    rw [show wf 26 ⟨#[97]⟩ = nameB ⟨#[97]⟩ from rfl, h1]; rfl
  have p3 : pOK ⟨26, 0, ⟨#[98]⟩⟩ = true := by
    show (kf 26 0 && wf 26 ⟨#[98]⟩) = true
    rw [show wf 26 ⟨#[98]⟩ = nameB ⟨#[98]⟩ from rfl, h2]; rfl
  rw [e, p1, p2, p3]; rfl
theorem sum_chk : chkV sumL = 0 := if_pos ⟨sum_we, sum_all⟩
theorem lit_rw : Rw litL 1 := by unfold Rw; decide +kernel
theorem sum_bk : bkO sumL 1 1 = some 2 := by decide +kernel
theorem sum_sw : swL sumL 1 1 2 litL 1 = [⟨37, 2, ⟨#[43]⟩⟩, ⟨27, 0, ⟨#[49]⟩⟩, ⟨26, 0, ⟨#[98]⟩⟩] := by
  have hu : (upP sumL 1).toNat = 0 := by decide +kernel
  unfold swL
  rw [if_neg (by decide), hu]
  rfl

/-- A row of the call's own, as it is read. -/
theorem ptI_of_owns {w : World} {base c n : Nat} {x : Option Addr} {L : List Pt} (h : w.ownsRow base 28 3 (.slice x n c) L.length (pCells L)) : PtI w x L := by
  intro hn
  rcases h.2 with ⟨_, h0⟩ | ⟨g, cap, cur, hv, a1, a2, a3⟩
  · omega
  · injection hv with v1 v2 v3
    subst v1 v2 v3
    refine ⟨g, 0, rfl, (Array.getElem?_eq_some_iff.1 a2).1, fun i hi => ?_⟩
    obtain ⟨b0, b1, b2⟩ := pCells_get L i hi
    rw [Nat.zero_add]
    exact ⟨owns_cell h b0, owns_cell h b1, owns_cell h b2⟩
/-- The cells of the example. -/
theorem sum_any (w : World) : Calls Tryz.prog 32 #[] w fun e w' => e = .returned (.slice (some ⟨w.heap.size, 0, none⟩) 3 3) ∧ PtI w' (some ⟨w.heap.size, 0, none⟩) sumL ∧ Below w.heap.size w w' := by
  have HP : Hid (PtI (w.alloc (.cells (pCells sumL).toArray 28)) (some ⟨w.heap.size, 0, none⟩) sumL) := Lib.hid (ptI_of_row (heap_alloc_new w _))
  have HB := Lib.hid ((Below.refl w.heap.size w).alloc (Nat.le_refl _) (.cells (pCells sumL).toArray 28))
  go_enter Tryz.func32, Tryz.ntmps32
  go_wp2
  go_ret
  exact ⟨rfl, HP.out, HB.out⟩
theorem pw_sum {w : World} {x : Option Addr} (h : PtI w x sumL) : Pw w x sumL := ⟨h, by decide⟩
set_option maxHeartbeats 4000000 in
theorem fixed11_any (w : World) (hs : Snt w) : Calls Tryz.prog 12 #[] w fun e w' => e = .returned (.bool true) ∧ Below w.heap.size w w' := by
  have HS := Lib.hid hs
  have HShow : Hid (∀ (w : World) (x : Option Addr), PtI w x sumL → Snt w → Calls Tryz.prog 24 #[.slice x 3 3] w fun e w' => e = .returned (.tuple #[.string sumT, .int .i64 0]) ∧ Below w.heap.size w w') := Lib.hid fun w x h hs => by
    have := show_any x 3 sumL w (pw_sum h) sum_we (fun i hi => (sum_get i hi).1) (fun i hi => by have := (sum_get i hi).2; omega) hs
    rw [sum_sh] at this
    exact this
  have HRead : Hid (∀ w, Snt w → Calls Tryz.prog 26 #[.string sumT] w fun e w' => (∃ v, e = .returned (.tuple #[v, .int .i64 0]) ∧ w'.ownsRow w.heap.size 28 3 v 3 (pCells sumL)) ∧ Below w.heap.size w w') := Lib.hid fun w hs => by
    have := read_any sumT w (by decide) hs
    rw [sum_rd] at this
    exact this
  have HCheck : Hid (∀ (w : World) (x : Option Addr), PtI w x sumL → Calls Tryz.prog 15 #[.slice x 3 3] w fun e w' => e = .returned (.int .i64 0) ∧ Below w.heap.size w w') := Lib.hid fun w x h => by
    have := check_any' x 3 sumL w (pw_sum h) (fun i hi => by have := (sum_get i hi).2; omega)
    rw [sum_chk] at this
    exact this
  have HSwap : Hid (∀ (w : World) (x y : Option Addr), PtI w x sumL → PtI w y litL → Calls Tryz.prog 30 #[.slice x 3 3, .int .i64 1, .int .i64 1, .slice y 1 1] w fun e w' => ∃ g, e = .returned (.tuple #[.slice (some ⟨g, 0, none⟩) 3 3, .int .i64 0]) ∧ w'.cell? ⟨g, 5, none⟩ = some (.string ⟨#[49]⟩) ∧ Below w.heap.size w w') := Lib.hid fun w x y hx hy => by
    have := swap_ok 1 1 1 2 x y 3 1 sumL litL w (pw_sum hx) ⟨hy, by decide⟩ sum_we lit_rw (by decide) sum_bk (by decide) (by decide)
    refine this.mono ?_
    rintro e w' ⟨g, he, _, hc, hb⟩
    refine ⟨g, he, ?_, hb⟩
    rw [sum_sw] at hc
    rw [cell_of_row w' g 5 _ _ _ hc]
    rfl
  have HSame : Hid (∀ (w : World) (x y : Option Addr) (c d : Nat), PtI w x sumL → PtI w y sumL → Calls Tryz.prog 28 #[.slice x 3 c, .slice y 3 d] w fun e w' => e = .returned (.bool true) ∧ ∃ d, w' = w.drewN d) := Lib.hid fun w x y c d hx hy => rsame_any x y c d sumL w hx hy (by decide)
  have HSum := Lib.hid sum_any
  clear hs
  go_enter Tryz.func12, Tryz.ntmps12
  go_wp2_with fail
  refine (HSum.out _).mono ?_
  rintro e w1 ⟨rfl, q1, g1⟩
  go_wp2_with fail
  refine (HShow.out _ _ q1 (HS.out.keep g1)).mono ?_
  rintro e w2 ⟨rfl, g2⟩
  have G2 := Lib.hid (g1.trans (g2.mono g1.size))
  clear q1 g1 g2
  go_wp2_with fail
  refine (HRead.out _ (HS.out.keep G2.out)).mono ?_
  rintro e w3 ⟨⟨v3, rfl, o3⟩, g3⟩
  obtain ⟨y3, c3, rfl, _⟩ := owns_form o3
  have O3 := Lib.hid o3
  have G3 := Lib.hid (G2.out.trans (g3.mono G2.out.size))
  clear o3 g3
  go_wp2_with fail
  refine (HSum.out _).mono ?_
  rintro e w4 ⟨rfl, q4, g4⟩
  have Q4 := Lib.hid q4
  have O4 := Lib.hid (owns_keep O3.out g4)
  have G4 := Lib.hid (G3.out.trans (g4.mono G3.out.size))
  clear q4 g4
  go_wp2_with fail
  have HL : Hid (PtI (w4.alloc (.cells (pCells litL).toArray 28)) (some ⟨w4.heap.size, 0, none⟩) litL) := Lib.hid (ptI_of_row (heap_alloc_new w4 _))
  have Q5 := Lib.hid (Q4.out.keep ((Below.refl _ _).alloc (Nat.le_refl _) (.cells (pCells litL).toArray 28)))
  have O5 := Lib.hid (owns_keep O4.out ((Below.refl _ _).alloc (Nat.le_refl _) (.cells (pCells litL).toArray 28)))
  have G5 := Lib.hid (G4.out.alloc G4.out.size (.cells (pCells litL).toArray 28))
  refine (HSwap.out _ _ _ Q5.out HL.out).mono ?_
  rintro e w6 ⟨g, rfl, c6, g6⟩
  have O6 := Lib.hid (owns_keep O5.out g6)
  have G6 := Lib.hid (G5.out.trans (g6.mono G5.out.size))
  have C6 := Lib.hid c6
  have hse : (sumT.toList == [40, 51, 55, 32, 34, 43, 34, 32, 40, 50, 54, 32, 34, 97, 34, 41, 32, 40, 50, 54, 32, 34, 98, 34, 41, 41]) = true := by rw [Lib.toList_data]; rfl
  clear c6 g6
  go_wp2_with fail
  refine (HSum.out _).mono ?_
  rintro e w7 ⟨rfl, q7, g7⟩
  have Q7 := Lib.hid q7
  have O7 := Lib.hid (owns_keep O6.out g7)
  have G7 := Lib.hid (G6.out.trans (g7.mono G6.out.size))
  have C7 : Hid (w7.cell? ⟨g, 5, none⟩ = some (.string ⟨#[49]⟩)) := Lib.hid ((g7.cell (World.block_lt_of_cell? w6 _ C6.out)).trans C6.out)
  clear q7 g7
  go_wp2_with fail
  refine (HSame.out _ _ _ _ _ (ptI_of_owns O7.out) Q7.out).mono ?_
  rintro e w8 ⟨rfl, d, rfl⟩
  have c7 : (w7.drewN d).cell? ⟨g, 5, none⟩ = some (.string ⟨#[49]⟩) := C7.out
  have G8 : Hid (Below w.heap.size w (w7.drewN d)) := Lib.hid (G7.out.trans ⟨rfl, rfl, rfl, Nat.le_refl _, fun _ _ => rfl⟩)
  generalize w7.drewN d = w9 at c7 G8
  go_wp2_with fail
  refine (HSum.out _).mono ?_
  rintro e w10 ⟨rfl, q10, g10⟩
  have G10 := Lib.hid (G8.out.trans (g10.mono G8.out.size))
  clear g10
  go_wp2_with fail
  refine (HCheck.out _ _ q10).mono ?_
  rintro e w11 ⟨rfl, g11⟩
  have G11 := Lib.hid (G10.out.trans (g11.mono G10.out.size))
  clear g11 q10
  go_wp2
  go_ret
  exact ⟨rfl, G11.out⟩
end Go.Proofs.YtklmiabgalanhaaGreatDoor
