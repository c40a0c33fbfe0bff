/- Contract of span.Diff; the laws' helper 'fixed' of layer 3: the document's examples. -/
import Derived.Test.YtckioinjgdjohaaEdRef
import Derived.Test.YtckioinjgdjohaaEdSame
namespace Go.Proofs.Ytckioinjgdjohaa
open Go.RowKit Em

/-- What Diff answers. -/
def difE (a b : ByteArray) : Ed := if bl a = bl b then ⟨0, 0, ByteArray.empty⟩ else trm a ⟨(0 : Nat), (a.size : Nat), b⟩

theorem toList_bl (s : ByteArray) : s.toList = bl s := Lib.toList_data s

theorem diff_any (a b : ByteArray) (w : World) (ha : a.size ≤ 4611686018427387904) (hb : b.size ≤ 4611686018427387904) :
    Calls Try.prog 22 #[.string a, .string b] w fun e w' => e = .returned (edV (difE a b)) ∧ Below w.heap.size w w' := by
  have hbx : Box (w.alloc (.cells #[.int .i64 0, .int .i64 0, .string ByteArray.empty] 36)) w.heap.size 0 0 ByteArray.empty := heap_alloc_new w _
  have hb1 : Below w.heap.size w (w.alloc (.cells #[.int .i64 0, .int .i64 0, .string ByteArray.empty] 36)) := (Below.refl _ _).alloc (Nat.le_refl _) _
  by_cases h : bl a = bl b
  · have e : difE a b = ⟨0, 0, ByteArray.empty⟩ := if_pos h
    rw [e]
    have h1 : (a.toList == b.toList) = true := by rw [toList_bl, toList_bl, h]; exact beq_self_eq_true _
    have hby : Box (w.alloc (.cells #[.int .i64 0, .int .i64 0, .string ⟨#[]⟩] 36)) w.heap.size 0 0 ⟨#[]⟩ := hbx
    have r0 := hby.c0
    have r1 := hby.c1
    have r2 := hby.c2
    clear e h hbx hby
    go_enter Try.func22, Try.ntmps22
    go_wp2
    refine bodyPost_ret (v := edV ⟨0, 0, ⟨#[]⟩⟩) ?_ ?_ ?_
    · simp [edV, results, Try.results22, go_sem, r0, r1, r2]
    · rfl
    · exact ⟨rfl, hb1⟩
  · have e : difE a b = trm a ⟨(0 : Nat), (a.size : Nat), b⟩ := if_neg h
    rw [e]
    have h1 : (a.toList == b.toList) = false := by rw [toList_bl, toList_bl]; exact beq_eq_false_iff_ne.2 h
    obtain ⟨f, t, y, hR, _⟩ := trm_nat a 0 a.size b (Nat.zero_le _) (Nat.le_refl _)
    have hc := trimmed_any a 0 a.size b (w.alloc (.cells #[.int .i64 0, .int .i64 0, .string ByteArray.empty] 36)) (Nat.zero_le _) (Nat.le_refl _) ha hb
    rw [hR] at hc ⊢
    dsimp only [edV] at hc
    have Hbx := Lib.hid hbx
    have Hb1 := Lib.hid hb1
    clear e h hbx hb1 hR
    go_enter Try.func22, Try.ntmps22
    go_wp2_with fail
    refine hc.mono ?_
    rintro e w2 ⟨rfl, hb2⟩
    have hbx2 := Hbx.out.keep hb2
    have k0 := hbx2.c0
    have k1 := hbx2.c1
    have k2 := hbx2.c2
    have f0 := hbx2.free 0
    have f1 := hbx2.free 1
    have f2 := hbx2.free 2
    have hbf : Box _ w.heap.size f t y := ((hbx2.set0 (f' := f)).set1 (t' := t)).set2 (y' := y)
    have r0 := hbf.c0
    have r1 := hbf.c1
    have r2 := hbf.c2
    have Hb3 := Lib.hid ((((Hb1.out.trans (hb2.mono (by simp))).setCell (p := ⟨w.heap.size, 0, none⟩) (Nat.le_refl _) (.int .i64 f)).setCell (p := ⟨w.heap.size, 1, none⟩) (Nat.le_refl _) (.int .i64 t)).setCell (p := ⟨w.heap.size, 2, none⟩) (Nat.le_refl _) (.string y))
    clear hc hbx2 hbf hb2
    go_wp2
    refine bodyPost_ret (v := edV ⟨f, t, y⟩) ?_ ?_ ?_
    · simp [edV, results, Try.results22, go_sem, r0, r1, r2]
    · rfl
    · exact ⟨rfl, Hb3.out⟩

theorem edI_of_block {w : World} {g : Nat} {t : TypeId} (L : List Ed) (h : w.heap[g]? = some (.cells (eCells L).toArray t (0, 0))) : EdI w (some ⟨g, 0, none⟩) L := by
  intro _
  refine ⟨g, 0, rfl, (Array.getElem?_eq_some_iff.1 h).1, fun i hi => ?_⟩
  obtain ⟨a, b, c⟩ := eCells_at L i hi
  refine ⟨?_, ?_, ?_⟩
  · rw [cell_of_row w g _ _ _ _ h]; simpa using a
  · rw [cell_of_row w g _ _ _ _ h]; simpa using b
  · rw [cell_of_row w g _ _ _ _ h]; simpa using c

def fxS : ByteArray := ⟨#[97, 98, 99, 100]⟩
def fxL : List Ed := [⟨1, 3, ⟨#[88]⟩⟩, ⟨3, 3, ⟨#[89]⟩⟩]
def fxU : List Ed := [⟨1, 2, ⟨#[98, 99]⟩⟩, ⟨2, 3, ⟨#[]⟩⟩]
theorem fx_app : appR fxS fxL = ⟨#[97, 88, 89, 100]⟩ := by kernel_rfl
theorem fx_appE : appE fxS fxL = 0 := by kernel_rfl
theorem fx_mov : movV (movO 4 fxL 3) = .tuple #[.int .i64 3, .bool true] := by kernel_rfl
theorem fx_und : undR fxS fxL = fxU := by kernel_rfl
theorem fx_undE : undE fxS fxL = 0 := by kernel_rfl
theorem fx_dif : edV (difE ⟨#[97, 97, 97]⟩ ⟨#[97, 97]⟩) = .agg #[.int .i64 2, .int .i64 3, .string ⟨#[]⟩] := by kernel_rfl
theorem fx_put : put fxL = 2 := by kernel_rfl

set_option maxRecDepth 100000 in
set_option maxHeartbeats 4000000 in
theorem fixed_any (w : World) : Calls Try.prog 11 #[] w fun e w' => e = .returned (.bool true) ∧ Below w.heap.size w w' := by
  have e1 : EdI (w.alloc (.cells #[.int .i64 1, .int .i64 3, .string ⟨#[88]⟩, .int .i64 3, .int .i64 3, .string ⟨#[89]⟩] 36)) (some ⟨w.heap.size, 0, none⟩) fxL := edI_of_block fxL (heap_alloc_new w _)
  have b1 : Below w.heap.size w (w.alloc (.cells #[.int .i64 1, .int .i64 3, .string ⟨#[88]⟩, .int .i64 3, .int .i64 3, .string ⟨#[89]⟩] 36)) := (Below.refl _ _).alloc (Nat.le_refl _) _
  have hz : Sizes fxL := sizes_of_put (M := 2) (by rw [fx_put]; decide) (by decide)
  have H1 := apply_any fxS _ 2 fxL _ e1 (by decide) (by rw [fx_put]; decide)
  rw [fx_app, fx_appE] at H1
  change Calls _ _ #[.string ⟨#[97, 98, 99, 100]⟩, .slice _ 2 2] _ _ at H1
  have E1 := Lib.hid e1
  have B1 := Lib.hid b1
  have hm := guard_edit
  clear e1 b1
  go_enter Try.func11, Try.ntmps11
  go_wp2_with fail
  refine H1.mono ?_
  rintro e w2 ⟨rfl, b2⟩
  have e2 := E1.out.keep b2
  have H2 := move_any 4 _ 2 fxL 3 w2 e2 (by decide) hz
  rw [fx_mov] at H2
  change Calls _ _ #[.int .i64 4, .slice _ 2 2, .int .i64 3] _ _ at H2
  have B2 := Lib.hid (B1.out.trans (b2.mono (by simp)))
  have E2 := Lib.hid e2
  clear e2 b2 H1
  go_wp2_with fail
  refine H2.mono ?_
  rintro e w3 ⟨rfl, b3⟩
  have e3 := E2.out.keep b3
  have H3 := undo_any fxS _ 2 fxL w3 e3 (by decide) hz
  rw [fx_und, fx_undE] at H3
  change Calls _ _ #[.string ⟨#[97, 98, 99, 100]⟩, .slice _ 2 2] _ _ at H3
  have B3 := Lib.hid (B2.out.trans (b3.mono B2.out.size))
  clear e3 b3 H2
  go_wp2_with fail
  refine H3.mono ?_
  rintro e w4 ⟨v, rfl, o4, b4⟩
  obtain ⟨xu, cu, rfl, e4, _⟩ := edI_of_owns o4
  have B4 := Lib.hid (B3.out.trans (b4.mono B3.out.size))
  have e5 : EdI (w4.alloc (.cells #[.int .i64 1, .int .i64 2, .string ⟨#[98, 99]⟩, .int .i64 2, .int .i64 3, .string ⟨#[]⟩] 36)) (some ⟨w4.heap.size, 0, none⟩) fxU := edI_of_block fxU (heap_alloc_new w4 _)
  have b5 : Below w4.heap.size w4 (w4.alloc (.cells #[.int .i64 1, .int .i64 2, .string ⟨#[98, 99]⟩, .int .i64 2, .int .i64 3, .string ⟨#[]⟩] 36)) := (Below.refl _ _).alloc (Nat.le_refl _) _
  have H4 := same_any xu _ cu 2 fxU _ (e4.keep b5) e5 (by decide)
  change Calls _ _ #[.slice xu 2 cu, .slice _ 2 2] _ _ at H4
  have B5 := Lib.hid (B4.out.trans (b5.mono B4.out.size))
  have hs4 := B4.out.size
  clear e4 e5 b5 b4 o4 H3
  change Hid _ at B5
  go_wp2_with fail
  refine H4.mono ?_
  rintro e w6 ⟨rfl, b6⟩
  have B6 := Lib.hid (B5.out.trans (b6.mono (by simp; omega)))
  have H5 := diff_any ⟨#[97, 97, 97]⟩ ⟨#[97, 97]⟩ w6 (by decide) (by decide)
  rw [fx_dif] at H5
  clear H4 b6
  go_wp2_with fail
  refine H5.mono ?_
  rintro e w7 ⟨rfl, b7⟩
  have B7 := Lib.hid (B6.out.trans (b7.mono B6.out.size))
  have hq := fun w => run_equal_edit w 2 3 2 3 ⟨#[]⟩ ⟨#[]⟩
  rw [edEq_self] at hq
  clear H5 b7
  go_wp2
  go_ret
  exact ⟨rfl, B7.out⟩
end Go.Proofs.Ytckioinjgdjohaa
