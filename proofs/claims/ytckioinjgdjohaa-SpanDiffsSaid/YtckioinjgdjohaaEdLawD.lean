/- The walk of the law SpanDiffs. -/
import Derived.Test.YtckioinjgdjohaaEdLawA
import Derived.Deep.RegionHeld3
namespace Go.Proofs.Ytckioinjgdjohaa
open Go.RowKit Em

theorem dif_all (a b : ByteArray) : ∃ (f t : Nat) (y : ByteArray), difE a b = ⟨f, t, y⟩ ∧ f ≤ t ∧ t ≤ a.size ∧ f + y.size + (a.size - t) = b.size ∧ a.extract 0 f ++ y ++ a.extract t a.size = b := by
  unfold difE
  by_cases h : bl a = bl b
  · rw [if_pos h]
    have hab := bl_inj h
    subst hab
    refine ⟨0, 0, ByteArray.empty, rfl, Nat.le_refl _, Nat.zero_le _, ?_, bl_inj ?_⟩
    · have : ByteArray.empty.size = 0 := rfl
      omega
    · rw [bl_append, bl_append, bl_extract, bl_extract, ← bl_size, List.take_length]
      simp [bl_empty]
  · rw [if_neg h]
    obtain ⟨q1, q2, q3, q4, _⟩ := trN_spec (bl a) 0 a.size (bl b) (Nat.zero_le _) (by rw [bl_size]; exact Nat.le_refl _)
    have hR : trm a ⟨(0 : Nat), (a.size : Nat), b⟩ = ⟨(trN (bl a) 0 a.size (bl b)).1, (trN (bl a) 0 a.size (bl b)).2.1, ⟨(trN (bl a) 0 a.size (bl b)).2.2.toArray⟩⟩ := rfl
    rw [hR]
    generalize trN (bl a) 0 a.size (bl b) = r at *
    obtain ⟨f, t, y⟩ := r
    dsimp only at *
    refine ⟨f, t, _, rfl, q2, q3, ?_, bl_inj ?_⟩
    · have := congrArg List.length q4
      rw [List.length_append, List.length_append, List.length_drop, List.length_drop, List.length_take, List.length_take, bl_size, bl_size] at this
      rw [size_of]; omega
    · rw [bl_append, bl_append, bl_extract, bl_extract, bl_of y, q4, List.append_assoc]

theorem fixed_box (w : World) {g : Nat} {f t : Int} {y : ByteArray} (h : Box w g f t y) :
    Calls Try.prog 11 #[] w fun e w' => e = .returned (.bool true) ∧ w'.cell? ⟨g, 0, none⟩ = some (.int .i64 f) ∧ w'.cell? ⟨g, 1, none⟩ = some (.int .i64 t) ∧ w'.cell? ⟨g, 2, none⟩ = some (.string y) ∧ Below w.heap.size w w' :=
  (fixed_any w).mono fun _ _ ⟨he, hb⟩ => ⟨he, (h.keep hb).c0, (h.keep hb).c1, (h.keep hb).c2, hb⟩

theorem rtrim_box (a b : ByteArray) (w : World) {g : Nat} {f t : Int} {y : ByteArray} (h : Box w g f t y) (ha : a.size ≤ 4611686018427387904) (hb : b.size ≤ 4611686018427387904) (hR : trm a ⟨(0 : Nat), (a.size : Nat), b⟩ = ⟨f, t, y⟩) :
    Calls Try.prog 23 #[.string a, .agg #[.int .i64 0, .int .i64 a.size, .string b]] w fun e w' => e = .returned (.agg #[.int .i64 f, .int .i64 t, .string y]) ∧ w'.cell? ⟨g, 0, none⟩ = some (.int .i64 f) ∧ w'.cell? ⟨g, 1, none⟩ = some (.int .i64 t) ∧ w'.cell? ⟨g, 2, none⟩ = some (.string y) ∧ Below w.heap.size w w' := by
  have hc := rtrimmed_any a 0 a.size b w (Nat.zero_le _) (Nat.le_refl _) ha hb
  rw [hR] at hc
  exact hc.mono fun _ _ ⟨he, hb⟩ => ⟨he, (h.keep hb).c0, (h.keep hb).c1, (h.keep hb).c2, hb⟩

set_option maxRecDepth 100000 in
set_option maxHeartbeats 8000000 in
theorem walk_SpanDiffs (a b : ByteArray) (w : World) (ha : a.size ≤ 140737488351232) (hb : b.size ≤ 140737488351232) :
    Calls Try.prog 9 #[.string a, .string b] w fun e w' => e = .returned (.bool true) ∧ Below w.heap.size w w' := by
  obtain ⟨f, t, y, hd, h1, h2, h3, h4⟩ := dif_all a b
  have hc := diff_any a b w (by omega) (by omega)
  rw [hd] at hc
  dsimp only [edV] at hc
  have hd2 : bl a = bl b ∨ (bl a ≠ bl b ∧ trm a ⟨(0 : Nat), (a.size : Nat), b⟩ = ⟨f, t, y⟩) := by
    unfold difE at hd
    by_cases h : bl a = bl b
    · exact .inl h
    · rw [if_neg h] at hd; exact .inr ⟨h, hd⟩
  have Hd2 := Lib.hid hd2
  have Hd := Lib.hid hd
  have H4 := Lib.hid h4
  clear hd hd2 h4
  go_enter Try.func9, Try.ntmps9
  go_wp2_with fail
  refine hc.mono ?_
  rintro e w1 ⟨rfl, b1⟩
  have B1 := Lib.hid b1
  have hbx : Box (w1.alloc (.cells #[.int .i64 f, .int .i64 t, .string y] 36)) w1.heap.size f t y := heap_alloc_new w1 _
  have Hbx := Lib.hid hbx
  clear hc b1 hbx
  have k0 := Hbx.out.c0
  have k1 := Hbx.out.c1
  have k2 := Hbx.out.c2
  have d1 : decide (t < f) = false := decide_eq_false (by omega)
  have d2 : decide (a.size < t) = false := decide_eq_false (by omega)
  have d3 : decide ((f : Int) < 0) = false := decide_eq_false (by omega)
  have a1 : (a.extract 0 f).size = f := by rw [ByteArray.size_extract]; omega
  have a2 : (a.extract t a.size).size = a.size - t := by rw [ByteArray.size_extract]; omega
  have a3 : ¬ 9223372036854775807 < f + y.size := by omega
  have a4 : ¬ 9223372036854775807 < f + y.size + (a.size - t) := by omega
  have a5 : f + y.size ≤ 9223372036854775807 := by omega
  have a6 : f + y.size + (a.size - t) ≤ 9223372036854775807 := by omega
  have b0 : (0 : Int) ≤ (f : Int) := by omega
  have b2 : (f : Int) ≤ (a.size : Int) := by omega
  have b4 : (0 : Int) ≤ (t : Int) := by omega
  have b5 : (t : Int) ≤ (a.size : Int) := by omega
  have h4 := H4.out
  clear h3
  go_wp2
  go_region_held3 (fun w' => w'.cell? ⟨w1.heap.size, 0, none⟩ = some (.int .i64 f) ∧ w'.cell? ⟨w1.heap.size, 1, none⟩ = some (.int .i64 t) ∧ w'.cell? ⟨w1.heap.size, 2, none⟩ = some (.string y))
    (go_keep)
    ((go_at_call 11; refine (fixed_box _ (f := f) (t := t) (y := y) (g := w1.heap.size) (by exact Hbx.out)).mono ?_; rintro e w2 ⟨rfl, j0, j1, j2, b2⟩))
  have hbx2 : Box w2 w1.heap.size f t y := Box.keep (w := (w1.alloc (.cells #[.int .i64 f, .int .i64 t, .string y] 36)).drew) (by exact Hbx.out) b2
  have hb2 : Below w.heap.size w w2 := (below_drew (B1.out.alloc B1.out.size _)).trans (b2.mono (by have := B1.out.size; simp; omega))
  have Hbx2 := Lib.hid hbx2
  have HB2 := Lib.hid hb2
  have hm := guard_edit
  clear hbx2 hb2 b2 d1 d2 d3 a1 a2 a3 a4 a5 a6 h4 k0 k1 k2 Hbx B1
  rcases Hd2.out with he | ⟨hne, hR⟩
  · have hab : (a.toList == b.toList) = true := by rw [toList_bl, toList_bl, he]; exact beq_self_eq_true _
    have hz : f = 0 ∧ t = 0 ∧ y = ⟨#[]⟩ := by
      have := Hd.out
      unfold difE at this
      rw [if_pos he] at this
      injection this with x1 x2 x3
      exact ⟨by omega, by omega, x3.symm⟩
    have hq := fun w => run_equal_edit w f t 0 0 y ⟨#[]⟩
    have hq2 : edEq f t 0 0 y ⟨#[]⟩ = true := by obtain ⟨rfl, rfl, rfl⟩ := hz; exact edEq_self 0 0 ⟨#[]⟩
    rw [hq2] at hq
    clear hz hq2 he
    go_wp2
    go_ret
    exact ⟨rfl, HB2.out⟩
  · have hab : (a.toList == b.toList) = false := by rw [toList_bl, toList_bl]; exact beq_eq_false_iff_ne.2 hne
    have hq := fun w => run_equal_edit w f t f t y y
    rw [edEq_self] at hq
    have HT := Lib.hid (fun w h => rtrim_box a b w (g := w1.heap.size) (f := f) (t := t) (y := y) h (by omega) (by omega) hR)
    clear hne hR
    go_wp2
    go_region_held3 (fun w' => w'.cell? ⟨w1.heap.size, 0, none⟩ = some (.int .i64 f) ∧ w'.cell? ⟨w1.heap.size, 1, none⟩ = some (.int .i64 t) ∧ w'.cell? ⟨w1.heap.size, 2, none⟩ = some (.string y))
      (go_keep)
      ((go_at_call 23; refine (HT.out _ (by exact Hbx2.out)).mono ?_; rintro e w3 ⟨rfl, j3, j4, j5, b3⟩))
    have HB3 := Lib.hid ((below_drew HB2.out).trans (b3.mono HB2.out.size))
    clear b3
    go_wp2
    go_ret
    exact ⟨rfl, HB3.out⟩
end Go.Proofs.Ytckioinjgdjohaa
