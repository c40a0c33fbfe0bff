/- Contracts of the reference's May and Form (layer 1). -/
import Derived.Test.YtdpngmhjdafdpaaRead
namespace Go.Proofs.Ytdpngmhjdafdpaa
open Go.RowKit

theorem may_any (r : Int) (w : World) :
    Calls Try.prog 77 #[.int .i64 r] w fun e w' => e = .returned (.bool (Utf8.valid r)) ∧ w = w' := by
  by_cases h0 : (0 : Int) ≤ r
  · by_cases h1 : r ≤ 1114111
    · by_cases h2 : r < 55296
      · rw [valid_true (by omega)]
        go_enter Try.func77, Try.ntmps77
        go_wp2
        go_ret
        exact ⟨rfl, rfl⟩
      · by_cases h3 : 57343 < r
        · rw [valid_true (by omega)]
          go_enter Try.func77, Try.ntmps77
          go_wp2
          go_ret
          exact ⟨rfl, rfl⟩
        · rw [valid_no (by omega)]
          go_enter Try.func77, Try.ntmps77
          go_wp2
          go_ret
          exact ⟨rfl, rfl⟩
    · rw [valid_no (by omega)]
      go_enter Try.func77, Try.ntmps77
      go_wp2
      go_ret
      exact ⟨rfl, rfl⟩
  · rw [valid_no (by omega)]
    go_enter Try.func77, Try.ntmps77
    go_wp2
    go_ret
    exact ⟨rfl, rfl⟩

theorem add_zero (b j : Nat) : (⟨b, 0, none⟩ : Addr).add j = ⟨b, j, none⟩ := by unfold Addr.add; split <;> simp_all

/-- A row of bytes that was just laid, as a text. -/
theorem conv_new (w : World) (ns : List Int) :
    (convert 38 9 (.slice (some ⟨w.heap.size, 0, none⟩) ns.length ns.length)).run Try.prog (w.alloc (.cells (ns.map (Value.int .u8)).toArray 5)) =
      .ok (.string (ns.foldl (fun r n => r.push (UInt8.ofNat n.toNat)) ByteArray.empty)) (w.alloc (.cells (ns.map (Value.int .u8)).toArray 5)) := by
  rw [run_convert_bytes_string _ _ _ 5 _ _ _ Try.underlying38 Try.underlying5 Try.underlying9]
  refine run_bytesToString _ _ _ _ ns ?_
  have h := run_loadCells_list (P := Try.prog) (w := w.alloc (.cells (ns.map (Value.int .u8)).toArray 5)) ⟨w.heap.size, 0, none⟩ (ns.map (Value.int .u8)) (by
    intro j v hv
    rw [add_zero, cell_of_row _ _ _ _ _ (0, 0) (heap_alloc_new w _)]
    simpa using hv)
  simpa using h

theorem rform_bad (r : Int) (w : World) (h : Utf8.valid r = false) :
    Calls Try.prog 78 #[.int .i64 r] w fun e w' => e = .returned (.string (formOf r)) ∧ Below w.heap.size w w' := by
  have hf : formOf r = ByteArray.empty := by unfold formOf; rw [h]; rfl
  rw [hf]
  go_enter Try.func78, Try.ntmps78
  go_wp2_with (go_at_call 77; refine (may_any _ _).mono ?_; rintro e w' ⟨rfl, rfl⟩)
  go_ret
  exact ⟨rfl, Below.refl _ _⟩

theorem form_one {r : Int} (h : Utf8.valid r = true) (h0 : 0 ≤ r) (h1 : r < 128) : ByteArray.empty.push (UInt8.ofNat r.toNat) = formOf r := by
  unfold formOf
  rw [if_pos h]
  unfold Utf8.encode
  simp only [h, if_true]
  rw [if_pos (by omega)]
  rfl
theorem form_two {r : Int} (h : Utf8.valid r = true) (h0 : 128 ≤ r) (h1 : r < 2048) :
    (ByteArray.empty.push (UInt8.ofNat (192 + r / 64).toNat)).push (UInt8.ofNat (128 + r % 64).toNat) = formOf r := by
  have e1 : (192 + r / 64).toNat = 192 + r.toNat / 64 := by omega
  have e2 : (128 + r % 64).toNat = 128 + r.toNat % 64 := by omega
  rw [e1, e2]
  unfold formOf
  rw [if_pos h]
  unfold Utf8.encode
  simp only [h, if_true]
  rw [if_neg (by omega), if_pos (by omega)]
  rfl
theorem form_three {r : Int} (h : Utf8.valid r = true) (h0 : 2048 ≤ r) (h1 : r < 65536) :
    ((ByteArray.empty.push (UInt8.ofNat (224 + r / 4096).toNat)).push (UInt8.ofNat (128 + r / 64 % 64).toNat)).push (UInt8.ofNat (128 + r % 64).toNat) = formOf r := by
  have e1 : (224 + r / 4096).toNat = 224 + r.toNat / 4096 := by omega
  have e2 : (128 + r / 64 % 64).toNat = 128 + r.toNat / 64 % 64 := by omega
  have e3 : (128 + r % 64).toNat = 128 + r.toNat % 64 := by omega
  rw [e1, e2, e3]
  unfold formOf
  rw [if_pos h]
  unfold Utf8.encode
  simp only [h, if_true]
  rw [if_neg (by omega), if_neg (by omega), if_pos (by omega)]
  rfl
theorem form_four {r : Int} (h : Utf8.valid r = true) (h0 : 65536 ≤ r) :
    (((ByteArray.empty.push (UInt8.ofNat (240 + r / 262144).toNat)).push (UInt8.ofNat (128 + r / 4096 % 64).toNat)).push (UInt8.ofNat (128 + r / 64 % 64).toNat)).push (UInt8.ofNat (128 + r % 64).toNat) = formOf r := by
  have e0 : (240 + r / 262144).toNat = 240 + r.toNat / 262144 := by omega
  have e1 : (128 + r / 4096 % 64).toNat = 128 + r.toNat / 4096 % 64 := by omega
  have e2 : (128 + r / 64 % 64).toNat = 128 + r.toNat / 64 % 64 := by omega
  have e3 : (128 + r % 64).toNat = 128 + r.toNat % 64 := by omega
  rw [e0, e1, e2, e3]
  unfold formOf
  rw [if_pos h]
  unfold Utf8.encode
  simp only [h, if_true]
  rw [if_neg (by omega), if_neg (by omega), if_neg (by omega)]
  rfl

theorem rform_one (r : Int) (w : World) (h : Utf8.valid r = true) (h0 : 0 ≤ r) (h1 : r < 128) :
    Calls Try.prog 78 #[.int .i64 r] w fun e w' => e = .returned (.string (formOf r)) ∧ Below w.heap.size w w' := by
  have hc := conv_new w [r]
  simp only [List.length_singleton, List.map_cons, List.map_nil, List.foldl_cons, List.foldl_nil] at hc
  rw [form_one h h0 h1] at hc
  go_enter Try.func78, Try.ntmps78
  go_wp2_with (go_at_call 77; refine (may_any _ _).mono ?_; rintro e w' ⟨rfl, rfl⟩)
  go_ret
  exact ⟨rfl, (Below.refl _ _).alloc (Nat.le_refl _) _⟩

theorem rform_two (r : Int) (w : World) (h : Utf8.valid r = true) (h0 : 128 ≤ r) (h1 : r < 2048) :
    Calls Try.prog 78 #[.int .i64 r] w fun e w' => e = .returned (.string (formOf r)) ∧ Below w.heap.size w w' := by
  have hc := conv_new w [192 + r / 64, 128 + r % 64]
  simp only [List.length_cons, List.length_nil, List.map_cons, List.map_nil, List.foldl_cons, List.foldl_nil, Nat.zero_add, Nat.reduceAdd] at hc
  rw [form_two h h0 h1] at hc
  have h2 : ¬ r < 128 := by omega
  go_enter Try.func78, Try.ntmps78
  go_wp2_with (go_at_call 77; refine (may_any _ _).mono ?_; rintro e w' ⟨rfl, rfl⟩)
  go_ret
  exact ⟨rfl, (Below.refl _ _).alloc (Nat.le_refl _) _⟩

theorem rform_three (r : Int) (w : World) (h : Utf8.valid r = true) (h0 : 2048 ≤ r) (h1 : r < 65536) :
    Calls Try.prog 78 #[.int .i64 r] w fun e w' => e = .returned (.string (formOf r)) ∧ Below w.heap.size w w' := by
  have hc := conv_new w [224 + r / 4096, 128 + r / 64 % 64, 128 + r % 64]
  simp only [List.length_cons, List.length_nil, List.map_cons, List.map_nil, List.foldl_cons, List.foldl_nil, Nat.zero_add, Nat.reduceAdd] at hc
  rw [form_three h h0 h1] at hc
  have h2 : ¬ r < 128 := by omega
  have h3 : ¬ r < 2048 := by omega
  go_enter Try.func78, Try.ntmps78
  go_wp2_with (go_at_call 77; refine (may_any _ _).mono ?_; rintro e w' ⟨rfl, rfl⟩)
  go_ret
  exact ⟨rfl, (Below.refl _ _).alloc (Nat.le_refl _) _⟩

theorem rform_four (r : Int) (w : World) (h : Utf8.valid r = true) (h0 : 65536 ≤ r) (h1 : r ≤ 1114111) :
    Calls Try.prog 78 #[.int .i64 r] w fun e w' => e = .returned (.string (formOf r)) ∧ Below w.heap.size w w' := by
  have hc := conv_new w [240 + r / 262144, 128 + r / 4096 % 64, 128 + r / 64 % 64, 128 + r % 64]
  simp only [List.length_cons, List.length_nil, List.map_cons, List.map_nil, List.foldl_cons, List.foldl_nil, Nat.zero_add, Nat.reduceAdd] at hc
  rw [form_four h h0] at hc
  have h2 : ¬ r < 128 := by omega
  have h3 : ¬ r < 2048 := by omega
  have h4 : ¬ r < 65536 := by omega
  go_enter Try.func78, Try.ntmps78
  go_wp2_with (go_at_call 77; refine (may_any _ _).mono ?_; rintro e w' ⟨rfl, rfl⟩)
  go_ret
  exact ⟨rfl, (Below.refl _ _).alloc (Nat.le_refl _) _⟩

/-- The reference's Form, of whatever number. -/
theorem rform_any (r : Int) (w : World) :
    Calls Try.prog 78 #[.int .i64 r] w fun e w' => e = .returned (.string (formOf r)) ∧ Below w.heap.size w w' := by
  cases h : Utf8.valid r with
  | false => exact rform_bad r w h
  | true =>
    have hb : 0 ≤ r ∧ r ≤ 1114111 := by
      simp [Utf8.valid] at h; omega
    by_cases h1 : r < 128
    · exact rform_one r w h hb.1 h1
    · by_cases h2 : r < 2048
      · exact rform_two r w h (by omega) h2
      · by_cases h3 : r < 65536
        · exact rform_three r w h (by omega) h3
        · exact rform_four r w h (by omega) hb.2
end Go.Proofs.Ytdpngmhjdafdpaa
