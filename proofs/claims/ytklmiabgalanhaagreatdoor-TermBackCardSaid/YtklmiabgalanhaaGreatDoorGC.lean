/- Contracts of the small functions of runes (layer 1) and of its reference: character, Form, HasPrefix, begins; May, Form. -/
import Derived.Test.YtklmiabgalanhaaGreatDoorRows
import Derived.Test.YtklmiabgalanhaaGreatDoorGA
import Derived.WalkKit
import Derived.WalkSpells
import Derived.WalkLawsBesides
import Derived.Outline
import Derived.Lib.Hide
import Derived.Lib.Strings
namespace Go.Proofs.YtklmiabgalanhaaGreatDoor
open Go.RowKit
set_option maxRecDepth 100000

theorem ret_bool {a b : Bool} (h : a = b) : Ending.returned (.bool a) = .returned (.bool b) := by rw [h]

theorem valid_true {r : Int} (h : (0 ≤ r ∧ r < 55296) ∨ (57344 ≤ r ∧ r ≤ 1114111)) : Utf8.valid r = true := by simp [Utf8.valid]; omega
theorem valid_no {r : Int} (h : ¬ ((0 ≤ r ∧ r < 55296) ∨ (57344 ≤ r ∧ r ≤ 1114111))) : Utf8.valid r = false := by
  cases hv : Utf8.valid r with
  | false => rfl
  | true => exfalso; apply h; simp [Utf8.valid] at hv; omega

/-- runes.character -/
theorem character_any (r : Int) (w : World) :
    Calls Tryz.prog 145 #[.int .i32 r] w fun e w' => e = .returned (.bool (Utf8.valid r)) ∧ w = w' := by
  by_cases h1 : (55296 : Int) ≤ r
  · by_cases h2 : r ≤ 57343
    · rw [valid_no (by omega)]
      have h3 : (0 : Int) ≤ r := by omega
      have h4 : r ≤ 1114111 := by omega
      go_enter Tryz.func145, Tryz.ntmps145
      go_wp2
      go_ret
      exact ⟨rfl, rfl⟩
    · have h3 : (0 : Int) ≤ r := by omega
      by_cases h4 : r ≤ 1114111
      · rw [valid_true (by omega)]
        go_enter Tryz.func145, Tryz.ntmps145
        go_wp2
        go_ret
        exact ⟨rfl, rfl⟩
      · rw [valid_no (by omega)]
        go_enter Tryz.func145, Tryz.ntmps145
        go_wp2
        go_ret
        exact ⟨rfl, rfl⟩
  · have h4 : r ≤ 1114111 := by omega
    by_cases h3 : (0 : Int) ≤ r
    · rw [valid_true (by omega)]
      go_enter Tryz.func145, Tryz.ntmps145
      go_wp2
      go_ret
      exact ⟨rfl, rfl⟩
    · rw [valid_no (by omega)]
      go_enter Tryz.func145, Tryz.ntmps145
      go_wp2
      go_ret
      exact ⟨rfl, rfl⟩

/-- The form as a text. -/
def formOf (r : Int) : ByteArray := if Utf8.valid r = true then Utf8.encode r else ByteArray.empty

/-- runes.Form -/
theorem form_any (r : Int) (w : World) :
    Calls Tryz.prog 124 #[.int .i32 r] w fun e w' => e = .returned (.string (formOf r)) ∧ w = w' := by
  cases hv : Utf8.valid r with
  | true =>
    have hf : formOf r = Utf8.encode r := by unfold formOf; rw [if_pos hv]
    rw [hf]
    go_enter Tryz.func124, Tryz.ntmps124
    go_wp2_with (go_at_call 145; refine (character_any _ _).mono ?_; rintro e w' ⟨rfl, rfl⟩)
    go_ret
    exact ⟨rfl, rfl⟩
  | false =>
    have hf : formOf r = ByteArray.empty := by unfold formOf; rw [hv]; rfl
    rw [hf]
    go_enter Tryz.func124, Tryz.ntmps124
    go_wp2_with (go_at_call 145; refine (character_any _ _).mono ?_; rintro e w' ⟨rfl, rfl⟩)
    go_ret
    exact ⟨rfl, rfl⟩

end Go.Proofs.YtklmiabgalanhaaGreatDoor

/- Contract of runes.begins: it tells whether what is read at the beginning is a character of its own form. -/
namespace Go.Proofs.YtklmiabgalanhaaGreatDoor
open Go.RowKit
set_option maxRecDepth 100000

theorem form_sub : formOf 65533 = ⟨#[239, 191, 189]⟩ := by decide +kernel

theorem inner_prefix (s : ByteArray) (b : Bool) (w : World) (hb : (decide (3 ≤ s.size) && ((s.extract 0 3).toList == [239, 191, 189])) = b) :
    Calls Tryz.prog 69 #[.string s, .string ⟨#[239, 191, 189]⟩] w fun e w' => e = .returned (.bool b) ∧ w = w' := by
  subst hb
  by_cases h1 : 3 ≤ s.size
  · rw [decide_eq_true h1, Bool.true_and]
    go_enter Tryz.func69, Tryz.ntmps69
    go_wp2
    go_ret
    exact ⟨rfl, rfl⟩
  · rw [decide_eq_false h1, Bool.false_and]
    go_enter Tryz.func69, Tryz.ntmps69
    go_wp2
    go_ret
    exact ⟨rfl, rfl⟩

theorem prefix_any (s : ByteArray) (b : Bool) (w : World) (hb : (decide (3 ≤ s.size) && ((s.extract 0 3).toList == [239, 191, 189])) = b) :
    Calls Tryz.prog 49 #[.string s, .string ⟨#[239, 191, 189]⟩] w fun e w' => e = .returned (.bool b) ∧ w = w' := by
  go_enter Tryz.func49, Tryz.ntmps49
  go_wp2_with (go_at_call 69; refine (inner_prefix _ _ _ hb).mono ?_; rintro e w' ⟨rfl, rfl⟩)
  go_ret
  exact ⟨rfl, rfl⟩

theorem prefix_says {s : ByteArray} (hi : 0 < s.size) (h : (Utf8.decode s 0).1 = 65533) :
    (decide (3 ≤ s.size) && ((s.extract 0 3).toList == [239, 191, 189])) = Um.okAt s 0 := by
  rw [Bool.eq_iff_iff, Um.ok_of_sub hi h, Bool.and_eq_true, decide_eq_true_eq]
  constructor
  · rintro ⟨h1, h2⟩
    have := Um.sub_at s 0 (by omega)
    simp only [Nat.zero_add] at this
    rw [this, decide_eq_true_eq] at h2
    exact h2
  · intro k
    have h1 := Um.at_fits k
    have h3 : Um.len 65533 = 3 := by decide
    rw [h3] at h1
    have := Um.sub_at s 0 (by omega)
    simp only [Nat.zero_add] at this
    exact ⟨by omega, by rw [this, decide_eq_true_eq]; exact k⟩

/-- runes.begins, asked of what a range hands out at the beginning. -/
theorem begins_any (s : ByteArray) (r : Int) (w : World) (hi : 0 < s.size) (hr : r = ((Utf8.decode s 0).1 : Nat)) :
    Calls Tryz.prog 94 #[.string s, .int .i32 r] w fun e w' => e = .returned (.bool (Um.okAt s 0)) ∧ w = w' := by
  by_cases h : (Utf8.decode s 0).1 = 65533
  · have hp := prefix_says hi h
    have hr2 : r = 65533 := by rw [hr, h]; rfl
    clear hr
    subst hr2
    have hf := form_sub
    have Hf := Lib.hid hf
    have Hp := Lib.hid hp
    clear hf hp h
    go_enter Tryz.func94, Tryz.ntmps94
    go_wp2_with (first | (go_at_call 124; refine (form_any _ _).mono ?_; rw [Hf.out]; rintro e w' ⟨rfl, rfl⟩) | (go_at_call 49; refine (prefix_any _ _ _ Hp.out).mono ?_; rintro e w' ⟨rfl, rfl⟩))
    go_ret
    exact ⟨rfl, rfl⟩
  · have hk := Um.ok_of_other h
    rw [hk]
    have hne : (r == 65533) = false := by
      cases hh : r == 65533 with
      | false => rfl
      | true => rw [beq_iff_eq] at hh; omega
    have hne2 : (r != 65533) = true := by unfold bne; rw [hne]; rfl
    clear h hk hr
    go_enter Tryz.func94, Tryz.ntmps94
    go_wp2
    go_ret
    exact ⟨rfl, rfl⟩

/-- runes.begins of the rest of a text, from a place on. -/
theorem begins_at (s : ByteArray) (n : Nat) (r : Int) (w : World) (hi : n < s.size) (hr : r = ((Utf8.decode s n).1 : Nat)) :
    Calls Tryz.prog 94 #[.string (s.extract n s.size), .int .i32 r] w fun e w' => e = .returned (.bool (Um.okAt s n)) ∧ w = w' := by
  have h := begins_any (s.extract n s.size) r w (by rw [Lib.tail_size]; omega) (by rw [Lib.tail_decode]; exact hr)
  rw [Um.okAt_tail] at h
  exact h
end Go.Proofs.YtklmiabgalanhaaGreatDoor

/- Contract of runes.Read. -/
namespace Go.Proofs.YtklmiabgalanhaaGreatDoor
open Go.RowKit
set_option maxRecDepth 100000

theorem ret_pair {k l : IntKind} {a b c d : Int} (h : a = c) (h' : b = d) : Ending.returned (.tuple #[.int k a, .int l b]) = .returned (.tuple #[.int k c, .int l d]) := by rw [h, h']

theorem encode_size {c : Nat} (h : Um.okN c) : (Utf8.encode (c : Int)).size = Um.len c := by
  have hv := (Um.valid_iff c).2 h
  unfold Utf8.encode Um.len
  simp only [hv, if_true, Int.toNat_natCast]
  repeat' split
  all_goals first | rfl | omega

theorem form_size {c : Nat} (h : Um.okN c) : (formOf (c : Int)).size = Um.len c := by
  unfold formOf
  rw [if_pos ((Um.valid_iff c).2 h), encode_size h]

theorem read_no (s : ByteArray) (a : Int) (w : World) (h : a < 0 ∨ (s.size : Int) ≤ a) :
    Calls Tryz.prog 140 #[.string s, .int .i64 a] w fun e w' => e = .returned (.tuple #[.int .i32 0, .int .i64 0]) ∧ w = w' := by
  by_cases h1 : a < 0
  · go_enter Tryz.func140, Tryz.ntmps140
    go_wp2
    go_ret2
    exact ⟨rfl, rfl⟩
  · have h2 : (s.size : Int) ≤ a := by omega
    clear h
    go_enter Tryz.func140, Tryz.ntmps140
    go_wp2
    go_ret2
    exact ⟨rfl, rfl⟩

/-- What is read at a place: the character, and its length. -/
def rdC (s : ByteArray) (n : Nat) : Nat := if Um.okAt s n = true then (Utf8.decode s n).1 else 0
def rdN (s : ByteArray) (n : Nat) : Nat := if Um.okAt s n = true then (Utf8.decode s n).2 else 0

theorem read_at (s : ByteArray) (n : Nat) (w : World) (h : n < s.size) :
    Calls Tryz.prog 140 #[.string s, .int .i64 (n : Int)] w fun e w' => e = .returned (.tuple #[.int .i32 (rdC s n), .int .i64 (rdN s n)]) ∧ Below w.heap.size w w' := by
  have h1 : ¬ (n : Int) < 0 := by omega
  have h2 : (n : Int) < s.size := by omega
  have hd := Lib.tail_decode s n 0
  rw [Nat.add_zero] at hd
  have Hd := Lib.hid hd
  have hp : 0 < (s.extract n s.size).size := by rw [Lib.tail_size]; omega
  clear hd
  go_enter Tryz.func140, Tryz.ntmps140
  go_wp2
  go_loopw [] (fun wr => wr = w.iter (s.extract n s.size) 0) (fun _ => 0)
  case atStart => rfl
  case round =>
    subst hrel
    have hnx : ∀ ty, (Instr.next (.pointer (some ⟨w.heap.size, 0, none⟩)) true ty).run Tryz.prog (w.iter (s.extract n s.size) 0) = _ := fun ty => run_next_any w (s.extract n s.size) 0 ty hp
    rw [Hd.out] at hnx
    cases hk : Um.okAt s n with
    | true =>
      go_wp2_with (first | (go_at_call 94; refine (begins_at s n _ _ h rfl).mono ?_; rintro e w' ⟨rfl, rfl⟩) | (go_at_call 124; refine (form_any _ _).mono ?_; rintro e w' ⟨rfl, rfl⟩))
      go_ret2
      have ho : Utf8.decode s n ≠ (65533, 1) := by unfold Um.okAt at hk; exact of_decide_eq_true hk
      have hd := Um.decode_at h ho
      exact ⟨ret_pair (by unfold rdC; rw [if_pos hk]) (by unfold rdN; rw [if_pos hk, form_size hd.1, hd.2.2]), (Below.refl _ _).alloc (Nat.le_refl _) _⟩
    | false =>
      go_wp2_with (first | (go_at_call 94; refine (begins_at s n _ _ h rfl).mono ?_; rintro e w' ⟨rfl, rfl⟩) | (go_at_call 124; refine (form_any _ _).mono ?_; rintro e w' ⟨rfl, rfl⟩))
      go_ret2
      exact ⟨ret_pair (by unfold rdC; rw [hk]; rfl) (by unfold rdN; rw [hk]; rfl), (Below.refl _ _).alloc (Nat.le_refl _) _⟩

end Go.Proofs.YtklmiabgalanhaaGreatDoor

/- Contracts of the reference's May and Form (layer 1). -/
namespace Go.Proofs.YtklmiabgalanhaaGreatDoor
open Go.RowKit
set_option maxRecDepth 100000

theorem may_any (r : Int) (w : World) :
    Calls Tryz.prog 144 #[.int .i64 r] w fun e w' => e = .returned (.bool (Utf8.valid r)) ∧ w = w' := by
  by_cases h0 : (0 : Int) ≤ r
  · by_cases h1 : r ≤ 1114111
    · by_cases h2 : r < 55296
      · rw [valid_true (by omega)]
        go_enter Tryz.func144, Tryz.ntmps144
        go_wp2
        go_ret
        exact ⟨rfl, rfl⟩
      · by_cases h3 : 57343 < r
        · rw [valid_true (by omega)]
          go_enter Tryz.func144, Tryz.ntmps144
          go_wp2
          go_ret
          exact ⟨rfl, rfl⟩
        · rw [valid_no (by omega)]
          go_enter Tryz.func144, Tryz.ntmps144
          go_wp2
          go_ret
          exact ⟨rfl, rfl⟩
    · rw [valid_no (by omega)]
      go_enter Tryz.func144, Tryz.ntmps144
      go_wp2
      go_ret
      exact ⟨rfl, rfl⟩
  · rw [valid_no (by omega)]
    go_enter Tryz.func144, Tryz.ntmps144
    go_wp2
    go_ret
    exact ⟨rfl, rfl⟩

theorem add_zero (b j : Nat) : (⟨b, 0, none⟩ : Addr).add j = ⟨b, j, none⟩ := by unfold Addr.add; split <;> simp_all

/-- A row of bytes that was just laid, as a text. -/
theorem conv_new (w : World) (ns : List Int) :
    (convert 56 9 (.slice (some ⟨w.heap.size, 0, none⟩) ns.length ns.length)).run Tryz.prog (w.alloc (.cells (ns.map (Value.int .u8)).toArray 5)) =
      .ok (.string (ns.foldl (fun r n => r.push (UInt8.ofNat n.toNat)) ByteArray.empty)) (w.alloc (.cells (ns.map (Value.int .u8)).toArray 5)) := by
  rw [run_convert_bytes_string _ _ _ 5 _ _ _ Tryz.underlying56 Tryz.underlying5 Tryz.underlying9]
  refine run_bytesToString _ _ _ _ ns ?_
  have h := run_loadCells_list (P := Tryz.prog) (w := w.alloc (.cells (ns.map (Value.int .u8)).toArray 5)) ⟨w.heap.size, 0, none⟩ (ns.map (Value.int .u8)) (by
    intro j v hv
    rw [add_zero, cell_of_row _ _ _ _ _ (0, 0) (heap_alloc_new w _)]
    simpa using hv)
  simpa using h

theorem rform_bad (r : Int) (w : World) (h : Utf8.valid r = false) :
    Calls Tryz.prog 130 #[.int .i64 r] w fun e w' => e = .returned (.string (formOf r)) ∧ Below w.heap.size w w' := by
  have hf : formOf r = ByteArray.empty := by unfold formOf; rw [h]; rfl
  rw [hf]
  go_enter Tryz.func130, Tryz.ntmps130
  go_wp2_with (go_at_call 144; refine (may_any _ _).mono ?_; rintro e w' ⟨rfl, rfl⟩)
  go_ret
  exact ⟨rfl, Below.refl _ _⟩

theorem form_one {r : Int} (h : Utf8.valid r = true) (h0 : 0 ≤ r) (h1 : r < 128) : ByteArray.empty.push (UInt8.ofNat r.toNat) = formOf r := by
  unfold formOf
  rw [if_pos h]
  unfold Utf8.encode
  simp only [h, if_true]
  rw [if_pos (by omega)]
  rfl
theorem form_two {r : Int} (h : Utf8.valid r = true) (h0 : 128 ≤ r) (h1 : r < 2048) :
    (ByteArray.empty.push (UInt8.ofNat (192 + r / 64).toNat)).push (UInt8.ofNat (128 + r % 64).toNat) = formOf r := by
  have e1 : (192 + r / 64).toNat = 192 + r.toNat / 64 := by omega
  have e2 : (128 + r % 64).toNat = 128 + r.toNat % 64 := by omega
  rw [e1, e2]
  unfold formOf
  rw [if_pos h]
  unfold Utf8.encode
  simp only [h, if_true]
  rw [if_neg (by omega), if_pos (by omega)]
  rfl
theorem form_three {r : Int} (h : Utf8.valid r = true) (h0 : 2048 ≤ r) (h1 : r < 65536) :
    ((ByteArray.empty.push (UInt8.ofNat (224 + r / 4096).toNat)).push (UInt8.ofNat (128 + r / 64 % 64).toNat)).push (UInt8.ofNat (128 + r % 64).toNat) = formOf r := by
  have e1 : (224 + r / 4096).toNat = 224 + r.toNat / 4096 := by omega
  have e2 : (128 + r / 64 % 64).toNat = 128 + r.toNat / 64 % 64 := by omega
  have e3 : (128 + r % 64).toNat = 128 + r.toNat % 64 := by omega
  rw [e1, e2, e3]
  unfold formOf
  rw [if_pos h]
  unfold Utf8.encode
  simp only [h, if_true]
  rw [if_neg (by omega), if_neg (by omega), if_pos (by omega)]
  rfl
theorem form_four {r : Int} (h : Utf8.valid r = true) (h0 : 65536 ≤ r) :
    (((ByteArray.empty.push (UInt8.ofNat (240 + r / 262144).toNat)).push (UInt8.ofNat (128 + r / 4096 % 64).toNat)).push (UInt8.ofNat (128 + r / 64 % 64).toNat)).push (UInt8.ofNat (128 + r % 64).toNat) = formOf r := by
  have e0 : (240 + r / 262144).toNat = 240 + r.toNat / 262144 := by omega
  have e1 : (128 + r / 4096 % 64).toNat = 128 + r.toNat / 4096 % 64 := by omega
  have e2 : (128 + r / 64 % 64).toNat = 128 + r.toNat / 64 % 64 := by omega
  have e3 : (128 + r % 64).toNat = 128 + r.toNat % 64 := by omega
  rw [e0, e1, e2, e3]
  unfold formOf
  rw [if_pos h]
  unfold Utf8.encode
  simp only [h, if_true]
  rw [if_neg (by omega), if_neg (by omega), if_neg (by omega)]
  rfl

theorem rform_one (r : Int) (w : World) (h : Utf8.valid r = true) (h0 : 0 ≤ r) (h1 : r < 128) :
    Calls Tryz.prog 130 #[.int .i64 r] w fun e w' => e = .returned (.string (formOf r)) ∧ Below w.heap.size w w' := by
  have hc := conv_new w [r]
  simp only [List.length_singleton, List.map_cons, List.map_nil, List.foldl_cons, List.foldl_nil] at hc
  rw [form_one h h0 h1] at hc
  go_enter Tryz.func130, Tryz.ntmps130
  go_wp2_with (go_at_call 144; refine (may_any _ _).mono ?_; rintro e w' ⟨rfl, rfl⟩)
  go_ret
  exact ⟨rfl, (Below.refl _ _).alloc (Nat.le_refl _) _⟩

theorem rform_two (r : Int) (w : World) (h : Utf8.valid r = true) (h0 : 128 ≤ r) (h1 : r < 2048) :
    Calls Tryz.prog 130 #[.int .i64 r] w fun e w' => e = .returned (.string (formOf r)) ∧ Below w.heap.size w w' := by
  have hc := conv_new w [192 + r / 64, 128 + r % 64]
  simp only [List.length_cons, List.length_nil, List.map_cons, List.map_nil, List.foldl_cons, List.foldl_nil, Nat.zero_add, Nat.reduceAdd] at hc
  rw [form_two h h0 h1] at hc
  have h2 : ¬ r < 128 := by omega
  go_enter Tryz.func130, Tryz.ntmps130
  go_wp2_with (go_at_call 144; refine (may_any _ _).mono ?_; rintro e w' ⟨rfl, rfl⟩)
  go_ret
  exact ⟨rfl, (Below.refl _ _).alloc (Nat.le_refl _) _⟩

theorem rform_three (r : Int) (w : World) (h : Utf8.valid r = true) (h0 : 2048 ≤ r) (h1 : r < 65536) :
    Calls Tryz.prog 130 #[.int .i64 r] w fun e w' => e = .returned (.string (formOf r)) ∧ Below w.heap.size w w' := by
  have hc := conv_new w [224 + r / 4096, 128 + r / 64 % 64, 128 + r % 64]
  simp only [List.length_cons, List.length_nil, List.map_cons, List.map_nil, List.foldl_cons, List.foldl_nil, Nat.zero_add, Nat.reduceAdd] at hc
  rw [form_three h h0 h1] at hc
  have h2 : ¬ r < 128 := by omega
  have h3 : ¬ r < 2048 := by omega
  go_enter Tryz.func130, Tryz.ntmps130
  go_wp2_with (go_at_call 144; refine (may_any _ _).mono ?_; rintro e w' ⟨rfl, rfl⟩)
  go_ret
  exact ⟨rfl, (Below.refl _ _).alloc (Nat.le_refl _) _⟩

theorem rform_four (r : Int) (w : World) (h : Utf8.valid r = true) (h0 : 65536 ≤ r) (h1 : r ≤ 1114111) :
    Calls Tryz.prog 130 #[.int .i64 r] w fun e w' => e = .returned (.string (formOf r)) ∧ Below w.heap.size w w' := by
  have hc := conv_new w [240 + r / 262144, 128 + r / 4096 % 64, 128 + r / 64 % 64, 128 + r % 64]
  simp only [List.length_cons, List.length_nil, List.map_cons, List.map_nil, List.foldl_cons, List.foldl_nil, Nat.zero_add, Nat.reduceAdd] at hc
  rw [form_four h h0] at hc
  have h2 : ¬ r < 128 := by omega
  have h3 : ¬ r < 2048 := by omega
  have h4 : ¬ r < 65536 := by omega
  go_enter Tryz.func130, Tryz.ntmps130
  go_wp2_with (go_at_call 144; refine (may_any _ _).mono ?_; rintro e w' ⟨rfl, rfl⟩)
  go_ret
  exact ⟨rfl, (Below.refl _ _).alloc (Nat.le_refl _) _⟩

/-- The reference's Form, of whatever number. -/
theorem rform_any (r : Int) (w : World) :
    Calls Tryz.prog 130 #[.int .i64 r] w fun e w' => e = .returned (.string (formOf r)) ∧ Below w.heap.size w w' := by
  cases h : Utf8.valid r with
  | false => exact rform_bad r w h
  | true =>
    have hb : 0 ≤ r ∧ r ≤ 1114111 := by
      simp [Utf8.valid] at h; omega
    by_cases h1 : r < 128
    · exact rform_one r w h hb.1 h1
    · by_cases h2 : r < 2048
      · exact rform_two r w h (by omega) h2
      · by_cases h3 : r < 65536
        · exact rform_three r w h (by omega) h3
        · exact rform_four r w h (by omega) hb.2
end Go.Proofs.YtklmiabgalanhaaGreatDoor

