/- Plain mathematics of UTF-8 as this seat's program and its document's reference have it. Nothing of the program is named here. -/
import Derived.WalkKit
import Derived.Lib.RuneCountTail
import Derived.Lib.OthersKept
import Derived.Lib.Strings
import Derived.Lib.Hide
namespace Go.Proofs.YtklmiabgalanhaaGreatDoor.Um
set_option maxRecDepth 100000

/-- The byte at a place, as a number. -/
def byt (s : ByteArray) (i : Nat) : Nat := (s.get! i).toNat

theorem byt_lt (s : ByteArray) (i : Nat) : byt s i < 256 := (s.get! i).toNat_lt

/-- The numbers of a character's form. -/
def formN (c : Nat) : List Nat :=
  if c < 128 then [c]
  else if c < 2048 then [192 + c / 64, 128 + c % 64]
  else if c < 65536 then [224 + c / 4096, 128 + c / 64 % 64, 128 + c % 64]
  else [240 + c / 262144, 128 + c / 4096 % 64, 128 + c / 64 % 64, 128 + c % 64]

def len (c : Nat) : Nat := if c < 128 then 1 else if c < 2048 then 2 else if c < 65536 then 3 else 4

theorem formN_length (c : Nat) : (formN c).length = len c := by
  unfold formN len; repeat' split
  all_goals rfl

theorem len_pos (c : Nat) : 1 ≤ len c ∧ len c ≤ 4 := by
  unfold len; repeat' split
  all_goals omega

/-- The form of c stands in s at a place. -/
def At (s : ByteArray) (i : Nat) (c : Nat) : Prop :=
  (c < 128 ∧ i + 1 ≤ s.size ∧ byt s i = c) ∨
  (128 ≤ c ∧ c < 2048 ∧ i + 2 ≤ s.size ∧ byt s i = 192 + c / 64 ∧ byt s (i + 1) = 128 + c % 64) ∨
  (2048 ≤ c ∧ c < 65536 ∧ i + 3 ≤ s.size ∧ byt s i = 224 + c / 4096 ∧ byt s (i + 1) = 128 + c / 64 % 64 ∧ byt s (i + 2) = 128 + c % 64) ∨
  (65536 ≤ c ∧ i + 4 ≤ s.size ∧ byt s i = 240 + c / 262144 ∧ byt s (i + 1) = 128 + c / 4096 % 64 ∧ byt s (i + 2) = 128 + c / 64 % 64 ∧ byt s (i + 3) = 128 + c % 64)

def okN (c : Nat) : Prop := c < 55296 ∨ (57344 ≤ c ∧ c ≤ 1114111)
instance okDec (c : Nat) : Decidable (okN c) := by unfold okN; infer_instance

theorem valid_iff (c : Nat) : Utf8.valid (c : Int) = true ↔ okN c := by
  simp [Utf8.valid, okN]; omega

theorem valid_false {c : Nat} (h : ¬ okN c) : Utf8.valid (c : Int) = false := by
  cases hv : Utf8.valid (c : Int) with
  | false => rfl
  | true => exact absurd ((valid_iff c).1 hv) h

theorem decode_spell (s : ByteArray) (i : Nat) : Utf8.decode s i =
    if byt s i < 128 then (byt s i, 1)
    else if byt s i / 32 = 6 ∧ i + 1 < s.size ∧ byt s (i + 1) / 64 = 2 then
      if 128 ≤ (byt s i % 32) * 64 + byt s (i + 1) % 64 then ((byt s i % 32) * 64 + byt s (i + 1) % 64, 2) else (65533, 1)
    else if byt s i / 16 = 14 ∧ (i + 1 < s.size ∧ byt s (i + 1) / 64 = 2) ∧ (i + 2 < s.size ∧ byt s (i + 2) / 64 = 2) then
      if 2048 ≤ (byt s i % 16) * 4096 + (byt s (i + 1) % 64) * 64 + byt s (i + 2) % 64 ∧ okN ((byt s i % 16) * 4096 + (byt s (i + 1) % 64) * 64 + byt s (i + 2) % 64) then ((byt s i % 16) * 4096 + (byt s (i + 1) % 64) * 64 + byt s (i + 2) % 64, 3) else (65533, 1)
    else if byt s i / 8 = 30 ∧ (i + 1 < s.size ∧ byt s (i + 1) / 64 = 2) ∧ (i + 2 < s.size ∧ byt s (i + 2) / 64 = 2) ∧ (i + 3 < s.size ∧ byt s (i + 3) / 64 = 2) then
      if 65536 ≤ (byt s i % 8) * 262144 + (byt s (i + 1) % 64) * 4096 + (byt s (i + 2) % 64) * 64 + byt s (i + 3) % 64 ∧ okN ((byt s i % 8) * 262144 + (byt s (i + 1) % 64) * 4096 + (byt s (i + 2) % 64) * 64 + byt s (i + 3) % 64) then ((byt s i % 8) * 262144 + (byt s (i + 1) % 64) * 4096 + (byt s (i + 2) % 64) * 64 + byt s (i + 3) % 64, 4) else (65533, 1)
    else (65533, 1) := by
  unfold Utf8.decode byt
  simp only [Nat.add_zero, Bool.and_eq_true, decide_eq_true_eq, beq_iff_eq, valid_iff, and_assoc, Utf8.runeError, ge_iff_le]

/-- WHAT A READING THAT IS NO SUBSTITUTE SAYS. -/
theorem decode_at {s : ByteArray} {i : Nat} (hi : i < s.size) (h : Utf8.decode s i ≠ (65533, 1)) :
    okN (Utf8.decode s i).1 ∧ At s i (Utf8.decode s i).1 ∧ (Utf8.decode s i).2 = len (Utf8.decode s i).1 := by
  have b0 := byt_lt s i; have b1 := byt_lt s (i + 1); have b2 := byt_lt s (i + 2); have b3 := byt_lt s (i + 3)
  rw [decode_spell] at h ⊢
  split at h
  · rename_i h0
    simp only [if_pos h0]
    refine ⟨by unfold okN; omega, by unfold At; omega, by unfold len; rw [if_pos h0]⟩
  · rename_i h0
    simp only [if_neg h0]
    split at h
    · rename_i h1
      simp only [if_pos h1]
      split at h
      · rename_i h2
        simp only [if_pos h2]
        refine ⟨by unfold okN; omega, by unfold At; omega, by unfold len; rw [if_neg (by omega), if_pos (by omega)]⟩
      · exact absurd rfl h
    · rename_i h1
      simp only [if_neg h1]
      split at h
      · rename_i h2
        simp only [if_pos h2]
        split at h
        · rename_i h3
          simp only [if_pos h3]
          refine ⟨h3.2, by unfold At; omega, by unfold len; rw [if_neg (by omega), if_neg (by omega), if_pos (by omega)]⟩
        · exact absurd rfl h
      · rename_i h2
        simp only [if_neg h2]
        split at h
        · rename_i h3
          simp only [if_pos h3]
          split at h
          · rename_i h4
            simp only [if_pos h4]
            refine ⟨h4.2, by unfold At; omega, by unfold len; rw [if_neg (by omega), if_neg (by omega), if_neg (by omega)]⟩
          · exact absurd rfl h
        · exact absurd rfl h

/-- A FORM THAT STANDS SOMEWHERE IS READ AS ITS CHARACTER. -/
theorem decode_of {s : ByteArray} {i c : Nat} (hc : okN c) (h : At s i c) : Utf8.decode s i = (c, len c) := by
  have b0 := byt_lt s i; have b1 := byt_lt s (i + 1); have b2 := byt_lt s (i + 2); have b3 := byt_lt s (i + 3)
  unfold okN at hc
  rw [decode_spell]
  rcases h with ⟨h0, h1, h2⟩ | ⟨h0, h1, h2, h3, h4⟩ | ⟨h0, h1, h2, h3, h4, h5⟩ | ⟨h0, h2, h3, h4, h5, h6⟩
  · rw [if_pos (by omega), h2]; unfold len; rw [if_pos h0]
  · rw [if_neg (by omega), if_pos (by omega), if_pos (by omega)]
    unfold len; rw [if_neg (by omega), if_pos (by omega)]
    congr 1; omega
  · have e : (byt s i % 16) * 4096 + (byt s (i + 1) % 64) * 64 + byt s (i + 2) % 64 = c := by omega
    rw [if_neg (by omega), if_neg (by omega), if_pos (by omega), if_pos (by rw [e]; exact ⟨h0, hc⟩), e]
    unfold len; rw [if_neg (by omega), if_neg (by omega), if_pos (by omega)]
  · have e : (byt s i % 8) * 262144 + (byt s (i + 1) % 64) * 4096 + (byt s (i + 2) % 64) * 64 + byt s (i + 3) % 64 = c := by omega
    rw [if_neg (by omega), if_neg (by omega), if_neg (by omega), if_pos (by omega), if_pos (by rw [e]; exact ⟨h0, hc⟩), e]
    unfold len; rw [if_neg (by omega), if_neg (by omega), if_neg (by omega)]

theorem at_fits {s : ByteArray} {i c : Nat} (h : At s i c) : i + len c ≤ s.size := by
  unfold len
  rcases h with h | h | h | h
  · rw [if_pos h.1]; omega
  · rw [if_neg (by omega), if_pos (by omega)]; omega
  · rw [if_neg (by omega), if_neg (by omega), if_pos (by omega)]; omega
  · rw [if_neg (by omega), if_neg (by omega), if_neg (by omega)]; omega

theorem decode_pos (s : ByteArray) (i : Nat) : 1 ≤ (Utf8.decode s i).2 := by
  rw [decode_spell]; repeat' split
  all_goals simp

/-- Is what is read at a place a character of its own form? -/
def okAt (s : ByteArray) (i : Nat) : Bool := decide (Utf8.decode s i ≠ (65533, 1))

theorem okAt_iff {s : ByteArray} {i : Nat} (hi : i < s.size) : okAt s i = true ↔ ∃ c, okN c ∧ At s i c := by
  unfold okAt
  rw [decide_eq_true_eq]
  constructor
  · intro h; exact ⟨_, (decode_at hi h).1, (decode_at hi h).2.1⟩
  · rintro ⟨c, hc, ha⟩ h
    rw [decode_of hc ha] at h
    have := (Prod.mk.injEq _ _ _ _ ▸ h : c = 65533 ∧ len c = 1)
    obtain ⟨rfl, h2⟩ := this
    exact absurd h2 (by decide)

end Go.Proofs.YtklmiabgalanhaaGreatDoor.Um

/- Pieces of a text, byte by byte; the substitute's own form. Nothing of the program is named here. -/
namespace Go.Proofs.YtklmiabgalanhaaGreatDoor.Um
set_option maxRecDepth 100000

/-- A piece, byte by byte. -/
theorem piece (s : ByteArray) (i n : Nat) (h : i + n ≤ s.size) : (s.extract i (i + n)).data.toList = (List.range n).map fun j => s.get! (i + j) := by
  have hl : s.data.size = s.size := rfl
  rw [Lib.extract_data, Nat.add_sub_cancel_left]
  apply List.ext_getElem
  · simp; omega
  · intro j h1 h2
    simp only [List.length_map, List.length_range] at h2
    rw [List.getElem_take, List.getElem_drop, List.getElem_map, List.getElem_range]
    have e : s.get! (i + j) = s[i + j]'(by omega) := by
      show s.data[i + j]! = _
      rw [getElem!_pos s.data (i + j) (by omega)]; rfl
    rw [e]
    simp
    rfl

theorem byt_eq (s : ByteArray) (i : Nat) (b : UInt8) : s.get! i = b ↔ byt s i = b.toNat := by
  unfold byt; exact ⟨fun h => by rw [h], fun h => UInt8.toNat.inj h⟩

instance atDec (s : ByteArray) (i c : Nat) : Decidable (At s i c) := by unfold At; infer_instance

theorem sub_at (s : ByteArray) (i : Nat) (h : i + 3 ≤ s.size) : ((s.extract i (i + 3)).toList == [239, 191, 189]) = decide (At s i 65533) := by
  have e : (s.extract i (i + 3)).toList = (s.extract i (i + 3)).data.toList := by rw [Lib.extract_toList, Lib.extract_data]
  rw [e, piece s i 3 h, Bool.eq_iff_iff, beq_iff_eq, decide_eq_true_eq]
  simp only [List.range_succ, List.range_zero, List.nil_append, List.cons_append, List.map_cons, List.map_nil, List.cons.injEq, and_true, Nat.add_zero, byt_eq]
  unfold At
  simp
  omega

/-- WHAT runes.begins ASKS. -/
theorem ok_of_other {s : ByteArray} {i : Nat} (h : (Utf8.decode s i).1 ≠ 65533) : okAt s i = true := by
  unfold okAt
  rw [decide_eq_true_eq]
  intro e; rw [e] at h; exact h rfl

theorem ok_of_sub {s : ByteArray} {i : Nat} (hi : i < s.size) (h : (Utf8.decode s i).1 = 65533) : okAt s i = true ↔ At s i 65533 := by
  constructor
  · intro k
    unfold okAt at k
    rw [decide_eq_true_eq] at k
    have := (decode_at hi k).2.1
    rwa [h] at this
  · intro k
    exact (okAt_iff hi).2 ⟨65533, by unfold okN; omega, k⟩

theorem okAt_tail (s : ByteArray) (n : Nat) : okAt (s.extract n s.size) 0 = okAt s n := by
  unfold okAt
  rw [Lib.tail_decode]
  rfl

end Go.Proofs.YtklmiabgalanhaaGreatDoor.Um

/- What the reference's Read computes at a place, length by length, held against the model's decoding. Nothing of the program is named here. -/
namespace Go.Proofs.YtklmiabgalanhaaGreatDoor.Um
set_option maxRecDepth 100000

/-- The number that the reference makes of n bytes: behind its first step, and j rounds later. -/
def vv (s : ByteArray) (i n : Nat) : Nat → Nat
  | 0 => if n = 1 then byt s i else byt s i % 2 ^ (7 - n)
  | j + 1 => 64 * vv s i n j + byt s (i + (j + 1)) % 64
def vfin (s : ByteArray) (i n : Nat) : Nat := vv s i n (n - 1)

theorem vfin1 (s : ByteArray) (i : Nat) : vfin s i 1 = byt s i := rfl
theorem vfin2 (s : ByteArray) (i : Nat) : vfin s i 2 = 64 * (byt s i % 32) + byt s (i + 1) % 64 := rfl
theorem vfin3 (s : ByteArray) (i : Nat) : vfin s i 3 = 64 * (64 * (byt s i % 16) + byt s (i + 1) % 64) + byt s (i + 2) % 64 := rfl
theorem vfin4 (s : ByteArray) (i : Nat) : vfin s i 4 = 64 * (64 * (64 * (byt s i % 8) + byt s (i + 1) % 64) + byt s (i + 2) % 64) + byt s (i + 3) % 64 := rfl

/-- The form as a text (of no program). -/
def form (r : Int) : ByteArray := if Utf8.valid r = true then Utf8.encode r else ByteArray.empty

theorem form_list {c : Nat} (h : okN c) : (form (c : Int)).data.toList = (formN c).map UInt8.ofNat := by
  have hv := (valid_iff c).2 h
  unfold form
  rw [if_pos hv]
  unfold Utf8.encode formN
  simp only [hv, if_true, Int.toNat_natCast]
  repeat' split
  all_goals first | rfl | omega

theorem form_none {c : Nat} (h : ¬ okN c) : (form (c : Int)).data.toList = [] := by
  unfold form
  rw [valid_false h]; rfl

/-- Is the form of the number those n bytes? -/
def hitB (s : ByteArray) (i n : Nat) : Bool := (form (vfin s i n : Nat)).toList == (s.extract i (i + n)).toList

theorem toList_eq (s : ByteArray) : s.toList = s.data.toList := by
  have := Lib.extract_toList s 0 s.size
  have h2 := Lib.extract_data s 0 s.size
  rw [ByteArray.extract_zero_size] at this h2
  rw [this, ← h2]

theorem toNat_ofNat {x : Nat} (h : x < 256) : (UInt8.ofNat x).toNat = x := by simp; omega

theorem get_of {s : ByteArray} {i x : Nat} (h : s.get! i = UInt8.ofNat x) (hx : x < 256) : byt s i = x := by unfold byt; rw [h, toNat_ofNat hx]
theorem of_get {s : ByteArray} {i x : Nat} (h : byt s i = x) : s.get! i = UInt8.ofNat x := by
  have hx := byt_lt s i
  rw [h] at hx
  apply UInt8.toNat.inj
  rw [toNat_ofNat hx]; exact h

theorem hit_iff (s : ByteArray) (i n c : Nat) (hc : okN c) (h1 : 1 ≤ n) (hn : i + n ≤ s.size) :
    ((form (c : Int)).toList == (s.extract i (i + n)).toList) = true ↔ n = len c ∧ At s i c := by
  have hle : c ≤ 1114111 := by unfold okN at hc; omega
  rw [beq_iff_eq, toList_eq, toList_eq, form_list hc, piece s i n hn]
  constructor
  · intro h
    have hl := congrArg List.length h
    simp only [List.length_map, List.length_range, formN_length] at hl
    subst hl
    refine ⟨rfl, ?_⟩
    revert h
    unfold At
    by_cases a : c < 128
    · rw [show len c = 1 by unfold len; rw [if_pos a]] at hn ⊢
      simp only [formN, if_pos a, List.map_cons, List.map_nil, List.range_succ, List.range_zero, List.nil_append, List.cons.injEq, and_true, Nat.add_zero]
      intro h
      have := get_of h.symm (by omega)
      exact .inl ⟨a, hn, this⟩
    · by_cases b : c < 2048
      · rw [show len c = 2 by unfold len; rw [if_neg a, if_pos b]] at hn ⊢
        simp only [formN, if_neg a, if_pos b, List.map_cons, List.map_nil, List.range_succ, List.range_zero, List.nil_append, List.cons_append, List.cons.injEq, and_true, Nat.add_zero]
        rintro ⟨h, h'⟩
        have e := get_of h.symm (by omega)
        have e' := get_of h'.symm (by omega)
        exact .inr (.inl ⟨by omega, b, hn, e, e'⟩)
      · by_cases d : c < 65536
        · rw [show len c = 3 by unfold len; rw [if_neg a, if_neg b, if_pos d]] at hn ⊢
          simp only [formN, if_neg a, if_neg b, if_pos d, List.map_cons, List.map_nil, List.range_succ, List.range_zero, List.nil_append, List.cons_append, List.cons.injEq, and_true, Nat.add_zero]
          rintro ⟨h, h', h''⟩
          have e := get_of h.symm (by omega)
          have e' := get_of h'.symm (by omega)
          have e'' := get_of h''.symm (by omega)
          exact .inr (.inr (.inl ⟨by omega, d, hn, e, e', e''⟩))
        · rw [show len c = 4 by unfold len; rw [if_neg a, if_neg b, if_neg d]] at hn ⊢
          simp only [formN, if_neg a, if_neg b, if_neg d, List.map_cons, List.map_nil, List.range_succ, List.range_zero, List.nil_append, List.cons_append, List.cons.injEq, and_true, Nat.add_zero]
          rintro ⟨h, h', h'', h'''⟩
          have e := get_of h.symm (by omega)
          have e' := get_of h'.symm (by omega)
          have e'' := get_of h''.symm (by omega)
          have e''' := get_of h'''.symm (by omega)
          exact .inr (.inr (.inr ⟨by omega, hn, e, e', e'', e'''⟩))
  · rintro ⟨rfl, h⟩
    rcases h with ⟨a, _, e⟩ | ⟨a, b, _, e, e'⟩ | ⟨a, b, _, e, e', e''⟩ | ⟨a, _, e, e', e'', e'''⟩
    · rw [show len c = 1 by unfold len; rw [if_pos a]]
      simp only [formN, if_pos a, List.map_cons, List.map_nil, List.range_succ, List.range_zero, List.nil_append, Nat.add_zero]
      rw [of_get e]
    · rw [show len c = 2 by unfold len; rw [if_neg (by omega), if_pos b]]
      simp only [formN, if_neg (show ¬ c < 128 by omega), if_pos b, List.map_cons, List.map_nil, List.range_succ, List.range_zero, List.nil_append, List.cons_append, Nat.add_zero]
      rw [of_get e, of_get e']
    · rw [show len c = 3 by unfold len; rw [if_neg (by omega), if_neg (by omega), if_pos b]]
      simp only [formN, if_neg (show ¬ c < 128 by omega), if_neg (show ¬ c < 2048 by omega), if_pos b, List.map_cons, List.map_nil, List.range_succ, List.range_zero, List.nil_append, List.cons_append, Nat.add_zero]
      rw [of_get e, of_get e', of_get e'']
    · rw [show len c = 4 by unfold len; rw [if_neg (by omega), if_neg (by omega), if_neg (by omega)]]
      simp only [formN, if_neg (show ¬ c < 128 by omega), if_neg (show ¬ c < 2048 by omega), if_neg (show ¬ c < 65536 by omega), List.map_cons, List.map_nil, List.range_succ, List.range_zero, List.nil_append, List.cons_append, Nat.add_zero]
      rw [of_get e, of_get e', of_get e'', of_get e''']

theorem hit_says {s : ByteArray} {i n : Nat} (h1 : 1 ≤ n) (hn : i + n ≤ s.size) (h : hitB s i n = true) : okN (vfin s i n) ∧ n = len (vfin s i n) ∧ At s i (vfin s i n) := by
  by_cases hc : okN (vfin s i n)
  · exact ⟨hc, (hit_iff s i n _ hc h1 hn).1 h⟩
  · exfalso
    unfold hitB at h
    rw [beq_iff_eq, toList_eq, toList_eq, form_none hc, piece s i n hn] at h
    have := congrArg List.length h
    simp at this
    omega

theorem vfin_at {s : ByteArray} {i c : Nat} (hc : okN c) (h : At s i c) : vfin s i (len c) = c := by
  have hle : c ≤ 1114111 := by unfold okN at hc; omega
  rcases h with ⟨a, _, e⟩ | ⟨a, b, _, e, e'⟩ | ⟨a, b, _, e, e', e''⟩ | ⟨a, _, e, e', e'', e'''⟩
  · rw [show len c = 1 by unfold len; rw [if_pos a], vfin1, e]
  · rw [show len c = 2 by unfold len; rw [if_neg (by omega), if_pos b], vfin2, e, e']; omega
  · rw [show len c = 3 by unfold len; rw [if_neg (by omega), if_neg (by omega), if_pos b], vfin3, e, e', e'']; omega
  · rw [show len c = 4 by unfold len; rw [if_neg (by omega), if_neg (by omega), if_neg (by omega)], vfin4, e, e', e'', e''']; omega

/-- AT A PLACE WHERE A CHARACTER BEGINS the reference meets it at its own length, and at no shorter one. -/
theorem hit_good {s : ByteArray} {i n : Nat} (hi : i < s.size) (hk : okAt s i = true) (h1 : 1 ≤ n) (hn : i + n ≤ s.size) :
    hitB s i n = decide (n = (Utf8.decode s i).2) ∧ (n = (Utf8.decode s i).2 → vfin s i n = (Utf8.decode s i).1) := by
  have ho : Utf8.decode s i ≠ (65533, 1) := by unfold okAt at hk; exact of_decide_eq_true hk
  obtain ⟨ha, hb, hd⟩ := decode_at hi ho
  have key : n = (Utf8.decode s i).2 → vfin s i n = (Utf8.decode s i).1 := fun e => by rw [e, hd]; exact vfin_at ha hb
  refine ⟨?_, key⟩
  rw [Bool.eq_iff_iff, decide_eq_true_eq]
  constructor
  · intro h
    obtain ⟨x, y, z⟩ := hit_says h1 hn h
    have := decode_of x z
    rw [this]
    exact y
  · intro e
    unfold hitB
    rw [key e]
    exact (hit_iff s i n _ ha h1 hn).2 ⟨by rw [e, hd], hb⟩

theorem hit_bad {s : ByteArray} {i n : Nat} (hi : i < s.size) (hk : okAt s i = false) (h1 : 1 ≤ n) (hn : i + n ≤ s.size) : hitB s i n = false := by
  cases h : hitB s i n with
  | false => rfl
  | true =>
    obtain ⟨x, y, z⟩ := hit_says h1 hn h
    have := (okAt_iff hi).2 ⟨_, x, z⟩
    rw [this] at hk
    cases hk

end Go.Proofs.YtklmiabgalanhaaGreatDoor.Um

/- A text read form behind form: its characters, and the first place at which none begins. Nothing of the program is named here. -/
namespace Go.Proofs.YtklmiabgalanhaaGreatDoor.Um
set_option maxRecDepth 100000

/-- How many bytes are taken at a place. -/
def wid (s : ByteArray) (p : Nat) : Nat := (Utf8.decode s p).2
def chr (s : ByteArray) (p : Nat) : Nat := (Utf8.decode s p).1

/-- The characters from a place on, up to the first that is none (with fuel). -/
def chs (s : ByteArray) : Nat → Nat → List Nat
  | 0, _ => []
  | f + 1, p => if p < s.size then if okAt s p = true then chr s p :: chs s f (p + wid s p) else [] else []

/-- The first place at which none begins. -/
def badP (s : ByteArray) : Nat → Nat → Option Nat
  | 0, _ => none
  | f + 1, p => if p < s.size then if okAt s p = true then badP s f (p + wid s p) else some p else none

theorem wid_pos (s : ByteArray) (p : Nat) : 1 ≤ wid s p := decode_pos s p

theorem chs_step {s : ByteArray} {f p : Nat} (h : p < s.size) (hk : okAt s p = true) : chs s (f + 1) p = chr s p :: chs s f (p + wid s p) := by
  simp only [chs, if_pos h, if_pos hk]
theorem chs_bad {s : ByteArray} {f p : Nat} (hk : okAt s p = false) : chs s (f + 1) p = [] := by
  simp [chs, hk]
theorem chs_end {s : ByteArray} {f p : Nat} (h : ¬ p < s.size) : chs s f p = [] := by
  cases f with
  | zero => rfl
  | succ f => simp only [chs, if_neg h]
theorem badP_step {s : ByteArray} {f p : Nat} (h : p < s.size) (hk : okAt s p = true) : badP s (f + 1) p = badP s f (p + wid s p) := by
  simp only [badP, if_pos h, if_pos hk]
theorem badP_bad {s : ByteArray} {f p : Nat} (h : p < s.size) (hk : okAt s p = false) : badP s (f + 1) p = some p := by
  simp [badP, hk, h]
theorem badP_end {s : ByteArray} {f p : Nat} (h : ¬ p < s.size) : badP s f p = none := by
  cases f with
  | zero => rfl
  | succ f => simp only [badP, if_neg h]

/-- What Bad answers. -/
def badI (s : ByteArray) : Int := match badP s s.size 0 with | some p => (p : Int) | none => -1
/-- The characters of a text that is not bad. -/
def allC (s : ByteArray) : List Nat := if badP s s.size 0 = none then chs s s.size 0 else []
def allB (s : ByteArray) : Bool := decide (badP s s.size 0 = none)

theorem chs_length (s : ByteArray) : ∀ f p, p ≤ s.size → (chs s f p).length ≤ s.size - p
  | 0, p, _ => by simp [chs]
  | f + 1, p, hp => by
    by_cases h : p < s.size
    · cases hk : okAt s p with
      | false => rw [chs_bad hk]; simp
      | true =>
        rw [chs_step h hk, List.length_cons]
        have ho : Utf8.decode s p ≠ (65533, 1) := by unfold okAt at hk; exact of_decide_eq_true hk
        obtain ⟨_, b, d⟩ := decode_at h ho
        have hf := at_fits b
        have hw := wid_pos s p
        have hle : p + wid s p ≤ s.size := by unfold wid; rw [d]; exact hf
        have := chs_length s f (p + wid s p) hle
        omega
    · rw [chs_end h]; simp

theorem allC_length (s : ByteArray) : (allC s).length ≤ s.size := by
  unfold allC
  split
  · have := chs_length s s.size 0 (by omega); omega
  · simp

theorem ok_fits {s : ByteArray} {p : Nat} (h : p < s.size) (hk : okAt s p = true) : p + wid s p ≤ s.size := by
  have ho : Utf8.decode s p ≠ (65533, 1) := by unfold okAt at hk; exact of_decide_eq_true hk
  obtain ⟨_, b, d⟩ := decode_at h ho
  have hf := at_fits b
  unfold wid; rw [d]; exact hf

end Go.Proofs.YtklmiabgalanhaaGreatDoor.Um

/- Texts one behind the other: forms, characters, places. Nothing of the program is named here. -/
namespace Go.Proofs.YtklmiabgalanhaaGreatDoor.Um
set_option maxRecDepth 100000

theorem get_data (s : ByteArray) (i : Nat) : s.get! i = s.data[i]! := rfl
theorem size_data (s : ByteArray) : s.size = s.data.size := rfl

theorem byt_left (a b : ByteArray) (i : Nat) (h : i < a.size) : byt (a ++ b) i = byt a i := by
  have ha : a.data.size = a.size := rfl
  have hab : (a.data ++ b.data).size = a.data.size + b.data.size := Array.size_append
  unfold byt
  rw [get_data, get_data, ByteArray.data_append]
  rw [getElem!_pos (a.data ++ b.data) i (by rw [hab]; omega), getElem!_pos a.data i (by omega), Array.getElem_append_left (by omega)]

theorem byt_right (a b : ByteArray) (i : Nat) : byt (a ++ b) (a.size + i) = byt b i := by
  have ha : a.data.size = a.size := rfl
  have hb : b.data.size = b.size := rfl
  have hab : (a.data ++ b.data).size = a.data.size + b.data.size := Array.size_append
  unfold byt
  rw [get_data, get_data, ByteArray.data_append]
  by_cases h : i < b.data.size
  · rw [getElem!_pos (a.data ++ b.data) (a.size + i) (by rw [hab]; omega), getElem!_pos b.data i h, Array.getElem_append_right (by omega)]
    congr 2
    omega
  · rw [getElem!_neg (a.data ++ b.data) (a.size + i) (by rw [hab]; omega), getElem!_neg b.data i h]

theorem size_append (a b : ByteArray) : (a ++ b).size = a.size + b.size := ByteArray.size_append

theorem at_left {a b : ByteArray} {i c : Nat} (h : At a i c) : At (a ++ b) i c := by
  have f := at_fits h
  have hs := size_append a b
  have e0 := byt_left a b i; have e1 := byt_left a b (i + 1); have e2 := byt_left a b (i + 2); have e3 := byt_left a b (i + 3)
  unfold At at h ⊢
  rcases h with ⟨p, q, r⟩ | ⟨p, p', q, r, r'⟩ | ⟨p, p', q, r, r', r''⟩ | ⟨p, q, r, r', r'', r'''⟩
  · exact .inl ⟨p, by omega, by rw [e0 (by omega)]; exact r⟩
  · exact .inr (.inl ⟨p, p', by omega, by rw [e0 (by omega)]; exact r, by rw [e1 (by omega)]; exact r'⟩)
  · exact .inr (.inr (.inl ⟨p, p', by omega, by rw [e0 (by omega)]; exact r, by rw [e1 (by omega)]; exact r', by rw [e2 (by omega)]; exact r''⟩))
  · exact .inr (.inr (.inr ⟨p, by omega, by rw [e0 (by omega)]; exact r, by rw [e1 (by omega)]; exact r', by rw [e2 (by omega)]; exact r'', by rw [e3 (by omega)]; exact r'''⟩))

theorem at_right {a b : ByteArray} {i c : Nat} (h : At b i c) : At (a ++ b) (a.size + i) c := by
  have hs := size_append a b
  have e0 := byt_right a b i; have e1 := byt_right a b (i + 1); have e2 := byt_right a b (i + 2); have e3 := byt_right a b (i + 3)
  unfold At at h ⊢
  simp only [Nat.add_assoc] at e1 e2 e3 ⊢
  rcases h with ⟨p, q, r⟩ | ⟨p, p', q, r, r'⟩ | ⟨p, p', q, r, r', r''⟩ | ⟨p, q, r, r', r'', r'''⟩
  · exact .inl ⟨p, by omega, by rw [e0]; exact r⟩
  · exact .inr (.inl ⟨p, p', by omega, by rw [e0]; exact r, by rw [e1]; exact r'⟩)
  · exact .inr (.inr (.inl ⟨p, p', by omega, by rw [e0]; exact r, by rw [e1]; exact r', by rw [e2]; exact r''⟩))
  · exact .inr (.inr (.inr ⟨p, by omega, by rw [e0]; exact r, by rw [e1]; exact r', by rw [e2]; exact r'', by rw [e3]; exact r'''⟩))

theorem form_size {c : Nat} (h : okN c) : (form (c : Int)).size = len c := by
  have e := form_list h
  have := congrArg List.length e
  rw [List.length_map, formN_length, Array.length_toList] at this
  rw [size_data]
  exact this

theorem at_form {c : Nat} (h : okN c) : At (form (c : Int)) 0 c := by
  have hs := form_size h
  have e : (form (c : Int)).extract 0 (0 + len c) = form (c : Int) := by
    have e1 : (0 + len c) = (form (c : Int)).size := by rw [hs, Nat.zero_add]
    rw [e1]
    exact ByteArray.extract_zero_size
  have e2 : ((form (c : Int)).toList == ((form (c : Int)).extract 0 (0 + len c)).toList) = true := by
    rw [e]
    exact beq_self_eq_true _
  exact ((hit_iff (form (c : Int)) 0 (len c) c h (len_pos c).1 (by omega)).1 e2).2

/-- The reading of a form with something behind it. -/
theorem decode_form {c : Nat} (h : okN c) (b : ByteArray) : Utf8.decode (form (c : Int) ++ b) 0 = (c, len c) := decode_of h (at_left (at_form h))

theorem okAt_form {c : Nat} (h : okN c) (b : ByteArray) : okAt (form (c : Int) ++ b) 0 = true := by
  refine (okAt_iff ?_).2 ⟨c, h, at_left (at_form h)⟩
  rw [size_append, form_size h]
  have := len_pos c; omega

theorem okN_of_valid {r : Int} (h : Utf8.valid r = true) : ∃ c : Nat, r = c ∧ okN c := by
  have hb : 0 ≤ r := by simp [Utf8.valid] at h; omega
  obtain ⟨c, rfl⟩ := Int.eq_ofNat_of_zero_le hb
  exact ⟨c, rfl, (valid_iff c).1 h⟩
end Go.Proofs.YtklmiabgalanhaaGreatDoor.Um

/- A text that is read to its end, as a relation; texts one behind the other; forms joined. Nothing of the program is named here. -/
namespace Go.Proofs.YtklmiabgalanhaaGreatDoor.Um
set_option maxRecDepth 100000

/-- From a place on the text is just the forms of these characters. -/
def Reads (s : ByteArray) : Nat → List Nat → Prop
  | p, [] => p = s.size
  | p, c :: l => okN c ∧ At s p c ∧ Reads s (p + len c) l

theorem chr_eq {s : ByteArray} {p c l : Nat} (h : Utf8.decode s p = (c, l)) : chr s p = c ∧ wid s p = l := by unfold chr wid; rw [h]; exact ⟨rfl, rfl⟩

theorem reads_of (s : ByteArray) : ∀ f p, p ≤ s.size → s.size ≤ p + f → badP s f p = none → Reads s p (chs s f p)
  | 0, p, h1, h2, _ => by simp only [chs, Reads]; omega
  | f + 1, p, h1, h2, hb => by
    by_cases hp : p < s.size
    · cases hk : okAt s p with
      | false => rw [badP_bad hp hk] at hb; cases hb
      | true =>
        rw [badP_step hp hk] at hb
        rw [chs_step hp hk]
        have ho : Utf8.decode s p ≠ (65533, 1) := by unfold okAt at hk; exact of_decide_eq_true hk
        obtain ⟨a, b, d⟩ := decode_at hp ho
        have hw := wid_pos s p
        have hf := ok_fits hp hk
        have hd : wid s p = len (chr s p) := d
        refine ⟨a, b, ?_⟩
        rw [← hd]
        exact reads_of s f _ hf (by omega) hb
    · rw [chs_end hp]; unfold Reads; omega

theorem of_reads {s : ByteArray} : ∀ {l : List Nat} {f p : Nat}, Reads s p l → s.size ≤ p + f → chs s f p = l ∧ badP s f p = none
  | [], f, p, h, _ => by
    unfold Reads at h
    exact ⟨chs_end (by omega), badP_end (by omega)⟩
  | c :: l, f, p, h, hf => by
    obtain ⟨a, b, d⟩ := h
    have hd := decode_of a b
    have hfit := at_fits b
    have hl := len_pos c
    obtain ⟨g, rfl⟩ : ∃ g, f = g + 1 := ⟨f - 1, by omega⟩
    have hp : p < s.size := by omega
    have hk : okAt s p = true := (okAt_iff hp).2 ⟨c, a, b⟩
    obtain ⟨e1, e2⟩ := chr_eq hd
    rw [chs_step hp hk, badP_step hp hk, e1, e2]
    obtain ⟨x, y⟩ := of_reads d (f := g) (by omega)
    exact ⟨by rw [x], y⟩

theorem reads_all {s : ByteArray} (h : allB s = true) : Reads s 0 (allC s) := by
  unfold allB at h
  have hb := of_decide_eq_true h
  unfold allC
  rw [if_pos hb]
  exact reads_of s s.size 0 (by omega) (by omega) hb

theorem all_reads {s : ByteArray} {l : List Nat} (h : Reads s 0 l) : allC s = l ∧ allB s = true ∧ badI s = -1 := by
  obtain ⟨a, b⟩ := of_reads h (f := s.size) (by omega)
  unfold allC allB badI
  rw [b, if_pos rfl]
  exact ⟨a, decide_eq_true rfl, rfl⟩

theorem bad_nonneg {s : ByteArray} (h : allB s = false) : 0 ≤ badI s := by
  unfold allB at h
  unfold badI
  cases hb : badP s s.size 0 with
  | none => rw [hb] at h; simp at h
  | some p => simp

theorem good_bad {s : ByteArray} (h : allB s = true) : badI s = -1 := (all_reads (reads_all h)).2.2

theorem bad_empty {s : ByteArray} (h : allB s = false) : allC s = [] := by
  unfold allB at h
  unfold allC
  exact if_neg (of_decide_eq_false h)

theorem reads_right {a b : ByteArray} : ∀ {l : List Nat} {q : Nat}, Reads b q l → Reads (a ++ b) (a.size + q) l
  | [], q, h => by
    unfold Reads at h ⊢
    rw [size_append]; omega
  | c :: l, q, h => by
    obtain ⟨x, y, z⟩ := h
    refine ⟨x, at_right y, ?_⟩
    rw [Nat.add_assoc]
    exact reads_right z

theorem reads_append {a b : ByteArray} {m : List Nat} (hb : Reads b 0 m) : ∀ {l : List Nat} {p : Nat}, Reads a p l → Reads (a ++ b) p (l ++ m)
  | [], p, h => by
    unfold Reads at h
    subst h
    have := reads_right (a := a) hb
    simpa using this
  | c :: l, p, h => by
    obtain ⟨x, y, z⟩ := h
    exact ⟨x, at_left y, reads_append hb z⟩

/-- Two texts that are not bad, one behind the other. -/
theorem all_append {a b : ByteArray} (ha : allB a = true) (hb : allB b = true) : allC (a ++ b) = allC a ++ allC b ∧ allB (a ++ b) = true ∧ badI (a ++ b) = -1 :=
  all_reads (reads_append (reads_all hb) (reads_all ha))

/-- The forms of characters, one behind the other. -/
def joinL : List Nat → ByteArray
  | [] => ByteArray.empty
  | c :: l => form (c : Int) ++ joinL l

theorem reads_join : ∀ {l : List Nat}, (∀ c ∈ l, okN c) → Reads (joinL l) 0 l
  | [], _ => rfl
  | c :: l, h => by
    have hc := h c (List.mem_cons_self ..)
    have hl := reads_join (l := l) fun x hx => h x (List.mem_cons_of_mem _ hx)
    refine ⟨hc, at_left (at_form hc), ?_⟩
    have := reads_right (a := form (c : Int)) hl
    rw [form_size hc] at this
    simpa [joinL] using this

theorem all_join {l : List Nat} (h : ∀ c ∈ l, okN c) : allC (joinL l) = l ∧ allB (joinL l) = true ∧ badI (joinL l) = -1 := all_reads (reads_join h)

theorem bytes_ext {a b : ByteArray} (h : a.data.toList = b.data.toList) : a = b := by
  cases a; cases b
  congr 1
  exact Array.toList_inj.1 h

theorem join_reads {s : ByteArray} : ∀ {l : List Nat} {p : Nat}, Reads s p l → (s.extract p s.size).data.toList = (joinL l).data.toList
  | [], p, h => by
    unfold Reads at h
    rw [Lib.extract_data, h]
    simp [joinL]
  | c :: l, p, h => by
    obtain ⟨x, y, z⟩ := h
    have hf := at_fits y
    have hl := len_pos c
    have ih := join_reads z
    have e := (hit_iff s p (len c) c x hl.1 hf).2 ⟨rfl, y⟩
    rw [beq_iff_eq, toList_eq, toList_eq] at e
    rw [joinL, ByteArray.data_append, Array.toList_append, e, ← ih, Lib.extract_data, Lib.extract_data, Lib.extract_data, Nat.add_sub_cancel_left]
    have hn : s.data.toList.length = s.size := by rw [Array.length_toList]; rfl
    rw [List.take_of_length_le (by simp), List.take_of_length_le (l := s.data.toList.drop (p + len c)) (by simp)]
    rw [← List.drop_drop, List.take_append_drop]

theorem join_all {s : ByteArray} (h : allB s = true) : joinL (allC s) = s := by
  have := join_reads (reads_all h)
  rw [ByteArray.extract_zero_size] at this
  exact (bytes_ext this).symm

end Go.Proofs.YtklmiabgalanhaaGreatDoor.Um

/- Tables of ranges: the first whose end is not passed, against any one that holds the number. Nothing of the program is named here. -/
namespace Go.Proofs.YtklmiabgalanhaaGreatDoor.Cm
set_option maxRecDepth 100000

def withinB : List (Int × Int) → Int → Bool
  | [], _ => false
  | (a, b) :: t, r => if r ≤ b then decide (a ≤ r) else withinB t r
def inB : List (Int × Int) → Int → Bool
  | [], _ => false
  | (a, b) :: t, r => if a ≤ r ∧ r ≤ b then true else inB t r
/-- Each range begins behind the end of the one before it. -/
def rising : Int → List (Int × Int) → Bool
  | _, [] => true
  | lo, (a, b) :: t => decide (lo < a) && decide (a ≤ b) && rising b t

theorem below_all : ∀ {l : List (Int × Int)} {lo r : Int}, rising lo l = true → r ≤ lo → inB l r = false
  | [], _, _, _, _ => rfl
  | (a, b) :: t, lo, r, h, hr => by
    simp only [rising, Bool.and_eq_true, decide_eq_true_eq] at h
    rw [inB, if_neg (by omega)]
    exact below_all h.2 (by omega)

theorem within_in : ∀ {l : List (Int × Int)} {lo : Int} (r : Int), rising lo l = true → withinB l r = inB l r
  | [], _, _, _ => rfl
  | (a, b) :: t, lo, r, h => by
    simp only [rising, Bool.and_eq_true, decide_eq_true_eq] at h
    rw [withinB, inB]
    by_cases hb : r ≤ b
    · rw [if_pos hb]
      by_cases ha : a ≤ r
      · rw [if_pos ⟨ha, hb⟩, decide_eq_true ha]
      · rw [if_neg (by omega), decide_eq_false ha, below_all h.2 hb]
    · rw [if_neg hb, if_neg (by omega)]
      exact within_in r h.2

/-- The document's ranges. -/
def letters : List (Int × Int) := [(65, 90), (95, 95), (97, 122), (170, 170), (181, 181), (186, 186), (192, 214), (216, 246), (248, 705), (880, 883), (886, 887), (891, 893), (902, 902), (904, 906), (908, 908), (910, 929), (931, 1013), (1024, 1153), (1162, 1327), (1329, 1366), (1377, 1415), (1488, 1514), (1568, 1610), (2308, 2361), (3585, 3632), (4256, 4293), (7680, 7957), (12353, 12438), (12449, 12538), (19968, 40959), (44032, 55203), (66560, 66639), (131072, 173791)]
def digits : List (Int × Int) := [(48, 57), (1632, 1641), (2406, 2415), (3664, 3673), (65296, 65305)]
def blanks : List (Int × Int) := [(9, 10), (13, 13), (32, 32)]

theorem letters_rise : rising 0 letters = true := by decide
theorem digits_rise : rising 0 digits = true := by decide
theorem blanks_rise : rising 0 blanks = true := by decide

theorem letter_eq (r : Int) : withinB letters r = inB letters r := within_in r letters_rise
theorem digit_eq (r : Int) : withinB digits r = inB digits r := within_in r digits_rise
theorem blank_eq (r : Int) : withinB blanks r = inB blanks r := within_in r blanks_rise

theorem blank_iff (r : Int) : inB blanks r = decide (r = 9 ∨ r = 10 ∨ r = 13 ∨ r = 32) := by
  rw [Bool.eq_iff_iff, decide_eq_true_eq]
  simp only [blanks, inB]
  by_cases h1 : 9 ≤ r ∧ r ≤ 10
  · rw [if_pos h1]; simp; omega
  · rw [if_neg h1]
    by_cases h2 : 13 ≤ r ∧ r ≤ 13
    · rw [if_pos h2]; simp; omega
    · rw [if_neg h2]
      by_cases h3 : 32 ≤ r ∧ r ≤ 32
      · rw [if_pos h3]; simp; omega
      · rw [if_neg h3]; simp; omega

/-- What a number says as a digit of base 16. -/
def base (r : Int) : Int := if 48 ≤ r ∧ r ≤ 57 then r - 48 else if 65 ≤ r ∧ r ≤ 70 then r - 65 + 10 else if 97 ≤ r ∧ r ≤ 102 then r - 97 + 10 else -1

/-- A table's ranges, cell by cell. -/
def flat (k : IntKind) : List (Int × Int) → List Value
  | [] => []
  | (a, b) :: t => .int k a :: .int k b :: flat k t
def lo (l : List (Int × Int)) (i : Nat) : Int := (l.getD i (0, 0)).1
def hi (l : List (Int × Int)) (i : Nat) : Int := (l.getD i (0, 0)).2

theorem flat_at (k : IntKind) : ∀ {l : List (Int × Int)} {i : Nat}, i < l.length → (flat k l)[2 * i]? = some (.int k (lo l i)) ∧ (flat k l)[2 * i + 1]? = some (.int k (hi l i))
  | (a, b) :: t, 0, _ => ⟨rfl, rfl⟩
  | (a, b) :: t, i + 1, h => by
    have := flat_at k (l := t) (i := i) (by simpa using h)
    have e1 : 2 * (i + 1) = 2 * i + 1 + 1 := by omega
    rw [e1]
    simp only [flat, List.getElem?_cons_succ]
    exact this

theorem drop_at {l : List (Int × Int)} {i : Nat} (h : i < l.length) : l.drop i = (lo l i, hi l i) :: l.drop (i + 1) := by
  rw [List.drop_eq_getElem_cons h]
  have e : l.getD i (0, 0) = l[i] := by simp [h]
  unfold lo hi
  rw [e]

/-- The table lies in a row. -/
def Tab (w : World) (k : IntKind) (g : Nat) (l : List (Int × Int)) : Prop := g < w.heap.size ∧ ∀ i, i < l.length → w.cell? ⟨g, i * 2, none⟩ = some (.int k (lo l i)) ∧ w.cell? ⟨g, i * 2 + 1, none⟩ = some (.int k (hi l i))

theorem tab_of {w : World} {k : IntKind} {g : Nat} {l : List (Int × Int)} {t : TypeId} {fz : Nat × Nat} (h : w.heap[g]? = some (.cells (flat k l).toArray t fz)) : Tab w k g l := by
  refine ⟨(Array.getElem?_eq_some_iff.1 h).1, fun i hi => ?_⟩
  have := flat_at k hi
  rw [Nat.mul_comm 2 i] at this
  rw [cell_of_row w g _ _ _ _ h, cell_of_row w g _ _ _ _ h]
  simpa using this

end Go.Proofs.YtklmiabgalanhaaGreatDoor.Cm

/- Plain mathematics of edits: texts as lists of bytes, which edits may stand, the edited text, what undoes edits. Nothing of the program is named here. -/
namespace Go.Proofs.YtklmiabgalanhaaGreatDoor.Em
set_option maxRecDepth 100000

/-- A text's bytes. -/
def bl (s : ByteArray) : List UInt8 := s.data.toList

theorem bl_size (s : ByteArray) : (bl s).length = s.size := by unfold bl; rw [Array.length_toList]; rfl
theorem bl_append (a b : ByteArray) : bl (a ++ b) = bl a ++ bl b := by unfold bl; rw [ByteArray.data_append, Array.toList_append]
theorem bl_extract (s : ByteArray) (a b : Nat) : bl (s.extract a b) = ((bl s).take b).drop a := by
  unfold bl
  rw [ByteArray.data_extract, Array.toList_extract, List.extract_eq_take_drop, List.drop_take]
theorem bl_inj {a b : ByteArray} (h : bl a = bl b) : a = b := by
  cases a; cases b
  unfold bl at h
  congr
  exact Array.toList_inj.1 h
theorem bl_empty : bl ByteArray.empty = [] := rfl

/-- An edit. -/
structure Ed where
  f : Int
  t : Int
  x : ByteArray

theorem Ed.ext' {a b : Ed} (h1 : a.f = b.f) (h2 : a.t = b.t) (h3 : a.x = b.x) : a = b := by cases a; cases b; simp_all

/-- Edits that may stand in n bytes, none ahead of p. -/
def sd (n : Int) : Int → List Ed → Bool
  | _, [] => true
  | p, e :: l => decide (p ≤ e.f) && (decide (e.f ≤ e.t) && (decide (e.t ≤ n) && sd n e.t l))

theorem sd_cons {n p : Int} {e : Ed} {l : List Ed} : sd n p (e :: l) = true ↔ p ≤ e.f ∧ e.f ≤ e.t ∧ e.t ≤ n ∧ sd n e.t l = true := by
  simp [sd]

theorem sd_step {n p : Int} {e : Ed} {l : List Ed} (h1 : p ≤ e.f) (h2 : e.f ≤ e.t) (h3 : e.t ≤ n) : sd n p (e :: l) = sd n e.t l := by
  simp [sd, h1, h2, h3]
theorem sd_no {n p : Int} {e : Ed} {l : List Ed} (h : e.f < p ∨ e.t < e.f ∨ n < e.t) : sd n p (e :: l) = false := by
  cases hv : sd n p (e :: l) with
  | false => rfl
  | true => have := sd_cons.1 hv; omega

/-- By how much an edit makes the text longer. -/
def gr (e : Ed) : Int := (e.x.size : Int) - (e.t - e.f)
def gn : List Ed → Int
  | [] => 0
  | e :: l => gr e + gn l

/-- All that is put, all that is taken. -/
def put : List Ed → Nat
  | [] => 0
  | e :: l => e.x.size + put l
def took : List Ed → Int
  | [] => 0
  | e :: l => (e.t - e.f) + took l
theorem gn_eq : ∀ l, gn l = (put l : Int) - took l
  | [] => rfl
  | e :: l => by simp only [gn, put, took, gn_eq l, gr]; push_cast; omega
theorem took_le {n : Int} : ∀ {l : List Ed} {p : Int}, sd n p l = true → p ≤ n → 0 ≤ took l ∧ took l ≤ n - p
  | [], p, _, hp => by simp [took]; omega
  | e :: l, p, h, _ => by
    obtain ⟨h1, h2, h3, h4⟩ := sd_cons.1 h
    have := took_le h4 h3
    simp only [took]; omega

/-- The edited text, from a place of the text on. -/
def ed (s : List UInt8) : Nat → List Ed → List UInt8
  | p, [] => s.drop p
  | p, e :: l => (s.take e.f.toNat).drop p ++ (bl e.x ++ ed s e.t.toNat l)

theorem ed_length {s : List UInt8} : ∀ {l : List Ed} {p : Nat}, sd s.length p l = true → p ≤ s.length → ((ed s p l).length : Int) = s.length - p + gn l
  | [], p, _, hp => by simp [ed, gn]; omega
  | e :: l, p, h, hp => by
    obtain ⟨h1, h2, h3, h4⟩ := sd_cons.1 h
    have e1 : ((e.t.toNat : Nat) : Int) = e.t := by omega
    have ih := ed_length (s := s) (l := l) (p := e.t.toNat) (by rw [e1]; exact h4) (by omega)
    simp only [ed, gn, gr, List.length_append, List.length_drop, List.length_take, bl_size]
    omega

theorem sd_mono {n p q : Int} : ∀ {l : List Ed}, sd n p l = true → q ≤ p → sd n q l = true
  | [], _, _ => rfl
  | e :: l, h, hq => by obtain ⟨h1, h2, h3, h4⟩ := sd_cons.1 h; exact sd_cons.2 ⟨by omega, h2, h3, h4⟩

/-- What undoes edits: m is by how much what lies ahead has been moved. -/
def un (s : List UInt8) : Int → List Ed → List Ed
  | _, [] => []
  | m, e :: l => ⟨e.f + m, e.f + m + e.x.size, ⟨((s.take e.t.toNat).drop e.f.toNat).toArray⟩⟩ :: un s (m + gr e) l

theorem un_length (s : List UInt8) : ∀ (m : Int) (l : List Ed), (un s m l).length = l.length
  | _, [] => rfl
  | m, e :: l => by simp [un, un_length]

theorem bl_of (l : List UInt8) : bl ⟨l.toArray⟩ = l := by simp [bl]
theorem size_of (l : List UInt8) : (⟨l.toArray⟩ : ByteArray).size = l.length := by rw [← bl_size, bl_of]

theorem take_drop_split (s : List UInt8) {p f : Nat} (h : p ≤ f) : s.take f = s.take p ++ (s.take f).drop p := by
  have := List.take_append_drop p (s.take f)
  rw [List.take_take, Nat.min_eq_left h] at this
  exact this.symm

theorem drop_split (s : List UInt8) {p f : Nat} (h : p ≤ f) : s.drop p = (s.take f).drop p ++ s.drop f := by
  have h1 := List.take_append_drop f s
  have h2 : s.drop p = (s.take f ++ s.drop f).drop p := by rw [h1]
  by_cases hf : f ≤ s.length
  · rw [h2, List.drop_append_of_le_length (by rw [List.length_take]; omega)]
  · have e1 : s.take f = s := List.take_of_length_le (by omega)
    have e2 : s.drop f = [] := List.drop_of_length_le (by omega)
    rw [e1, e2, List.append_nil]

/-- What undoes edits may stand, and makes the text of the edited text; the pieces that it takes and puts. -/
theorem un_undoes (s : List UInt8) : ∀ (l : List Ed) (p : Nat) (pre : List UInt8), sd s.length p l = true → p ≤ s.length →
    sd ((pre ++ ed s p l).length : Int) (pre.length : Int) (un s ((pre.length : Int) - p) l) = true ∧
    ed (pre ++ ed s p l) pre.length (un s ((pre.length : Int) - p) l) = s.drop p
  | [], p, pre, _, hp => by
    refine ⟨rfl, ?_⟩
    simp only [un, ed]
    rw [List.drop_left']
    rfl
  | e :: l, p, pre, h, hp => by
    obtain ⟨h1, h2, h3, h4⟩ := sd_cons.1 h
    obtain ⟨f, hf⟩ : ∃ f : Nat, e.f = f := ⟨e.f.toNat, by omega⟩
    obtain ⟨t, ht⟩ : ∃ t : Nat, e.t = t := ⟨e.t.toNat, by omega⟩
    have hft : f ≤ t := by omega
    have hpf : p ≤ f := by omega
    have htl : t ≤ s.length := by omega
    have e1 : ed s p (e :: l) = (s.take f).drop p ++ (bl e.x ++ ed s t l) := by simp only [ed, hf, ht, Int.toNat_natCast]
    have lm : ((s.take f).drop p).length = f - p := by rw [List.length_drop, List.length_take]; omega
    obtain ⟨i1, i2⟩ := un_undoes s l t (pre ++ (s.take f).drop p ++ bl e.x) (by rw [← ht]; exact h4) htl
    have el : ((pre ++ (s.take f).drop p ++ bl e.x).length : Int) = pre.length + (f - p : Nat) + e.x.size := by
      rw [List.length_append, List.length_append, lm, bl_size]; push_cast; omega
    have em : ((pre ++ (s.take f).drop p ++ bl e.x).length : Int) - (t : Int) = (pre.length : Int) - p + gr e := by
      rw [el]; unfold gr; rw [hf, ht]; omega
    have eT : pre ++ ed s p (e :: l) = pre ++ (s.take f).drop p ++ bl e.x ++ ed s t l := by rw [e1]; simp only [List.append_assoc]
    rw [em] at i1 i2
    rw [eT]
    have ef : (f : Int) + ((pre.length : Int) - p) = ((pre.length + (f - p) : Nat) : Int) := by omega
    have et : (f : Int) + ((pre.length : Int) - p) + (e.x.size : Int) = ((pre.length + (f - p) + e.x.size : Nat) : Int) := by omega
    have lT : (pre ++ (s.take f).drop p ++ bl e.x ++ ed s t l).length = pre.length + (f - p) + e.x.size + (ed s t l).length := by
      simp only [List.length_append, lm, bl_size]
    have el' : (pre ++ (s.take f).drop p ++ bl e.x).length = pre.length + (f - p) + e.x.size := by
      simp only [List.length_append, lm, bl_size]
    constructor
    · rw [un, sd_cons]
      refine ⟨?_, ?_, ?_, ?_⟩
      · show (pre.length : Int) ≤ e.f + _; omega
      · show e.f + _ ≤ e.f + _ + _; omega
      · show e.f + _ + _ ≤ _; rw [hf, et, lT]; omega
      · show sd _ (e.f + _ + _) _ = true
        rw [hf, et, ← el']; exact i1
    · rw [un]
      simp only [ed]
      rw [hf, ef, Int.toNat_natCast]
      rw [show ((pre.length + (f - p) : Nat) : Int) + (e.x.size : Int) = ((pre.length + (f - p) + e.x.size : Nat) : Int) by omega, Int.toNat_natCast, ← el', Int.toNat_natCast, i2]
      have p1 : ((pre ++ (s.take f).drop p ++ bl e.x ++ ed s t l).take (pre.length + (f - p))).drop pre.length = (s.take f).drop p := by
        have a1 : pre ++ (s.take f).drop p ++ bl e.x ++ ed s t l = (pre ++ (s.take f).drop p) ++ (bl e.x ++ ed s t l) := by simp only [List.append_assoc]
        rw [a1, List.take_left' (by rw [List.length_append, lm]), List.drop_left' rfl]
      rw [p1, ht, Int.toNat_natCast, bl_of (List.drop f (List.take t s)), drop_split s hpf, drop_split s hft]

/-- What undoes what undoes edits: the edits. -/
theorem un_twice (s : List UInt8) : ∀ (l : List Ed) (p : Nat) (pre : List UInt8), sd s.length p l = true → p ≤ s.length →
    un (pre ++ ed s p l) ((p : Int) - pre.length) (un s ((pre.length : Int) - p) l) = l
  | [], _, _, _, _ => rfl
  | e :: l, p, pre, h, hp => by
    obtain ⟨h1, h2, h3, h4⟩ := sd_cons.1 h
    obtain ⟨f, hf⟩ : ∃ f : Nat, e.f = f := ⟨e.f.toNat, by omega⟩
    obtain ⟨t, ht⟩ : ∃ t : Nat, e.t = t := ⟨e.t.toNat, by omega⟩
    have hft : f ≤ t := by omega
    have hpf : p ≤ f := by omega
    have htl : t ≤ s.length := by omega
    have e1 : ed s p (e :: l) = (s.take f).drop p ++ (bl e.x ++ ed s t l) := by simp only [ed, hf, ht, Int.toNat_natCast]
    have lm : ((s.take f).drop p).length = f - p := by rw [List.length_drop, List.length_take]; omega
    have ih := un_twice s l t (pre ++ (s.take f).drop p ++ bl e.x) (by rw [← ht]; exact h4) htl
    have el : ((pre ++ (s.take f).drop p ++ bl e.x).length : Int) = pre.length + (f - p : Nat) + e.x.size := by
      rw [List.length_append, List.length_append, lm, bl_size]; push_cast; omega
    have eT : pre ++ ed s p (e :: l) = pre ++ (s.take f).drop p ++ bl e.x ++ ed s t l := by rw [e1]; simp only [List.append_assoc]
    have em : ((pre ++ (s.take f).drop p ++ bl e.x).length : Int) - (t : Int) = (pre.length : Int) - p + gr e := by
      rw [el]; unfold gr; rw [hf, ht]; omega
    have sz : ((s.take t).drop f).length = t - f := by rw [List.length_drop, List.length_take]; omega
    have em2 : (t : Int) - ((pre ++ (s.take f).drop p ++ bl e.x).length : Int) = (p : Int) - pre.length + gr ⟨e.f + ((pre.length : Int) - p), e.f + ((pre.length : Int) - p) + e.x.size, ⟨((s.take e.t.toNat).drop e.f.toNat).toArray⟩⟩ := by
      rw [el]
      unfold gr
      simp only [size_of]
      rw [hf, ht, Int.toNat_natCast, Int.toNat_natCast, sz]
      omega
    have ef : (f : Int) + ((pre.length : Int) - p) = ((pre.length + (f - p) : Nat) : Int) := by omega
    rw [eT, un, un, ← em, ← em2, ih]
    congr 1
    apply Ed.ext'
    · show e.f + _ + _ = e.f; omega
    · show e.f + _ + _ + _ = e.t
      rw [size_of, hf, ht, Int.toNat_natCast, Int.toNat_natCast, sz]; omega
    · show (⟨_⟩ : ByteArray) = e.x
      apply bl_inj
      rw [bl_of]
      have a1 : pre ++ (s.take f).drop p ++ bl e.x ++ ed s t l = (pre ++ (s.take f).drop p ++ bl e.x) ++ ed s t l := by simp only [List.append_assoc]
      show ((_ : List UInt8).take (e.f + _ + _).toNat).drop (e.f + _).toNat = _
      rw [hf, ef, Int.toNat_natCast, show ((pre.length + (f - p) : Nat) : Int) + (e.x.size : Int) = ((pre.length + (f - p) + e.x.size : Nat) : Int) by omega, Int.toNat_natCast]
      rw [List.take_left' (by simp only [List.length_append, lm, bl_size])]
      rw [List.drop_left' (by simp only [List.length_append, lm])]
end Go.Proofs.YtklmiabgalanhaaGreatDoor.Em

/- Plain mathematics: an edit made less. Nothing of the program is named here. -/
namespace Go.Proofs.YtklmiabgalanhaaGreatDoor.Em
set_option maxRecDepth 100000

/-- The byte at a place, as a number. -/
def byN (s : ByteArray) (i : Nat) : Nat := (s.get! i).toNat
theorem byN_lt (s : ByteArray) (i : Nat) : byN s i < 256 := (s.get! i).toNat_lt
theorem byN_get (s : ByteArray) (i : Nat) (h : i < s.size) : (s[i]'h).toNat = byN s i := by
  unfold byN
  congr 1
  show _ = s.data[i]!
  rw [getElem!_pos s.data i h]; rfl
theorem bl_get (s : ByteArray) (i : Nat) (h : i < s.size) : (bl s)[i]? = some (s[i]'h) := by
  unfold bl
  rw [Array.getElem?_toList]
  exact Array.getElem?_eq_getElem h
theorem byN_iff {s y : ByteArray} {i j : Nat} (hi : i < s.size) (hj : j < y.size) : byN s i = byN y j ↔ (bl s)[i]? = (bl y)[j]? := by
  rw [bl_get s i hi, bl_get y j hj, ← byN_get s i hi, ← byN_get y j hj]
  constructor
  · intro h; rw [UInt8.toNat_inj.1 h]
  · intro h; rw [Option.some.inj h]

/-- Alike at the beginning. -/
def tr1 (s : List UInt8) (t : Nat) : Nat → List UInt8 → Nat × List UInt8
  | f, [] => (f, [])
  | f, c :: x => if f < t ∧ s[f]? = some c then tr1 s t (f + 1) x else (f, c :: x)
/-- Alike at the end. -/
def tr2 (s : List UInt8) (f : Nat) : Nat → List UInt8 → Nat × List UInt8
  | 0, x => (0, x)
  | t + 1, x => if f < t + 1 ∧ x ≠ [] ∧ s[t]? = x.getLast? then tr2 s f t x.dropLast else (t + 1, x)

theorem tr1_end {s : List UInt8} {t f : Nat} {x : List UInt8} (h : ¬ f < t) : tr1 s t f x = (f, x) := by
  cases x with
  | nil => rfl
  | cons c x => rw [tr1, if_neg (fun g => h g.1)]
theorem tr1_nil {s : List UInt8} {t f : Nat} : tr1 s t f [] = (f, []) := rfl
theorem tr1_no {s : List UInt8} {t f : Nat} {x : List UInt8} (h : ¬ s[f]? = x[0]?) : tr1 s t f x = (f, x) := by
  cases x with
  | nil => rfl
  | cons c x => rw [tr1, if_neg (fun g => h (by simpa using g.2))]
theorem tr1_yes {s : List UInt8} {t f : Nat} {x : List UInt8} (h1 : f < t) (h2 : 0 < x.length) (h3 : s[f]? = x[0]?) : tr1 s t f x = tr1 s t (f + 1) (x.drop 1) := by
  cases x with
  | nil => simp at h2
  | cons c x => rw [tr1, if_pos ⟨h1, by simpa using h3⟩]; rfl

theorem last_at {x : List UInt8} (_ : 0 < x.length) : x.getLast? = x[x.length - 1]? := List.getLast?_eq_getElem?
theorem tr2_end {s : List UInt8} {t f : Nat} {x : List UInt8} (h : ¬ f < t) : tr2 s f t x = (t, x) := by
  cases t with
  | zero => rfl
  | succ t => rw [tr2, if_neg (fun g => h g.1)]
theorem tr2_nil {s : List UInt8} {t f : Nat} : tr2 s f t [] = (t, []) := by
  cases t with
  | zero => rfl
  | succ t => rw [tr2, if_neg (fun g => g.2.1 rfl)]
theorem tr2_no {s : List UInt8} {t f : Nat} {x : List UInt8} (h0 : 0 < x.length) (h : ¬ s[t - 1]? = x[x.length - 1]?) : tr2 s f t x = (t, x) := by
  cases t with
  | zero => rfl
  | succ t => rw [tr2, if_neg (fun g => h (by rw [← last_at h0]; exact g.2.2))]
theorem tr2_yes {s : List UInt8} {t f : Nat} {x : List UInt8} (h1 : f < t) (h2 : 0 < x.length) (h3 : s[t - 1]? = x[x.length - 1]?) : tr2 s f t x = tr2 s f (t - 1) (x.take (x.length - 1)) := by
  cases t with
  | zero => omega
  | succ t =>
    rw [tr2, if_pos ⟨h1, fun e => by rw [e] at h2; simp at h2, by rw [last_at h2]; exact h3⟩, List.dropLast_eq_take]; rfl

/-- An edit made less. -/
def trN (s : List UInt8) (f t : Nat) (x : List UInt8) : Nat × Nat × List UInt8 :=
  let a := tr1 s t f x
  let b := tr2 s a.1 t a.2
  (a.1, b.1, b.2)
def trm (s : ByteArray) (e : Ed) : Ed :=
  let r := trN (bl s) e.f.toNat e.t.toNat (bl e.x)
  ⟨r.1, r.2.1, ⟨r.2.2.toArray⟩⟩

/-- What the first step does: it leaves out what is alike. -/
theorem tr1_spec (s : List UInt8) (t : Nat) : ∀ (x : List UInt8) (f : Nat), f ≤ t → t ≤ s.length →
    f ≤ (tr1 s t f x).1 ∧ (tr1 s t f x).1 ≤ t ∧ x = (s.take (tr1 s t f x).1).drop f ++ (tr1 s t f x).2 ∧
    ((tr1 s t f x).1 < t → (tr1 s t f x).2 ≠ [] → ¬ s[(tr1 s t f x).1]? = (tr1 s t f x).2[0]?)
  | [], f, h, _ => by
    rw [tr1_nil]
    refine ⟨Nat.le_refl _, h, ?_, fun _ h => absurd rfl h⟩
    show [] = _
    rw [List.drop_of_length_le (by rw [List.length_take]; omega)]; rfl
  | c :: x, f, h, ht => by
    by_cases hc : f < t ∧ s[f]? = some c
    · rw [tr1, if_pos hc]
      obtain ⟨a, b, e, g⟩ := tr1_spec s t x (f + 1) hc.1 ht
      refine ⟨by omega, b, ?_, g⟩
      have hlen : f < (s.take (tr1 s t (f + 1) x).1).length := by rw [List.length_take]; omega
      have hg : (s.take (tr1 s t (f + 1) x).1)[f]? = some c := by rw [List.getElem?_take_of_lt (by omega)]; exact hc.2
      rw [List.drop_eq_getElem_cons hlen]
      have : (s.take (tr1 s t (f + 1) x).1)[f] = c := by
        rw [List.getElem?_eq_getElem hlen] at hg; exact Option.some.inj hg
      rw [this, List.cons_append, ← e]
    · rw [tr1, if_neg hc]
      refine ⟨Nat.le_refl _, h, ?_, fun h1 _ h2 => hc ⟨h1, by simpa using h2⟩⟩
      show c :: x = _
      rw [List.drop_of_length_le (by rw [List.length_take]; omega)]; rfl

theorem tr2_spec (s : List UInt8) (f : Nat) : ∀ (t : Nat) (x : List UInt8), f ≤ t → t ≤ s.length →
    f ≤ (tr2 s f t x).1 ∧ (tr2 s f t x).1 ≤ t ∧ x = (tr2 s f t x).2 ++ (s.take t).drop (tr2 s f t x).1 ∧
    (f < (tr2 s f t x).1 → (tr2 s f t x).2 ≠ [] → ¬ s[(tr2 s f t x).1 - 1]? = (tr2 s f t x).2[(tr2 s f t x).2.length - 1]?) ∧
    ((tr2 s f t x).2 ≠ [] → (tr2 s f t x).2[0]? = x[0]?)
  | 0, x, h, _ => by
    rw [tr2]
    refine ⟨h, Nat.le_refl _, by simp, fun h1 => ?_, fun _ => rfl⟩
    change f < 0 at h1; omega
  | t + 1, x, h, ht => by
    by_cases hc : f < t + 1 ∧ x ≠ [] ∧ s[t]? = x.getLast?
    · rw [tr2, if_pos hc]
      obtain ⟨a, b, e, g, z⟩ := tr2_spec s f t x.dropLast (by omega) (by omega)
      refine ⟨a, by omega, ?_, g, fun hne => ?_⟩
      · have ht' : t < s.length := by omega
        have e1 : (s.take (t + 1)).drop (tr2 s f t x.dropLast).1 = (s.take t).drop (tr2 s f t x.dropLast).1 ++ [s[t]] := by
          rw [List.take_succ_eq_append_getElem ht', List.drop_append_of_le_length (by rw [List.length_take]; omega)]
        rw [e1, ← List.append_assoc, ← e]
        have h3 : x.getLast hc.2.1 = s[t] := by
          have h4 := List.getLast?_eq_some_getLast hc.2.1
          have h5 := List.getElem?_eq_getElem ht'
          exact Option.some.inj (h4.symm.trans (hc.2.2.symm.trans h5))
        rw [← h3]
        exact (List.dropLast_concat_getLast hc.2.1).symm
      · rw [z hne]
        have hl : 0 < x.dropLast.length := by
          rcases Nat.eq_zero_or_pos x.dropLast.length with h0 | h0
          · exfalso
            have h1 : x.dropLast = [] := List.eq_nil_of_length_eq_zero h0
            rw [h1] at hne e
            have := List.append_eq_nil_iff.1 e.symm
            exact hne this.1
          · exact h0
        rw [List.dropLast_eq_take, List.getElem?_take_of_lt (by rw [List.length_dropLast] at hl; omega)]
    · rw [tr2, if_neg hc]
      refine ⟨h, Nat.le_refl _, ?_, fun h1 h2 h3 => hc ⟨h1, h2, ?_⟩, fun _ => rfl⟩
      · show x = x ++ _
        rw [List.drop_of_length_le (by rw [List.length_take]; omega), List.append_nil]
      · have hp : 0 < x.length := List.length_pos_iff.2 h2
        rw [last_at hp]; exact h3

/-- An edit made less: where it lies, and that it makes the same text. -/
theorem trN_spec (s : List UInt8) (f t : Nat) (x : List UInt8) (h : f ≤ t) (ht : t ≤ s.length) :
    f ≤ (trN s f t x).1 ∧ (trN s f t x).1 ≤ (trN s f t x).2.1 ∧ (trN s f t x).2.1 ≤ t ∧
    x = (s.take (trN s f t x).1).drop f ++ ((trN s f t x).2.2 ++ (s.take t).drop (trN s f t x).2.1) ∧
    trN s (trN s f t x).1 (trN s f t x).2.1 (trN s f t x).2.2 = trN s f t x := by
  obtain ⟨a1, a2, a3, a4⟩ := tr1_spec s t x f h ht
  obtain ⟨b1, b2, b3, b4, b5⟩ := tr2_spec s (tr1 s t f x).1 t (tr1 s t f x).2 a2 ht
  refine ⟨a1, b1, b2, a3.trans (congrArg _ b3), ?_⟩
  show trN s (tr1 s t f x).1 (tr2 s (tr1 s t f x).1 t (tr1 s t f x).2).1 (tr2 s (tr1 s t f x).1 t (tr1 s t f x).2).2 = ((tr1 s t f x).1, (tr2 s (tr1 s t f x).1 t (tr1 s t f x).2).1, (tr2 s (tr1 s t f x).1 t (tr1 s t f x).2).2)
  generalize tr1 s t f x = A at *
  obtain ⟨f1, x1⟩ := A
  dsimp only at *
  generalize tr2 s f1 t x1 = B at *
  obtain ⟨t1, x2⟩ := B
  dsimp only at *
  have c1 : tr1 s t1 f1 x2 = (f1, x2) := by
    by_cases hlt : f1 < t1
    · by_cases hn : x2 = []
      · rw [hn]; rfl
      · refine tr1_no ?_
        rw [b5 hn]
        refine a4 (by omega) (fun e => ?_)
        rw [e] at b3
        exact hn (List.append_eq_nil_iff.1 b3.symm).1
    · exact tr1_end hlt
  have c2 : tr2 s f1 t1 x2 = (t1, x2) := by
    by_cases hlt : f1 < t1
    · by_cases hn : x2 = []
      · rw [hn]; exact tr2_nil
      · exact tr2_no (List.length_pos_iff.2 hn) (b4 hlt hn)
    · exact tr2_end hlt
  unfold trN
  rw [c1]
  dsimp only
  rw [c2]
end Go.Proofs.YtklmiabgalanhaaGreatDoor.Em

