/- Plain mathematics of UTF-8 as this seat's program and its document's reference have it. Nothing of the program is named here. -/
import Derived.WalkKit
import Derived.Lib.RuneCountTail
import Derived.Lib.OthersKept
namespace Go.Proofs.Ytdpngmhjdafdpaa.Um

/-- The byte at a place, as a number. -/
def byt (s : ByteArray) (i : Nat) : Nat := (s.get! i).toNat

theorem byt_lt (s : ByteArray) (i : Nat) : byt s i < 256 := (s.get! i).toNat_lt

/-- The numbers of a character's form. -/
def formN (c : Nat) : List Nat :=
  if c < 128 then [c]
  else if c < 2048 then [192 + c / 64, 128 + c % 64]
  else if c < 65536 then [224 + c / 4096, 128 + c / 64 % 64, 128 + c % 64]
  else [240 + c / 262144, 128 + c / 4096 % 64, 128 + c / 64 % 64, 128 + c % 64]

def len (c : Nat) : Nat := if c < 128 then 1 else if c < 2048 then 2 else if c < 65536 then 3 else 4

theorem formN_length (c : Nat) : (formN c).length = len c := by
  unfold formN len; repeat' split
  all_goals rfl

theorem len_pos (c : Nat) : 1 ≤ len c ∧ len c ≤ 4 := by
  unfold len; repeat' split
  all_goals omega

/-- The form of c stands in s at a place. -/
def At (s : ByteArray) (i : Nat) (c : Nat) : Prop :=
  (c < 128 ∧ i + 1 ≤ s.size ∧ byt s i = c) ∨
  (128 ≤ c ∧ c < 2048 ∧ i + 2 ≤ s.size ∧ byt s i = 192 + c / 64 ∧ byt s (i + 1) = 128 + c % 64) ∨
  (2048 ≤ c ∧ c < 65536 ∧ i + 3 ≤ s.size ∧ byt s i = 224 + c / 4096 ∧ byt s (i + 1) = 128 + c / 64 % 64 ∧ byt s (i + 2) = 128 + c % 64) ∨
  (65536 ≤ c ∧ i + 4 ≤ s.size ∧ byt s i = 240 + c / 262144 ∧ byt s (i + 1) = 128 + c / 4096 % 64 ∧ byt s (i + 2) = 128 + c / 64 % 64 ∧ byt s (i + 3) = 128 + c % 64)

def okN (c : Nat) : Prop := c < 55296 ∨ (57344 ≤ c ∧ c ≤ 1114111)
instance okDec (c : Nat) : Decidable (okN c) := by unfold okN; infer_instance

theorem valid_iff (c : Nat) : Utf8.valid (c : Int) = true ↔ okN c := by
  simp [Utf8.valid, okN]; omega

theorem valid_false {c : Nat} (h : ¬ okN c) : Utf8.valid (c : Int) = false := by
  cases hv : Utf8.valid (c : Int) with
  | false => rfl
  | true => exact absurd ((valid_iff c).1 hv) h

theorem decode_spell (s : ByteArray) (i : Nat) : Utf8.decode s i =
    if byt s i < 128 then (byt s i, 1)
    else if byt s i / 32 = 6 ∧ i + 1 < s.size ∧ byt s (i + 1) / 64 = 2 then
      if 128 ≤ (byt s i % 32) * 64 + byt s (i + 1) % 64 then ((byt s i % 32) * 64 + byt s (i + 1) % 64, 2) else (65533, 1)
    else if byt s i / 16 = 14 ∧ (i + 1 < s.size ∧ byt s (i + 1) / 64 = 2) ∧ (i + 2 < s.size ∧ byt s (i + 2) / 64 = 2) then
      if 2048 ≤ (byt s i % 16) * 4096 + (byt s (i + 1) % 64) * 64 + byt s (i + 2) % 64 ∧ okN ((byt s i % 16) * 4096 + (byt s (i + 1) % 64) * 64 + byt s (i + 2) % 64) then ((byt s i % 16) * 4096 + (byt s (i + 1) % 64) * 64 + byt s (i + 2) % 64, 3) else (65533, 1)
    else if byt s i / 8 = 30 ∧ (i + 1 < s.size ∧ byt s (i + 1) / 64 = 2) ∧ (i + 2 < s.size ∧ byt s (i + 2) / 64 = 2) ∧ (i + 3 < s.size ∧ byt s (i + 3) / 64 = 2) then
      if 65536 ≤ (byt s i % 8) * 262144 + (byt s (i + 1) % 64) * 4096 + (byt s (i + 2) % 64) * 64 + byt s (i + 3) % 64 ∧ okN ((byt s i % 8) * 262144 + (byt s (i + 1) % 64) * 4096 + (byt s (i + 2) % 64) * 64 + byt s (i + 3) % 64) then ((byt s i % 8) * 262144 + (byt s (i + 1) % 64) * 4096 + (byt s (i + 2) % 64) * 64 + byt s (i + 3) % 64, 4) else (65533, 1)
    else (65533, 1) := by
  unfold Utf8.decode byt
  simp only [Nat.add_zero, Bool.and_eq_true, decide_eq_true_eq, beq_iff_eq, valid_iff, and_assoc, Utf8.runeError, ge_iff_le]

/-- WHAT A READING THAT IS NO SUBSTITUTE SAYS. -/
theorem decode_at {s : ByteArray} {i : Nat} (hi : i < s.size) (h : Utf8.decode s i ≠ (65533, 1)) :
    okN (Utf8.decode s i).1 ∧ At s i (Utf8.decode s i).1 ∧ (Utf8.decode s i).2 = len (Utf8.decode s i).1 := by
  have b0 := byt_lt s i; have b1 := byt_lt s (i + 1); have b2 := byt_lt s (i + 2); have b3 := byt_lt s (i + 3)
  rw [decode_spell] at h ⊢
  split at h
  · rename_i h0
    simp only [if_pos h0]
    refine ⟨by unfold okN; omega, by unfold At; omega, by unfold len; rw [if_pos h0]⟩
  · rename_i h0
    simp only [if_neg h0]
    split at h
    · rename_i h1
      simp only [if_pos h1]
      split at h
      · rename_i h2
        simp only [if_pos h2]
        refine ⟨by unfold okN; omega, by unfold At; omega, by unfold len; rw [if_neg (by omega), if_pos (by omega)]⟩
      · exact absurd rfl h
    · rename_i h1
      simp only [if_neg h1]
      split at h
      · rename_i h2
        simp only [if_pos h2]
        split at h
        · rename_i h3
          simp only [if_pos h3]
          refine ⟨h3.2, by unfold At; omega, by unfold len; rw [if_neg (by omega), if_neg (by omega), if_pos (by omega)]⟩
        · exact absurd rfl h
      · rename_i h2
        simp only [if_neg h2]
        split at h
        · rename_i h3
          simp only [if_pos h3]
          split at h
          · rename_i h4
            simp only [if_pos h4]
            refine ⟨h4.2, by unfold At; omega, by unfold len; rw [if_neg (by omega), if_neg (by omega), if_neg (by omega)]⟩
          · exact absurd rfl h
        · exact absurd rfl h

/-- A FORM THAT STANDS SOMEWHERE IS READ AS ITS CHARACTER. -/
theorem decode_of {s : ByteArray} {i c : Nat} (hc : okN c) (h : At s i c) : Utf8.decode s i = (c, len c) := by
  have b0 := byt_lt s i; have b1 := byt_lt s (i + 1); have b2 := byt_lt s (i + 2); have b3 := byt_lt s (i + 3)
  unfold okN at hc
  rw [decode_spell]
  rcases h with ⟨h0, h1, h2⟩ | ⟨h0, h1, h2, h3, h4⟩ | ⟨h0, h1, h2, h3, h4, h5⟩ | ⟨h0, h2, h3, h4, h5, h6⟩
  · rw [if_pos (by omega), h2]; unfold len; rw [if_pos h0]
  · rw [if_neg (by omega), if_pos (by omega), if_pos (by omega)]
    unfold len; rw [if_neg (by omega), if_pos (by omega)]
    congr 1; omega
  · have e : (byt s i % 16) * 4096 + (byt s (i + 1) % 64) * 64 + byt s (i + 2) % 64 = c := by omega
    rw [if_neg (by omega), if_neg (by omega), if_pos (by omega), if_pos (by rw [e]; exact ⟨h0, hc⟩), e]
    unfold len; rw [if_neg (by omega), if_neg (by omega), if_pos (by omega)]
  · have e : (byt s i % 8) * 262144 + (byt s (i + 1) % 64) * 4096 + (byt s (i + 2) % 64) * 64 + byt s (i + 3) % 64 = c := by omega
    rw [if_neg (by omega), if_neg (by omega), if_neg (by omega), if_pos (by omega), if_pos (by rw [e]; exact ⟨h0, hc⟩), e]
    unfold len; rw [if_neg (by omega), if_neg (by omega), if_neg (by omega)]

theorem at_fits {s : ByteArray} {i c : Nat} (h : At s i c) : i + len c ≤ s.size := by
  unfold len
  rcases h with h | h | h | h
  · rw [if_pos h.1]; omega
  · rw [if_neg (by omega), if_pos (by omega)]; omega
  · rw [if_neg (by omega), if_neg (by omega), if_pos (by omega)]; omega
  · rw [if_neg (by omega), if_neg (by omega), if_neg (by omega)]; omega

theorem decode_pos (s : ByteArray) (i : Nat) : 1 ≤ (Utf8.decode s i).2 := by
  rw [decode_spell]; repeat' split
  all_goals simp

/-- Is what is read at a place a character of its own form? -/
def okAt (s : ByteArray) (i : Nat) : Bool := decide (Utf8.decode s i ≠ (65533, 1))

theorem okAt_iff {s : ByteArray} {i : Nat} (hi : i < s.size) : okAt s i = true ↔ ∃ c, okN c ∧ At s i c := by
  unfold okAt
  rw [decide_eq_true_eq]
  constructor
  · intro h; exact ⟨_, (decode_at hi h).1, (decode_at hi h).2.1⟩
  · rintro ⟨c, hc, ha⟩ h
    rw [decode_of hc ha] at h
    have := (Prod.mk.injEq _ _ _ _ ▸ h : c = 65533 ∧ len c = 1)
    obtain ⟨rfl, h2⟩ := this
    exact absurd h2 (by decide)

end Go.Proofs.Ytdpngmhjdafdpaa.Um
