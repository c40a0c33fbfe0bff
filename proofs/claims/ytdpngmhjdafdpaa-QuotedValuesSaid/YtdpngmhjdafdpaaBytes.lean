/- Pieces of a text, byte by byte; the substitute's own form. Nothing of the program is named here. -/
import Derived.Test.YtdpngmhjdafdpaaMath
import Derived.Lib.Strings
namespace Go.Proofs.Ytdpngmhjdafdpaa.Um

/-- A piece, byte by byte. -/
theorem piece (s : ByteArray) (i n : Nat) (h : i + n ≤ s.size) : (s.extract i (i + n)).data.toList = (List.range n).map fun j => s.get! (i + j) := by
  have hl : s.data.size = s.size := rfl
  rw [Lib.extract_data, Nat.add_sub_cancel_left]
  apply List.ext_getElem
  · simp; omega
  · intro j h1 h2
    simp only [List.length_map, List.length_range] at h2
    rw [List.getElem_take, List.getElem_drop, List.getElem_map, List.getElem_range]
    have e : s.get! (i + j) = s[i + j]'(by omega) := by
      show s.data[i + j]! = _
      rw [getElem!_pos s.data (i + j) (by omega)]; rfl
    rw [e]
    simp
    rfl

theorem byt_eq (s : ByteArray) (i : Nat) (b : UInt8) : s.get! i = b ↔ byt s i = b.toNat := by
  unfold byt; exact ⟨fun h => by rw [h], fun h => UInt8.toNat.inj h⟩

instance atDec (s : ByteArray) (i c : Nat) : Decidable (At s i c) := by unfold At; infer_instance

theorem sub_at (s : ByteArray) (i : Nat) (h : i + 3 ≤ s.size) : ((s.extract i (i + 3)).toList == [239, 191, 189]) = decide (At s i 65533) := by
  have e : (s.extract i (i + 3)).toList = (s.extract i (i + 3)).data.toList := by rw [Lib.extract_toList, Lib.extract_data]
  rw [e, piece s i 3 h, Bool.eq_iff_iff, beq_iff_eq, decide_eq_true_eq]
  simp only [List.range_succ, List.range_zero, List.nil_append, List.cons_append, List.map_cons, List.map_nil, List.cons.injEq, and_true, Nat.add_zero, byt_eq]
  unfold At
  simp
  omega

/-- WHAT runes.begins ASKS. -/
theorem ok_of_other {s : ByteArray} {i : Nat} (h : (Utf8.decode s i).1 ≠ 65533) : okAt s i = true := by
  unfold okAt
  rw [decide_eq_true_eq]
  intro e; rw [e] at h; exact h rfl

theorem ok_of_sub {s : ByteArray} {i : Nat} (hi : i < s.size) (h : (Utf8.decode s i).1 = 65533) : okAt s i = true ↔ At s i 65533 := by
  constructor
  · intro k
    unfold okAt at k
    rw [decide_eq_true_eq] at k
    have := (decode_at hi k).2.1
    rwa [h] at this
  · intro k
    exact (okAt_iff hi).2 ⟨65533, by unfold okN; omega, k⟩

theorem okAt_tail (s : ByteArray) (n : Nat) : okAt (s.extract n s.size) 0 = okAt s n := by
  unfold okAt
  rw [Lib.tail_decode]
  rfl

end Go.Proofs.Ytdpngmhjdafdpaa.Um
