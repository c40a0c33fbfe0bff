/- A text read form behind form: its characters, and the first place at which none begins. Nothing of the program is named here. -/
import Derived.Test.YtdpngmhjdafdpaaRefMath
namespace Go.Proofs.Ytdpngmhjdafdpaa.Um

/-- How many bytes are taken at a place. -/
def wid (s : ByteArray) (p : Nat) : Nat := (Utf8.decode s p).2
def chr (s : ByteArray) (p : Nat) : Nat := (Utf8.decode s p).1

/-- The characters from a place on, up to the first that is none (with fuel). -/
def chs (s : ByteArray) : Nat → Nat → List Nat
  | 0, _ => []
  | f + 1, p => if p < s.size then if okAt s p = true then chr s p :: chs s f (p + wid s p) else [] else []

/-- The first place at which none begins. -/
def badP (s : ByteArray) : Nat → Nat → Option Nat
  | 0, _ => none
  | f + 1, p => if p < s.size then if okAt s p = true then badP s f (p + wid s p) else some p else none

theorem wid_pos (s : ByteArray) (p : Nat) : 1 ≤ wid s p := decode_pos s p

theorem chs_step {s : ByteArray} {f p : Nat} (h : p < s.size) (hk : okAt s p = true) : chs s (f + 1) p = chr s p :: chs s f (p + wid s p) := by
  simp only [chs, if_pos h, if_pos hk]
theorem chs_bad {s : ByteArray} {f p : Nat} (hk : okAt s p = false) : chs s (f + 1) p = [] := by
  simp [chs, hk]
theorem chs_end {s : ByteArray} {f p : Nat} (h : ¬ p < s.size) : chs s f p = [] := by
  cases f with
  | zero => rfl
  | succ f => simp only [chs, if_neg h]
theorem badP_step {s : ByteArray} {f p : Nat} (h : p < s.size) (hk : okAt s p = true) : badP s (f + 1) p = badP s f (p + wid s p) := by
  simp only [badP, if_pos h, if_pos hk]
theorem badP_bad {s : ByteArray} {f p : Nat} (h : p < s.size) (hk : okAt s p = false) : badP s (f + 1) p = some p := by
  simp [badP, hk, h]
theorem badP_end {s : ByteArray} {f p : Nat} (h : ¬ p < s.size) : badP s f p = none := by
  cases f with
  | zero => rfl
  | succ f => simp only [badP, if_neg h]

/-- What Bad answers. -/
def badI (s : ByteArray) : Int := match badP s s.size 0 with | some p => (p : Int) | none => -1
/-- The characters of a text that is not bad. -/
def allC (s : ByteArray) : List Nat := if badP s s.size 0 = none then chs s s.size 0 else []
def allB (s : ByteArray) : Bool := decide (badP s s.size 0 = none)

theorem chs_length (s : ByteArray) : ∀ f p, p ≤ s.size → (chs s f p).length ≤ s.size - p
  | 0, p, _ => by simp [chs]
  | f + 1, p, hp => by
    by_cases h : p < s.size
    · cases hk : okAt s p with
      | false => rw [chs_bad hk]; simp
      | true =>
        rw [chs_step h hk, List.length_cons]
        have ho : Utf8.decode s p ≠ (65533, 1) := by unfold okAt at hk; exact of_decide_eq_true hk
        obtain ⟨_, b, d⟩ := decode_at h ho
        have hf := at_fits b
        have hw := wid_pos s p
        have hle : p + wid s p ≤ s.size := by unfold wid; rw [d]; exact hf
        have := chs_length s f (p + wid s p) hle
        omega
    · rw [chs_end h]; simp

theorem allC_length (s : ByteArray) : (allC s).length ≤ s.size := by
  unfold allC
  split
  · have := chs_length s s.size 0 (by omega); omega
  · simp

theorem ok_fits {s : ByteArray} {p : Nat} (h : p < s.size) (hk : okAt s p = true) : p + wid s p ≤ s.size := by
  have ho : Utf8.decode s p ≠ (65533, 1) := by unfold okAt at hk; exact of_decide_eq_true hk
  obtain ⟨_, b, d⟩ := decode_at h ho
  have hf := at_fits b
  unfold wid; rw [d]; exact hf

end Go.Proofs.Ytdpngmhjdafdpaa.Um
