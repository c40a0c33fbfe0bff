/- Tables of ranges: the first whose end is not passed, against any one that holds the number. Nothing of the program is named here. -/
import Derived.WalkKit
namespace Go.Proofs.Ytdpngmhjdafdpaa.Cm

def withinB : List (Int × Int) → Int → Bool
  | [], _ => false
  | (a, b) :: t, r => if r ≤ b then decide (a ≤ r) else withinB t r
def inB : List (Int × Int) → Int → Bool
  | [], _ => false
  | (a, b) :: t, r => if a ≤ r ∧ r ≤ b then true else inB t r
/-- Each range begins behind the end of the one before it. -/
def rising : Int → List (Int × Int) → Bool
  | _, [] => true
  | lo, (a, b) :: t => decide (lo < a) && decide (a ≤ b) && rising b t

theorem below_all : ∀ {l : List (Int × Int)} {lo r : Int}, rising lo l = true → r ≤ lo → inB l r = false
  | [], _, _, _, _ => rfl
  | (a, b) :: t, lo, r, h, hr => by
    simp only [rising, Bool.and_eq_true, decide_eq_true_eq] at h
    rw [inB, if_neg (by omega)]
    exact below_all h.2 (by omega)

theorem within_in : ∀ {l : List (Int × Int)} {lo : Int} (r : Int), rising lo l = true → withinB l r = inB l r
  | [], _, _, _ => rfl
  | (a, b) :: t, lo, r, h => by
    simp only [rising, Bool.and_eq_true, decide_eq_true_eq] at h
    rw [withinB, inB]
    by_cases hb : r ≤ b
    · rw [if_pos hb]
      by_cases ha : a ≤ r
      · rw [if_pos ⟨ha, hb⟩, decide_eq_true ha]
      · rw [if_neg (by omega), decide_eq_false ha, below_all h.2 hb]
    · rw [if_neg hb, if_neg (by omega)]
      exact within_in r h.2

/-- The document's ranges. -/
def letters : List (Int × Int) := [(65, 90), (95, 95), (97, 122), (170, 170), (181, 181), (186, 186), (192, 214), (216, 246), (248, 705), (880, 883), (886, 887), (891, 893), (902, 902), (904, 906), (908, 908), (910, 929), (931, 1013), (1024, 1153), (1162, 1327), (1329, 1366), (1377, 1415), (1488, 1514), (1568, 1610), (2308, 2361), (3585, 3632), (4256, 4293), (7680, 7957), (12353, 12438), (12449, 12538), (19968, 40959), (44032, 55203), (66560, 66639), (131072, 173791)]
def digits : List (Int × Int) := [(48, 57), (1632, 1641), (2406, 2415), (3664, 3673), (65296, 65305)]
def blanks : List (Int × Int) := [(9, 10), (13, 13), (32, 32)]

theorem letters_rise : rising 0 letters = true := by decide
theorem digits_rise : rising 0 digits = true := by decide
theorem blanks_rise : rising 0 blanks = true := by decide

theorem letter_eq (r : Int) : withinB letters r = inB letters r := within_in r letters_rise
theorem digit_eq (r : Int) : withinB digits r = inB digits r := within_in r digits_rise
theorem blank_eq (r : Int) : withinB blanks r = inB blanks r := within_in r blanks_rise

theorem blank_iff (r : Int) : inB blanks r = decide (r = 9 ∨ r = 10 ∨ r = 13 ∨ r = 32) := by
  rw [Bool.eq_iff_iff, decide_eq_true_eq]
  simp only [blanks, inB]
  by_cases h1 : 9 ≤ r ∧ r ≤ 10
  · rw [if_pos h1]; simp; omega
  · rw [if_neg h1]
    by_cases h2 : 13 ≤ r ∧ r ≤ 13
    · rw [if_pos h2]; simp; omega
    · rw [if_neg h2]
      by_cases h3 : 32 ≤ r ∧ r ≤ 32
      · rw [if_pos h3]; simp; omega
      · rw [if_neg h3]; simp; omega

/-- What a number says as a digit of base 16. -/
def base (r : Int) : Int := if 48 ≤ r ∧ r ≤ 57 then r - 48 else if 65 ≤ r ∧ r ≤ 70 then r - 65 + 10 else if 97 ≤ r ∧ r ≤ 102 then r - 97 + 10 else -1

/-- A table's ranges, cell by cell. -/
def flat (k : IntKind) : List (Int × Int) → List Value
  | [] => []
  | (a, b) :: t => .int k a :: .int k b :: flat k t
def lo (l : List (Int × Int)) (i : Nat) : Int := (l.getD i (0, 0)).1
def hi (l : List (Int × Int)) (i : Nat) : Int := (l.getD i (0, 0)).2

theorem flat_at (k : IntKind) : ∀ {l : List (Int × Int)} {i : Nat}, i < l.length → (flat k l)[2 * i]? = some (.int k (lo l i)) ∧ (flat k l)[2 * i + 1]? = some (.int k (hi l i))
  | (a, b) :: t, 0, _ => ⟨rfl, rfl⟩
  | (a, b) :: t, i + 1, h => by
    have := flat_at k (l := t) (i := i) (by simpa using h)
    have e1 : 2 * (i + 1) = 2 * i + 1 + 1 := by omega
    rw [e1]
    simp only [flat, List.getElem?_cons_succ]
    exact this

theorem drop_at {l : List (Int × Int)} {i : Nat} (h : i < l.length) : l.drop i = (lo l i, hi l i) :: l.drop (i + 1) := by
  rw [List.drop_eq_getElem_cons h]
  have e : l.getD i (0, 0) = l[i] := by simp [h]
  unfold lo hi
  rw [e]

/-- The table lies in a row. -/
def Tab (w : World) (k : IntKind) (g : Nat) (l : List (Int × Int)) : Prop := g < w.heap.size ∧ ∀ i, i < l.length → w.cell? ⟨g, i * 2, none⟩ = some (.int k (lo l i)) ∧ w.cell? ⟨g, i * 2 + 1, none⟩ = some (.int k (hi l i))

theorem tab_of {w : World} {k : IntKind} {g : Nat} {l : List (Int × Int)} {t : TypeId} {fz : Nat × Nat} (h : w.heap[g]? = some (.cells (flat k l).toArray t fz)) : Tab w k g l := by
  refine ⟨(Array.getElem?_eq_some_iff.1 h).1, fun i hi => ?_⟩
  have := flat_at k hi
  rw [Nat.mul_comm 2 i] at this
  rw [cell_of_row w g _ _ _ _ h, cell_of_row w g _ _ _ _ h]
  simpa using this

end Go.Proofs.Ytdpngmhjdafdpaa.Cm
