/- Plain mathematics: an edit made less. Nothing of the program is named here. -/
import Derived.Test.YtdpngmhjdafdpaaEdMath
namespace Go.Proofs.Ytdpngmhjdafdpaa.Em

/-- The byte at a place, as a number. -/
def byN (s : ByteArray) (i : Nat) : Nat := (s.get! i).toNat
theorem byN_lt (s : ByteArray) (i : Nat) : byN s i < 256 := (s.get! i).toNat_lt
theorem byN_get (s : ByteArray) (i : Nat) (h : i < s.size) : (s[i]'h).toNat = byN s i := by
  unfold byN
  congr 1
  show _ = s.data[i]!
  rw [getElem!_pos s.data i h]; rfl
theorem bl_get (s : ByteArray) (i : Nat) (h : i < s.size) : (bl s)[i]? = some (s[i]'h) := by
  unfold bl
  rw [Array.getElem?_toList]
  exact Array.getElem?_eq_getElem h
theorem byN_iff {s y : ByteArray} {i j : Nat} (hi : i < s.size) (hj : j < y.size) : byN s i = byN y j ↔ (bl s)[i]? = (bl y)[j]? := by
  rw [bl_get s i hi, bl_get y j hj, ← byN_get s i hi, ← byN_get y j hj]
  constructor
  · intro h; rw [UInt8.toNat_inj.1 h]
  · intro h; rw [Option.some.inj h]

/-- Alike at the beginning. -/
def tr1 (s : List UInt8) (t : Nat) : Nat → List UInt8 → Nat × List UInt8
  | f, [] => (f, [])
  | f, c :: x => if f < t ∧ s[f]? = some c then tr1 s t (f + 1) x else (f, c :: x)
/-- Alike at the end. -/
def tr2 (s : List UInt8) (f : Nat) : Nat → List UInt8 → Nat × List UInt8
  | 0, x => (0, x)
  | t + 1, x => if f < t + 1 ∧ x ≠ [] ∧ s[t]? = x.getLast? then tr2 s f t x.dropLast else (t + 1, x)

theorem tr1_end {s : List UInt8} {t f : Nat} {x : List UInt8} (h : ¬ f < t) : tr1 s t f x = (f, x) := by
  cases x with
  | nil => rfl
  | cons c x => rw [tr1, if_neg (fun g => h g.1)]
theorem tr1_nil {s : List UInt8} {t f : Nat} : tr1 s t f [] = (f, []) := rfl
theorem tr1_no {s : List UInt8} {t f : Nat} {x : List UInt8} (h : ¬ s[f]? = x[0]?) : tr1 s t f x = (f, x) := by
  cases x with
  | nil => rfl
  | cons c x => rw [tr1, if_neg (fun g => h (by simpa using g.2))]
theorem tr1_yes {s : List UInt8} {t f : Nat} {x : List UInt8} (h1 : f < t) (h2 : 0 < x.length) (h3 : s[f]? = x[0]?) : tr1 s t f x = tr1 s t (f + 1) (x.drop 1) := by
  cases x with
  | nil => simp at h2
  | cons c x => rw [tr1, if_pos ⟨h1, by simpa using h3⟩]; rfl

theorem last_at {x : List UInt8} (_ : 0 < x.length) : x.getLast? = x[x.length - 1]? := List.getLast?_eq_getElem?
theorem tr2_end {s : List UInt8} {t f : Nat} {x : List UInt8} (h : ¬ f < t) : tr2 s f t x = (t, x) := by
  cases t with
  | zero => rfl
  | succ t => rw [tr2, if_neg (fun g => h g.1)]
theorem tr2_nil {s : List UInt8} {t f : Nat} : tr2 s f t [] = (t, []) := by
  cases t with
  | zero => rfl
  | succ t => rw [tr2, if_neg (fun g => g.2.1 rfl)]
theorem tr2_no {s : List UInt8} {t f : Nat} {x : List UInt8} (h0 : 0 < x.length) (h : ¬ s[t - 1]? = x[x.length - 1]?) : tr2 s f t x = (t, x) := by
  cases t with
  | zero => rfl
  | succ t => rw [tr2, if_neg (fun g => h (by rw [← last_at h0]; exact g.2.2))]
theorem tr2_yes {s : List UInt8} {t f : Nat} {x : List UInt8} (h1 : f < t) (h2 : 0 < x.length) (h3 : s[t - 1]? = x[x.length - 1]?) : tr2 s f t x = tr2 s f (t - 1) (x.take (x.length - 1)) := by
  cases t with
  | zero => omega
  | succ t =>
    rw [tr2, if_pos ⟨h1, fun e => by rw [e] at h2; simp at h2, by rw [last_at h2]; exact h3⟩, List.dropLast_eq_take]; rfl

/-- An edit made less. -/
def trN (s : List UInt8) (f t : Nat) (x : List UInt8) : Nat × Nat × List UInt8 :=
  let a := tr1 s t f x
  let b := tr2 s a.1 t a.2
  (a.1, b.1, b.2)
def trm (s : ByteArray) (e : Ed) : Ed :=
  let r := trN (bl s) e.f.toNat e.t.toNat (bl e.x)
  ⟨r.1, r.2.1, ⟨r.2.2.toArray⟩⟩

/-- What the first step does: it leaves out what is alike. -/
theorem tr1_spec (s : List UInt8) (t : Nat) : ∀ (x : List UInt8) (f : Nat), f ≤ t → t ≤ s.length →
    f ≤ (tr1 s t f x).1 ∧ (tr1 s t f x).1 ≤ t ∧ x = (s.take (tr1 s t f x).1).drop f ++ (tr1 s t f x).2 ∧
    ((tr1 s t f x).1 < t → (tr1 s t f x).2 ≠ [] → ¬ s[(tr1 s t f x).1]? = (tr1 s t f x).2[0]?)
  | [], f, h, _ => by
    rw [tr1_nil]
    refine ⟨Nat.le_refl _, h, ?_, fun _ h => absurd rfl h⟩
    show [] = _
    rw [List.drop_of_length_le (by rw [List.length_take]; omega)]; rfl
  | c :: x, f, h, ht => by
    by_cases hc : f < t ∧ s[f]? = some c
    · rw [tr1, if_pos hc]
      obtain ⟨a, b, e, g⟩ := tr1_spec s t x (f + 1) hc.1 ht
      refine ⟨by omega, b, ?_, g⟩
      have hlen : f < (s.take (tr1 s t (f + 1) x).1).length := by rw [List.length_take]; omega
      have hg : (s.take (tr1 s t (f + 1) x).1)[f]? = some c := by rw [List.getElem?_take_of_lt (by omega)]; exact hc.2
      rw [List.drop_eq_getElem_cons hlen]
      have : (s.take (tr1 s t (f + 1) x).1)[f] = c := by
        rw [List.getElem?_eq_getElem hlen] at hg; exact Option.some.inj hg
      rw [this, List.cons_append, ← e]
    · rw [tr1, if_neg hc]
      refine ⟨Nat.le_refl _, h, ?_, fun h1 _ h2 => hc ⟨h1, by simpa using h2⟩⟩
      show c :: x = _
      rw [List.drop_of_length_le (by rw [List.length_take]; omega)]; rfl

theorem tr2_spec (s : List UInt8) (f : Nat) : ∀ (t : Nat) (x : List UInt8), f ≤ t → t ≤ s.length →
    f ≤ (tr2 s f t x).1 ∧ (tr2 s f t x).1 ≤ t ∧ x = (tr2 s f t x).2 ++ (s.take t).drop (tr2 s f t x).1 ∧
    (f < (tr2 s f t x).1 → (tr2 s f t x).2 ≠ [] → ¬ s[(tr2 s f t x).1 - 1]? = (tr2 s f t x).2[(tr2 s f t x).2.length - 1]?) ∧
    ((tr2 s f t x).2 ≠ [] → (tr2 s f t x).2[0]? = x[0]?)
  | 0, x, h, _ => by
    rw [tr2]
    refine ⟨h, Nat.le_refl _, by simp, fun h1 => ?_, fun _ => rfl⟩
    change f < 0 at h1; omega
  | t + 1, x, h, ht => by
    by_cases hc : f < t + 1 ∧ x ≠ [] ∧ s[t]? = x.getLast?
    · rw [tr2, if_pos hc]
      obtain ⟨a, b, e, g, z⟩ := tr2_spec s f t x.dropLast (by omega) (by omega)
      refine ⟨a, by omega, ?_, g, fun hne => ?_⟩
      · have ht' : t < s.length := by omega
        have e1 : (s.take (t + 1)).drop (tr2 s f t x.dropLast).1 = (s.take t).drop (tr2 s f t x.dropLast).1 ++ [s[t]] := by
          rw [List.take_succ_eq_append_getElem ht', List.drop_append_of_le_length (by rw [List.length_take]; omega)]
        rw [e1, ← List.append_assoc, ← e]
        have h3 : x.getLast hc.2.1 = s[t] := by
          have h4 := List.getLast?_eq_some_getLast hc.2.1
          have h5 := List.getElem?_eq_getElem ht'
          exact Option.some.inj (h4.symm.trans (hc.2.2.symm.trans h5))
        rw [← h3]
        exact (List.dropLast_concat_getLast hc.2.1).symm
      · rw [z hne]
        have hl : 0 < x.dropLast.length := by
          rcases Nat.eq_zero_or_pos x.dropLast.length with h0 | h0
          · exfalso
            have h1 : x.dropLast = [] := List.eq_nil_of_length_eq_zero h0
            rw [h1] at hne e
            have := List.append_eq_nil_iff.1 e.symm
            exact hne this.1
          · exact h0
        rw [List.dropLast_eq_take, List.getElem?_take_of_lt (by rw [List.length_dropLast] at hl; omega)]
    · rw [tr2, if_neg hc]
      refine ⟨h, Nat.le_refl _, ?_, fun h1 h2 h3 => hc ⟨h1, h2, ?_⟩, fun _ => rfl⟩
      · show x = x ++ _
        rw [List.drop_of_length_le (by rw [List.length_take]; omega), List.append_nil]
      · have hp : 0 < x.length := List.length_pos_iff.2 h2
        rw [last_at hp]; exact h3

/-- An edit made less: where it lies, and that it makes the same text. -/
theorem trN_spec (s : List UInt8) (f t : Nat) (x : List UInt8) (h : f ≤ t) (ht : t ≤ s.length) :
    f ≤ (trN s f t x).1 ∧ (trN s f t x).1 ≤ (trN s f t x).2.1 ∧ (trN s f t x).2.1 ≤ t ∧
    x = (s.take (trN s f t x).1).drop f ++ ((trN s f t x).2.2 ++ (s.take t).drop (trN s f t x).2.1) ∧
    trN s (trN s f t x).1 (trN s f t x).2.1 (trN s f t x).2.2 = trN s f t x := by
  obtain ⟨a1, a2, a3, a4⟩ := tr1_spec s t x f h ht
  obtain ⟨b1, b2, b3, b4, b5⟩ := tr2_spec s (tr1 s t f x).1 t (tr1 s t f x).2 a2 ht
  refine ⟨a1, b1, b2, a3.trans (congrArg _ b3), ?_⟩
  show trN s (tr1 s t f x).1 (tr2 s (tr1 s t f x).1 t (tr1 s t f x).2).1 (tr2 s (tr1 s t f x).1 t (tr1 s t f x).2).2 = ((tr1 s t f x).1, (tr2 s (tr1 s t f x).1 t (tr1 s t f x).2).1, (tr2 s (tr1 s t f x).1 t (tr1 s t f x).2).2)
  generalize tr1 s t f x = A at *
  obtain ⟨f1, x1⟩ := A
  dsimp only at *
  generalize tr2 s f1 t x1 = B at *
  obtain ⟨t1, x2⟩ := B
  dsimp only at *
  have c1 : tr1 s t1 f1 x2 = (f1, x2) := by
    by_cases hlt : f1 < t1
    · by_cases hn : x2 = []
      · rw [hn]; rfl
      · refine tr1_no ?_
        rw [b5 hn]
        refine a4 (by omega) (fun e => ?_)
        rw [e] at b3
        exact hn (List.append_eq_nil_iff.1 b3.symm).1
    · exact tr1_end hlt
  have c2 : tr2 s f1 t1 x2 = (t1, x2) := by
    by_cases hlt : f1 < t1
    · by_cases hn : x2 = []
      · rw [hn]; exact tr2_nil
      · exact tr2_no (List.length_pos_iff.2 hn) (b4 hlt hn)
    · exact tr2_end hlt
  unfold trN
  rw [c1]
  dsimp only
  rw [c2]
end Go.Proofs.Ytdpngmhjdafdpaa.Em
