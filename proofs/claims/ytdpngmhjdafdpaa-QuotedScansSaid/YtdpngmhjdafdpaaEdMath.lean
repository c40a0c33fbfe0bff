/- Plain mathematics of edits: texts as lists of bytes, which edits may stand, the edited text, what undoes edits. Nothing of the program is named here. -/
import Derived.WalkKit
import Derived.Lib.Hide
namespace Go.Proofs.Ytdpngmhjdafdpaa.Em

/-- A text's bytes. -/
def bl (s : ByteArray) : List UInt8 := s.data.toList

theorem bl_size (s : ByteArray) : (bl s).length = s.size := by unfold bl; rw [Array.length_toList]; rfl
theorem bl_append (a b : ByteArray) : bl (a ++ b) = bl a ++ bl b := by unfold bl; rw [ByteArray.data_append, Array.toList_append]
theorem bl_extract (s : ByteArray) (a b : Nat) : bl (s.extract a b) = ((bl s).take b).drop a := by
  unfold bl
  rw [ByteArray.data_extract, Array.toList_extract, List.extract_eq_take_drop, List.drop_take]
theorem bl_inj {a b : ByteArray} (h : bl a = bl b) : a = b := by
  cases a; cases b
  unfold bl at h
  congr
  exact Array.toList_inj.1 h
theorem bl_empty : bl ByteArray.empty = [] := rfl

/-- An edit. -/
structure Ed where
  f : Int
  t : Int
  x : ByteArray

theorem Ed.ext' {a b : Ed} (h1 : a.f = b.f) (h2 : a.t = b.t) (h3 : a.x = b.x) : a = b := by cases a; cases b; simp_all

/-- Edits that may stand in n bytes, none ahead of p. -/
def sd (n : Int) : Int → List Ed → Bool
  | _, [] => true
  | p, e :: l => decide (p ≤ e.f) && (decide (e.f ≤ e.t) && (decide (e.t ≤ n) && sd n e.t l))

theorem sd_cons {n p : Int} {e : Ed} {l : List Ed} : sd n p (e :: l) = true ↔ p ≤ e.f ∧ e.f ≤ e.t ∧ e.t ≤ n ∧ sd n e.t l = true := by
  simp [sd]

theorem sd_step {n p : Int} {e : Ed} {l : List Ed} (h1 : p ≤ e.f) (h2 : e.f ≤ e.t) (h3 : e.t ≤ n) : sd n p (e :: l) = sd n e.t l := by
  simp [sd, h1, h2, h3]
theorem sd_no {n p : Int} {e : Ed} {l : List Ed} (h : e.f < p ∨ e.t < e.f ∨ n < e.t) : sd n p (e :: l) = false := by
  cases hv : sd n p (e :: l) with
  | false => rfl
  | true => have := sd_cons.1 hv; omega

/-- By how much an edit makes the text longer. -/
def gr (e : Ed) : Int := (e.x.size : Int) - (e.t - e.f)
def gn : List Ed → Int
  | [] => 0
  | e :: l => gr e + gn l

/-- All that is put, all that is taken. -/
def put : List Ed → Nat
  | [] => 0
  | e :: l => e.x.size + put l
def took : List Ed → Int
  | [] => 0
  | e :: l => (e.t - e.f) + took l
theorem gn_eq : ∀ l, gn l = (put l : Int) - took l
  | [] => rfl
  | e :: l => by simp only [gn, put, took, gn_eq l, gr]; push_cast; omega
theorem took_le {n : Int} : ∀ {l : List Ed} {p : Int}, sd n p l = true → p ≤ n → 0 ≤ took l ∧ took l ≤ n - p
  | [], p, _, hp => by simp [took]; omega
  | e :: l, p, h, _ => by
    obtain ⟨h1, h2, h3, h4⟩ := sd_cons.1 h
    have := took_le h4 h3
    simp only [took]; omega

/-- The edited text, from a place of the text on. -/
def ed (s : List UInt8) : Nat → List Ed → List UInt8
  | p, [] => s.drop p
  | p, e :: l => (s.take e.f.toNat).drop p ++ (bl e.x ++ ed s e.t.toNat l)

theorem ed_length {s : List UInt8} : ∀ {l : List Ed} {p : Nat}, sd s.length p l = true → p ≤ s.length → ((ed s p l).length : Int) = s.length - p + gn l
  | [], p, _, hp => by simp [ed, gn]; omega
  | e :: l, p, h, hp => by
    obtain ⟨h1, h2, h3, h4⟩ := sd_cons.1 h
    have e1 : ((e.t.toNat : Nat) : Int) = e.t := by omega
    have ih := ed_length (s := s) (l := l) (p := e.t.toNat) (by rw [e1]; exact h4) (by omega)
    simp only [ed, gn, gr, List.length_append, List.length_drop, List.length_take, bl_size]
    omega

theorem sd_mono {n p q : Int} : ∀ {l : List Ed}, sd n p l = true → q ≤ p → sd n q l = true
  | [], _, _ => rfl
  | e :: l, h, hq => by obtain ⟨h1, h2, h3, h4⟩ := sd_cons.1 h; exact sd_cons.2 ⟨by omega, h2, h3, h4⟩

/-- What undoes edits: m is by how much what lies ahead has been moved. -/
def un (s : List UInt8) : Int → List Ed → List Ed
  | _, [] => []
  | m, e :: l => ⟨e.f + m, e.f + m + e.x.size, ⟨((s.take e.t.toNat).drop e.f.toNat).toArray⟩⟩ :: un s (m + gr e) l

theorem un_length (s : List UInt8) : ∀ (m : Int) (l : List Ed), (un s m l).length = l.length
  | _, [] => rfl
  | m, e :: l => by simp [un, un_length]

theorem bl_of (l : List UInt8) : bl ⟨l.toArray⟩ = l := by simp [bl]
theorem size_of (l : List UInt8) : (⟨l.toArray⟩ : ByteArray).size = l.length := by rw [← bl_size, bl_of]

theorem take_drop_split (s : List UInt8) {p f : Nat} (h : p ≤ f) : s.take f = s.take p ++ (s.take f).drop p := by
  have := List.take_append_drop p (s.take f)
  rw [List.take_take, Nat.min_eq_left h] at this
  exact this.symm

theorem drop_split (s : List UInt8) {p f : Nat} (h : p ≤ f) : s.drop p = (s.take f).drop p ++ s.drop f := by
  have h1 := List.take_append_drop f s
  have h2 : s.drop p = (s.take f ++ s.drop f).drop p := by rw [h1]
  by_cases hf : f ≤ s.length
  · rw [h2, List.drop_append_of_le_length (by rw [List.length_take]; omega)]
  · have e1 : s.take f = s := List.take_of_length_le (by omega)
    have e2 : s.drop f = [] := List.drop_of_length_le (by omega)
    rw [e1, e2, List.append_nil]

/-- What undoes edits may stand, and makes the text of the edited text; the pieces that it takes and puts. -/
theorem un_undoes (s : List UInt8) : ∀ (l : List Ed) (p : Nat) (pre : List UInt8), sd s.length p l = true → p ≤ s.length →
    sd ((pre ++ ed s p l).length : Int) (pre.length : Int) (un s ((pre.length : Int) - p) l) = true ∧
    ed (pre ++ ed s p l) pre.length (un s ((pre.length : Int) - p) l) = s.drop p
  | [], p, pre, _, hp => by
    refine ⟨rfl, ?_⟩
    simp only [un, ed]
    rw [List.drop_left']
    rfl
  | e :: l, p, pre, h, hp => by
    obtain ⟨h1, h2, h3, h4⟩ := sd_cons.1 h
    obtain ⟨f, hf⟩ : ∃ f : Nat, e.f = f := ⟨e.f.toNat, by omega⟩
    obtain ⟨t, ht⟩ : ∃ t : Nat, e.t = t := ⟨e.t.toNat, by omega⟩
    have hft : f ≤ t := by omega
    have hpf : p ≤ f := by omega
    have htl : t ≤ s.length := by omega
    have e1 : ed s p (e :: l) = (s.take f).drop p ++ (bl e.x ++ ed s t l) := by simp only [ed, hf, ht, Int.toNat_natCast]
    have lm : ((s.take f).drop p).length = f - p := by rw [List.length_drop, List.length_take]; omega
    obtain ⟨i1, i2⟩ := un_undoes s l t (pre ++ (s.take f).drop p ++ bl e.x) (by rw [← ht]; exact h4) htl
    have el : ((pre ++ (s.take f).drop p ++ bl e.x).length : Int) = pre.length + (f - p : Nat) + e.x.size := by
      rw [List.length_append, List.length_append, lm, bl_size]; push_cast; omega
    have em : ((pre ++ (s.take f).drop p ++ bl e.x).length : Int) - (t : Int) = (pre.length : Int) - p + gr e := by
      rw [el]; unfold gr; rw [hf, ht]; omega
    have eT : pre ++ ed s p (e :: l) = pre ++ (s.take f).drop p ++ bl e.x ++ ed s t l := by rw [e1]; simp only [List.append_assoc]
    rw [em] at i1 i2
    rw [eT]
    have ef : (f : Int) + ((pre.length : Int) - p) = ((pre.length + (f - p) : Nat) : Int) := by omega
    have et : (f : Int) + ((pre.length : Int) - p) + (e.x.size : Int) = ((pre.length + (f - p) + e.x.size : Nat) : Int) := by omega
    have lT : (pre ++ (s.take f).drop p ++ bl e.x ++ ed s t l).length = pre.length + (f - p) + e.x.size + (ed s t l).length := by
      simp only [List.length_append, lm, bl_size]
    have el' : (pre ++ (s.take f).drop p ++ bl e.x).length = pre.length + (f - p) + e.x.size := by
      simp only [List.length_append, lm, bl_size]
    constructor
    · rw [un, sd_cons]
      refine ⟨?_, ?_, ?_, ?_⟩
      · show (pre.length : Int) ≤ e.f + _; omega
      · show e.f + _ ≤ e.f + _ + _; omega
      · show e.f + _ + _ ≤ _; rw [hf, et, lT]; omega
      · show sd _ (e.f + _ + _) _ = true
        rw [hf, et, ← el']; exact i1
    · rw [un]
      simp only [ed]
      rw [hf, ef, Int.toNat_natCast]
      rw [show ((pre.length + (f - p) : Nat) : Int) + (e.x.size : Int) = ((pre.length + (f - p) + e.x.size : Nat) : Int) by omega, Int.toNat_natCast, ← el', Int.toNat_natCast, i2]
      have p1 : ((pre ++ (s.take f).drop p ++ bl e.x ++ ed s t l).take (pre.length + (f - p))).drop pre.length = (s.take f).drop p := by
        have a1 : pre ++ (s.take f).drop p ++ bl e.x ++ ed s t l = (pre ++ (s.take f).drop p) ++ (bl e.x ++ ed s t l) := by simp only [List.append_assoc]
        rw [a1, List.take_left' (by rw [List.length_append, lm]), List.drop_left' rfl]
      rw [p1, ht, Int.toNat_natCast, bl_of (List.drop f (List.take t s)), drop_split s hpf, drop_split s hft]

/-- What undoes what undoes edits: the edits. -/
theorem un_twice (s : List UInt8) : ∀ (l : List Ed) (p : Nat) (pre : List UInt8), sd s.length p l = true → p ≤ s.length →
    un (pre ++ ed s p l) ((p : Int) - pre.length) (un s ((pre.length : Int) - p) l) = l
  | [], _, _, _, _ => rfl
  | e :: l, p, pre, h, hp => by
    obtain ⟨h1, h2, h3, h4⟩ := sd_cons.1 h
    obtain ⟨f, hf⟩ : ∃ f : Nat, e.f = f := ⟨e.f.toNat, by omega⟩
    obtain ⟨t, ht⟩ : ∃ t : Nat, e.t = t := ⟨e.t.toNat, by omega⟩
    have hft : f ≤ t := by omega
    have hpf : p ≤ f := by omega
    have htl : t ≤ s.length := by omega
    have e1 : ed s p (e :: l) = (s.take f).drop p ++ (bl e.x ++ ed s t l) := by simp only [ed, hf, ht, Int.toNat_natCast]
    have lm : ((s.take f).drop p).length = f - p := by rw [List.length_drop, List.length_take]; omega
    have ih := un_twice s l t (pre ++ (s.take f).drop p ++ bl e.x) (by rw [← ht]; exact h4) htl
    have el : ((pre ++ (s.take f).drop p ++ bl e.x).length : Int) = pre.length + (f - p : Nat) + e.x.size := by
      rw [List.length_append, List.length_append, lm, bl_size]; push_cast; omega
    have eT : pre ++ ed s p (e :: l) = pre ++ (s.take f).drop p ++ bl e.x ++ ed s t l := by rw [e1]; simp only [List.append_assoc]
    have em : ((pre ++ (s.take f).drop p ++ bl e.x).length : Int) - (t : Int) = (pre.length : Int) - p + gr e := by
      rw [el]; unfold gr; rw [hf, ht]; omega
    have sz : ((s.take t).drop f).length = t - f := by rw [List.length_drop, List.length_take]; omega
    have em2 : (t : Int) - ((pre ++ (s.take f).drop p ++ bl e.x).length : Int) = (p : Int) - pre.length + gr ⟨e.f + ((pre.length : Int) - p), e.f + ((pre.length : Int) - p) + e.x.size, ⟨((s.take e.t.toNat).drop e.f.toNat).toArray⟩⟩ := by
      rw [el]
      unfold gr
      simp only [size_of]
      rw [hf, ht, Int.toNat_natCast, Int.toNat_natCast, sz]
      omega
    have ef : (f : Int) + ((pre.length : Int) - p) = ((pre.length + (f - p) : Nat) : Int) := by omega
    rw [eT, un, un, ← em, ← em2, ih]
    congr 1
    apply Ed.ext'
    · show e.f + _ + _ = e.f; omega
    · show e.f + _ + _ + _ = e.t
      rw [size_of, hf, ht, Int.toNat_natCast, Int.toNat_natCast, sz]; omega
    · show (⟨_⟩ : ByteArray) = e.x
      apply bl_inj
      rw [bl_of]
      have a1 : pre ++ (s.take f).drop p ++ bl e.x ++ ed s t l = (pre ++ (s.take f).drop p ++ bl e.x) ++ ed s t l := by simp only [List.append_assoc]
      show ((_ : List UInt8).take (e.f + _ + _).toNat).drop (e.f + _).toNat = _
      rw [hf, ef, Int.toNat_natCast, show ((pre.length + (f - p) : Nat) : Int) + (e.x.size : Int) = ((pre.length + (f - p) + e.x.size : Nat) : Int) by omega, Int.toNat_natCast]
      rw [List.take_left' (by simp only [List.length_append, lm, bl_size])]
      rw [List.drop_left' (by simp only [List.length_append, lm])]
end Go.Proofs.Ytdpngmhjdafdpaa.Em
