/- Where places come to: the mathematics of the law SpanKeeps. -/
import Derived.Test.YtckioinjgdjohaaEdUndoMath
namespace Go.Proofs.Ytckioinjgdjohaa
open Go.RowKit Em

/-- Where a place comes to. -/
def mvZ (p : Int) : Int → List Ed → Option Int
  | a, [] => some a
  | a, e :: l => if e.f ≤ p ∧ p < e.t then none else if e.t ≤ p then mvZ p (a + gr e) l else mvZ p a l

theorem mvZ_gone {p a : Int} {e : Ed} {l : List Ed} (h1 : e.f ≤ p) (h2 : p < e.t) : mvZ p a (e :: l) = none := by simp [mvZ, h1, h2]
theorem mvZ_ahead {p a : Int} {e : Ed} {l : List Ed} (h1 : e.t ≤ p) : mvZ p a (e :: l) = mvZ p (a + gr e) l := by
  rw [mvZ, if_neg (by omega), if_pos h1]
theorem mvZ_behind {p a : Int} {e : Ed} {l : List Ed} (h1 : ¬ e.f ≤ p) (h2 : ¬ e.t ≤ p) : mvZ p a (e :: l) = mvZ p a l := by
  rw [mvZ, if_neg (by omega), if_neg h2]

theorem mvW_mvZ {n : Int} (hn : n ≤ 65536) (p : Int) : ∀ (L : List Ed) (a q : Int), sd n q L = true → 0 ≤ q → q ≤ n → a + (put L : Int) ≤ 2305843009213693952 → -2305843009213693952 ≤ a - (n - q) → mvW p a L = mvZ p a L
  | [], _, _, _, _, _, _, _ => rfl
  | e :: l, a, q, h, h0, hq, h1, h2 => by
    obtain ⟨g1, g2, g3, g4⟩ := sd_cons.1 h
    have e1 : (put (e :: l) : Int) = (e.x.size : Int) + (put l : Int) := by simp [put]
    have w3 : wrap64 (a + gr e) = a + gr e := by unfold gr; unfold wrap64; omega
    have i1 := mvW_mvZ hn p l (a + gr e) e.t g4 (by omega) g3 (by unfold gr; omega) (by unfold gr; omega)
    have i2 := mvW_mvZ hn p l a e.t g4 (by omega) g3 (by omega) (by omega)
    rw [mvW, mvZ, w3, i1, i2]

/-- All edits lie behind the place. -/
theorem mvZ_none {n p a : Int} : ∀ {L : List Ed} {q : Int}, sd n q L = true → p < q → mvZ p a L = some a
  | [], _, _, _ => rfl
  | e :: l, q, h, hp => by
    obtain ⟨g1, g2, g3, g4⟩ := sd_cons.1 h
    rw [mvZ_behind (by omega) (by omega)]
    exact mvZ_none g4 (by omega)

theorem ed_cons (s : List UInt8) (p f t : Nat) (x : ByteArray) (l : List Ed) : ed s p (⟨f, t, x⟩ :: l) = (s.take f).drop p ++ (bl x ++ ed s t l) := rfl

/-- A byte that is left is the same where it comes to. -/
theorem mv_byte (s : List UInt8) : ∀ (L : List Ed) (q : Nat) (pre : List UInt8) (p : Nat) (r : Int), sd s.length q L = true → q ≤ p → p < s.length → mvZ p (p + ((pre.length : Int) - q)) L = some r →
    ∃ r' : Nat, r = r' ∧ pre.length ≤ r' ∧ r' < (pre ++ ed s q L).length ∧ (pre ++ ed s q L)[r']? = s[p]?
  | [], q, pre, p, r, _, hqp, hp, hm => by
    have hr : r = (p : Int) + ((pre.length : Int) - q) := (Option.some.inj hm).symm
    refine ⟨pre.length + (p - q), by omega, by omega, ?_, ?_⟩
    · rw [List.length_append, ed, List.length_drop]; omega
    · rw [List.getElem?_append_right (by omega), ed, List.getElem?_drop]
      congr 1; omega
  | ⟨f, t, x⟩ :: l, q, pre, p, r, h, hqp, hp, hm => by
    obtain ⟨h1, h2, h3, h4⟩ := sd_cons.1 h
    change (q : Int) ≤ f at h1
    change f ≤ t at h2
    change t ≤ s.length at h3
    change sd s.length t l = true at h4
    obtain ⟨f', rfl⟩ := Int.eq_ofNat_of_zero_le (show 0 ≤ f by omega)
    obtain ⟨t', rfl⟩ := Int.eq_ofNat_of_zero_le (show 0 ≤ t by omega)
    change (q : Int) ≤ (f' : Int) at h1
    change (f' : Int) ≤ (t' : Int) at h2
    change (t' : Int) ≤ _ at h3
    have lm : ((s.take f').drop q).length = f' - q := by rw [List.length_drop, List.length_take]; omega
    have eE : ed s q (⟨(f' : Int), (t' : Int), x⟩ :: l) = (s.take f').drop q ++ (bl x ++ ed s t' l) := ed_cons s q f' t' x l
    rw [eE]
    by_cases c1 : p < f'
    · rw [mvZ_behind (show ¬ (f' : Int) ≤ p by omega) (show ¬ (t' : Int) ≤ p by omega), mvZ_none h4 (show (p : Int) < (t' : Int) by omega)] at hm
      have hr := (Option.some.inj hm).symm
      refine ⟨pre.length + (p - q), by omega, by omega, ?_, ?_⟩
      · simp only [List.length_append, lm]; omega
      · rw [List.getElem?_append_right (by omega), List.getElem?_append_left (by omega), List.getElem?_drop, List.getElem?_take_of_lt (by omega)]
        congr 1; omega
    · by_cases c2 : p < t'
      · rw [mvZ_gone (show (f' : Int) ≤ p by omega) (show (p : Int) < (t' : Int) by omega)] at hm; cases hm
      · rw [mvZ_ahead (show (t' : Int) ≤ p by omega)] at hm
        have el : ((pre ++ (s.take f').drop q ++ bl x).length : Int) = pre.length + (f' - q : Nat) + x.size := by
          rw [List.length_append, List.length_append, lm, bl_size]; push_cast; omega
        have ea : (p : Int) + ((pre.length : Int) - q) + gr ⟨(f' : Int), (t' : Int), x⟩ = (p : Int) + (((pre ++ (s.take f').drop q ++ bl x).length : Int) - (t' : Nat)) := by
          rw [el]; unfold gr; dsimp only; omega
        rw [ea] at hm
        obtain ⟨r', e1, e2, e3, e4⟩ := mv_byte s l t' (pre ++ (s.take f').drop q ++ bl x) p r h4 (by omega) hp hm
        have eT : pre ++ ((s.take f').drop q ++ (bl x ++ ed s t' l)) = pre ++ (s.take f').drop q ++ bl x ++ ed s t' l := by simp only [List.append_assoc]
        rw [eT]
        exact ⟨r', e1, by simp only [List.length_append] at e2; omega, e3, e4⟩

/-- Where the end comes to. -/
theorem mv_end {n : Int} : ∀ (L : List Ed) (a q : Int), sd n q L = true → mvZ n a L = some (a + gn L)
  | [], a, _, _ => by simp [mvZ, gn]
  | e :: l, a, q, h => by
    obtain ⟨h1, h2, h3, h4⟩ := sd_cons.1 h
    rw [mvZ_ahead h3, mv_end l _ e.t h4, gn]
    congr 1; omega

/-- Places that are left stay in order. -/
theorem mv_mono {n : Int} : ∀ (L : List Ed) (d q p p' r r' : Int), sd n q L = true → q ≤ p → p < p' → mvZ p (p + d) L = some r → mvZ p' (p' + d) L = some r' → r < r'
  | [], d, _, p, p', r, r', _, _, hp, h1, h2 => by
    have e1 := Option.some.inj h1
    have e2 := Option.some.inj h2
    omega
  | e :: l, d, q, p, p', r, r', h, hq, hp, h1, h2 => by
    obtain ⟨g1, g2, g3, g4⟩ := sd_cons.1 h
    have low : ∀ (L : List Ed) (d q p r : Int), sd n q L = true → q ≤ p → mvZ p (p + d) L = some r → q + d ≤ r := by
      intro L
      induction L with
      | nil => intro d q p r _ hq h; have := Option.some.inj h; omega
      | cons e l ih =>
        intro d q p r h hq hm
        obtain ⟨k1, k2, k3, k4⟩ := sd_cons.1 h
        by_cases c1 : e.f ≤ p
        · by_cases c2 : p < e.t
          · rw [mvZ_gone c1 c2] at hm; cases hm
          · rw [mvZ_ahead (by omega), show p + d + gr e = p + (d + gr e) by omega] at hm
            have := ih (d + gr e) e.t p r k4 (by omega) hm
            unfold gr at this
            omega
        · rw [mvZ_behind c1 (by omega), mvZ_none k4 (by omega)] at hm
          have := Option.some.inj hm; omega
    by_cases c1 : e.f ≤ p
    · by_cases c2 : p < e.t
      · rw [mvZ_gone c1 c2] at h1; cases h1
      · rw [mvZ_ahead (by omega), show p + d + gr e = p + (d + gr e) by omega] at h1
        rw [mvZ_ahead (by omega), show p' + d + gr e = p' + (d + gr e) by omega] at h2
        exact mv_mono l (d + gr e) e.t p p' r r' g4 (by omega) hp h1 h2
    · rw [mvZ_behind c1 (by omega), mvZ_none g4 (by omega)] at h1
      have e1 := Option.some.inj h1
      by_cases c3 : e.f ≤ p'
      · by_cases c4 : p' < e.t
        · rw [mvZ_gone c3 c4] at h2; cases h2
        · rw [mvZ_ahead (by omega), show p' + d + gr e = p' + (d + gr e) by omega] at h2
          have := low l (d + gr e) e.t p' r' g4 (by omega) h2
          unfold gr at this
          omega
      · rw [mvZ_behind c3 (by omega), mvZ_none g4 (by omega)] at h2
        have e2 := Option.some.inj h2
        omega

/-- How many bytes are taken ahead of a place. -/
def tk : List Ed → Int → Int
  | [], _ => 0
  | e :: l, i => (min e.t i - min e.f i) + tk l i

theorem tk_none {n i : Int} : ∀ {L : List Ed} {q : Int}, sd n q L = true → i ≤ q → tk L i = 0
  | [], _, _, _ => rfl
  | e :: l, q, h, hi => by
    obtain ⟨g1, g2, g3, g4⟩ := sd_cons.1 h
    rw [tk, tk_none g4 (by omega)]; omega
theorem tk_step {n i a : Int} : ∀ {L : List Ed} {q : Int}, sd n q L = true → tk L (i + 1) = tk L i + (if (mvZ i a L).isSome = true then 0 else 1)
  | [], _, _ => by simp [tk, mvZ]
  | e :: l, q, h => by
    obtain ⟨g1, g2, g3, g4⟩ := sd_cons.1 h
    have ind : ∀ (L : List Ed) (a b : Int), (mvZ i a L).isSome = (mvZ i b L).isSome := by
      intro L
      induction L with
      | nil => intro a b; rfl
      | cons e l ih =>
        intro a b
        rw [mvZ, mvZ]
        split
        · rfl
        · split
          · exact ih _ _
          · exact ih _ _
    by_cases c1 : e.f ≤ i
    · by_cases c2 : i < e.t
      · rw [mvZ_gone c1 c2, tk, tk, tk_none g4 (show i + 1 ≤ e.t by omega), tk_none g4 (show i ≤ e.t by omega)]
        simp
        omega
      · have ih := tk_step (i := i) (a := a + gr e) g4
        rw [mvZ_ahead (by omega), tk, tk, ih]
        omega
    · rw [mvZ_behind c1 (by omega), mvZ_none g4 (show i < e.t by omega), tk, tk, tk_none g4 (show i + 1 ≤ e.t by omega), tk_none g4 (show i ≤ e.t by omega)]
      simp
      omega
theorem tk_all {n : Int} : ∀ {L : List Ed} {q : Int}, sd n q L = true → tk L n = took L
  | [], _, _ => rfl
  | e :: l, q, h => by
    obtain ⟨g1, g2, g3, g4⟩ := sd_cons.1 h
    rw [tk, took, tk_all g4]; omega
end Go.Proofs.Ytckioinjgdjohaa
