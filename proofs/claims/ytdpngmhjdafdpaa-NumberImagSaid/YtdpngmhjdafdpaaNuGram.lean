/- Plain mathematics of numbers as texts: their last bytes, an i behind them, underscores left out. Nothing of the program is named here. -/
import Derived.Test.YtdpngmhjdafdpaaNuMath
namespace Go.Proofs.Ytdpngmhjdafdpaa.Nm

/-! ### The last byte -/
theorem last_append {x y : List UInt8} (h : y ≠ []) : (x ++ y).getLast? = y.getLast? := by
  rw [List.getLast?_append]
  cases hy : y.getLast? with
  | none => exact absurd (List.getLast?_eq_none_iff.1 hy) h
  | some c => rfl
theorem ne_of {b : Nat} {l : List UInt8} (h : R b l = true) : l ≠ [] := by rintro rfl; simp [R] at h
theorem under_ne {b : Nat} {l : List UInt8} (h : under b l = true) : l ≠ [] := by rintro rfl; simp [under, R, at1] at h
theorem under_last {b : Nat} {l : List UInt8} (h : under b l = true) : ∃ c, l.getLast? = some c ∧ dg c < b := by
  rcases under_cases h with h3 | ⟨u, rfl, h3⟩
  · exact R_last l h3
  · obtain ⟨c, h1, h2⟩ := R_last u h3
    exact ⟨c, by rw [show (95 :: u : List UInt8) = [95] ++ u from rfl, last_append (ne_of h3)]; exact h1, h2⟩
theorem expo_last {t : List UInt8} (h : expo t = true) : ∃ c, t.getLast? = some c ∧ dg c < 10 := by
  rw [expo_eq] at h
  obtain ⟨c, h1, h2⟩ := R_last _ h
  match t, h, h1 with
  | g :: t, h, h1 =>
    simp only [sg] at h h1
    split at h1
    · rename_i hg
      rw [if_pos hg] at h
      exact ⟨c, by rw [show (g :: t : List UInt8) = [g] ++ t from rfl, last_append (ne_of h)]; exact h1, h2⟩
    · exact ⟨c, h1, h2⟩
theorem expo_ne {t : List UInt8} (h : expo t = true) : t ≠ [] := by rintro rfl; simp [expo, sg, whole, hd] at h
theorem power_split {c d : UInt8} {y : List UInt8} (h : power c d y = true) : ∃ e t, y = e :: t ∧ (e = c ∨ e = d) ∧ expo t = true := by
  unfold power at h
  simp only [Bool.and_eq_true] at h
  match y, h with
  | e :: t, h => exact ⟨e, t, rfl, by simpa [at2] using h.1, h.2⟩
theorem power_last {c d : UInt8} {y : List UInt8} (h : power c d y = true) : y ≠ [] ∧ ∃ c, y.getLast? = some c ∧ dg c < 10 := by
  obtain ⟨e, t, rfl, _, h⟩ := power_split h
  obtain ⟨x, h1, h2⟩ := expo_last h
  exact ⟨by simp, x, by rw [show (e :: t : List UInt8) = [e] ++ t from rfl, last_append (expo_ne h)]; exact h1, h2⟩

theorem cuts_cases {b : Nat} {hex : Bool} {x y : List UInt8} (h : cuts b hex x y = true) : (under b x = true ∧ (hex = false → R b x = true) ∧ (y = [] ∨ R b y = true)) ∨ (x = [] ∧ R b y = true) := by
  simp only [cuts, front, Bool.or_eq_true, Bool.and_eq_true, List.isEmpty_iff] at h
  rcases h with ⟨h1, h2⟩ | h
  · refine .inl ⟨?_, ?_, h2⟩
    · rcases h1 with h1 | h1
      · unfold under; rw [h1]; rfl
      · exact h1.2
    · intro hh
      rcases h1 with h1 | h1
      · exact h1
      · rw [hh] at h1; exact absurd h1.1 (by decide)
  · exact .inr h

theorem pointed_last {b : Nat} {hex : Bool} {l : List UInt8} (h : pointed b hex l) : ∃ c, l.getLast? = some c ∧ (dg c < b ∨ c = 46) := by
  obtain ⟨x, y, rfl, hc⟩ := h
  have key : ∀ y : List UInt8, R b y = true → ∃ c, (x ++ 46 :: y).getLast? = some c ∧ (dg c < b ∨ c = 46) := by
    intro y hy
    obtain ⟨c, h1, h2⟩ := R_last y hy
    exact ⟨c, by rw [last_append (by simp), show (46 :: y : List UInt8) = [46] ++ y from rfl, last_append (ne_of hy)]; exact h1, .inl h2⟩
  rcases cuts_cases hc with ⟨_, _, rfl | h⟩ | ⟨_, h⟩
  · exact ⟨46, by rw [last_append (by simp)]; rfl, .inr rfl⟩
  · exact key y h
  · exact key y h

theorem pfx_spell {l : List UInt8} (h : pfx l ≠ 10) : ∃ d t, l = 48 :: d :: t := by
  rcases pfx_cases l with h' | ⟨d, t, rfl, _⟩
  · exact absurd h' h
  · exact ⟨d, t, rfl⟩

theorem int_last {l : List UInt8} (h : IntG l) : ∃ c, l.getLast? = some c ∧ dg c < (if pfx l = 16 then 16 else 10) := by
  have le10 : ∀ {n}, n < 10 → n < (if pfx l = 16 then 16 else 10) := by intro n hn; split <;> omega
  have pf : ∀ b, b ≤ 16 → (b = 16 → pfx l = 16) → (b ≤ 10 ∨ b = 16) → pfx l ≠ 10 → under b (l.drop 2) = true → ∃ c, l.getLast? = some c ∧ dg c < (if pfx l = 16 then 16 else 10) := by
    intro b hb hb2 hb3 hp hu
    obtain ⟨d, t, e⟩ := pfx_spell hp
    rw [e] at hu
    have hu : under b t = true := hu
    obtain ⟨c, h1, h2⟩ := under_last hu
    refine ⟨c, by rw [e, show (48 :: d :: t : List UInt8) = [48, d] ++ t from rfl, last_append (under_ne hu)]; exact h1, ?_⟩
    rcases hb3 with h | h
    · exact le10 (by omega)
    · rw [if_pos (hb2 h)]; omega
  rcases h with rfl | ⟨h, _⟩ | ⟨h1, h2⟩ | ⟨h1, h2⟩ | ⟨h1, h2⟩ | ⟨h1, h2⟩
  · exact ⟨48, rfl, by decide⟩
  · obtain ⟨c, h1, h2⟩ := R_last l h
    exact ⟨c, h1, le10 h2⟩
  · match l, h1, h2 with
    | a :: t, h1, h2 =>
      have h2 : under 8 t = true := h2
      obtain ⟨c, h3, h4⟩ := under_last h2
      exact ⟨c, by rw [show (a :: t : List UInt8) = [a] ++ t from rfl, last_append (under_ne h2)]; exact h3, le10 (by omega)⟩
  · exact pf 2 (by omega) (by omega) (by omega) (by omega) h2
  · exact pf 8 (by omega) (by omega) (by omega) (by omega) h2
  · exact pf 16 (by omega) (fun _ => h1) (.inr rfl) (by omega) h2

theorem float_last {l : List UInt8} (h : FloatG l) : ∃ c, l.getLast? = some c ∧ (dg c < 10 ∨ c = 46) := by
  rcases h with ⟨hp, x, y, e, hy, _⟩ | ⟨_, h | ⟨x, y, e, hy, _⟩⟩
  · obtain ⟨d, t, el⟩ := pfx_spell (l := l) (by omega)
    obtain ⟨n, c, h1, h2⟩ := power_last hy
    rw [el] at e
    have e' : t = x ++ y := e
    refine ⟨c, ?_, .inl h2⟩
    rw [el, e', show (48 :: d :: (x ++ y) : List UInt8) = (48 :: d :: x) ++ y from rfl, last_append n]; exact h1
  · exact pointed_last h
  · obtain ⟨n, c, h1, h2⟩ := power_last hy
    exact ⟨c, by rw [e, last_append n]; exact h1, .inl h2⟩

theorem plain_last {l : List UInt8} (h : plain l ≠ 0) : ∃ c, l.getLast? = some c ∧ ((dg c < if pfx l = 16 then 16 else 10) ∨ c = 46) := by
  rcases plain_kinds l with h' | h' | h'
  · exact absurd h' h
  · obtain ⟨c, h1, h2⟩ := int_last ((int_iff l).1 h')
    exact ⟨c, h1, .inl h2⟩
  · obtain ⟨c, h1, h2⟩ := float_last ((float_iff l).1 h')
    refine ⟨c, h1, h2.imp_left fun h => by split <;> omega⟩

theorem plain_i {l : List UInt8} (h : l.getLast? = some 105) : plain l = 0 := by
  by_cases h0 : plain l = 0
  · exact h0
  · obtain ⟨c, h1, h2⟩ := plain_last h0
    rw [h] at h1
    have := Option.some.inj h1
    subst this
    rcases h2 with h2 | h2
    · have : dg 105 = 16 := by decide
      rw [this] at h2; split at h2 <;> omega
    · exact absurd h2 (by decide)

theorem R10_i {l : List UInt8} (h : l.getLast? = some 105) : R 10 l = false := by
  cases hv : R 10 l with
  | false => rfl
  | true =>
    obtain ⟨c, h1, h2⟩ := R_last l hv
    rw [h] at h1
    have := Option.some.inj h1
    subst this
    exact absurd h2 (by decide)

/-- The reference's order of questions. -/
theorem kind_ref (l : List UInt8) : kind l = if plain l = 3 then 3 else if plain l = 4 then 4 else if 1 < l.length ∧ l.getLast? = some 105 ∧ (plain l.dropLast = 3 ∨ plain l.dropLast = 4 ∨ R 10 l.dropLast = true) then 5 else 0 := by
  unfold kind
  rw [whole_eq (by omega)]
  have nz : plain l.dropLast ≠ 0 ↔ plain l.dropLast = 3 ∨ plain l.dropLast = 4 := by
    have := plain_kinds l.dropLast; omega
  by_cases h : l.getLast? = some 105
  · rw [if_pos h, plain_i h, if_neg (show ¬ (0 = 3) by omega), if_neg (show ¬ (0 = 4) by omega)]
    by_cases hl : 1 < l.length
    · by_cases hk : plain l.dropLast ≠ 0 ∨ R 10 l.dropLast = true
      · rw [if_pos hk, if_pos ⟨hl, h, by rcases hk with hk | hk
                                         · rcases nz.1 hk with hk | hk
                                           · exact .inl hk
                                           · exact .inr (.inl hk)
                                         · exact .inr (.inr hk)⟩]
      · rw [if_neg hk, if_neg]
        rintro ⟨_, _, g | g | g⟩
        · exact hk (.inl (by omega))
        · exact hk (.inl (by omega))
        · exact hk (.inr g)
    · have : l.dropLast = [] := by
        match l, hl with
        | [], _ => rfl
        | [c], _ => rfl
        | c :: d :: l, hl => simp at hl
      rw [this, if_neg (by decide), if_neg (fun g => hl g.1)]
  · rw [if_neg h, if_neg (c := 1 < l.length ∧ _) (fun g => h g.2.1)]
    rcases plain_kinds l with k | k | k <;> rw [k] <;> simp

/-- An i behind. -/
theorem kind_i (l : List UInt8) : kind (l ++ [105]) = if plain l ≠ 0 ∨ R 10 l = true then 5 else 0 := by
  unfold kind
  rw [if_pos (by rw [last_append (by simp)]; rfl), List.dropLast_concat, whole_eq (by omega)]

theorem kind_imag (l : List UInt8) : (kind l = 3 ∨ kind l = 4 → kind (l ++ [105]) = 5) ∧ (kind l = 5 → kind (l ++ [105]) = 0) ∧ (kind (l ++ [105]) = 0 ∨ kind (l ++ [105]) = 5) ∧ (kind l = 0 ∨ kind l = 3 ∨ kind l = 4 ∨ kind l = 5) := by
  refine ⟨?_, ?_, ?_, ?_⟩
  · intro h
    rw [kind_i, if_pos]
    left
    unfold kind at h
    split at h
    · split at h <;> simp at h
    · omega
  · intro h
    unfold kind at h
    split at h
    · rename_i hl
      rw [kind_i, plain_i hl, R10_i hl, if_neg (by simp)]
    · have := plain_kinds l; omega
  · rw [kind_i]; split <;> simp
  · unfold kind
    split
    · split <;> simp
    · have := plain_kinds l; omega

/-! ### Without underscores -/
def F (l : List UInt8) : List UInt8 := l.filter (fun c => decide (c ≠ 95))
theorem F_append (a b : List UInt8) : F (a ++ b) = F a ++ F b := List.filter_append ..
theorem F_cons {c : UInt8} (h : c ≠ 95) (l : List UInt8) : F (c :: l) = c :: F l := by unfold F; rw [List.filter_cons_of_pos (by simpa using h)]
theorem F_under (l : List UInt8) : F (95 :: l) = F l := by unfold F; rw [List.filter_cons_of_neg (by simp)]
theorem F_head {l : List UInt8} {c : UInt8} {t : List UInt8} (h : F l = c :: t) : c ≠ 95 := by
  have : c ∈ F l := by rw [h]; exact List.mem_cons_self ..
  have := (List.mem_filter.1 this).2
  simpa using this
theorem dig_ne {b : Nat} (hb : b ≤ 16) {c : UInt8} (h : dg c < b) : c ≠ 95 := by rintro rfl; rw [dg_under] at h; omega

theorem R_F {b : Nat} (hb : b ≤ 16) : ∀ l : List UInt8, R b l = true → R b (F l) = true
  | [], h => by simp [R] at h
  | [c], h => by
    have hc : dg c < b := by simpa [R] using h
    rw [F_cons (dig_ne hb hc)]; exact h
  | c :: d :: l, h => by
    have h' := h
    rw [R] at h
    simp only [Bool.and_eq_true, decide_eq_true_eq] at h
    obtain ⟨h1, h2⟩ := h
    have step : ∀ m, R b (F m) = true → R b (c :: F m) = true := by
      intro m hm
      match hF : F m, hm with
      | e :: t, hm => rw [R, if_neg (F_head hF), hm]; simp [h1]
    rw [F_cons (dig_ne hb h1)]
    by_cases hd' : d = 95
    · subst hd'
      rw [if_pos rfl] at h2
      rw [F_under]
      exact step l (R_F hb l h2)
    · rw [if_neg hd'] at h2
      exact step (d :: l) (R_F hb (d :: l) h2)

theorem under_F {b : Nat} (hb : b ≤ 16) {l : List UInt8} (h : under b l = true) : R b (F l) = true := by
  rcases under_cases h with h1 | ⟨u, rfl, h1⟩
  · exact R_F hb l h1
  · rw [F_under]; exact R_F hb u h1
theorem R_under {b : Nat} {l : List UInt8} (h : R b l = true) : under b l = true := by unfold under; rw [h]; rfl

theorem pfx_F {l : List UInt8} (h : pfx l ≠ 10) : pfx (F l) = pfx l ∧ (F l).drop 2 = F (l.drop 2) := by
  rcases pfx_cases l with h' | ⟨d, t, rfl, _, h2, _⟩
  · exact absurd h' h
  · rw [F_cons (by decide), F_cons h2]
    exact ⟨by simp [pfx], rfl⟩

theorem expo_F {t : List UInt8} (h : expo t = true) : expo (F t) = true := by
  rw [expo_eq] at h ⊢
  match t, h with
  | g :: t, h =>
    simp only [sg] at h
    split at h
    · rename_i hg
      rw [F_cons (by rcases hg with rfl | rfl <;> decide), sg, if_pos hg]
      exact R_F (by omega) t h
    · rename_i hg
      have h1 := hd_R h
      simp [hd] at h1
      have := R_F (b := 10) (by omega) (g :: t) h
      rw [F_cons (dig_ne (by omega) h1)] at this ⊢
      rw [sg, if_neg hg]; exact this

theorem power_F {c d : UInt8} (hc : c ≠ 95) (hd' : d ≠ 95) {y : List UInt8} (h : power c d y = true) : power c d (F y) = true := by
  obtain ⟨e, t, rfl, he, h⟩ := power_split h
  have : e ≠ 95 := by rcases he with rfl | rfl <;> assumption
  rw [F_cons this]
  unfold power
  simp only [List.tail_cons, expo_F h, Bool.and_true]
  simpa [at2] using he

theorem pointed_F {b : Nat} (hb : b ≤ 16) {hex : Bool} {l : List UInt8} (h : pointed b hex l) : pointed b hex (F l) := by
  obtain ⟨x, y, rfl, hc⟩ := h
  refine ⟨F x, F y, by rw [F_append, F_cons (by decide)], ?_⟩
  rcases cuts_cases hc with ⟨h1, _, h2⟩ | ⟨rfl, h⟩
  · have hx := under_F hb h1
    unfold cuts front
    rw [hx]
    rcases h2 with rfl | h2
    · simp [F]
    · rw [R_F hb y h2]; simp
  · unfold cuts
    rw [R_F hb y h]; simp [F]

theorem dec_F {l : List UInt8} (h : DecG l) : DecG (F l) := by
  rcases h with h | ⟨x, y, rfl, hp, hx⟩
  · exact .inl (pointed_F (by omega) h)
  · refine .inr ⟨F x, F y, F_append .., power_F (by decide) (by decide) hp, ?_⟩
    rcases hx with hx | hx
    · exact .inl (pointed_F (by omega) hx)
    · exact .inr (R_F (by omega) x hx)
theorem hex_F {l : List UInt8} (h : HexG l) : HexG (F l) := by
  obtain ⟨x, y, rfl, hp, hx⟩ := h
  refine ⟨F x, F y, F_append .., power_F (by decide) (by decide) hp, ?_⟩
  rcases hx with hx | hx
  · exact .inl (pointed_F (by omega) hx)
  · exact .inr (R_under (under_F (by omega) hx))
theorem not10_of_dec {l : List UInt8} (h : DecG l) : pfx l = 10 := by
  rcases pfx_cases l with h' | ⟨d, t, rfl, h1, h2, h3, h4, h5, _⟩
  · exact h'
  · have := dec4.2 h
    rw [dec_lettered h1 h2 h3 h4 h5] at this; cases this
theorem float_F {l : List UInt8} (h : FloatG l) : FloatG (F l) := by
  rcases h with ⟨hp, h⟩ | ⟨hp, h⟩
  · obtain ⟨a, b⟩ := pfx_F (l := l) (by omega)
    exact .inl ⟨by omega, by rw [b]; exact hex_F h⟩
  · have := dec_F h
    exact .inr ⟨by rw [not10_of_dec this]; omega, this⟩
theorem head_F {b : Nat} (hb : b ≤ 16) {l : List UInt8} (h : R b l = true) (c : UInt8) : at1 c (F l) = at1 c l := by
  have h1 := hd_R h
  match l, h1 with
  | d :: l, h1 =>
    simp [hd] at h1
    rw [F_cons (dig_ne hb h1)]; rfl
theorem int_F {l : List UInt8} (h : IntG l) : IntG (F l) := by
  rcases h with rfl | ⟨h, h0⟩ | ⟨h1, h2⟩ | ⟨h1, h2⟩ | ⟨h1, h2⟩ | ⟨h1, h2⟩
  · exact .inl (by decide)
  · exact .inr (.inl ⟨R_F (by omega) l h, by rw [head_F (by omega) h]; exact h0⟩)
  · match l, h1, h2 with
    | a :: t, h1, h2 =>
      simp [at1] at h1; subst h1
      rw [F_cons (by decide)]
      exact .inr (.inr (.inl ⟨rfl, R_under (under_F (by omega) h2)⟩))
  · obtain ⟨a, b⟩ := pfx_F (l := l) (by omega)
    exact .inr (.inr (.inr (.inl ⟨by omega, by rw [b]; exact R_under (under_F (by omega) h2)⟩)))
  · obtain ⟨a, b⟩ := pfx_F (l := l) (by omega)
    exact .inr (.inr (.inr (.inr (.inl ⟨by omega, by rw [b]; exact R_under (under_F (by omega) h2)⟩))))
  · obtain ⟨a, b⟩ := pfx_F (l := l) (by omega)
    exact .inr (.inr (.inr (.inr (.inr ⟨by omega, by rw [b]; exact R_under (under_F (by omega) h2)⟩))))
theorem plain_F {l : List UInt8} (h : plain l ≠ 0) : plain (F l) = plain l := by
  rcases plain_kinds l with k | k | k
  · exact absurd k h
  · rw [k, int_iff]; exact int_F ((int_iff l).1 k)
  · rw [k, float_iff]; exact float_F ((float_iff l).1 k)

theorem kind_F {l : List UInt8} (h : kind l ≠ 0) : kind (F l) = kind l := by
  by_cases hl : l.getLast? = some 105
  · obtain ⟨t, rfl⟩ := (List.getLast?_eq_some_iff.1 hl)
    have e : F (t ++ [105]) = F t ++ [105] := by rw [F_append]; rfl
    rw [e]
    rw [kind_i] at h ⊢
    rw [kind_i]
    split at h
    · rename_i hk
      rw [if_pos hk, if_pos]
      rcases hk with hk | hk
      · left; rw [plain_F hk]; exact hk
      · right; exact R_F (by omega) t hk
    · exact absurd rfl h
  · have hk : kind l = plain l := by unfold kind; rw [if_neg hl]
    rw [hk] at h ⊢
    have hF := plain_F h
    unfold kind
    rw [if_neg, hF]
    intro hl2
    rw [plain_i hl2] at hF
    exact h hF.symm
end Go.Proofs.Ytdpngmhjdafdpaa.Nm
