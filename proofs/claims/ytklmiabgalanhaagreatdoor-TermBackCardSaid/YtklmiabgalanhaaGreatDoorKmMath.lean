/- Plain mathematics of lists that tell trees by numbers of kids alone. Nothing of the program is named here. -/
import Derived.WalkKit
import Derived.Lib.Hide
namespace Go.Proofs.YtklmiabgalanhaaGreatDoor.Km
set_option maxRecDepth 100000
set_option linter.unusedVariables false

/-- The place behind m trees, from place i on. -/
def W (n : Nat) (K : Nat → Int) (i m : Nat) : Option Nat :=
  match m with
  | 0 => some i
  | m + 1 => if h : i < n then (if 0 ≤ K i ∧ K i ≤ (n : Int) then W n K (i + 1) (m + (K i).toNat) else none) else none
termination_by n - i

variable {n : Nat} {K : Nat → Int}

theorem W_zero (i : Nat) : W n K i 0 = some i := by unfold W; rfl
theorem W_go {i m : Nat} (h : i < n) (h0 : 0 ≤ K i) (h1 : K i ≤ (n : Int)) : W n K i (m + 1) = W n K (i + 1) (m + (K i).toNat) := by
  conv => lhs; unfold W
  simp [h, h0, h1]
theorem W_no {i m : Nat} (h : n ≤ i ∨ K i < 0 ∨ (n : Int) < K i) : W n K i (m + 1) = none := by
  conv => lhs; unfold W
  by_cases hi : i < n
  · have : ¬ (0 ≤ K i ∧ K i ≤ (n : Int)) := by omega
    simp [hi, this]
  · simp [hi]
theorem W_le : ∀ (k i m j : Nat), n - i = k → W n K i m = some j → i + m ≤ j ∧ (m = 0 → j = i) ∧ (0 < m → j ≤ n) := by
  intro k
  induction k with
  | zero =>
    intro i m j hk h
    cases m with
    | zero => rw [W_zero] at h; injection h with h; subst h; exact ⟨by omega, fun _ => rfl, fun h => by omega⟩
    | succ m => rw [W_no (by omega)] at h; cases h
  | succ k ih =>
    intro i m j hk h
    cases m with
    | zero => rw [W_zero] at h; injection h with h; subst h; exact ⟨by omega, fun _ => rfl, fun h => by omega⟩
    | succ m =>
      by_cases hK : 0 ≤ K i ∧ K i ≤ (n : Int)
      · rw [W_go (by omega) hK.1 hK.2] at h
        obtain ⟨h1, h2, h3⟩ := ih (i + 1) _ j (by omega) h
        refine ⟨by omega, fun h => by omega, fun _ => ?_⟩
        by_cases hz : m + (K i).toNat = 0
        · have := h2 hz; omega
        · exact h3 (by omega)
      · rw [W_no (by omega)] at h; cases h
theorem W_ge {i m j : Nat} (h : W n K i m = some j) : i + m ≤ j := (W_le _ i m j rfl h).1
theorem W_in {i m j : Nat} (h : W n K i m = some j) (hm : 0 < m) : j ≤ n := (W_le _ i m j rfl h).2.2 hm
/-- Without the bound above. -/
theorem W_up {i m : Nat} (h : i < n) (h0 : 0 ≤ K i) : W n K i (m + 1) = W n K (i + 1) (m + (K i).toNat) := by
  by_cases h1 : K i ≤ (n : Int)
  · exact W_go h h0 h1
  · rw [W_no (by omega)]
    cases hw : W n K (i + 1) (m + (K i).toNat) with
    | none => rfl
    | some j =>
      have := W_ge hw
      have := W_in hw (by omega)
      omega
theorem W_add : ∀ (k i a b : Nat), n - i = k → W n K i (a + b) = (W n K i a).bind fun j => W n K j b := by
  intro k
  induction k with
  | zero =>
    intro i a b hk
    cases a with
    | zero => rw [W_zero, Nat.zero_add]; rfl
    | succ a => rw [show a + 1 + b = (a + b) + 1 by omega, W_no (by omega), W_no (by omega)]; rfl
  | succ k ih =>
    intro i a b hk
    cases a with
    | zero => rw [W_zero, Nat.zero_add]; rfl
    | succ a =>
      rw [show a + 1 + b = (a + b) + 1 by omega]
      by_cases hK : 0 ≤ K i ∧ K i ≤ (n : Int)
      · rw [W_go (by omega) hK.1 hK.2, W_go (by omega) hK.1 hK.2, show a + b + (K i).toNat = (a + (K i).toNat) + b by omega]
        exact ih (i + 1) _ b (by omega)
      · rw [W_no (by omega), W_no (by omega)]; rfl
theorem W_cat {i a b j : Nat} (h : W n K i a = some j) : W n K i (a + b) = W n K j b := by rw [W_add _ i a b rfl, h]; rfl
/-- What is behind m trees is behind the first of them, or further. -/
theorem W_first {i m j : Nat} (h : W n K i (m + 1) = some j) : ∃ e, W n K i 1 = some e ∧ W n K e m = some j ∧ e ≤ j := by
  rw [show m + 1 = 1 + m by omega, W_add _ i 1 m rfl] at h
  cases h1 : W n K i 1 with
  | none => rw [h1] at h; cases h
  | some e =>
    rw [h1] at h
    exact ⟨e, rfl, h, by have := W_ge h; omega⟩
/-- Every place within is the beginning of some trees. -/
theorem W_mid : ∀ (d i m e j : Nat), j - i = d → W n K i m = some e → i ≤ j → j < e → ∃ m', 0 < m' ∧ W n K j m' = some e := by
  intro d
  induction d with
  | zero =>
    intro i m e j hd h h1 h2
    have : j = i := by omega
    subst this
    refine ⟨m, ?_, h⟩
    rcases Nat.eq_zero_or_pos m with rfl | hm
    · rw [W_zero] at h; injection h with h; omega
    · exact hm
  | succ d ih =>
    intro i m e j hd h h1 h2
    cases m with
    | zero => rw [W_zero] at h; injection h with h; omega
    | succ m =>
      have hin := W_in h (by omega)
      by_cases hK : 0 ≤ K i ∧ K i ≤ (n : Int)
      · rw [W_go (by omega) hK.1 hK.2] at h
        exact ih (i + 1) _ e j (by omega) h (by omega) h2
      · rw [W_no (by omega)] at h; cases h

/-- Where the tree at a place ends. -/
def E (n : Nat) (K : Nat → Int) (i : Nat) : Nat := (W n K i 1).getD 0
/-- The list is one tree. -/
def Wl (n : Nat) (K : Nat → Int) : Prop := W n K 0 1 = some n
instance : Decidable (Wl n K) := by unfold Wl; infer_instance

theorem Wl.pos (h : Wl n K) : 0 < n := by have := W_ge h; omega
theorem Wl.all (h : Wl n K) {i : Nat} (hi : i < n) : W n K i 1 = some (E n K i) ∧ i < E n K i ∧ E n K i ≤ n ∧ 0 ≤ K i ∧ K i ≤ (n : Int) ∧ W n K (i + 1) (K i).toNat = some (E n K i) := by
  obtain ⟨m, hm, hw⟩ := W_mid _ 0 1 n i rfl h (by omega) hi
  obtain ⟨m, rfl⟩ : ∃ k, m = k + 1 := ⟨m - 1, by omega⟩
  obtain ⟨e, h1, h2, h3⟩ := W_first hw
  have hE : E n K i = e := by unfold E; rw [h1]; rfl
  rw [hE]
  have h4 := W_ge h1
  have h5 := W_in h1 (by omega)
  by_cases hK : 0 ≤ K i ∧ K i ≤ (n : Int)
  · refine ⟨h1, by omega, h5, hK.1, hK.2, ?_⟩
    have h6 : W n K i (0 + 1) = some e := h1
    rw [W_go hi hK.1 hK.2, Nat.zero_add] at h6
    exact h6
  · have h6 : W n K i (0 + 1) = some e := h1
    rw [W_no (by omega)] at h6; cases h6
theorem Wl.root (h : Wl n K) : E n K 0 = n := by unfold E; rw [h]; rfl
/-- A tree within another one ends within it. -/
theorem Wl.lam (h : Wl n K) {k i : Nat} (hk : k < n) (h1 : k < i) (h2 : i < E n K k) : E n K i ≤ E n K k := by
  have a := h.all hk
  obtain ⟨m, hm, hw⟩ := W_mid _ (k + 1) _ _ i rfl a.2.2.2.2.2 (by omega) h2
  obtain ⟨m, rfl⟩ : ∃ k, m = k + 1 := ⟨m - 1, by omega⟩
  obtain ⟨e, h3, h4, h5⟩ := W_first hw
  have hE : E n K i = e := by unfold E; rw [h3]; rfl
  omega
/-- One step along a row of trees. -/
theorem Wl.step (h : Wl n K) {c m e : Nat} (hw : W n K c (m + 1) = some e) : c < n ∧ c < E n K c ∧ E n K c ≤ e ∧ W n K (E n K c) m = some e := by
  have h1 := W_ge hw
  have h2 := W_in hw (by omega)
  obtain ⟨x, h3, h4, h5⟩ := W_first hw
  have hE : E n K c = x := by unfold E; rw [h3]; rfl
  rw [hE]
  have := W_ge h3
  exact ⟨by omega, by omega, h5, h4⟩

/-- The last one ahead of j that reaches beyond i; none: -1. -/
def upF (En : Nat → Nat) (i : Nat) : Nat → Int
  | 0 => -1
  | j + 1 => if i < En j then (j : Int) else upF En i j
def up (n : Nat) (K : Nat → Int) (i : Nat) : Int := upF (E n K) i i
theorem upF_lt {En : Nat → Nat} {i : Nat} : ∀ j, -1 ≤ upF En i j ∧ upF En i j < (j : Int)
  | 0 => by simp [upF]
  | j + 1 => by
    unfold upF
    split
    · omega
    · have := upF_lt (En := En) (i := i) j; omega
theorem upF_is {En : Nat → Nat} {i p : Nat} : ∀ j, p < j → i < En p → (∀ k, p < k → k < j → En k ≤ i) → upF En i j = (p : Int)
  | 0, h, _, _ => by omega
  | j + 1, h, h1, h2 => by
    unfold upF
    by_cases hj : j = p
    · subst hj; rw [if_pos h1]
    · rw [if_neg (by have := h2 j (by omega) (by omega); omega)]
      exact upF_is j (by omega) h1 fun k a b => h2 k a (by omega)
theorem upF_none {En : Nat → Nat} {i : Nat} : ∀ j, (∀ k, k < j → En k ≤ i) → upF En i j = -1
  | 0, _ => rfl
  | j + 1, h => by
    unfold upF
    rw [if_neg (by have := h j (by omega); omega)]
    exact upF_none j fun k a => h k (by omega)
theorem up_is {i p : Nat} (h : p < i) (h1 : i < E n K p) (h2 : ∀ k, p < k → k < i → E n K k ≤ i) : up n K i = (p : Int) := upF_is i h h1 h2
theorem up_zero : up n K 0 = -1 := rfl
/-- What stands above. -/
theorem upF_spec {En : Nat → Nat} {i : Nat} : ∀ j, (∃ p, p < j ∧ upF En i j = (p : Int) ∧ i < En p ∧ ∀ k, p < k → k < j → En k ≤ i) ∨ (upF En i j = -1 ∧ ∀ k, k < j → En k ≤ i)
  | 0 => .inr ⟨rfl, fun k h => by omega⟩
  | j + 1 => by
    by_cases hj : i < En j
    · refine .inl ⟨j, by omega, by unfold upF; rw [if_pos hj], hj, fun k a b => by omega⟩
    · have e : upF En i (j + 1) = upF En i j := by conv => lhs; unfold upF
                                                   rw [if_neg hj]
      rw [e]
      rcases upF_spec (En := En) (i := i) j with ⟨p, h1, h2, h3, h4⟩ | ⟨h1, h2⟩
      · refine .inl ⟨p, by omega, h2, h3, fun k a b => ?_⟩
        by_cases hk : k = j
        · subst hk; omega
        · exact h4 k a (by omega)
      · refine .inr ⟨h1, fun k a => ?_⟩
        by_cases hk : k = j
        · subst hk; omega
        · exact h2 k (by omega)
theorem Wl.above (h : Wl n K) {i : Nat} (h0 : 0 < i) (hi : i < n) : ∃ p, p < i ∧ up n K i = (p : Int) ∧ i < E n K p ∧ ∀ k, p < k → k < i → E n K k ≤ i := by
  rcases upF_spec (En := E n K) (i := i) i with h1 | ⟨_, h2⟩
  · exact h1
  · have := h2 0 h0; rw [h.root] at this; omega

/-- Who stands above, within a tree and behind it. -/
theorem Wl.up_in (h : Wl n K) {i j : Nat} (hi : i < n) (h1 : i < j) (h2 : j < E n K i) : (i : Int) ≤ up n K j := by
  have hn := (h.all hi).2.2.1
  obtain ⟨p, p1, p2, p3, p4⟩ := h.above (i := j) (by omega) (by omega)
  rw [p2]
  by_cases e : p < i
  · have := p4 i e h1; omega
  · omega
theorem Wl.up_out (h : Wl n K) {i : Nat} (hi : i < n) (h2 : E n K i < n) : up n K (E n K i) < (i : Int) := by
  have h1 := (h.all hi).2.1
  obtain ⟨p, p1, p2, p3, p4⟩ := h.above (i := E n K i) (by omega) h2
  rw [p2]
  by_cases e : p < i
  · omega
  · by_cases e2 : p = i
    · subst e2; omega
    · have := h.lam hi (i := p) (by omega) p1; omega

/-- The kids of a place as a chain: from c on, up to the end e. -/
def chain (En : Nat → Nat) (e : Nat) : Nat → Nat → List Nat
  | 0, _ => []
  | f + 1, c => if c < e then c :: chain En e f (En c) else []
/-- The kids of a place. -/
def kids (n : Nat) (K : Nat → Int) (i : Nat) : List Nat := chain (E n K) (E n K i) n (i + 1)
theorem chain_fuel {En : Nat → Nat} {e : Nat} (hE : ∀ c, c < e → c < En c) : ∀ (f g c : Nat), e ≤ f + c → e ≤ g + c → chain En e f c = chain En e g c
  | 0, 0, c, _, _ => rfl
  | 0, g + 1, c, h, _ => by unfold chain; rw [if_neg (by omega)]
  | f + 1, 0, c, _, h => by unfold chain; rw [if_neg (by omega)]
  | f + 1, g + 1, c, h1, h2 => by
    unfold chain
    by_cases hc : c < e
    · rw [if_pos hc, if_pos hc, chain_fuel hE f g (En c) (by have := hE c hc; omega) (by have := hE c hc; omega)]
    · rw [if_neg hc, if_neg hc]
theorem chain_done {En : Nat → Nat} {e f c : Nat} (h : e ≤ c) : chain En e f c = [] := by
  cases f with
  | zero => rfl
  | succ f => unfold chain; rw [if_neg (by omega)]
theorem chain_step {En : Nat → Nat} {e f c : Nat} (hE : ∀ c, c < e → c < En c) (hc : c < e) (hf : e ≤ f + c) : chain En e f c = c :: chain En e f (En c) := by
  obtain ⟨f, rfl⟩ : ∃ k, f = k + 1 := ⟨f - 1, by omega⟩
  have := hE c hc
  conv => lhs; unfold chain
  rw [if_pos hc, chain_fuel hE f (f + 1) (En c) (by omega) (by omega)]
theorem chain_len (h : Wl n K) {e : Nat} : ∀ (m f c : Nat), W n K c m = some e → e ≤ f + c → (chain (E n K) e f c).length = m
  | 0, f, c, hw, hf => by
    rw [W_zero] at hw; injection hw with hw; subst hw; rw [chain_done (Nat.le_refl _)]; rfl
  | m + 1, f, c, hw, hf => by
    obtain ⟨h1, h2, h3, h4⟩ := h.step hw
    obtain ⟨f, rfl⟩ : ∃ k, f = k + 1 := ⟨f - 1, by omega⟩
    unfold chain
    rw [if_pos (by omega), List.length_cons, chain_len h m f _ h4 (by omega)]
theorem kids_len (h : Wl n K) {i : Nat} (hi : i < n) : ((kids n K i).length : Int) = K i := by
  have a := h.all hi
  unfold kids
  rw [chain_len h _ _ _ a.2.2.2.2.2 (by omega)]
  omega
/-- The kids from c on, of p: just those whose node above is p. -/
theorem chain_up (h : Wl n K) {p : Nat} (hp : p < n) : ∀ (m f c : Nat), W n K c m = some (E n K p) → E n K p ≤ f + c → p < c → (∀ k, p < k → k < c → E n K k ≤ c) →
    chain (E n K) (E n K p) f c = ((List.range' c (E n K p - c)).filter fun k => up n K k == (p : Int))
  | 0, f, c, hw, hf, hc, hk => by
    rw [W_zero] at hw; injection hw with hw; rw [chain_done (by omega), show E n K p - c = 0 by omega]; rfl
  | m + 1, f, c, hw, hf, hc, hk => by
    obtain ⟨h1, h2, h3, h4⟩ := h.step hw
    obtain ⟨f, rfl⟩ : ∃ k, f = k + 1 := ⟨f - 1, by omega⟩
    have hu : up n K c = (p : Int) := up_is hc (by omega) hk
    have hE : ∀ k, p < k → k < E n K c → E n K k ≤ E n K c := fun k a b => by
      by_cases h5 : k < c
      · have := hk k a h5; omega
      · by_cases h6 : k = c
        · subst h6; omega
        · exact h.lam h1 (by omega) b
    have ih := chain_up h hp m f (E n K c) h4 (by omega) (by omega) hE
    unfold chain
    rw [if_pos (by omega), ih]
    have e1 : List.range' c (E n K p - c) = c :: (List.range' (c + 1) (E n K c - (c + 1)) ++ List.range' (E n K c) (E n K p - E n K c)) := by
      have h5 : E n K p - c = (E n K p - c - 1) + 1 := by omega
      have h6 : E n K p - c - 1 = (E n K c - (c + 1)) + (E n K p - E n K c) := by omega
      rw [h5, List.range'_succ, h6, ← List.range'_append, Nat.one_mul, show c + 1 + (E n K c - (c + 1)) = E n K c by omega]
    have e2 : (List.range' (c + 1) (E n K c - (c + 1))).filter (fun k => up n K k == (p : Int)) = [] := by
      rw [List.filter_eq_nil_iff]
      intro k hk'
      rw [List.mem_range'_1] at hk'
      have hpn := (h.all hp).2.2.1
      obtain ⟨q, q1, q2, q3, q4⟩ := h.above (i := k) (by omega) (by omega)
      have : c ≤ q := by
        by_cases h7 : c ≤ q
        · exact h7
        · have := q4 c (by omega) (by omega); omega
      rw [q2]
      simp
      omega
    rw [e1, List.filter_cons, if_pos (by rw [hu]; simp), List.filter_append, e2]
    rfl
/-- Kids are those whose node above it is. -/
theorem kids_up (h : Wl n K) {i : Nat} (hi : i < n) : kids n K i = (List.range n).filter fun k => up n K k == (i : Int) := by
  have a := h.all hi
  have a1 := a.2.1
  have a2 := a.2.2.1
  unfold kids
  rw [chain_up h hi _ _ _ a.2.2.2.2.2 (by omega) (by omega) (fun k b c => by omega)]
  have e1 : List.range n = List.range' 0 (i + 1) ++ (List.range' (i + 1) (E n K i - (i + 1)) ++ List.range' (E n K i) (n - E n K i)) := by
    have hn : n = (i + 1) + ((E n K i - (i + 1)) + (n - E n K i)) := by omega
    have r2 : List.range' (i + 1) ((E n K i - (i + 1)) + (n - E n K i)) = List.range' (i + 1) (E n K i - (i + 1)) ++ List.range' (E n K i) (n - E n K i) := by
      rw [← List.range'_append, Nat.one_mul, show i + 1 + (E n K i - (i + 1)) = E n K i by omega]
    have r1 : List.range' 0 ((i + 1) + ((E n K i - (i + 1)) + (n - E n K i))) = List.range' 0 (i + 1) ++ List.range' (i + 1) ((E n K i - (i + 1)) + (n - E n K i)) := by
      rw [← List.range'_append, Nat.one_mul, Nat.zero_add]
    rw [← r2, ← r1, ← hn, List.range_eq_range']
  have z1 : (List.range' 0 (i + 1)).filter (fun k => up n K k == (i : Int)) = [] := by
    rw [List.filter_eq_nil_iff]
    intro k hk
    rw [List.mem_range'_1] at hk
    have := (upF_lt (En := E n K) (i := k) k).2
    unfold up
    simp
    omega
  have z2 : (List.range' (E n K i) (n - E n K i)).filter (fun k => up n K k == (i : Int)) = [] := by
    rw [List.filter_eq_nil_iff]
    intro k hk
    rw [List.mem_range'_1] at hk
    obtain ⟨q, q1, q2, q3, q4⟩ := h.above (i := k) (by omega) (by omega)
    rw [q2]
    simp
    intro hq
    have hq : q = i := by omega
    subst hq
    omega
  rw [e1, List.filter_append, List.filter_append, z1, z2, List.nil_append, List.append_nil]
end Go.Proofs.YtklmiabgalanhaaGreatDoor.Km
