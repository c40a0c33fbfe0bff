/- Lists that tell trees by numbers of kids are the parts of trees; digits of numbers below 256. Plain mathematics. -/
import Derived.Test.YtklmiabgalanhaaGreatDoorKmMath
import Derived.Test.YtklmiabgalanhaaGreatDoorTxMath
import Derived.Lib.ItoaNum
import Derived.Lib.ParseIntB
namespace Tx
open Go.Proofs.YtklmiabgalanhaaGreatDoor
set_option linter.unusedVariables false
set_option maxRecDepth 100000
section
variable {α : Type}
theorem forest {n : Nat} {K : Nat → Int} (lab : Nat → α) : ∀ (k i m j : Nat), n - i = k → Km.W n K i m = some j → ∃ f : Fo α, f.len = m ∧ f.flat = (List.range' i (j - i)).map fun t => (lab t, (K t).toNat) := by
  intro k
  induction k using Nat.strongRecOn with
  | ind k ih =>
    intro i m j hk h
    cases m with
    | zero =>
      rw [Km.W_zero] at h
      injection h with h
      subst h
      exact ⟨.nil, rfl, by simp [Fo.flat]⟩
    | succ m =>
      by_cases hb : n ≤ i ∨ K i < 0 ∨ (n : Int) < K i
      · rw [Km.W_no hb] at h; cases h
      · have hi : i < n := by omega
        obtain ⟨e, h1, h2, h3⟩ := Km.W_first h
        have h4 := h1
        rw [show (1 : Nat) = 0 + 1 from rfl, Km.W_go hi (by omega) (by omega), Nat.zero_add] at h4
        have g1 := Km.W_ge h1
        have g2 := Km.W_ge h4
        obtain ⟨f1, l1, e1⟩ := ih (n - (i + 1)) (by omega) (i + 1) _ e rfl h4
        obtain ⟨f2, l2, e2⟩ := ih (n - e) (by omega) e m j rfl h2
        refine ⟨.cons (lab i) f1 f2, by simp [Fo.len, l2], ?_⟩
        simp only [Fo.flat, l1, e1, e2]
        rw [show j - i = ((e - (i + 1)) + (j - e)) + 1 by omega, List.range'_succ, List.map_cons, show i + 1 = i + 1 * 1 by omega, ← List.range'_append, List.map_append]
        simp only [Nat.one_mul, Nat.mul_one]
        rw [show i + 1 + (e - (i + 1)) = e by omega]
theorem flat_well {n : Nat} {K : Nat → Int} : ∀ (f : Fo α) (i m : Nat), (∀ t (h : t < f.flat.length), K (i + t) = ((f.flat[t].2 : Nat) : Int)) → i + f.flat.length ≤ n → Km.W n K i (f.len + m) = Km.W n K (i + f.flat.length) m
  | .nil, i, m, _, _ => by simp [Fo.len, Fo.flat]
  | .cons a ks r, i, m, hK, hn => by
    have h0 := hK 0 (by simp [Fo.flat])
    have hl := ks.len_flat
    have hfl : (Fo.cons a ks r).flat.length = ks.flat.length + r.flat.length + 1 := by simp [Fo.flat]
    rw [hfl] at hn ⊢
    have e0 : K i = ((ks.len : Nat) : Int) := by simpa [Fo.flat] using h0
    show Km.W n K i (r.len + 1 + m) = _
    rw [show r.len + 1 + m = (r.len + m) + 1 by omega, Km.W_go (by omega) (by rw [e0]; omega) (by rw [e0]; omega), e0, Int.toNat_natCast, Nat.add_comm (r.len + m) ks.len]
    rw [flat_well ks (i + 1) (r.len + m) (fun t h => by
      have := hK (t + 1) (by rw [hfl]; omega)
      rw [show i + 1 + t = i + (t + 1) by omega, this]
      simp only [Fo.flat, List.getElem_cons_succ]
      rw [List.getElem_append_left h]) (by omega)]
    rw [flat_well r (i + 1 + ks.flat.length) m (fun t h => by
      have := hK (ks.flat.length + t + 1) (by rw [hfl]; omega)
      rw [show i + 1 + ks.flat.length + t = i + (ks.flat.length + t + 1) by omega, this]
      simp only [Fo.flat, List.getElem_cons_succ]
      rw [List.getElem_append_right (by omega)]
      simp) (by omega)]
    congr 1
    omega
end

/-! Digits. -/
def isD (c : UInt8) : Bool := decide (48 ≤ c.toNat ∧ c.toNat ≤ 57)
def val (ds : List UInt8) : Nat := ds.foldl (fun n c => 10 * n + (c.toNat - 48)) 0
theorem val_snoc (ds : List UInt8) (d : UInt8) : val (ds ++ [d]) = 10 * val ds + (d.toNat - 48) := by simp [val]
theorem fold_ge : ∀ (ds : List UInt8) (a : Nat), a ≤ ds.foldl (fun n c => 10 * n + (c.toNat - 48)) a
  | [], a => Nat.le_refl _
  | d :: ds, a => by
    have := fold_ge ds (10 * a + (d.toNat - 48))
    simp only [List.foldl_cons]; omega
theorem dec_lt {u : Nat} (h : u < 10) : Go.Lib.decDigits u = [UInt8.ofNat (48 + u)] := by rw [Go.Lib.decDigits, dif_pos h]
theorem dec_ge {u : Nat} (h : ¬ u < 10) : Go.Lib.decDigits u = Go.Lib.decDigits (u / 10) ++ [UInt8.ofNat (48 + u % 10)] := by rw [Go.Lib.decDigits, dif_neg h]
theorem ofNat_toNat {n : Nat} (h : n < 256) : (UInt8.ofNat n).toNat = n := by simp; omega
theorem toNat_ofNat (c : UInt8) : UInt8.ofNat c.toNat = c := by simp
theorem dec_all : ∀ (u : Nat), (∀ c ∈ Go.Lib.decDigits u, isD c = true) ∧ val (Go.Lib.decDigits u) = u ∧ Go.Lib.decDigits u ≠ [] := by
  intro u
  induction u using Nat.strongRecOn with
  | ind u ih =>
    by_cases h : u < 10
    · rw [dec_lt h]
      refine ⟨fun c hc => ?_, ?_, by simp⟩
      · rw [List.mem_singleton] at hc; subst hc; unfold isD; rw [ofNat_toNat (by omega)]; exact decide_eq_true (by omega)
      · show 10 * 0 + ((UInt8.ofNat (48 + u)).toNat - 48) = u
        rw [ofNat_toNat (by omega)]; omega
    · obtain ⟨h1, h2, h3⟩ := ih (u / 10) (by omega)
      rw [dec_ge h]
      refine ⟨fun c hc => ?_, ?_, by simp⟩
      · rw [List.mem_append] at hc
        rcases hc with hc | hc
        · exact h1 c hc
        · rw [List.mem_singleton] at hc; subst hc; unfold isD; rw [ofNat_toNat (by omega)]; exact decide_eq_true (by omega)
      · rw [val_snoc, h2, ofNat_toNat (by omega)]; omega
/-- Digits without a nought ahead are their number's. -/
theorem dec_val : ∀ (n : Nat) (ds : List UInt8), ds.length = n → ds ≠ [] → (∀ c ∈ ds, isD c = true) → (∀ d r, ds = d :: r → d.toNat = 48 → r = []) → Go.Lib.decDigits (val ds) = ds ∧ (1 < ds.length → 0 < val ds) := by
  intro n
  induction n with
  | zero => intro ds h h1; exact absurd (List.eq_nil_of_length_eq_zero h) h1
  | succ n ih =>
    intro ds hl hne hD hz
    obtain ⟨d0, hd⟩ : ∃ q d, ds = q ++ [d] := ⟨ds.dropLast, ds.getLast hne, (List.dropLast_concat_getLast hne).symm⟩
    obtain ⟨d, rfl⟩ := hd
    have hd := hD d (by simp)
    unfold isD at hd
    have hd := of_decide_eq_true hd
    by_cases hq : d0 = []
    · subst hq
      refine ⟨?_, fun h => by simp at h⟩
      show Go.Lib.decDigits (10 * 0 + (d.toNat - 48)) = [d]
      rw [dec_lt (by omega)]
      congr 1
      rw [show 48 + (10 * 0 + (d.toNat - 48)) = d.toNat by omega, toNat_ofNat]
    · obtain ⟨a, r, rfl⟩ : ∃ a r, d0 = a :: r := by cases d0 with | nil => exact absurd rfl hq | cons a r => exact ⟨a, r, rfl⟩
      have ha : a.toNat ≠ 48 := fun e => by have := hz a (r ++ [d]) rfl e; simp at this
      obtain ⟨e1, e2⟩ := ih (a :: r) (by simp at hl ⊢; omega) (by simp) (fun c hc => hD c (by simp at hc ⊢; rcases hc with h | h <;> simp [h])) (fun d' r' e h48 => by injection e with e1 e2; subst e1; exact absurd h48 ha)
      have hp : 0 < val (a :: r) := by
        have haD := hD a (by simp)
        unfold isD at haD
        have haD := of_decide_eq_true haD
        have : 10 * 0 + (a.toNat - 48) ≤ val (a :: r) := fold_ge r _
        omega
      rw [val_snoc]
      refine ⟨?_, fun _ => by omega⟩
      rw [dec_ge (by omega), show (10 * val (a :: r) + (d.toNat - 48)) / 10 = val (a :: r) by omega, e1, show 48 + (10 * val (a :: r) + (d.toNat - 48)) % 10 = d.toNat by omega, toNat_ofNat]
/-- And the other way round. -/
theorem dec_head : ∀ (u : Nat) (d : UInt8) (r : List UInt8), Go.Lib.decDigits u = d :: r → d.toNat = 48 → r = [] ∧ u = 0 := by
  intro u
  induction u using Nat.strongRecOn with
  | ind u ih =>
    intro d r h h48
    by_cases hu : u < 10
    · rw [dec_lt hu] at h
      injection h with h1 h2
      rw [← h1, ofNat_toNat (by omega)] at h48
      exact ⟨h2.symm, by omega⟩
    · rw [dec_ge hu] at h
      cases hq : Go.Lib.decDigits (u / 10) with
      | nil => exact absurd hq (dec_all (u / 10)).2.2
      | cons a q =>
        rw [hq] at h
        injection h with h1 h2
        obtain ⟨_, h3⟩ := ih (u / 10) (by omega) a q hq (by rw [h1]; exact h48)
        omega
/-- What digits may tell a kind. -/
def okD (ds : List UInt8) : Prop := val ds < 256 ∧ ds = Go.Lib.decDigits (val ds)
instance (ds : List UInt8) : Decidable (okD ds) := by unfold okD; infer_instance
theorem okD_dec {u : Nat} (h : u < 256) : okD (Go.Lib.decDigits u) := by
  unfold okD; rw [(dec_all u).2.1]; exact ⟨h, rfl⟩
theorem fold_big (ds : List UInt8) (a : Nat) (h : 256 ≤ a) : 256 ≤ ds.foldl (fun n c => 10 * n + (c.toNat - 48)) a := Nat.le_trans h (fold_ge ds a)
/-- The library's reading of digits. -/
theorem parse_digits : ∀ (ds : List UInt8) (a : Nat), a ≤ 255 → (∀ c ∈ ds, isD c = true) → Go.Lib.parseUintM 255 a ds = if ds.foldl (fun n c => 10 * n + (c.toNat - 48)) a < 256 then .ok (ds.foldl (fun n c => 10 * n + (c.toNat - 48)) a) else .range
  | [], a, ha, _ => by
    show Go.Lib.NumEnd.ok a = if a < 256 then Go.Lib.NumEnd.ok a else .range
    rw [if_pos (by omega)]
  | d :: ds, a, ha, hD => by
    have hd := hD d (by simp)
    unfold isD at hd
    have hd := of_decide_eq_true hd
    simp only [Go.Lib.parseUintM, if_pos hd, List.foldl_cons]
    rw [if_neg (by omega), show a * 10 + (d.toNat - 48) = 10 * a + (d.toNat - 48) by omega]
    by_cases h : 255 < 10 * a + (d.toNat - 48)
    · have := fold_big ds _ (show 256 ≤ 10 * a + (d.toNat - 48) by omega)
      rw [if_pos h]
      exact (if_neg (Nat.not_lt.2 this)).symm
    · rw [if_neg h]
      exact parse_digits ds _ (by omega) (fun c hc => hD c (by simp [hc]))
theorem parseB_digits (ds : List UInt8) (hD : ∀ c ∈ ds, isD c = true) : Go.Lib.parseUintB 8 ds = if ds = [] then Go.Lib.NumEnd.syntax else if val ds < 256 then .ok (val ds) else .range := by
  unfold Go.Lib.parseUintB
  by_cases h : ds = []
  · rw [if_pos h, if_pos h]
  · rw [if_neg h, if_neg h]
    exact parse_digits ds 0 (by omega) hD
end Tx
