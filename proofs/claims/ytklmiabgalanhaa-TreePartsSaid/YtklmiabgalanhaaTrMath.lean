/- Plain mathematics of trees over tokens: which lists are trees, a stack of open nodes, who stands above whom, whose token is whose. Nothing of the program is named here. -/
import Derived.Test.YtklmiabgalanhaaKmMath
namespace Go.Proofs.Ytklmiabgalanhaa.Tm
open Km
set_option maxRecDepth 100000
set_option linter.unusedVariables false

/-- A node: its kind, how many kids, its word, its tokens. -/
structure Nd where
  k : Nat
  c : Int
  w : Int
  f : Int
  t : Int
instance : Inhabited Nd := ⟨⟨0, 0, 0, 0, 0⟩⟩

def has (x : Nd) (t : Int) : Prop := x.f ≤ t ∧ t < x.t
instance (x : Nd) (t : Int) : Decidable (has x t) := by unfold has; infer_instance
def fits (x : Nd) (N : Int) : Prop := x.k ≤ 68 ∧ 0 ≤ x.c ∧ 0 ≤ x.f ∧ x.f ≤ x.t ∧ x.t ≤ N ∧ (x.w = -1 ∨ has x x.w)
instance (x : Nd) (N : Int) : Decidable (fits x N) := by unfold fits; infer_instance
def fin (x p : Nd) (at_ : Int) : Prop := at_ ≤ x.f ∧ x.t ≤ p.t ∧ ¬ has x p.w
instance (x p : Nd) (a : Int) : Decidable (fin x p a) := by unfold fin; infer_instance

/-- Kids that may stand, from a token on. -/
def ko (x : Nat → Nd) (p : Nd) : Int → List Nat → Bool
  | _, [] => true
  | a, c :: r => decide (a ≤ (x c).f ∧ (x c).f ≤ (x c).t ∧ (x c).t ≤ p.t ∧ ¬ has (x c) p.w) && ko x p (x c).t r

variable {n : Nat} {x : Nat → Nd} {N : Int}
def Kx (x : Nat → Nd) : Nat → Int := fun i => (x i).c
def KO (n : Nat) (x : Nat → Nd) (i : Nat) : Prop := ko x (x i) (x i).f (kids n (Kx x) i) = true
/-- A tree of so many tokens. -/
def Tr (n : Nat) (x : Nat → Nd) (N : Int) : Prop := Wl n (Kx x) ∧ ∀ i, i < n → fits (x i) N ∧ KO n x i
theorem tr_dec (n : Nat) (x : Nat → Nd) (N : Int) : Tr n x N ∨ ¬ Tr n x N := Classical.em _

/-- An open node: its number, how many kids are to come, where the last one ends. -/
structure Fr where
  p : Nat
  l : Int
  b : Int
def popz : List Fr → List Fr
  | [] => []
  | f :: r => if f.l = 0 then popz r else f :: r
/-- One node more. -/
def stU (x : Nat → Nd) (N : Int) (i : Nat) (st : List Fr) : Option (List Fr) :=
  if fits (x i) N then
    match st with
    | [] => if i = 0 then some (popz [⟨i, (x i).c, (x i).f⟩]) else none
    | t :: r => if fin (x i) (x t.p) t.b then some (popz (⟨i, (x i).c, (x i).f⟩ :: ⟨t.p, t.l - 1, (x i).t⟩ :: r)) else none
  else none
def uA (x : Nat → Nd) (N : Int) : Nat → Option (List Fr)
  | 0 => some []
  | i + 1 => (uA x N i).bind fun st => stU x N i st
theorem uA_none {i : Nat} (h : uA x N i = none) : ∀ j, i ≤ j → uA x N j = none
  | 0, hj => by obtain rfl : i = 0 := by omega
                exact h
  | j + 1, hj => by
    by_cases e : i = j + 1
    · subst e; exact h
    · unfold uA; rw [uA_none h j (by omega)]; rfl
/-- Who stands above, by the stack. -/
def abo (x : Nat → Nd) (N : Int) (i : Nat) : Int := match uA x N i with | some (t :: _) => (t.p : Int) | _ => -1

theorem popz_top : ∀ (st : List Fr), (∀ f ∈ st, 0 ≤ f.l) → ∀ t r, popz st = t :: r → 0 < t.l ∧ ∀ f ∈ r, 0 ≤ f.l
  | [], _, t, r, h => by cases h
  | f :: s, hl, t, r, h => by
    unfold popz at h
    by_cases h0 : f.l = 0
    · rw [if_pos h0] at h
      exact popz_top s (fun g hg => hl g (List.mem_cons_of_mem _ hg)) t r h
    · rw [if_neg h0] at h
      injection h with h1 h2
      subst h1 h2
      have := hl f (List.mem_cons_self ..)
      exact ⟨by omega, fun g hg => hl g (List.mem_cons_of_mem _ hg)⟩
/-- What holds of every stack. -/
def Top (st : List Fr) : Prop := (∀ f ∈ st, 0 ≤ f.l) ∧ ∀ t r, st = t :: r → 0 < t.l
theorem popz_mem : ∀ (st : List Fr) f, f ∈ popz st → f ∈ st
  | [], f, h => h
  | g :: s, f, h => by
    unfold popz at h
    by_cases h0 : g.l = 0
    · rw [if_pos h0] at h; exact List.mem_cons_of_mem _ (popz_mem s f h)
    · rw [if_neg h0] at h; exact h
theorem top_popz {st : List Fr} (h : ∀ f ∈ st, 0 ≤ f.l) : Top (popz st) := ⟨fun f hf => h f (popz_mem st f hf), fun t r e => (popz_top st h t r e).1⟩
theorem stU_fits {i : Nat} {st st' : List Fr} (h : stU x N i st = some st') : fits (x i) N := by
  unfold stU at h
  by_cases hf : fits (x i) N
  · exact hf
  · rw [if_neg hf] at h; cases h
theorem stU_top {i : Nat} {st st' : List Fr} (ht : Top st) (h : stU x N i st = some st') : Top st' := by
  have hf := stU_fits h
  unfold stU at h
  rw [if_pos hf] at h
  have hc : 0 ≤ (x i).c := hf.2.1
  cases st with
  | nil =>
    dsimp only at h
    split at h
    · injection h with h; subst h; exact top_popz (by intro f hm; rw [List.mem_singleton] at hm; subst hm; exact hc)
    · cases h
  | cons t r =>
    dsimp only at h
    split at h
    · injection h with h; subst h
      refine top_popz fun f hm => ?_
      rcases List.mem_cons.1 hm with rfl | hm
      · exact hc
      · rcases List.mem_cons.1 hm with rfl | hm
        · have := ht.2 t r rfl; show 0 ≤ t.l - 1; omega
        · exact ht.1 f (List.mem_cons_of_mem _ hm)
    · cases h
theorem uA_top : ∀ {i : Nat} {st : List Fr}, uA x N i = some st → Top st
  | 0, st, h => by injection h with h; subst h; exact ⟨fun f hf => by simp at hf, fun t r e => by cases e⟩
  | i + 1, st, h => by
    unfold uA at h
    cases hu : uA x N i with
    | none => rw [hu] at h; cases h
    | some s => rw [hu] at h; exact stU_top (uA_top hu) h

theorem uA_lt : ∀ {i : Nat} {st : List Fr}, uA x N i = some st → ∀ f ∈ st, f.p < i
  | 0, st, h => by injection h with h; subst h; intro f hf; simp at hf
  | i + 1, st, h => by
    unfold uA at h
    cases hu : uA x N i with
    | none => rw [hu] at h; cases h
    | some s =>
      rw [hu] at h
      have h : stU x N i s = some st := h
      have hf := stU_fits h
      have ih := uA_lt hu
      unfold stU at h
      rw [if_pos hf] at h
      cases s with
      | nil =>
        dsimp only at h
        split at h
        · injection h with h; subst h
          intro f hm
          have hm := popz_mem _ f hm
          rw [List.mem_singleton] at hm; subst hm; exact Nat.lt_succ_self i
        · cases h
      | cons t r =>
        dsimp only at h
        split at h
        · injection h with h; subst h
          intro f hm
          have hm := popz_mem _ f hm
          rcases List.mem_cons.1 hm with rfl | hm
          · exact Nat.lt_succ_self i
          · rcases List.mem_cons.1 hm with rfl | hm
            · have := ih t (List.mem_cons_self ..); show t.p < i + 1; omega
            · have := ih f (List.mem_cons_of_mem _ hm); omega
        · cases h
theorem popz_len : ∀ (st : List Fr), (popz st).length ≤ st.length
  | [] => Nat.le_refl _
  | f :: r => by
    unfold popz
    split
    · have := popz_len r; rw [List.length_cons]; omega
    · exact Nat.le_refl _
theorem uA_len : ∀ {i : Nat} {st : List Fr}, uA x N i = some st → st.length ≤ i
  | 0, st, h => by injection h with h; subst h; exact Nat.le_refl _
  | i + 1, st, h => by
    unfold uA at h
    cases hu : uA x N i with
    | none => rw [hu] at h; cases h
    | some s =>
      rw [hu] at h
      have h : stU x N i s = some st := h
      have ih := uA_len hu
      unfold stU at h
      split at h
      · cases s with
        | nil =>
          dsimp only at h
          split at h
          · injection h with h; subst h
            exact Nat.le_trans (popz_len _) (by simp)
          · cases h
        | cons t r =>
          dsimp only at h
          split at h
          · injection h with h; subst h
            exact Nat.le_trans (popz_len _) (by simp at ih ⊢; omega)
          · cases h
      · cases h
theorem uA_bnd {M : Int} : ∀ {i : Nat} {st : List Fr}, (∀ k, k < i → (x k).c ≤ M) → uA x N i = some st → ∀ f ∈ st, f.l ≤ M
  | 0, st, _, h => by injection h with h; subst h; intro f hf; simp at hf
  | i + 1, st, hM, h => by
    unfold uA at h
    cases hu : uA x N i with
    | none => rw [hu] at h; cases h
    | some s =>
      rw [hu] at h
      have h : stU x N i s = some st := h
      have ih := uA_bnd (fun k hk => hM k (by omega)) hu
      have hc := hM i (Nat.lt_succ_self i)
      unfold stU at h
      split at h
      · cases s with
        | nil =>
          dsimp only at h
          split at h
          · injection h with h; subst h
            intro f hm
            have hm := popz_mem _ f hm
            rw [List.mem_singleton] at hm; subst hm; exact hc
          · cases h
        | cons t r =>
          dsimp only at h
          split at h
          · injection h with h; subst h
            intro f hm
            have hm := popz_mem _ f hm
            rcases List.mem_cons.1 hm with rfl | hm
            · exact hc
            · rcases List.mem_cons.1 hm with rfl | hm
              · have := ih t (List.mem_cons_self ..); show t.l - 1 ≤ M; omega
              · exact ih f (List.mem_cons_of_mem _ hm)
          · cases h
      · cases h
theorem uA_succ {i : Nat} {st : List Fr} (h : uA x N i = some st) : uA x N (i + 1) = stU x N i st := by
  conv => lhs; unfold uA
  rw [h]; rfl
theorem stU_no {i : Nat} {st : List Fr} (h : ¬ fits (x i) N) : stU x N i st = none := by unfold stU; rw [if_neg h]
theorem stU_first (h : fits (x 0) N) : stU x N 0 [] = some (popz [⟨0, (x 0).c, (x 0).f⟩]) := by unfold stU; rw [if_pos h]; rfl
theorem stU_empty {i : Nat} (h0 : 0 < i) : stU x N i [] = none := by
  unfold stU
  split
  · exact if_neg (by omega)
  · rfl
theorem stU_fin {i : Nat} {t : Fr} {r : List Fr} (h : fits (x i) N) (h1 : fin (x i) (x t.p) t.b) : stU x N i (t :: r) = some (popz (⟨i, (x i).c, (x i).f⟩ :: ⟨t.p, t.l - 1, (x i).t⟩ :: r)) := by
  unfold stU; rw [if_pos h]; exact if_pos h1
theorem stU_cross {i : Nat} {t : Fr} {r : List Fr} (h1 : ¬ fin (x i) (x t.p) t.b) : stU x N i (t :: r) = none := by
  unfold stU
  split
  · exact if_neg h1
  · rfl
theorem popz_done {f : Fr} {r : List Fr} (h : f.l ≠ 0) : popz (f :: r) = f :: r := by unfold popz; rw [if_neg h]
theorem popz_more {f : Fr} {r : List Fr} (h : f.l = 0) : popz (f :: r) = popz r := by
  conv => lhs; unfold popz
  exact if_pos h
theorem abo_cons {i : Nat} {t : Fr} {r : List Fr} (h : uA x N i = some (t :: r)) : abo x N i = (t.p : Int) := by unfold abo; rw [h]
theorem abo_nil {i : Nat} (h : uA x N i = some []) : abo x N i = -1 := by unfold abo; rw [h]

/-- How many trees are still to come. -/
def sm : List Fr → Nat
  | [] => 0
  | f :: r => f.l.toNat + sm r
theorem sm_popz : ∀ (st : List Fr), sm (popz st) = sm st
  | [] => rfl
  | f :: r => by
    unfold popz
    by_cases h : f.l = 0
    · rw [if_pos h, sm_popz r]; simp [sm, h]
    · rw [if_neg h]
theorem uA_sm : ∀ {i : Nat} {st : List Fr}, uA x N i = some st → i ≤ n → 0 < i → W n (Kx x) 0 1 = W n (Kx x) i (sm st)
  | 0, st, h, _, h0 => by omega
  | i + 1, st, h, hi, _ => by
    unfold uA at h
    cases hu : uA x N i with
    | none => rw [hu] at h; cases h
    | some s =>
      rw [hu] at h
      have h : stU x N i s = some st := h
      have hf := stU_fits h
      have ht := uA_top hu
      unfold stU at h
      rw [if_pos hf] at h
      have hc : 0 ≤ Kx x i := hf.2.1
      cases s with
      | nil =>
        dsimp only at h
        split at h
        · rename_i h0; injection h with h; subst h; subst h0
          have e1 : W n (Kx x) 0 (0 + 1) = W n (Kx x) (0 + 1) (0 + (Kx x 0).toNat) := W_up (by omega) hc
          rw [sm_popz]
          refine e1.trans ?_
          congr 1
          show 0 + (x 0).c.toNat = (x 0).c.toNat + 0
          omega
        · cases h
      | cons t r =>
        dsimp only at h
        split at h
        · injection h with h; subst h
          have hp := ht.2 t r rfl
          have h0 : 0 < i := by
            rcases Nat.eq_zero_or_pos i with rfl | h
            · unfold uA at hu; injection hu with hu; cases hu
            · exact h
          rw [sm_popz, uA_sm hu (by omega) h0]
          have e1 : sm (t :: r) = ((t.l - 1).toNat + sm r) + 1 := by simp only [sm]; omega
          rw [e1, W_up (by omega) hc]
          congr 1
          show _ = (x i).c.toNat + ((t.l - 1).toNat + sm r)
          show (t.l - 1).toNat + sm r + (x i).c.toNat = _
          omega
        · cases h

/-- What the stack says of a list that is well. -/
def SI (n : Nat) (x : Nat → Nd) (i : Nat) : Nat → Nat → List Fr → Prop
  | c, hi, [] => (∀ k, k < hi → E n (Kx x) k ≤ i ∧ KO n x k) ∧ (0 < i → c = n)
  | c, hi, f :: r => f.p < hi ∧ W n (Kx x) c f.l.toNat = some (E n (Kx x) f.p) ∧ (∀ k, f.p < k → k < hi → E n (Kx x) k ≤ i ∧ KO n x k)
      ∧ (KO n x f.p ↔ ko x (x f.p) f.b (chain (E n (Kx x)) (E n (Kx x) f.p) n c) = true) ∧ SI n x i (E n (Kx x) f.p) f.p r
theorem SI.mono {i j : Nat} (h0 : 0 < i) (hij : i ≤ j) : ∀ {st : List Fr} {c hi : Nat}, SI n x i c hi st → SI n x j c hi st
  | [], c, hi, h => ⟨fun k hk => ⟨by have := (h.1 k hk).1; omega, (h.1 k hk).2⟩, fun _ => h.2 h0⟩
  | f :: r, c, hi, h => ⟨h.1, h.2.1, fun k a b => ⟨by have := (h.2.2.1 k a b).1; omega, (h.2.2.1 k a b).2⟩, h.2.2.2.1, SI.mono h0 hij h.2.2.2.2⟩
theorem SI.popz {j : Nat} : ∀ {st : List Fr} {hi : Nat}, hi ≤ j → SI n x j j hi st → (∀ k, hi ≤ k → k < j → E n (Kx x) k ≤ j ∧ KO n x k) → SI n x j j j (popz st)
  | [], hi, _, h, hk => ⟨fun k a => if b : k < hi then h.1 k b else hk k (by omega) a, h.2⟩
  | f :: r, hi, hj, h, hk => by
    obtain ⟨h1, h2, h3, h4, h5⟩ := h
    unfold Tm.popz
    by_cases h0 : f.l = 0
    · rw [if_pos h0]
      rw [h0] at h2
      rw [show (0 : Int).toNat = 0 from rfl, W_zero] at h2
      injection h2 with h2
      have hko : KO n x f.p := h4.2 (by rw [← h2, chain_done (Nat.le_refl _)]; rfl)
      rw [← h2] at h5
      refine SI.popz (by omega) h5 fun k a b => ?_
      by_cases e1 : k = f.p
      · subst e1; exact ⟨by omega, hko⟩
      · by_cases e2 : k < hi
        · exact h3 k (by omega) e2
        · exact hk k (by omega) b
    · rw [if_neg h0]
      exact ⟨by omega, h2, fun k a b => if e : k < hi then h3 k a e else hk k (by omega) b, h4, h5⟩

theorem si_step (hw : Wl n (Kx x)) {i : Nat} (hi : i < n) {st st' : List Fr} (ht : Top st) (h : SI n x i i i st) (hs : stU x N i st = some st') : SI n x (i + 1) (i + 1) (i + 1) st' := by
  have hf := stU_fits hs
  have hai := hw.all hi
  unfold stU at hs
  rw [if_pos hf] at hs
  cases st with
  | nil =>
    dsimp only at hs
    split at hs
    · rename_i h0
      injection hs with hs; subst hs; subst h0
      refine SI.popz (hi := 1) (Nat.le_refl _) ⟨Nat.zero_lt_one, hai.2.2.2.2.2, fun k a b => by dsimp only at a; omega, Iff.rfl, fun k a => by dsimp only at a; omega, fun _ => hw.root⟩ fun k a b => by omega
    · cases hs
  | cons t r =>
    dsimp only at hs
    split at hs
    · rename_i hfin
      injection hs with hs; subst hs
      obtain ⟨h1, h2, h3, h4, h5⟩ := h
      have htl := ht.2 t r rfl
      have htp : t.p < n := by omega
      have hl : t.l.toNat = (t.l - 1).toNat + 1 := by omega
      rw [hl] at h2
      obtain ⟨s1, s2, s3, s4⟩ := hw.step h2
      have hE : ∀ c, c < E n (Kx x) t.p → c < E n (Kx x) c := fun c hc => (hw.all (by have := (hw.all htp).2.2.1; omega)).2.1
      have hch : chain (E n (Kx x)) (E n (Kx x) t.p) n i = i :: chain (E n (Kx x)) (E n (Kx x) t.p) n (E n (Kx x) i) := chain_step hE (by omega) (by have := (hw.all htp).2.2.1; omega)
      refine SI.popz (hi := i + 1) (Nat.le_refl _) ⟨Nat.lt_succ_self _, hai.2.2.2.2.2, fun k a b => by dsimp only at a; omega, Iff.rfl, ?_⟩ fun k a b => by omega
      refine ⟨h1, s4, fun k a b => ⟨by have := (h3 k a b).1; omega, (h3 k a b).2⟩, ?_, SI.mono (by omega) (by omega) h5⟩
      rw [h4, hch]
      show (decide _ && _) = true ↔ _
      rw [Bool.and_eq_true, decide_eq_true_eq]
      exact ⟨fun h => h.2, fun h => ⟨⟨hfin.1, hf.2.2.2.1, hfin.2.1, hfin.2.2⟩, h⟩⟩
    · cases hs

theorem uA_si (hw : Wl n (Kx x)) : ∀ {i : Nat} {st : List Fr}, uA x N i = some st → i ≤ n → SI n x i i i st ∧ ∀ k, k < i → fits (x k) N
  | 0, st, h, _ => by injection h with h; subst h; exact ⟨⟨fun k a => by omega, fun a => by omega⟩, fun k a => by omega⟩
  | i + 1, st, h, hi => by
    unfold uA at h
    cases hu : uA x N i with
    | none => rw [hu] at h; cases h
    | some s =>
      rw [hu] at h
      have h : stU x N i s = some st := h
      obtain ⟨a, b⟩ := uA_si hw hu (by omega)
      refine ⟨si_step hw (by omega) (uA_top hu) a h, fun k hk => ?_⟩
      by_cases e : k = i
      · subst e; exact stU_fits h
      · exact b k (by omega)

theorem tr_of_uA (h0 : 0 < n) (h : uA x N n = some []) : Tr n x N := by
  have hw : Wl n (Kx x) := by
    have := uA_sm (n := n) h (Nat.le_refl _) h0
    unfold Wl; rw [this]; exact W_zero n
  obtain ⟨a, b⟩ := uA_si hw h (Nat.le_refl _)
  exact ⟨hw, fun i hi => ⟨b i hi, (a.1 i hi).2⟩⟩
theorem uA_of_tr (h : Tr n x N) : ∀ {i : Nat}, i ≤ n → ∃ st, uA x N i = some st
  | 0, _ => ⟨[], rfl⟩
  | i + 1, hi => by
    obtain ⟨s, hs⟩ := uA_of_tr h (i := i) (by omega)
    obtain ⟨a, b⟩ := uA_si h.1 hs (by omega)
    have ht := uA_top hs
    have hf := (h.2 i (by omega)).1
    have : ∃ st, stU x N i s = some st := by
      unfold stU
      rw [if_pos hf]
      cases s with
      | nil =>
        dsimp only
        by_cases h0 : i = 0
        · exact ⟨_, if_pos h0⟩
        · have := a.2 (by omega); omega
      | cons t r =>
        obtain ⟨h1, h2, h3, h4, h5⟩ := a
        have htl := ht.2 t r rfl
        have hl : t.l.toNat = (t.l - 1).toNat + 1 := by omega
        rw [hl] at h2
        obtain ⟨s1, s2, s3, s4⟩ := h.1.step h2
        have hE : ∀ c, c < E n (Kx x) t.p → c < E n (Kx x) c := fun c hc => (h.1.all (by have := (h.1.all (i := t.p) (by omega)).2.2.1; omega)).2.1
        have hk := h4.1 (h.2 t.p (by omega)).2
        rw [chain_step hE (by omega) (by have := (h.1.all (i := t.p) (by omega)).2.2.1; omega)] at hk
        have hk : (decide _ && _) = true := hk
        rw [Bool.and_eq_true, decide_eq_true_eq] at hk
        exact ⟨_, if_pos ⟨hk.1.1, hk.1.2.2.1, hk.1.2.2.2⟩⟩
    obtain ⟨st, e⟩ := this
    exact ⟨st, by unfold uA; rw [hs]; exact e⟩
/-- The stack's answer is the document's. -/
theorem uA_iff (h0 : 0 < n) : uA x N n = some [] ↔ Tr n x N := by
  refine ⟨tr_of_uA h0, fun h => ?_⟩
  obtain ⟨st, hs⟩ := uA_of_tr h (Nat.le_refl n)
  obtain ⟨a, b⟩ := uA_si h.1 hs (Nat.le_refl _)
  cases st with
  | nil => exact hs
  | cons t r =>
    have htl := (uA_top hs).2 t r rfl
    obtain ⟨h1, h2, _⟩ := a
    rw [show t.l.toNat = (t.l - 1).toNat + 1 by omega, W_no (by omega)] at h2
    cases h2
theorem abo_up (h : Tr n x N) {i : Nat} (hi : i < n) : abo x N i = up n (Kx x) i := by
  obtain ⟨st, hs⟩ := uA_of_tr h (i := i) (by omega)
  obtain ⟨a, b⟩ := uA_si h.1 hs (by omega)
  unfold abo
  rw [hs]
  cases st with
  | nil =>
    rcases Nat.eq_zero_or_pos i with rfl | h0
    · rfl
    · have := a.2 h0; omega
  | cons t r =>
    have htl := (uA_top hs).2 t r rfl
    obtain ⟨h1, h2, h3, _⟩ := a
    have := W_ge h2
    exact (up_is h1 (by omega) fun k a b => (h3 k a b).1).symm
theorem tr_no {i : Nat} (h0 : 0 < n) (h : uA x N i = none) (hi : i ≤ n) : ¬ Tr n x N := fun ht => by
  have := (uA_iff h0).2 ht
  rw [uA_none h n hi] at this; cases this
theorem tr_left {t : Fr} {r : List Fr} (h0 : 0 < n) (h : uA x N n = some (t :: r)) : ¬ Tr n x N := fun ht => by
  have := (uA_iff h0).2 ht
  rw [h] at this; cases this
theorem not_tr_nil : ¬ Tr 0 x N := fun h => by have := h.1.pos; omega

/-! ## Whose token is whose -/
theorem ko_all {x : Nat → Nd} {p : Nd} : ∀ {l : List Nat} {a : Int}, ko x p a l = true → ∀ c ∈ l, a ≤ (x c).f ∧ (x c).f ≤ (x c).t ∧ (x c).t ≤ p.t ∧ ¬ has (x c) p.w
  | [], a, _, c, hc => by cases hc
  | d :: r, a, h, c, hc => by
    have h : (decide _ && _) = true := h
    rw [Bool.and_eq_true, decide_eq_true_eq] at h
    rcases List.mem_cons.1 hc with rfl | hc
    · exact h.1
    · have := ko_all h.2 c hc; exact ⟨by omega, this.2⟩
theorem ko_sort {x : Nat → Nd} {p : Nd} : ∀ {l : List Nat} {a : Int}, ko x p a l = true → l.Pairwise fun c d => (x c).t ≤ (x d).f
  | [], a, _ => .nil
  | d :: r, a, h => by
    have h : (decide _ && _) = true := h
    rw [Bool.and_eq_true, decide_eq_true_eq] at h
    exact .cons (fun c hc => (ko_all h.2 c hc).1) (ko_sort h.2)
theorem kids_mem (hw : Wl n (Kx x)) {i c : Nat} (hi : i < n) : c ∈ kids n (Kx x) i ↔ c < n ∧ up n (Kx x) c = (i : Int) := by
  rw [kids_up hw hi, List.mem_filter, List.mem_range, beq_iff_eq]
theorem kids_lt (hw : Wl n (Kx x)) {i : Nat} (hi : i < n) : (kids n (Kx x) i).Pairwise (· < ·) := by
  rw [kids_up hw hi]
  exact List.Pairwise.filter _ (List.pairwise_lt_range ..)
theorem pair_of {R : Nat → Nat → Prop} : ∀ {l : List Nat}, l.Pairwise R → l.Pairwise (· < ·) → ∀ c d, c ∈ l → d ∈ l → c < d → R c d
  | [], _, _, c, d, hc, _, _ => by cases hc
  | e :: r, h1, h2, c, d, hc, hd, hcd => by
    rw [List.pairwise_cons] at h1 h2
    rcases List.mem_cons.1 hc with rfl | hc
    · rcases List.mem_cons.1 hd with rfl | hd
      · omega
      · exact h1.1 d hd
    · rcases List.mem_cons.1 hd with e | hd
      · have := h2.1 c hc; omega
      · exact pair_of h1.2 h2.2 c d hc hd hcd
theorem Tr.kid (h : Tr n x N) {p c : Nat} (hc : c < n) (hu : up n (Kx x) c = (p : Int)) : p < c ∧ (x p).f ≤ (x c).f ∧ (x c).t ≤ (x p).t ∧ ¬ has (x c) (x p).w := by
  have h1 := (upF_lt (En := E n (Kx x)) (i := c) c).2
  unfold up at hu
  have hp : p < n := by omega
  have := ko_all (h.2 p hp).2 c ((kids_mem h.1 hp).2 ⟨hc, hu⟩)
  exact ⟨by omega, this.1, this.2.2.1, this.2.2.2⟩
theorem Tr.sib (h : Tr n x N) {p c d : Nat} (hd : d < n) (hcd : c < d) (h1 : up n (Kx x) c = (p : Int)) (h2 : up n (Kx x) d = (p : Int)) : (x c).t ≤ (x d).f := by
  have hp := (h.kid hd h2).1
  have hpn : p < n := by omega
  exact pair_of (ko_sort (h.2 p hpn).2) (kids_lt h.1 hpn) c d ((kids_mem h.1 hpn).2 ⟨by omega, h1⟩) ((kids_mem h.1 hpn).2 ⟨hd, h2⟩) hcd
/-- A node's tokens are among those of every node above it. -/
theorem Tr.nest (h : Tr n x N) {u : Nat} (hu : u < n) : ∀ v, v < n → u < v → v < E n (Kx x) u → (x u).f ≤ (x v).f ∧ (x v).t ≤ (x u).t := by
  intro v
  induction v using Nat.strongRecOn with
  | ind v ih =>
    intro hv h1 h2
    obtain ⟨p, p1, p2, p3, p4⟩ := h.1.above (i := v) (by omega) hv
    have hk := h.kid hv p2
    by_cases e : u = p
    · subst e; exact ⟨hk.2.1, hk.2.2.1⟩
    · have : u < p := by
        by_cases hlt : u < p
        · exact hlt
        · have := p4 u (by omega) h1; omega
      have hr := ih p p1 (by omega) this (by omega)
      exact ⟨by omega, by omega⟩
/-- The kid on the way down. -/
theorem way_down (hw : Wl n (Kx x)) {u : Nat} (hu : u < n) : ∀ v, v < n → u < v → v < E n (Kx x) u → ∃ c, c < n ∧ up n (Kx x) c = (u : Int) ∧ c ≤ v ∧ v < E n (Kx x) c := by
  intro v
  induction v using Nat.strongRecOn with
  | ind v ih =>
    intro hv h1 h2
    obtain ⟨p, p1, p2, p3, p4⟩ := hw.above (i := v) (by omega) hv
    by_cases e : u = p
    · subst e; exact ⟨v, hv, p2, Nat.le_refl _, (hw.all hv).2.1⟩
    · have : u < p := by
        by_cases hlt : u < p
        · exact hlt
        · have := p4 u (by omega) h1; omega
      obtain ⟨c, c1, c2, c3, c4⟩ := ih p p1 (by omega) this (by omega)
      refine ⟨c, c1, c2, by omega, ?_⟩
      by_cases e2 : c = p
      · subst e2; exact p3
      · have := hw.lam c1 (by omega) c4; omega
/-- Trees that stand apart have tokens apart. -/
theorem Tr.apart (h : Tr n x N) {u : Nat} (hu : u < n) : ∀ v, v < n → u < v → E n (Kx x) u ≤ v → (x u).t ≤ (x v).f := by
  intro v
  induction v using Nat.strongRecOn with
  | ind v ih =>
    intro hv h1 h2
    obtain ⟨p, p1, p2, p3, p4⟩ := h.1.above (i := v) (by omega) hv
    by_cases e : u = p
    · subst e; omega
    · by_cases hlt : p < u
      · obtain ⟨c, c1, c2, c3, c4⟩ := way_down h.1 (by omega) u hu hlt (by omega)
        have hcv : c < v := by omega
        have hs := h.sib hv hcv c2 p2
        by_cases e2 : c = u
        · subst e2; exact hs
        · have := h.nest c1 u hu (by omega) c4; omega
      · have hup : u < p := by omega
        have : E n (Kx x) u ≤ p := by
          by_cases h5 : E n (Kx x) u ≤ p
          · exact h5
          · have := h.1.lam hu hup (by omega); omega
        have hr := ih p p1 (by omega) hup this
        have hk := h.kid hv p2
        omega
/-- A node's own tokens. -/
def own (n : Nat) (x : Nat → Nd) (i : Nat) (t : Int) : Prop := has (x i) t ∧ ∀ c, c < n → up n (Kx x) c = (i : Int) → ¬ has (x c) t
/-- The last one that has a token. -/
def over (x : Nat → Nd) (t : Int) : Nat → Int
  | 0 => -1
  | k + 1 => if has (x k) t then (k : Int) else over x t k
theorem over_is {t : Int} : ∀ {k v : Nat}, v < k → has (x v) t → (∀ j, v < j → j < k → ¬ has (x j) t) → over x t k = (v : Int)
  | 0, v, h, _, _ => by omega
  | k + 1, v, h, h1, h2 => by
    unfold over
    by_cases e : k = v
    · subst e; rw [if_pos h1]
    · rw [if_neg (h2 k (by omega) (by omega))]
      exact over_is (by omega) h1 fun j a b => h2 j a (by omega)
theorem over_none {t : Int} : ∀ {k : Nat}, (∀ j, j < k → ¬ has (x j) t) → over x t k = -1
  | 0, _ => rfl
  | k + 1, h => by unfold over; rw [if_neg (h k (by omega))]; exact over_none fun j a => h j (by omega)
theorem over_spec {t : Int} : ∀ (k : Nat), (∃ v, v < k ∧ over x t k = (v : Int) ∧ has (x v) t ∧ ∀ j, v < j → j < k → ¬ has (x j) t) ∨ (over x t k = -1 ∧ ∀ j, j < k → ¬ has (x j) t)
  | 0 => .inr ⟨rfl, fun j h => by omega⟩
  | k + 1 => by
    by_cases e : has (x k) t
    · exact .inl ⟨k, by omega, by unfold over; rw [if_pos e], e, fun j a b => by omega⟩
    · have e1 : over x t (k + 1) = over x t k := by conv => lhs; unfold over
                                                    rw [if_neg e]
      rw [e1]
      rcases over_spec (t := t) k with ⟨v, h1, h2, h3, h4⟩ | ⟨h1, h2⟩
      · refine .inl ⟨v, by omega, h2, h3, fun j a b => ?_⟩
        by_cases e2 : j = k
        · subst e2; exact e
        · exact h4 j a (by omega)
      · refine .inr ⟨h1, fun j a => ?_⟩
        by_cases e2 : j = k
        · subst e2; exact e
        · exact h2 j (by omega)
/-- Each token of the root is one node's own. -/
theorem Tr.owner (h : Tr n x N) {t : Int} (ht : has (x 0) t) : ∃ v, v < n ∧ over x t n = (v : Int) ∧ ∀ i, i < n → (own n x i t ↔ i = v) := by
  have h0 := h.1.pos
  rcases over_spec (x := x) (t := t) n with ⟨v, h1, h2, h3, h4⟩ | ⟨_, h2⟩
  · refine ⟨v, h1, h2, fun i hi => ⟨fun ho => ?_, fun e => ?_⟩⟩
    · by_cases e : i = v
      · exact e
      · exfalso
        have hiv : i < v := by
          by_cases hlt : i < v
          · exact hlt
          · exact absurd ho.1 (h4 i (by omega) hi)
        by_cases hE : v < E n (Kx x) i
        · obtain ⟨c, c1, c2, c3, c4⟩ := way_down h.1 hi v h1 hiv hE
          refine ho.2 c c1 c2 ?_
          by_cases e2 : c = v
          · subst e2; exact h3
          · have := h.nest c1 v h1 (by omega) c4
            unfold has at h3 ⊢; omega
        · have := h.apart hi v h1 hiv (by omega)
          have h5 := ho.1
          unfold has at h3 h5; omega
    · subst e
      refine ⟨h3, fun c c1 c2 => h4 c ?_ c1⟩
      exact (h.kid c1 c2).1
  · exact absurd ht (h2 0 h0)
end Go.Proofs.Ytklmiabgalanhaa.Tm
