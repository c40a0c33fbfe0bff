/- Plain mathematics of brackets: the stack of those that are open, the partners. -/
import Derived.Test.YtnkgbmnjehpkgabGreatSeRMath
namespace Go.Proofs.YtnkgbmnjehpkgabGreat
open Go.RowKit Em
set_option maxRecDepth 100000
set_option linter.unusedVariables false

/-- Of a token's bytes: 1, 2, 3 opens ( [ {; -1, -2, -3 closes; 0: no bracket. -/
def brk (x : List UInt8) : Int := if x = [40] then 1 else if x = [91] then 2 else if x = [123] then 3 else if x = [41] then -1 else if x = [93] then -2 else if x = [125] then -3 else 0
def upd (p : Nat → Int) (k : Nat) (v : Int) : Nat → Int := fun i => if i = k then v else p i
theorem upd_same (p : Nat → Int) (k : Nat) (v : Int) : upd p k v k = v := if_pos rfl
theorem upd_far (p : Nat → Int) {k i : Nat} (v : Int) (h : i ≠ k) : upd p k v i = p i := if_neg h
/-- The stack of the open ones, the partners, how many were open at most; or a fault at a token. -/
inductive NR
  | ok (st : List Nat) (p : Nat → Int) (m : Nat)
  | bad (code i : Nat)
def nStep (b : Nat → Int) (i : Nat) (st : List Nat) (p : Nat → Int) (m : Nat) : NR :=
  if 0 < b i then (if st.length = 100 then .bad 6 i else .ok (i :: st) p (max m (st.length + 1)))
  else if b i < 0 then (match st with
    | [] => .bad 5 i
    | j :: r => if b j + b i = 0 then .ok r (upd (upd p i j) j i) m else .bad 5 i)
  else .ok st p m
def nAt (b : Nat → Int) : Nat → NR
  | 0 => .ok [] (fun _ => -1) 0
  | i + 1 => match nAt b i with
    | .ok st p m => nStep b i st p m
    | .bad c k => .bad c k
theorem nAt_ok {b : Nat → Int} {i : Nat} {st : List Nat} {p : Nat → Int} {m : Nat} (h : nAt b i = .ok st p m) : nAt b (i + 1) = nStep b i st p m := by rw [nAt, h]
theorem nAt_bad {b : Nat → Int} {i c k : Nat} (h : nAt b i = .bad c k) : ∀ j, i ≤ j → nAt b j = .bad c k := by
  intro j hj
  induction j with
  | zero => have : i = 0 := by omega
            subst this; exact h
  | succ j ih =>
    by_cases e : i = j + 1
    · subst e; exact h
    · rw [nAt, ih (by omega)]
theorem nAt_before {b : Nat → Int} {n : Nat} {st : List Nat} {p : Nat → Int} {m : Nat} (h : nAt b n = .ok st p m) : ∀ i, i ≤ n → ∃ st p m, nAt b i = .ok st p m := by
  intro i hi
  cases hx : nAt b i with
  | ok st p m => exact ⟨st, p, m, rfl⟩
  | bad c k => rw [nAt_bad hx n hi] at h; cases h
def nFin (b : Nat → Int) (n : Nat) : NR := match nAt b n with
  | .ok [] p m => .ok [] p m
  | .ok (j :: _) _ _ => .bad 5 j
  | .bad c k => .bad c k
theorem step_open {b : Nat → Int} {i : Nat} {st : List Nat} {p : Nat → Int} {m : Nat} (h : 0 < b i) (hl : st.length ≠ 100) : nStep b i st p m = .ok (i :: st) p (max m (st.length + 1)) := by
  unfold nStep; rw [if_pos h, if_neg hl]
theorem step_deep {b : Nat → Int} {i : Nat} {st : List Nat} {p : Nat → Int} {m : Nat} (h : 0 < b i) (hl : st.length = 100) : nStep b i st p m = .bad 6 i := by
  unfold nStep; rw [if_pos h, if_pos hl]
theorem step_none {b : Nat → Int} {i : Nat} {p : Nat → Int} {m : Nat} (h : b i < 0) : nStep b i [] p m = .bad 5 i := by
  rw [nStep, if_neg (by omega), if_pos h]
theorem step_shut {b : Nat → Int} {i j : Nat} {r : List Nat} {p : Nat → Int} {m : Nat} (h : b i < 0) (hj : b j + b i = 0) : nStep b i (j :: r) p m = .ok r (upd (upd p i j) j i) m := by
  rw [nStep, if_neg (by omega), if_pos h]; exact if_pos hj
theorem step_wrong {b : Nat → Int} {i j : Nat} {r : List Nat} {p : Nat → Int} {m : Nat} (h : b i < 0) (hj : b j + b i ≠ 0) : nStep b i (j :: r) p m = .bad 5 i := by
  rw [nStep, if_neg (by omega), if_pos h]; exact if_neg hj
theorem step_rest {b : Nat → Int} {i : Nat} {st : List Nat} {p : Nat → Int} {m : Nat} (h : b i = 0) : nStep b i st p m = .ok st p m := by
  unfold nStep; rw [if_neg (by omega), if_neg (by omega)]

/-- What holds of the stack and the partners. -/
structure NI (b : Nat → Int) (i : Nat) (st : List Nat) (p : Nat → Int) (m : Nat) : Prop where
  s1 : ∀ j ∈ st, j < i ∧ 0 < b j ∧ p j = -1
  s2 : st.Pairwise (fun x y => y < x)
  zr : ∀ k, k < i → b k = 0 → p k = -1
  cl : ∀ k, k < i → b k < 0 → ∃ j : Nat, j < k ∧ p k = j ∧ p j = k
  op : ∀ k, k < i → 0 < b k → k ∈ st ∨ ∃ c : Nat, k < c ∧ c < i ∧ p k = c ∧ p c = k
  ins : ∀ x c : Nat, x < c → c < i → p x = c → ∀ k, x < k → k < c → k ∉ st ∧ (p k = -1 ∨ ((x : Int) < p k ∧ p k < c))
  hm : st.length ≤ m ∧ m ≤ 100
  big : ∀ k, i ≤ k → p k = -1
theorem ni_start (b : Nat → Int) : NI b 0 [] (fun _ => -1) 0 :=
  ⟨by simp, .nil, fun _ h => by omega, fun _ h => by omega, fun _ h => by omega, fun _ _ _ h => by omega, by simp, fun _ _ => rfl⟩
theorem ni_step {b : Nat → Int} {i : Nat} {st : List Nat} {p : Nat → Int} {m : Nat} (h : NI b i st p m) {st' : List Nat} {p' : Nat → Int} {m' : Nat} (hs : nStep b i st p m = .ok st' p' m') : NI b (i + 1) st' p' m' := by
  obtain ⟨s1, s2, zr, cl, op, ins, hm, big⟩ := h
  rcases Int.lt_trichotomy (b i) 0 with hb | hb | hb
  · cases st with
    | nil => rw [step_none hb] at hs; cases hs
    | cons j r =>
      by_cases hj : b j + b i = 0
      · rw [step_shut hb hj] at hs
        injection hs with e1 e2 e3
        subst e1; subst e2; subst e3
        obtain ⟨q1, q2, q3⟩ := s1 j (by simp)
        have hne : ∀ k, k < i → k ≠ j → upd (upd p i j) j i k = p k := fun k h1 h2 => by rw [upd_far _ _ h2, upd_far _ _ (by omega)]
        have hpj : upd (upd p i j) j i j = i := upd_same _ _ _
        have hpi : upd (upd p i j) j i i = j := by rw [upd_far _ _ (by omega), upd_same]
        have hr : ∀ k ∈ r, k < j := fun k hk => (List.pairwise_cons.1 s2).1 k hk
        have hjr : j ∉ r := fun h => by have := hr j h; omega
        have old : ∀ k, k < i → ∀ v : Int, v ≠ -1 → p k = v → k ≠ j := fun k _ v h1 h2 e => by subst e; omega
        refine ⟨?_, (List.pairwise_cons.1 s2).2, ?_, ?_, ?_, ?_, ⟨by have := hm.1; simp at this; omega, hm.2⟩, ?_⟩
        · intro k hk
          obtain ⟨a1, a2, a3⟩ := s1 k (by simp [hk])
          have := hr k hk
          exact ⟨by omega, a2, by rw [hne k a1 (by omega)]; exact a3⟩
        · intro k hk h0
          by_cases e : k = i
          · subst e; omega
          · rw [hne k (by omega) (fun e2 => by subst e2; omega)]
            exact zr k (by omega) h0
        · intro k hk h0
          by_cases e : k = i
          · subst e; exact ⟨j, q1, hpi, hpj⟩
          · obtain ⟨x, x1, x2, x3⟩ := cl k (by omega) h0
            have n1 : k ≠ j := fun e2 => by subst e2; omega
            have n2 : x ≠ j := fun e2 => by subst e2; omega
            exact ⟨x, x1, by rw [hne k (by omega) n1]; exact x2, by rw [hne x (by omega) n2]; exact x3⟩
        · intro k hk h0
          by_cases e : k = i
          · subst e; omega
          · rcases op k (by omega) h0 with h1 | ⟨c, c1, c2, c3, c4⟩
            · rcases List.mem_cons.1 h1 with rfl | h1
              · exact .inr ⟨i, q1, by omega, hpj, hpi⟩
              · exact .inl h1
            · have n1 : k ≠ j := fun e2 => by subst e2; omega
              have n2 : c ≠ j := fun e2 => by subst e2; omega
              exact .inr ⟨c, c1, by omega, by rw [hne k (by omega) n1]; exact c3, by rw [hne c (by omega) n2]; exact c4⟩
        · intro x c hxc hc hp k h1 h2
          by_cases e : c = i
          · subst e
            have hx : x = j := by
              by_cases e2 : x = j
              · exact e2
              · rw [hne x (by omega) e2] at hp
                -- a partner at c = i would have been set already
                exfalso
                rcases Int.lt_trichotomy (b x) 0 with g | g | g
                · obtain ⟨y, y1, y2, _⟩ := cl x (by omega) g; omega
                · have := zr x (by omega) g; omega
                · rcases op x (by omega) g with g1 | ⟨y, y1, y2, y3, _⟩
                  · have := (s1 x g1).2.2; omega
                  · omega
            subst hx
            refine ⟨fun hk => by have := hr k hk; omega, ?_⟩
            rw [hne k (by omega) (by omega)]
            rcases Int.lt_trichotomy (b k) 0 with g | g | g
            · obtain ⟨y, y1, y2, y3⟩ := cl k (by omega) g
              right
              have n1 : y ≠ x := fun e2 => by subst e2; omega
              have : ¬ y < x := fun hlt => (ins y k y1 (by omega) y3 x hlt (by omega)).1 (by simp)
              omega
            · exact .inl (zr k (by omega) g)
            · rcases op k (by omega) g with g1 | ⟨y, y1, y2, y3, _⟩
              · rcases List.mem_cons.1 g1 with rfl | g1
                · omega
                · have := hr k g1; omega
              · right; omega
          · have n1 : x ≠ j := fun e2 => by subst e2; rw [hpj] at hp; omega
            rw [hne x (by omega) n1] at hp
            obtain ⟨a1, a2⟩ := ins x c hxc (by omega) hp k h1 h2
            refine ⟨fun hk => a1 (by simp [hk]), ?_⟩
            have n2 : k ≠ j := fun e2 => by subst e2; exact a1 (by simp)
            rw [hne k (by omega) n2]
            exact a2
        · intro k hk
          rw [upd_far _ _ (by omega), upd_far _ _ (by omega)]
          exact big k (by omega)
      · rw [step_wrong hb hj] at hs; cases hs
  · rw [step_rest hb] at hs
    injection hs with e1 e2 e3
    subst e1; subst e2; subst e3
    refine ⟨fun j hj => ⟨by have := (s1 j hj).1; omega, (s1 j hj).2⟩, s2, ?_, ?_, ?_, ?_, hm, fun k hk => big k (by omega)⟩
    · intro k hk h0
      by_cases e : k = i
      · exact big k (by omega)
      · exact zr k (by omega) h0
    · intro k hk h0
      by_cases e : k = i
      · subst e; omega
      · exact cl k (by omega) h0
    · intro k hk h0
      by_cases e : k = i
      · subst e; omega
      · rcases op k (by omega) h0 with h | ⟨c, c1, c2, c3⟩
        · exact .inl h
        · exact .inr ⟨c, c1, by omega, c3⟩
    · intro x c hxc hc hp k h1 h2
      by_cases e : c = i
      · subst e
        exfalso
        rcases Int.lt_trichotomy (b x) 0 with g | g | g
        · obtain ⟨y, y1, y2, _⟩ := cl x (by omega) g; omega
        · have := zr x (by omega) g; omega
        · rcases op x (by omega) g with g1 | ⟨y, y1, y2, y3, _⟩
          · have := (s1 x g1).2.2; omega
          · omega
      · exact ins x c hxc (by omega) hp k h1 h2
  · by_cases hl : st.length = 100
    · rw [step_deep hb hl] at hs; cases hs
    · rw [step_open hb hl] at hs
      injection hs with e1 e2 e3
      subst e1; subst e2; subst e3
      refine ⟨?_, List.pairwise_cons.2 ⟨fun j hj => (s1 j hj).1, s2⟩, ?_, ?_, ?_, ?_, ?_, fun k hk => big k (by omega)⟩
      · intro j hj
        rcases List.mem_cons.1 hj with rfl | hj
        · exact ⟨by omega, hb, big _ (by omega)⟩
        · exact ⟨by have := (s1 j hj).1; omega, (s1 j hj).2⟩
      · intro k hk h0
        by_cases e : k = i
        · subst e; omega
        · exact zr k (by omega) h0
      · intro k hk h0
        by_cases e : k = i
        · subst e; omega
        · exact cl k (by omega) h0
      · intro k hk h0
        by_cases e : k = i
        · subst e; exact .inl (by simp)
        · rcases op k (by omega) h0 with h | ⟨c, c1, c2, c3⟩
          · exact .inl (by simp [h])
          · exact .inr ⟨c, c1, by omega, c3⟩
      · intro x c hxc hc hp k h1 h2
        by_cases e : c = i
        · subst e
          exfalso
          rcases Int.lt_trichotomy (b x) 0 with g | g | g
          · obtain ⟨y, y1, y2, _⟩ := cl x (by omega) g; omega
          · have := zr x (by omega) g; omega
          · rcases op x (by omega) g with g1 | ⟨y, y1, y2, y3, _⟩
            · have := (s1 x g1).2.2; omega
            · omega
        · obtain ⟨a1, a2⟩ := ins x c hxc (by omega) hp k h1 h2
          refine ⟨fun hk => ?_, a2⟩
          rcases List.mem_cons.1 hk with rfl | hk
          · omega
          · exact a1 hk
      · have := hm.1; have := hm.2
        simp only [List.length_cons]
        omega
theorem ni_at (b : Nat → Int) : ∀ (i : Nat) (st : List Nat) (p : Nat → Int) (m : Nat), nAt b i = .ok st p m → NI b i st p m
  | 0, st, p, m, h => by
    rw [nAt] at h
    injection h with e1 e2 e3
    subst e1; subst e2; subst e3
    exact ni_start b
  | i + 1, st, p, m, h => by
    cases hx : nAt b i with
    | bad c k => rw [nAt, hx] at h; cases h
    | ok st0 p0 m0 =>
      rw [nAt_ok hx] at h
      exact ni_step (ni_at b i st0 p0 m0 hx) h
/-- The partners at the end. -/
structure NE (b : Nat → Int) (n : Nat) (p : Nat → Int) : Prop where
  zr : ∀ k, k < n → b k = 0 → p k = -1
  cl : ∀ k, k < n → b k < 0 → ∃ j : Nat, j < k ∧ p k = j ∧ p j = k
  op : ∀ k, k < n → 0 < b k → ∃ c : Nat, k < c ∧ c < n ∧ p k = c ∧ p c = k
  ins : ∀ x c : Nat, x < c → c < n → p x = c → ∀ k, x < k → k < c → (p k = -1 ∨ ((x : Int) < p k ∧ p k < c))
theorem ne_end {b : Nat → Int} {n m : Nat} {p : Nat → Int} (h : nAt b n = .ok [] p m) : NE b n p := by
  obtain ⟨s1, s2, zr, cl, op, ins, hm, big⟩ := ni_at b n _ _ _ h
  refine ⟨zr, cl, fun k hk h0 => ?_, fun x c h1 h2 h3 k h4 h5 => (ins x c h1 h2 h3 k h4 h5).2⟩
  rcases op k hk h0 with h | h
  · cases h
  · exact h
/-- A token's bracket. -/
def nb (s : ByteArray) (T : List Sc.Tk) (i : Nat) : Int := brk (cutT s (nthT T i).f (nthT T i).t)
/-- The tokens, how many partners, the partners, the depth, the fault. -/
def nestT (s : ByteArray) : List Sc.Tk := if (semA s).2.1 = 0 then (match nFin (nb s (semA s).1) (semA s).1.length with | .ok _ _ _ => (semA s).1 | .bad _ _ => []) else []
def nestP (s : ByteArray) : Nat → Int := if (semA s).2.1 = 0 then (match nFin (nb s (semA s).1) (semA s).1.length with | .ok _ p _ => p | .bad _ _ => fun _ => -1) else fun _ => -1
def nestM (s : ByteArray) : Nat := if (semA s).2.1 = 0 then (match nFin (nb s (semA s).1) (semA s).1.length with | .ok _ _ m => m | .bad _ _ => 0) else 0
def nestE (s : ByteArray) : Int := if (semA s).2.1 = 0 then (match nFin (nb s (semA s).1) (semA s).1.length with | .ok _ _ _ => 0 | .bad c _ => c) else (semA s).2.1
def nestF (s : ByteArray) : Int := if (semA s).2.1 = 0 then (match nFin (nb s (semA s).1) (semA s).1.length with | .ok _ _ _ => 0 | .bad _ k => (nthT (semA s).1 k).f) else (semA s).2.2
theorem nest_ok {s : ByteArray} {st : List Nat} {p : Nat → Int} {m : Nat} (h : (semA s).2.1 = 0) (hf : nFin (nb s (semA s).1) (semA s).1.length = .ok st p m) : nestT s = (semA s).1 ∧ nestP s = p ∧ nestM s = m ∧ nestE s = 0 ∧ nestF s = 0 := by
  unfold nestT nestP nestM nestE nestF
  rw [if_pos h, if_pos h, if_pos h, if_pos h, if_pos h, hf]
  exact ⟨rfl, rfl, rfl, rfl, rfl⟩
theorem nest_bad {s : ByteArray} {c k : Nat} (h : (semA s).2.1 = 0) (hf : nFin (nb s (semA s).1) (semA s).1.length = .bad c k) : nestT s = [] ∧ nestM s = 0 ∧ nestE s = c ∧ nestF s = (nthT (semA s).1 k).f := by
  unfold nestT nestM nestE nestF
  rw [if_pos h, if_pos h, if_pos h, if_pos h, hf]
  exact ⟨rfl, rfl, rfl, rfl⟩
theorem nest_fault {s : ByteArray} (h : (semA s).2.1 ≠ 0) : nestT s = [] ∧ nestM s = 0 ∧ nestE s = (semA s).2.1 ∧ nestF s = (semA s).2.2 := by
  unfold nestT nestM nestE nestF
  rw [if_neg h, if_neg h, if_neg h, if_neg h]
  exact ⟨rfl, rfl, rfl, rfl⟩
/-- The stack in a row, from below. -/
def Stk (O : Nat → Int) : List Nat → Prop
  | [] => True
  | j :: r => O r.length = j ∧ Stk O r
theorem Stk.far {O : Nat → Int} {k : Nat} (v : Int) : ∀ {st : List Nat}, Stk O st → st.length ≤ k → Stk (upd O k v) st
  | [], _, _ => trivial
  | j :: r, h, hk => by
    simp only [List.length_cons] at hk
    exact ⟨by rw [upd_far _ _ (by omega)]; exact h.1, h.2.far v (by omega)⟩
theorem Stk.push {O : Nat → Int} {st : List Nat} (h : Stk O st) (i : Nat) : Stk (upd O st.length i) (i :: st) := ⟨upd_same _ _ _, h.far _ (Nat.le_refl _)⟩
end Go.Proofs.YtnkgbmnjehpkgabGreat

