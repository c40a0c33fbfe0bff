/- Trees as first kid and what stands beside it; their parts, their texts; a text read step by step. Plain mathematics. -/
namespace Tx
set_option linter.unusedVariables false
set_option maxRecDepth 100000

/-- Trees in a row. -/
inductive Fo (α : Type)
  | nil : Fo α
  | cons (a : α) (ks r : Fo α) : Fo α
section
variable {α : Type}
def Fo.len : Fo α → Nat
  | .nil => 0
  | .cons _ _ r => r.len + 1
/-- The parts: what each is, and how many kids. -/
def Fo.flat : Fo α → List (α × Nat)
  | .nil => []
  | .cons a ks r => (a, ks.len) :: (ks.flat ++ r.flat)
/-- The texts, each with a blank ahead. -/
def Fo.txt (tx : α → List UInt8) : Fo α → List UInt8
  | .nil => []
  | .cons a ks r => 32 :: (tx a ++ (ks.txt tx ++ 41 :: r.txt tx))
theorem Fo.len_flat : ∀ f : Fo α, f.len ≤ f.flat.length
  | .nil => Nat.le_refl _
  | .cons a ks r => by
    have := Fo.len_flat r
    simp only [Fo.len, Fo.flat, List.length_cons, List.length_append]; omega
theorem Fo.flat_pos {f : Fo α} (h : 0 < f.len) : 0 < f.flat.length := by have := f.len_flat; omega
theorem Fo.len_zero {f : Fo α} (h : f.len = 0) : f = .nil := by
  cases f with
  | nil => rfl
  | cons a ks r => simp [Fo.len] at h
theorem Fo.len_one {f : Fo α} (h : f.len = 1) : ∃ a ks, f = .cons a ks .nil := by
  cases f with
  | nil => simp [Fo.len] at h
  | cons a ks r =>
    have : r = .nil := Fo.len_zero (by simp [Fo.len] at h; exact h)
    exact ⟨a, ks, by rw [this]⟩

/-! Showing, part by part. -/
/-- Parts that have no more kids are closed. -/
def closes : List Nat → List UInt8 → List Nat × List UInt8
  | 0 :: st, out => closes st (out ++ [41])
  | st, out => (st, out)
theorem closes_zero (st : List Nat) (out : List UInt8) : closes (0 :: st) out = closes st (out ++ [41]) := by rw [closes]
theorem closes_nil (out : List UInt8) : closes [] out = ([], out) := by rw [closes]; intro st h; cases h
theorem closes_pos {n : Nat} (h : 0 < n) (st : List Nat) (out : List UInt8) : closes (n :: st) out = (n :: st, out) := by
  rw [closes]; intro st2 e; injection e with e1 e2; omega
/-- The stack ahead of a part that comes next, and what is written for the part. -/
def decr : List Nat → List Nat
  | [] => []
  | n :: st => (n - 1) :: st
def gap (st : List Nat) : List UInt8 := match st with | [] => [] | _ => [32]
def step (tx : α → List UInt8) (p : α × Nat) (s : List Nat × List UInt8) : List Nat × List UInt8 := closes (p.2 :: decr s.1) (s.2 ++ gap s.1 ++ tx p.1)
def sF (tx : α → List UInt8) : List (α × Nat) → List Nat × List UInt8 → List Nat × List UInt8
  | [], s => s
  | p :: l, s => sF tx l (step tx p s)
theorem sF_append (tx : α → List UInt8) : ∀ (a b : List (α × Nat)) s, sF tx (a ++ b) s = sF tx b (sF tx a s)
  | [], b, s => rfl
  | p :: a, b, s => sF_append tx a b _
theorem sF_kids (tx : α → List UInt8) : ∀ (f : Fo α) (c : Nat) (st : List Nat) (out : List UInt8), 0 < f.len → f.len ≤ c → sF tx f.flat (c :: st, out) = closes ((c - f.len) :: st) (out ++ f.txt tx)
  | .nil, c, st, out, h, _ => by simp [Fo.len] at h
  | .cons a ks r, c, st, out, _, h1 => by
    have ihk := sF_kids tx ks
    have ihr := sF_kids tx r
    have e0 : sF tx (Fo.cons a ks r).flat (c :: st, out) = sF tx r.flat (sF tx ks.flat (closes (ks.len :: (c - 1) :: st) (out ++ [32] ++ tx a))) := by
      show sF tx (ks.flat ++ r.flat) (step tx (a, ks.len) (c :: st, out)) = _
      rw [sF_append]; rfl
    have e1 : sF tx ks.flat (closes (ks.len :: (c - 1) :: st) (out ++ [32] ++ tx a)) = closes ((c - 1) :: st) (out ++ [32] ++ tx a ++ ks.txt tx ++ [41]) := by
      by_cases hk : ks.len = 0
      · have := Fo.len_zero hk
        subst this
        show closes (0 :: (c - 1) :: st) _ = _
        rw [closes_zero]; simp [Fo.txt]
      · rw [closes_pos (by omega), ihk _ _ _ (by omega) (Nat.le_refl _), Nat.sub_self, closes_zero]
    rw [e0, e1]
    have hl : (Fo.cons a ks r).len = r.len + 1 := rfl
    rw [hl] at h1 ⊢
    have ht : out ++ (Fo.cons a ks r).txt tx = out ++ [32] ++ tx a ++ ks.txt tx ++ [41] ++ r.txt tx := by simp [Fo.txt]
    rw [ht]
    by_cases hr : r.len = 0
    · have := Fo.len_zero hr
      subst this
      simp [Fo.flat, Fo.txt, sF, Fo.len]
    · rw [closes_pos (by omega), ihr _ _ _ (by omega) (by omega)]
      congr 2
      omega
/-- A tree's text, from the very beginning. -/
theorem sF_tree (tx : α → List UInt8) (a : α) (ks : Fo α) : sF tx (Fo.cons a ks .nil).flat ([], []) = ([], tx a ++ (ks.txt tx ++ [41])) := by
  show sF tx (ks.flat ++ []) (closes [ks.len] ([] ++ [] ++ tx a)) = _
  rw [List.append_nil, List.append_nil, List.nil_append]
  by_cases hk : ks.len = 0
  · have := Fo.len_zero hk
    subst this
    show closes [0] (tx a) = _
    rw [closes_zero, closes_nil]; simp [Fo.txt]
  · rw [closes_pos (by omega), sF_kids tx ks _ _ _ (by omega) (Nat.le_refl _), Nat.sub_self, closes_zero, closes_nil, List.append_assoc]
/-- The text of one tree. -/
def Fo.tree (tx : α → List UInt8) (f : Fo α) : List UInt8 := (f.txt tx).tail
theorem tree_cons (tx : α → List UInt8) (a : α) (ks r : Fo α) : (Fo.cons a ks r).tree tx = tx a ++ (ks.txt tx ++ 41 :: r.txt tx) := rfl
theorem closes_top : ∀ (st : List Nat) (out : List UInt8) (n : Nat) (st2 : List Nat), (closes st out).1 = n :: st2 → 0 < n
  | [], out, n, st2, h => by rw [closes_nil] at h; cases h
  | 0 :: st, out, n, st2, h => by rw [closes_zero] at h; exact closes_top st _ n st2 h
  | (m + 1) :: st, out, n, st2, h => by
    rw [closes_pos (by omega)] at h
    injection h with h1 h2
    omega
theorem sF_top {tx : α → List UInt8} {l : List (α × Nat)} {n : Nat} {st2 : List Nat} (h : (sF tx l ([], [])).1 = n :: st2) : 0 < n := by
  have key : ∀ (l : List (α × Nat)) (s : List Nat × List UInt8), (∀ n st2, s.1 = n :: st2 → 0 < n) → ∀ n st2, (sF tx l s).1 = n :: st2 → 0 < n := by
    intro l
    induction l with
    | nil => intro s hs; exact hs
    | cons p l ih => intro s _; exact ih (step tx p s) fun n st2 e => closes_top _ _ n st2 e
  exact key l ([], []) (fun n st2 e => by cases e) n st2 h
theorem closes_len : ∀ (st : List Nat) (out : List UInt8), out.length ≤ (closes st out).2.length ∧ (closes st out).2.length ≤ out.length + st.length ∧ (closes st out).1.length ≤ st.length
  | [], out => by rw [closes_nil]; simp
  | 0 :: st, out => by
    rw [closes_zero]
    have := closes_len st (out ++ [41])
    simp only [List.length_append, List.length_cons, List.length_nil] at this ⊢
    omega
  | (n + 1) :: st, out => by rw [closes_pos (by omega)]; simp
theorem step_len (tx : α → List UInt8) (p : α × Nat) (s : List Nat × List UInt8) : s.2.length + (tx p.1).length ≤ (step tx p s).2.length := by
  have := (closes_len (p.2 :: decr s.1) (s.2 ++ gap s.1 ++ tx p.1)).1
  unfold step
  simp only [List.length_append] at this ⊢
  omega
theorem sF_len (tx : α → List UInt8) : ∀ (l : List (α × Nat)) s, s.2.length ≤ (sF tx l s).2.length
  | [], s => Nat.le_refl _
  | p :: l, s => by
    have h1 := step_len tx p s
    have h2 := sF_len tx l (step tx p s)
    show _ ≤ (sF tx l (step tx p s)).2.length
    omega

/-! Reading, step by step. -/
/-- One kid more. -/
def bump (l : List (α × Nat)) (i : Nat) : List (α × Nat) := l.modify i fun p => (p.1, p.2 + 1)
/-- What stands behind a tree. -/
def mK (hd : List UInt8 → Option (α × List UInt8)) : Nat → List UInt8 → List (α × Nat) → List Nat → Option (List (α × Nat) × List UInt8)
  | _, rem, l, [] => some (l, rem)
  | 0, _, _, _ :: _ => none
  | f + 1, rem, l, i :: st => match rem with
    | [] => none
    | c :: r => if c = 41 then mK hd f r l st else if c = 32 then match hd r with
        | none => none
        | some (a, r') => mK hd f r' (bump l i ++ [(a, 0)]) (l.length :: i :: st)
      else none
/-- The whole of a text. -/
def kf (hd : List UInt8 → Option (α × List UInt8)) (rem : List UInt8) (l : List (α × Nat)) (st : List Nat) : Option (List (α × Nat) × List UInt8) := mK hd rem.length rem l st
def hf (hd : List UInt8 → Option (α × List UInt8)) (rem : List UInt8) (l : List (α × Nat)) (st : List Nat) : Option (List (α × Nat) × List UInt8) := match hd rem with
  | none => none
  | some (a, r) => kf hd r (l ++ [(a, 0)]) (l.length :: st)
/-- A head takes bytes. -/
def Eats (hd : List UInt8 → Option (α × List UInt8)) : Prop := ∀ l a r, hd l = some (a, r) → r.length < l.length
section
variable {hd : List UInt8 → Option (α × List UInt8)}
theorem mK_fuel (he : Eats hd) : ∀ (f g : Nat) (rem : List UInt8) (l : List (α × Nat)) (st : List Nat), rem.length ≤ f → rem.length ≤ g → mK hd f rem l st = mK hd g rem l st := by
  intro f
  induction f with
  | zero =>
    intro g rem l st hf hg
    have : rem = [] := List.eq_nil_of_length_eq_zero (by omega)
    subst this
    cases st with
    | nil => cases g <;> rfl
    | cons i st => cases g <;> rfl
  | succ f ih =>
    intro g rem l st hf hg
    cases st with
    | nil => cases g <;> rfl
    | cons i st =>
      cases rem with
      | nil => cases g <;> rfl
      | cons c r =>
        cases g with
        | zero => simp at hg
        | succ g =>
          simp only [List.length_cons] at hf hg
          simp only [mK]
          by_cases h1 : c = 41
          · rw [if_pos h1, if_pos h1]; exact ih g r l st (by omega) (by omega)
          · rw [if_neg h1, if_neg h1]
            by_cases h2 : c = 32
            · rw [if_pos h2, if_pos h2]
              cases hh : hd r with
              | none => rfl
              | some z =>
                obtain ⟨a, r'⟩ := z
                have := he r a r' hh
                exact ih g r' _ _ (by omega) (by omega)
            · rw [if_neg h2, if_neg h2]
theorem kf_nil (rem : List UInt8) (l : List (α × Nat)) : kf hd rem l [] = some (l, rem) := by unfold kf; cases rem <;> rfl
theorem kf_end (l : List (α × Nat)) (i : Nat) (st : List Nat) : kf hd [] l (i :: st) = none := rfl
theorem kf_close (r : List UInt8) (l : List (α × Nat)) (i : Nat) (st : List Nat) : kf hd (41 :: r) l (i :: st) = kf hd r l st := by
  unfold kf; simp only [List.length_cons, mK]; exact if_pos trivial
theorem kf_kid (he : Eats hd) (r : List UInt8) (l : List (α × Nat)) (i : Nat) (st : List Nat) : kf hd (32 :: r) l (i :: st) = hf hd r (bump l i) (i :: st) := by
  unfold kf hf; simp only [List.length_cons, mK]; rw [if_neg (by decide), if_pos trivial]
  cases hh : hd r with
  | none => rfl
  | some z =>
    obtain ⟨a, r'⟩ := z
    have := he r a r' hh
    show mK hd r.length r' _ _ = mK hd r'.length r' _ _
    rw [show (bump l i).length = l.length by simp [bump]]
    exact mK_fuel he _ _ _ _ _ (by omega) (Nat.le_refl _)
theorem kf_no (c : UInt8) (r : List UInt8) (l : List (α × Nat)) (i : Nat) (st : List Nat) (h1 : c ≠ 41) (h2 : c ≠ 32) : kf hd (c :: r) l (i :: st) = none := by
  unfold kf; simp only [List.length_cons, mK]; rw [if_neg h1, if_neg h2]
theorem bump_at (l : List (α × Nat)) (a : α) (n : Nat) (b : List (α × Nat)) : bump (l ++ (a, n) :: b) l.length = l ++ (a, n + 1) :: b := by
  induction l with
  | nil => rfl
  | cons p l ih => unfold bump at ih ⊢; rw [List.length_cons, List.cons_append, List.modify_succ_cons, ih, List.cons_append]
theorem bump_mem {l : List (α × Nat)} {i : Nat} {q : α × Nat} (h : q ∈ bump l i) : ∃ q' ∈ l, q.2 ≤ q'.2 + 1 := by
  obtain ⟨j, hj, rfl⟩ := List.getElem_of_mem h
  have hj2 : j < l.length := by simpa [bump] using hj
  refine ⟨l[j]'hj2, List.getElem_mem hj2, ?_⟩
  simp only [bump, List.getElem_modify]
  split <;> simp
theorem bump_len (l : List (α × Nat)) (i : Nat) : (bump l i).length = l.length := by simp [bump]
theorem kf_stop (rem : List UInt8) (l : List (α × Nat)) (i : Nat) (st : List Nat) (h1 : rem.head? ≠ some 41) (h2 : rem.head? ≠ some 32) : kf hd rem l (i :: st) = none := by
  cases rem with
  | nil => exact kf_end l i st
  | cons c r => exact kf_no c r l i st (fun e => h1 (by rw [e]; rfl)) (fun e => h2 (by rw [e]; rfl))
/-- What may stand behind a head. -/
def Aft (r : List UInt8) : Prop := (∃ r', r = 41 :: r') ∨ (∃ r', r = 32 :: 40 :: r')
/-- Heads have just one text. -/
structure Hds (tx : α → List UInt8) (ok : α → Prop) (hd : List UInt8 → Option (α × List UInt8)) : Prop where
  pos : ∀ a, ∃ r, tx a = 40 :: r
  some : ∀ a r, ok a → Aft r → hd (tx a ++ r) = some (a, r)
  back : ∀ l a r, hd l = Option.some (a, r) → l = tx a ++ r ∧ ok a
theorem Hds.eats {tx : α → List UInt8} {ok : α → Prop} (H : Hds tx ok hd) : Eats hd := by
  intro l a r h
  obtain ⟨e, _⟩ := H.back l a r h
  obtain ⟨q, hq⟩ := H.pos a
  rw [e, hq]; simp; omega
/-- All parts may be. -/
def Fo.ok (ok : α → Prop) : Fo α → Prop
  | .nil => True
  | .cons a ks r => ok a ∧ ks.ok ok ∧ r.ok ok
theorem txt_aft {tx : α → List UInt8} {ok : α → Prop} (H : Hds tx ok hd) (f : Fo α) (r : List UInt8) : Aft (f.txt tx ++ 41 :: r) := by
  cases f with
  | nil => exact .inl ⟨r, rfl⟩
  | cons a ks q =>
    obtain ⟨z, hz⟩ := H.pos a
    right
    exact ⟨z ++ (ks.txt tx ++ 41 :: q.txt tx) ++ 41 :: r, by simp [Fo.txt, hz]⟩
theorem read_kids {tx : α → List UInt8} {ok : α → Prop} (H : Hds tx ok hd) : ∀ (f : Fo α) (r : List UInt8) (l : List (α × Nat)) (a : α) (n : Nat) (acc : List (α × Nat)) (st : List Nat), f.ok ok →
    kf hd (f.txt tx ++ 41 :: r) (l ++ (a, n) :: acc) (l.length :: st) = kf hd r (l ++ (a, n + f.len) :: (acc ++ f.flat)) st
  | .nil, r, l, a, n, acc, st, _ => by simp [Fo.txt, Fo.len, Fo.flat, kf_close]
  | .cons b ks q, r, l, a, n, acc, st, ⟨hb, hk, hq⟩ => by
    have ihk := read_kids H ks
    have ihq := read_kids H q
    have e1 : (Fo.cons b ks q).txt tx ++ 41 :: r = 32 :: (tx b ++ (ks.txt tx ++ 41 :: (q.txt tx ++ 41 :: r))) := by simp [Fo.txt]
    rw [e1, kf_kid H.eats, bump_at]
    unfold hf
    rw [H.some b _ hb (txt_aft H ks _)]
    dsimp only
    have h1 := ihk (q.txt tx ++ 41 :: r) (l ++ (a, n + 1) :: acc) b 0 [] (l.length :: st) hk
    rw [h1]
    have h2 := ihq r l a (n + 1) (acc ++ (b, ks.len) :: ks.flat) st hq
    have e2 : l ++ (a, n + 1) :: acc ++ (b, 0 + ks.len) :: ([] ++ ks.flat) = l ++ (a, n + 1) :: (acc ++ (b, ks.len) :: ks.flat) := by simp
    rw [e2, h2]
    have e3 : n + 1 + q.len = n + (q.len + 1) := by omega
    simp [Fo.len, Fo.flat, e3]
theorem read_tree {tx : α → List UInt8} {ok : α → Prop} (H : Hds tx ok hd) (a : α) (ks : Fo α) (r : List UInt8) (l : List (α × Nat)) (st : List Nat) (ha : ok a) (hk : ks.ok ok) :
    hf hd (tx a ++ (ks.txt tx ++ 41 :: r)) l st = kf hd r (l ++ (Fo.cons a ks .nil).flat) st := by
  unfold hf
  rw [H.some a _ ha (txt_aft H ks r)]
  dsimp only
  have := read_kids H ks r l a 0 [] st hk
  rw [this]
  simp [Fo.flat]
/-- What is read is a tree's text. -/
theorem back_both {tx : α → List UInt8} {ok : α → Prop} (H : Hds tx ok hd) {out : List (α × Nat) × List UInt8} : ∀ (m : Nat) (rem : List UInt8), rem.length ≤ m →
    (∀ l st, hf hd rem l st = some out → ∃ (a : α) (ks : Fo α) (r : List UInt8), ok a ∧ ks.ok ok ∧ rem = tx a ++ (ks.txt tx ++ 41 :: r) ∧ kf hd r (l ++ (Fo.cons a ks .nil).flat) st = some out)
    ∧ (∀ l a n acc st, kf hd rem (l ++ (a, n) :: acc) (l.length :: st) = some out → ∃ (f : Fo α) (r : List UInt8), f.ok ok ∧ rem = f.txt tx ++ 41 :: r ∧ kf hd r (l ++ (a, n + f.len) :: (acc ++ f.flat)) st = some out) := by
  intro m
  induction m with
  | zero =>
    intro rem hm
    have : rem = [] := List.eq_nil_of_length_eq_zero (by omega)
    subst this
    refine ⟨fun l st h => ?_, fun l a n acc st h => ?_⟩
    · unfold hf at h
      cases hh : hd [] with
      | none => rw [hh] at h; cases h
      | some z => obtain ⟨a, r⟩ := z; have := H.eats _ _ _ hh; simp at this
    · rw [kf_end] at h; cases h
  | succ m ih =>
    intro rem hm
    refine ⟨fun l st h => ?_, fun l a n acc st h => ?_⟩
    · unfold hf at h
      cases hh : hd rem with
      | none => rw [hh] at h; cases h
      | some z =>
        obtain ⟨a, r⟩ := z
        rw [hh] at h
        dsimp only at h
        have hlt := H.eats _ _ _ hh
        obtain ⟨hb1, hb2⟩ := H.back _ _ _ hh
        obtain ⟨f, r2, h1, h2, h3⟩ := (ih r (by omega)).2 l a 0 [] st h
        refine ⟨a, f, r2, hb2, h1, by rw [hb1, h2], ?_⟩
        simpa [Fo.flat] using h3
    · cases rem with
      | nil => rw [kf_end] at h; cases h
      | cons c r =>
        simp only [List.length_cons] at hm
        by_cases h1 : c = 41
        · subst h1
          rw [kf_close] at h
          exact ⟨.nil, r, trivial, rfl, by simpa [Fo.len, Fo.flat] using h⟩
        · by_cases h2 : c = 32
          · subst h2
            rw [kf_kid H.eats, bump_at] at h
            obtain ⟨b, ks, r2, o1, o2, e1, h3⟩ := (ih r (by omega)).1 _ _ h
            have hr2 : r2.length ≤ m := by
              have := congrArg List.length e1
              simp at this; omega
            have e4 : l ++ (a, n + 1) :: acc ++ (Fo.cons b ks .nil).flat = l ++ (a, n + 1) :: (acc ++ (Fo.cons b ks .nil).flat) := by simp
            rw [e4] at h3
            obtain ⟨f, r3, o3, e2, h4⟩ := (ih r2 hr2).2 l a (n + 1) _ st h3
            refine ⟨.cons b ks f, r3, ⟨o1, o2, o3⟩, by rw [e1, e2]; simp [Fo.txt], ?_⟩
            rw [← h4]
            have e3 : n + 1 + f.len = n + (f.len + 1) := by omega
            simp [Fo.len, Fo.flat, e3]
          · rw [kf_no _ _ _ _ _ h1 h2] at h; cases h
/-- The list that a text says. -/
def readL (hd : List UInt8 → Option (α × List UInt8)) (s : List UInt8) : Option (List (α × Nat)) := match hf hd s [] [] with
  | some (l, []) => some l
  | _ => none
theorem readL_txt {tx : α → List UInt8} {ok : α → Prop} (H : Hds tx ok hd) (a : α) (ks : Fo α) (ha : ok a) (hk : ks.ok ok) : readL hd (tx a ++ (ks.txt tx ++ [41])) = some (Fo.cons a ks .nil).flat := by
  unfold readL
  rw [read_tree H a ks [] [] [] ha hk, kf_nil]
  rfl
theorem readL_some {tx : α → List UInt8} {ok : α → Prop} (H : Hds tx ok hd) {s : List UInt8} {l : List (α × Nat)} (h : readL hd s = some l) : ∃ (a : α) (ks : Fo α), ok a ∧ ks.ok ok ∧ s = tx a ++ (ks.txt tx ++ [41]) ∧ l = (Fo.cons a ks .nil).flat := by
  unfold readL at h
  cases hh : hf hd s [] [] with
  | none => rw [hh] at h; cases h
  | some z =>
    obtain ⟨l2, r2⟩ := z
    rw [hh] at h
    cases r2 with
    | cons c r2 => cases h
    | nil =>
      injection h with h
      subst h
      obtain ⟨a, ks, r, o1, o2, e1, h3⟩ := (back_both H s.length s (Nat.le_refl _)).1 [] [] hh
      rw [kf_nil] at h3
      injection h3 with h3
      injection h3 with h3 h4
      exact ⟨a, ks, o1, o2, by rw [e1, h4], by rw [← h3]; rfl⟩
end
end
end Tx
