/- Plain mathematics for the law ScanWhole: a piece of a clean text is clean; each lexeme by itself; the lexemes are the whole text. -/
import Derived.Test.YtnkgbmnjehpkgabGreatScSim
import Derived.Test.YtnkgbmnjehpkgabGreatSeRMath
namespace Go.Proofs.YtnkgbmnjehpkgabGreat
open Go.RowKit Em
set_option maxRecDepth 100000
set_option linter.unusedVariables false

/-- Clean bytes: well-formed characters, none of them 0, and a mark of the byte order in front alone (if it may be). -/
inductive Cl : Bool → List UInt8 → Prop
  | nil (b : Bool) : Cl b []
  | cons {b : Bool} {c : Nat} {l r : List UInt8} : Um.okN c → c ≠ 0 → (c = 65279 → b = true) → Cl false r → l = Qm.fm c ++ r → Cl b l
theorem Cl.any {l : List UInt8} (h : Cl false l) (b : Bool) : Cl b l := by
  cases h with
  | nil => exact .nil b
  | cons h1 h2 h3 h4 h5 => exact .cons h1 h2 (fun e => absurd (h3 e) (by simp)) h4 h5
theorem cl_of_cln {s : ByteArray} : ∀ (f p : Nat) (b : Bool), (p = 0 → b = true) → s.size ≤ p + f → Sc.cln s f p = none → Cl b ((bl s).drop p)
  | 0, p, b, _, hf, _ => by
    rw [List.drop_of_length_le (by rw [bl_size]; omega)]; exact .nil b
  | f + 1, p, b, hb, hf, h => by
    by_cases hp : p < s.size
    · cases hk : Um.okAt s p with
      | false => rw [Sc.cln_bad hp hk] at h; cases h
      | true =>
        cases hc : Sc.badC (Um.chr s p) p with
        | true => rw [Sc.cln_char hp hc] at h; cases h
        | false =>
          rw [Sc.cln_step hp hk hc] at h
          have hr := Sc.rd_yes hp hk
          obtain ⟨h1, h2⟩ := Qm.rd_some hr
          have hl := Sc.rd_less hr
          rw [List.length_drop, List.length_drop, bl_size] at hl
          have hbad := of_decide_eq_false hc
          refine .cons h1 (fun e => hbad (.inl e)) (fun e => ?_) (cl_of_cln f _ false (fun e => by omega) (by omega) h) h2
          by_cases e0 : p = 0
          · exact hb e0
          · exact absurd (.inr ⟨e, by omega⟩) hbad
    · rw [List.drop_of_length_le (by rw [bl_size]; omega)]; exact .nil b
theorem cln_of_cl {s : ByteArray} : ∀ (f p : Nat) (b : Bool), (b = true → p = 0) → Cl b ((bl s).drop p) → Sc.cln s f p = none
  | 0, p, b, _, _ => rfl
  | f + 1, p, b, hb, h => by
    by_cases hp : p < s.size
    · generalize hl : (bl s).drop p = l at h
      cases h with
      | nil =>
        have := congrArg List.length hl
        rw [List.length_drop, bl_size] at this
        simp at this; omega
      | cons h1 h2 h3 h4 h5 =>
        rename_i c r
        have hr : Qm.rd ((bl s).drop p) = some (c, r) := by rw [hl, h5]; exact Qm.rd_form h1 r
        cases hk : Um.okAt s p with
        | false => rw [Sc.rd_no hk] at hr; cases hr
        | true =>
          have hy := Sc.rd_yes hp hk
          rw [hr] at hy
          obtain ⟨e1, e2⟩ := Prod.mk.inj (Option.some.inj hy)
          have hbad : Sc.badC (Um.chr s p) p = false := by
            rw [← e1]
            refine decide_eq_false ?_
            rintro (e | ⟨e, h0⟩)
            · exact h2 e
            · have := hb (h3 e); omega
          rw [Sc.cln_step hp hk hbad]
          exact cln_of_cl f _ false (fun e => by cases e) (by rw [← e2]; exact h4)
    · exact Sc.cln_end hp
theorem clnI_iff {s : ByteArray} (h : Cl true (bl s)) : Sc.clnI s = -1 := by
  unfold Sc.clnI
  rw [cln_of_cl s.size 0 true (fun _ => rfl) (by rw [List.drop_zero]; exact h)]
theorem cl_split {x : List UInt8} (hx : Sc.Wf x) : ∀ {b : Bool} {a : List UInt8}, Cl b (x ++ a) → Cl b x ∧ (x ≠ [] → Cl false a) := by
  induction hx with
  | nil => exact fun {b a} h => ⟨.nil b, fun h => absurd rfl h⟩
  | @cons c r hc hr ih =>
    intro b a h
    generalize hl : (Qm.fm c ++ r) ++ a = l at h
    have hrd : Qm.rd l = some (c, r ++ a) := by rw [← hl, List.append_assoc]; exact Qm.rd_form hc _
    cases h with
    | nil => rw [Sc.rd_nil] at hrd; cases hrd
    | cons h1 h2 h3 h4 h5 =>
      rename_i c' r'
      rw [h5, Qm.rd_form h1] at hrd
      obtain ⟨rfl, rfl⟩ := Prod.mk.inj (Option.some.inj hrd)
      obtain ⟨i1, i2⟩ := ih h4
      refine ⟨.cons h1 h2 h3 i1 rfl, fun _ => ?_⟩
      by_cases hr0 : r = []
      · subst hr0; exact h4
      · exact i2 hr0

theorem cut_first (s : ByteArray) (p n : Nat) : cutT s p (p + n) = ((bl s).drop p).take n := by
  unfold cutT
  rw [List.drop_take, Nat.add_sub_cancel_left]
theorem lexs_self (s : ByteArray) : ∀ (f p : Nat) (b : Bool), Sc.Wf ((bl s).drop p) → Cl b ((bl s).drop p) → ∀ t ∈ (Sc.lexs isW f p ((bl s).drop p)).1, Cl true (cutT s t.f t.t) ∧ Sc.lex isW (cutT s t.f t.t) = (t.k, t.t - t.f)
  | 0, p, b, _, _ => by simp [Sc.lexs]
  | f + 1, p, b, hw, hcl => by
    by_cases hl : (bl s).drop p = []
    · rw [hl, Sc.lexs_nil]; simp
    · by_cases hn : (Sc.lex isW ((bl s).drop p)).2 = 0
      · rw [Sc.lexs_no isW hl hn]; simp
      · rw [Sc.lexs_yes isW hl hn]
        obtain ⟨h1, h2, h3⟩ := Sc.lex_cut isW hw hn
        have hs := lex_self hw hn
        have hcl2 := hcl
        rw [← List.take_append_drop (Sc.lex isW ((bl s).drop p)).2 ((bl s).drop p)] at hcl2
        obtain ⟨c1, c2⟩ := cl_split h2 hcl2
        have hne : ((bl s).drop p).take (Sc.lex isW ((bl s).drop p)).2 ≠ [] := fun e => by
          have := congrArg List.length e
          rw [List.length_take] at this
          simp only [List.length_nil] at this
          omega
        have c3 := c2 hne
        intro t ht
        rcases List.mem_cons.1 ht with rfl | ht
        · dsimp only
          rw [cut_first, hs]
          refine ⟨?_, by rw [Nat.add_sub_cancel_left]⟩
          cases b with
          | true => exact c1
          | false => exact c1.any true
        · rw [List.drop_drop] at ht h3 c3
          exact lexs_self s f _ false h3 c3 t ht
theorem lexs_end (s : ByteArray) : ∀ (f p : Nat) (l : List UInt8), Sc.Wf l → l.length ≤ f → (Sc.lexs isW f p l).2 = none → (Sc.lexs isW f p l).1 = [] ∧ p + l.length = p ∨ ∃ L t, (Sc.lexs isW f p l).1 = L ++ [t] ∧ t.t = p + l.length
  | 0, p, l, _, h, _ => .inl ⟨rfl, by omega⟩
  | f + 1, p, l, hw, hf, h => by
    by_cases hl : l = []
    · subst hl; rw [Sc.lexs_nil]; exact .inl ⟨rfl, rfl⟩
    · by_cases hn : (Sc.lex isW l).2 = 0
      · rw [Sc.lexs_no isW hl hn] at h; cases h
      · rw [Sc.lexs_yes isW hl hn] at h ⊢
        obtain ⟨h1, _, h3⟩ := Sc.lex_cut isW hw hn
        dsimp only at h ⊢
        have hd : (l.drop (Sc.lex isW l).2).length = l.length - (Sc.lex isW l).2 := List.length_drop
        rcases lexs_end s f _ _ h3 (by rw [hd]; omega) h with ⟨e1, e2⟩ | ⟨L, t, e1, e2⟩
        · exact .inr ⟨[], _, by rw [e1]; rfl, by dsimp only; omega⟩
        · exact .inr ⟨_ :: L, t, by rw [e1]; rfl, by rw [e2, hd]; omega⟩
theorem lexs_bad : ∀ (f p : Nat) (l : List UInt8) (q : Nat), Sc.Wf l → (Sc.lexs isW f p l).2 = some q → q ≤ p + l.length
  | 0, p, l, q, _, h => by cases h
  | f + 1, p, l, q, hw, h => by
    by_cases hl : l = []
    · subst hl; rw [Sc.lexs_nil] at h; cases h
    · by_cases hn : (Sc.lex isW l).2 = 0
      · rw [Sc.lexs_no isW hl hn] at h
        have := Option.some.inj h; omega
      · rw [Sc.lexs_yes isW hl hn] at h
        obtain ⟨h1, _, h3⟩ := Sc.lex_cut isW hw hn
        have := lexs_bad f _ _ q h3 h
        rw [List.length_drop] at this
        omega
theorem cln_lt {s : ByteArray} : ∀ (f p q : Nat), Sc.cln s f p = some q → q < s.size
  | 0, p, q, h => by cases h
  | f + 1, p, q, h => by
    by_cases hp : p < s.size
    · cases hk : Um.okAt s p with
      | false => rw [Sc.cln_bad hp hk] at h; have := Option.some.inj h; omega
      | true =>
        cases hc : Sc.badC (Um.chr s p) p with
        | true => rw [Sc.cln_char hp hc] at h; have := Option.some.inj h; omega
        | false => rw [Sc.cln_step hp hk hc] at h; exact cln_lt f _ q h
    · rw [Sc.cln_end hp] at h; cases h

theorem allA_ok {s : ByteArray} (h : (allA s).2.1 = 0) : Sc.clnI s < 0 ∧ (Sc.lexs isW s.size 0 (bl s)).2 = none ∧ (allA s).1 = (Sc.lexs isW s.size 0 (bl s)).1 := by
  unfold allA at h ⊢
  split at h
  · exact absurd h (by decide)
  · rename_i h1
    rw [if_neg h1]
    split at h
    · exact absurd h (show ¬ (3 : Int) = 0 by decide)
    · rename_i h2
      rw [if_neg h2]
      split at h
      · rename_i h3
        rw [h3]
        exact ⟨by omega, rfl, rfl⟩
      · exact absurd h (show ¬ (4 : Int) = 0 by decide)
theorem cl_of_ok {s : ByteArray} (h : Sc.clnI s < 0) : Cl true (bl s) := by
  have hn : Sc.cln s s.size 0 = none := by
    unfold Sc.clnI at h
    split at h
    · omega
    · assumption
  have := cl_of_cln s.size 0 true (fun _ => rfl) (by omega) hn
  rwa [List.drop_zero] at this
/-- Each lexeme by itself. -/
theorem allA_self {s : ByteArray} (h : (allA s).2.1 = 0) (t : Sc.Tk) (ht : t ∈ (allA s).1) : oneV (s.extract t.f t.t) 0 = .tuple #[tokV t.k 0 ((t.t - t.f : Nat) : Int), .int .i64 0] := by
  obtain ⟨h1, h2, h3⟩ := allA_ok h
  have hord := (allA_ord s).2 t ht
  rw [h3] at ht
  have hs := lexs_self s s.size 0 true (by rw [List.drop_zero]; exact clean_wf h1) (by rw [List.drop_zero]; exact cl_of_ok h1)
  rw [List.drop_zero] at hs
  obtain ⟨c1, c2⟩ := hs t ht
  have hb : bl (s.extract t.f t.t) = cutT s t.f t.t := cutT_ext s t.f t.t
  have hsz : (s.extract t.f t.t).size = t.t - t.f := by
    rw [← bl_size, hb]
    unfold cutT
    rw [List.length_drop, List.length_take, bl_size]
    omega
  have hcl : Sc.clnI (s.extract t.f t.t) = -1 := clnI_iff (by rw [hb]; exact c1)
  have hok : Um.okAt (s.extract t.f t.t) 0 = true := by
    cases hk : Um.okAt (s.extract t.f t.t) 0 with
    | true => rfl
    | false =>
      have h0 := Sc.cln_bad (f := (s.extract t.f t.t).size - 1) (p := 0) (by rw [hsz]; omega) hk
      rw [show (s.extract t.f t.t).size - 1 + 1 = (s.extract t.f t.t).size by rw [hsz]; omega] at h0
      unfold Sc.clnI at hcl
      rw [h0] at hcl
      simp at hcl
  unfold oneV
  rw [if_neg (by rw [hsz]; omega), if_neg (by rw [hcl, show (0 : Int).toNat = 0 from rfl, hok]; simp), show (0 : Int).toNat = 0 from rfl, List.drop_zero, hb, c2]
  dsimp only
  rw [if_neg (by omega), Nat.zero_add]
/-- Where the next lexeme begins. -/
def atI (L : List Sc.Tk) : Nat → Nat
  | 0 => 0
  | i + 1 => (nthT L i).t
theorem chn_at : ∀ (L : List Sc.Tk) (p i : Nat), Chn p L → i + 1 < L.length → (nthT L (i + 1)).f = (nthT L i).t
  | [], p, i, _, h => by simp at h
  | [_], p, i, _, h => by simp at h
  | t :: u :: l, p, 0, h, _ => h.2.1
  | t :: u :: l, p, i + 1, h, hi => chn_at (u :: l) t.t i h.2 (by simpa using hi)
theorem allA_at {s : ByteArray} {i : Nat} (hi : i < (allA s).1.length) : (nthT (allA s).1 i).f = atI (allA s).1 i := by
  have hc := allA_chn s
  cases i with
  | zero =>
    generalize (allA s).1 = L at hi hc
    match L, hi, hc with
    | t :: l, _, hc => exact hc.1
  | succ i => exact chn_at _ 0 i hc hi
theorem allA_end {s : ByteArray} (h : (allA s).2.1 = 0) : atI (allA s).1 (allA s).1.length = s.size := by
  obtain ⟨h1, h2, h3⟩ := allA_ok h
  rw [h3]
  rcases lexs_end s s.size 0 (bl s) (clean_wf h1) (by rw [bl_size]; omega) h2 with ⟨e1, e2⟩ | ⟨L, t, e1, e2⟩
  · rw [e1, ← bl_size]
    show 0 = _
    omega
  · rw [e1, List.length_append]
    show (nthT (L ++ [t]) L.length).t = s.size
    have : nthT (L ++ [t]) L.length = t := by simp [nthT]
    rw [this, e2, bl_size]
    omega
theorem allA_fault_in {s : ByteArray} (h : (allA s).2.1 ≠ 0) : 0 ≤ (allA s).2.2 ∧ (allA s).2.2 ≤ (s.size : Int) := by
  unfold allA at h ⊢
  split
  · exact ⟨Int.le_refl _, by dsimp only; omega⟩
  · split
    · rename_i h1 h2
      refine ⟨h2, ?_⟩
      show Sc.clnI s ≤ _
      unfold Sc.clnI
      split
      · rename_i q hq
        have := cln_lt _ _ _ hq
        omega
      · omega
    · rename_i h1 h2
      split
      · exact ⟨Int.le_refl _, by dsimp only; omega⟩
      · rename_i q hq
        have := lexs_bad s.size 0 (bl s) q (clean_wf (by omega)) hq
        rw [bl_size] at this
        exact ⟨by dsimp only; omega, by dsimp only; omega⟩
end Go.Proofs.YtnkgbmnjehpkgabGreat

