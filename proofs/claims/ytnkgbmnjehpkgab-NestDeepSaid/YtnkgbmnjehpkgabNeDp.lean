/- Plain mathematics for NestDeep: so many brackets. -/
import Derived.Test.YtnkgbmnjehpkgabNeWr
namespace Go.Proofs.Ytnkgbmnjehpkgab
open Go.RowKit Em
set_option maxRecDepth 100000
set_option linter.unusedVariables false

/-- The bracket that opens, the one that closes. -/
def Oc (o c : Nat) : Prop := o = 40 ∧ c = 41 ∨ o = 91 ∧ c = 93 ∨ o = 123 ∧ c = 125
def ch (c : Nat) : UInt8 := UInt8.ofNat c
theorem oc_brk {o c : Nat} (h : Oc o c) : 0 < brk [ch o] ∧ brk [ch o] + brk [ch c] = 0 := by
  rcases h with ⟨rfl, rfl⟩ | ⟨rfl, rfl⟩ | ⟨rfl, rfl⟩ <;> decide
/-- The kind of a word of one letter. -/
def kw (a : Nat) : Nat := if isW [ch a] = true then 2 else 1
theorem kw_loud (a : Nat) : silent (kw a) = false := by unfold kw; split <;> decide
def Let (a : Nat) : Prop := a = 120 ∨ a = 97
theorem letter_lex {a : Nat} (ha : Let a) (r : List UInt8) (hr : r = [] ∨ ∃ d t, r = ch d :: t ∧ (d = 40 ∨ d = 41 ∨ d = 91 ∨ d = 93 ∨ d = 123 ∨ d = 125)) : Sc.lex isW ([ch a] ++ r) = (kw a, 1) := by
  have hrd : Qm.rd (ch a :: r) = some (a, r) := rd_small a (by rcases ha with rfl | rfl <;> omega) r
  have hleft : Sc.left Sc.wordC r = r := by
    rcases hr with rfl | ⟨d, t, rfl, hd⟩
    · exact left_empty _
    · exact Sc.left_no (rd_small d (by omega) t) (by rcases hd with rfl | rfl | rfl | rfl | rfl | rfl <;> decide)
  have hcnt : Sc.cnt Sc.wordC (ch a :: r) = 1 := by
    unfold Sc.cnt
    rw [Sc.left_yes hrd (by rcases ha with rfl | rfl <;> decide), hleft, List.length_cons]
    omega
  unfold Sc.lex
  rw [List.singleton_append, hrd]
  dsimp only
  have h3 : ∀ d, [47, d].isPrefixOf (ch a :: r) = false := by intro d; rcases ha with rfl | rfl <;> simp [List.isPrefixOf, ch]
  rw [if_neg (by rcases ha with rfl | rfl <;> decide), if_neg (by rcases ha with rfl | rfl <;> decide), if_neg (by rw [h3]; simp), if_neg (by rw [h3]; simp), if_pos (by rcases ha with rfl | rfl <;> decide), hcnt]
  rfl
theorem rep_lex {c : Nat} (hc : c = 40 ∨ c = 41 ∨ c = 91 ∨ c = 93 ∨ c = 123 ∨ c = 125) {rest : List UInt8} {X : List (Nat × List UInt8)} (h : ∀ f, rest.length ≤ f → lexL f rest = (X, true)) :
    ∀ (k f : Nat), k + rest.length ≤ f → lexL f (List.replicate k (ch c) ++ rest) = (List.replicate k (8, [ch c]) ++ X, true)
  | 0, f, hf => by rw [List.replicate_zero, List.replicate_zero, List.nil_append, List.nil_append]; exact h f (by omega)
  | k + 1, f, hf => by
    obtain ⟨g, rfl⟩ : ∃ g, f = g + 1 := ⟨f - 1, by omega⟩
    have ih := rep_lex hc h k g (by omega)
    have h2 := lexL_yes (f := g) (k := 8) (x := [ch c]) (r := List.replicate k (ch c) ++ rest) (by simp) (brk_lex c hc _)
    rw [List.replicate_succ, List.replicate_succ, List.cons_append, List.cons_append]
    rw [List.singleton_append] at h2
    rw [h2, ih]
theorem nil_lex (f : Nat) (_ : ([] : List UInt8).length ≤ f) : lexL f [] = (([] : List (Nat × List UInt8)), true) := lexL_nil f
theorem one_lex {o c : Nat} (h : Oc o c) (k f : Nat) (hf : k + (1 + k) ≤ f) :
    lexL f (List.replicate k (ch o) ++ ch 120 :: List.replicate k (ch c)) = (List.replicate k (8, [ch o]) ++ (kw 120, [ch 120]) :: List.replicate k (8, [ch c]), true) := by
  have h1 : ∀ f, k ≤ f → lexL f (List.replicate k (ch c)) = (List.replicate k (8, [ch c]), true) := by
    intro f hf
    have := rep_lex (c := c) (by rcases h with ⟨_, rfl⟩ | ⟨_, rfl⟩ | ⟨_, rfl⟩ <;> omega) nil_lex k f (by simpa using hf)
    rwa [List.append_nil, List.append_nil] at this
  refine rep_lex (c := o) (by rcases h with ⟨rfl, _⟩ | ⟨rfl, _⟩ | ⟨rfl, _⟩ <;> omega) ?_ k f (by rw [List.length_cons, List.length_replicate]; omega)
  intro f hf
  rw [List.length_cons, List.length_replicate] at hf
  obtain ⟨g, rfl⟩ : ∃ g, f = g + 1 := ⟨f - 1, by omega⟩
  have h2 := lexL_yes (f := g) (k := kw 120) (x := [ch 120]) (r := List.replicate k (ch c)) (by simp) (letter_lex (.inl rfl) _ (by
    cases k with
    | zero => exact .inl rfl
    | succ k => exact .inr ⟨c, List.replicate k (ch c), rfl, by rcases h with ⟨_, rfl⟩ | ⟨_, rfl⟩ | ⟨_, rfl⟩ <;> omega⟩))
  rw [List.singleton_append] at h2
  rw [h2, h1 g (by omega)]
theorem two_lex {o c : Nat} (h : Oc o c) (k f : Nat) (hf : 1 + k ≤ f) : lexL f (ch 97 :: List.replicate k (ch o)) = ((kw 97, [ch 97]) :: List.replicate k (8, [ch o]), true) := by
  obtain ⟨g, rfl⟩ : ∃ g, f = g + 1 := ⟨f - 1, by omega⟩
  have h1 := rep_lex (c := o) (by rcases h with ⟨rfl, _⟩ | ⟨rfl, _⟩ | ⟨rfl, _⟩ <;> omega) nil_lex k g (by simp; omega)
  rw [List.append_nil, List.append_nil] at h1
  have h2 := lexL_yes (f := g) (k := kw 97) (x := [ch 97]) (r := List.replicate k (ch o)) (by simp) (letter_lex (.inr rfl) _ (by
    cases k with
    | zero => exact .inl rfl
    | succ k => exact .inr ⟨o, List.replicate k (ch o), rfl, by rcases h with ⟨rfl, _⟩ | ⟨rfl, _⟩ | ⟨rfl, _⟩ <;> omega⟩))
  rw [List.singleton_append] at h2
  rw [h2, h1]

/-! ### Clean bytes; the tokens of a text without blanks -/
theorem cl_bytes : ∀ (l : List UInt8), (∀ x ∈ l, ∃ c, x = ch c ∧ c < 128 ∧ c ≠ 0) → Cl false l
  | [], _ => .nil _
  | x :: l, h => by
    obtain ⟨c, rfl, h1, h2⟩ := h x (by simp)
    exact cl_byte h1 h2 (cl_bytes l (fun y hy => h y (by simp [hy]))) false
theorem semF_dense (s : ByteArray) : ∀ L : List Sc.Tk, (∀ t ∈ L, silent t.k = false) → ∃ tail, semF s L = L ++ tail ∧ (tail = [] ∨ ∃ u, tail = [⟨9, u, u⟩])
  | [], _ => ⟨[], rfl, .inl rfl⟩
  | [t], h => by
    have hs := h t (by simp)
    rw [semF, if_neg (by rw [hs]; simp)]
    split
    · exact ⟨[⟨9, t.t, t.t⟩], rfl, .inr ⟨_, rfl⟩⟩
    · exact ⟨[], rfl, .inl rfl⟩
  | t :: u :: l, h => by
    have hs := h t (by simp)
    have hu := h u (by simp)
    obtain ⟨tail, h1, h2⟩ := semF_dense s (u :: l) (fun y hy => h y (by simp [hy]))
    have he : endedL s (u :: l) = false := by rw [endedL_cons, if_neg (by rw [hu]; simp)]
    rw [semF, if_neg (by rw [hs]; simp), if_neg (by rw [he, Bool.and_false]; simp), h1]
    exact ⟨tail, rfl, h2⟩
theorem chn_unit : ∀ (L : List Sc.Tk) (p i : Nat), Chn p L → (∀ t ∈ L, t.t = t.f + 1) → i < L.length → (nthT L i).f = p + i
  | [], p, i, _, _, hi => by simp at hi
  | t :: l, p, 0, hc, _, _ => hc.1
  | t :: l, p, i + 1, hc, hu, hi => by
    have h1 := hu t (by simp)
    have := chn_unit l t.t i hc.2 (fun y hy => hu y (by simp [hy])) (by simpa using hi)
    have h2 := hc.1
    show (nthT l i).f = _
    rw [this]; omega
/-- A text of lexemes of one byte each, no blank among them. -/
theorem unit_all {t : ByteArray} {X : List (Nat × List UInt8)} (hcl : ∀ x ∈ bl t, ∃ c, x = ch c ∧ c < 128 ∧ c ≠ 0) (hsz : t.size ≤ 65536) (hl : lexL t.size (bl t) = (X, true)) (hX : ∀ x ∈ X, silent x.1 = false ∧ x.2.length = 1) :
    (semA t).2.1 = 0 ∧ X.length ≤ (semA t).1.length ∧ (semA t).1.length ≤ X.length + 1 ∧ (∀ i, i < (semA t).1.length → nb t (semA t).1 i = bX X i) ∧ ∀ i, i < X.length → (nthT (semA t).1 i).f = i := by
  obtain ⟨h1, h2⟩ := all_of_lexL ((cl_bytes _ hcl).any true) hsz (Nat.le_refl _) (by rw [hl])
  rw [hl] at h2
  dsimp only at h2
  have hlenX : (allA t).1.length = X.length := by rw [← h2]; unfold tksOf; rw [List.length_map]
  have hloud : ∀ u ∈ (allA t).1, silent u.k = false := by
    intro u hu
    have : (u.k, cutT t u.f u.t) ∈ X := by rw [← h2]; exact List.mem_map.2 ⟨u, hu, rfl⟩
    exact (hX _ this).1
  have hunit : ∀ u ∈ (allA t).1, u.t = u.f + 1 := by
    intro u hu
    have : (u.k, cutT t u.f u.t) ∈ X := by rw [← h2]; exact List.mem_map.2 ⟨u, hu, rfl⟩
    have h3 := (hX _ this).2
    have h4 := (allA_ord t).2 u hu
    dsimp only at h3
    unfold cutT at h3
    rw [List.length_drop, List.length_take, bl_size] at h3
    omega
  obtain ⟨tail, h5, h6⟩ := semF_dense t _ hloud
  rw [semF_all t h1] at h5
  have htl : tail.length ≤ 1 := by rcases h6 with rfl | ⟨u, rfl⟩ <;> simp
  have hnth : ∀ i, i < X.length → nthT (semA t).1 i = nthT (allA t).1 i := by
    intro i hi
    unfold nthT
    rw [h5, List.getD_eq_getElem?_getD, List.getD_eq_getElem?_getD, List.getElem?_append_left (by omega)]
  refine ⟨all_semA h1, by rw [h5, List.length_append]; omega, by rw [h5, List.length_append]; omega, fun i hi => ?_, fun i hi => ?_⟩
  · by_cases hx : i < X.length
    · unfold nb bX
      rw [hnth i hx, ← h2]
      unfold tksOf
      rw [nthT_get (show i < (allA t).1.length by omega), List.getD_eq_getElem?_getD, List.getElem?_map, List.getElem?_eq_getElem (by omega)]
      rfl
    · have e1 : bX X i = 0 := by unfold bX; rw [List.getD_eq_getElem?_getD, List.getElem?_eq_none (by omega)]; rfl
      rw [e1]
      rcases h6 with rfl | ⟨u, rfl⟩
      · rw [h5, List.append_nil] at hi; omega
      · unfold nb nthT
        rw [h5, List.length_append, List.length_singleton] at hi
        rw [h5, List.getD_eq_getElem?_getD, List.getElem?_append_right (by omega), show i - (allA t).1.length = 0 by omega]
        show brk (cutT t u u) = 0
        have : cutT t u u = [] := by unfold cutT; exact List.drop_of_length_le (by rw [List.length_take]; omega)
        rw [this]; rfl
  · rw [hnth i hi, chn_unit _ 0 i (allA_chn t) hunit (by omega)]; omega

/-! ### The stack -/
def stk (a : Nat) : Nat → List Nat
  | 0 => []
  | j + 1 => (a + j) :: stk a j
theorem stk_len (a : Nat) : ∀ j, (stk a j).length = j
  | 0 => rfl
  | j + 1 => by rw [stk, List.length_cons, stk_len a j]
theorem run_open {b : Nat → Int} {a : Nat} {p : Nat → Int} (h0 : nAt b a = .ok [] p 0) : ∀ j, j ≤ 100 → (∀ i, i < j → 0 < b (a + i)) → nAt b (a + j) = .ok (stk a j) p j
  | 0, _, _ => h0
  | j + 1, hj, h => by
    have ih := run_open h0 j (by omega) (fun i hi => h i (by omega))
    rw [show a + (j + 1) = (a + j) + 1 by omega, nAt_ok ih, step_open (h j (by omega)) (by rw [stk_len]; omega), stk_len]
    have : max j (j + 1) = j + 1 := by omega
    rw [this]; rfl
theorem run_deep {b : Nat → Int} {a : Nat} {p : Nat → Int} (h0 : nAt b a = .ok [] p 0) (h : ∀ i, i < 101 → 0 < b (a + i)) : nAt b (a + 101) = .bad 6 (a + 100) := by
  have ih := run_open h0 100 (by omega) (fun i hi => h i (by omega))
  rw [show a + 101 = (a + 100) + 1 by omega, nAt_ok ih]
  exact step_deep (h 100 (by omega)) (stk_len a 100)
theorem run_shut {b : Nat → Int} {a : Nat} {m : Nat} : ∀ (j e : Nat) (p : Nat → Int), nAt b e = .ok (stk a j) p m → (∀ i, i < j → b (e + i) < 0) → (∀ i l, i < j → l < j → b (a + l) + b (e + i) = 0) → ∃ p', nAt b (e + j) = .ok [] p' m
  | 0, e, p, h, _, _ => ⟨p, h⟩
  | j + 1, e, p, h, h1, h2 => by
    have h3 : nAt b (e + 1) = .ok (stk a j) (upd (upd p e ((a + j : Nat) : Int)) (a + j) e) m := by
      rw [nAt_ok h]
      exact step_shut (by have := h1 0 (by omega); simpa using this) (by have := h2 0 j (by omega) (by omega); simpa using this)
    obtain ⟨p', h4⟩ := run_shut j (e + 1) _ h3 (fun i hi => by have := h1 (i + 1) (by omega); rwa [show e + (i + 1) = e + 1 + i by omega] at this) (fun i l hi hl => by
      have := h2 (i + 1) l (by omega) (by omega)
      rwa [show e + (i + 1) = e + 1 + i by omega] at this)
    exact ⟨p', by rw [show e + (j + 1) = e + 1 + j by omega]; exact h4⟩
theorem bX_rep (k : Nat) (x : Nat × List UInt8) (Y : List (Nat × List UInt8)) {i : Nat} (hi : i < k) : bX (List.replicate k x ++ Y) i = brk x.2 := by
  unfold bX
  rw [List.getD_eq_getElem?_getD, List.getElem?_append_left (by rw [List.length_replicate]; exact hi), List.getElem?_replicate, if_pos hi]
  rfl
theorem bX_far (k : Nat) (x : Nat × List UInt8) (Y : List (Nat × List UInt8)) (i : Nat) : bX (List.replicate k x ++ Y) (k + i) = bX Y i := by
  unfold bX
  rw [List.getD_eq_getElem?_getD, List.getD_eq_getElem?_getD, List.getElem?_append_right (by rw [List.length_replicate]; omega), List.length_replicate, Nat.add_sub_cancel_left]
theorem bX_end (Y : List (Nat × List UInt8)) {i : Nat} (h : Y.length ≤ i) : bX Y i = 0 := by
  unfold bX
  rw [List.getD_eq_getElem?_getD, List.getElem?_eq_none h]; rfl
theorem bX_succ (y : Nat × List UInt8) (Y : List (Nat × List UInt8)) (i : Nat) : bX (y :: Y) (i + 1) = bX Y i := by
  unfold bX; rw [List.getD_cons_succ]
theorem brk_word : brk [ch 120] = 0 ∧ brk [ch 97] = 0 := by decide

/-- The first text. -/
def dOne (o c k : Nat) : List UInt8 := List.replicate k (ch o) ++ ch 120 :: List.replicate k (ch c)
def dTwo (o k : Nat) : List UInt8 := ch 97 :: List.replicate k (ch o)
theorem oc_small {o c : Nat} (h : Oc o c) : (o < 128 ∧ o ≠ 0) ∧ (c < 128 ∧ c ≠ 0) := by
  rcases h with ⟨rfl, rfl⟩ | ⟨rfl, rfl⟩ | ⟨rfl, rfl⟩ <;> decide
theorem deep_one {t : ByteArray} {o c k : Nat} (h : Oc o c) (hk : k < 130) (ht : bl t = dOne o c k) :
    (k ≤ 100 ∧ nestM t = k ∧ nestE t = 0 ∧ nestF t = 0) ∨ (100 < k ∧ nestM t = 0 ∧ nestE t = 6 ∧ nestF t = 100) := by
  have hsz : t.size = k + (1 + k) := by
    rw [← bl_size, ht]; unfold dOne
    rw [List.length_append, List.length_replicate, List.length_cons, List.length_replicate]; omega
  obtain ⟨⟨s1, s2⟩, ⟨s3, s4⟩⟩ := oc_small h
  obtain ⟨u1, u2, u3, u4, u5⟩ := unit_all (t := t) (X := List.replicate k (8, [ch o]) ++ (kw 120, [ch 120]) :: List.replicate k (8, [ch c])) (by
      intro x hx
      rw [ht] at hx
      unfold dOne at hx
      rcases List.mem_append.1 hx with hx | hx
      · exact ⟨o, (List.mem_replicate.1 hx).2, s1, s2⟩
      · rcases List.mem_cons.1 hx with rfl | hx
        · exact ⟨120, rfl, by omega, by omega⟩
        · exact ⟨c, (List.mem_replicate.1 hx).2, s3, s4⟩) (by omega) (by rw [ht]; exact one_lex h k _ (by omega)) (by
      intro x hx
      rcases List.mem_append.1 hx with hx | hx
      · rw [(List.mem_replicate.1 hx).2]; exact ⟨(by decide : silent 8 = false), rfl⟩
      · rcases List.mem_cons.1 hx with rfl | hx
        · exact ⟨kw_loud _, rfl⟩
        · rw [(List.mem_replicate.1 hx).2]; exact ⟨(by decide : silent 8 = false), rfl⟩)
  rw [List.length_append, List.length_replicate, List.length_cons, List.length_replicate] at u2 u3 u5
  obtain ⟨b1, b2⟩ := oc_brk h
  have bo : ∀ i, i < k → nb t (semA t).1 (0 + i) = brk [ch o] := fun i hi => by rw [Nat.zero_add, u4 i (by omega), bX_rep _ _ _ hi]
  have bx : nb t (semA t).1 k = 0 := by
    have e := bX_far k (8, [ch o]) ((kw 120, [ch 120]) :: List.replicate k (8, [ch c])) 0
    rw [Nat.add_zero] at e
    rw [u4 k (by omega), e]
    exact brk_word.1
  have bc : ∀ i, i < k → nb t (semA t).1 (k + 1 + i) = brk [ch c] := fun i hi => by
    rw [u4 _ (by omega), show k + 1 + i = k + (i + 1) by omega, bX_far, bX_succ]
    have := bX_rep k (8, [ch c]) [] hi
    rwa [List.append_nil] at this
  have hstart : nAt (nb t (semA t).1) 0 = .ok [] (fun _ => -1) 0 := rfl
  by_cases hk1 : k ≤ 100
  · left
    have h1 := run_open hstart k hk1 (fun i hi => by rw [bo i hi]; exact b1)
    rw [Nat.zero_add] at h1
    have h2 : nAt (nb t (semA t).1) (k + 1) = _ := (nAt_ok h1).trans (step_rest bx)
    obtain ⟨p', h3⟩ := run_shut k (k + 1) _ h2 (fun i hi => by rw [bc i hi]; omega) (fun i l hi hl => by rw [bc i hi, bo l hl]; exact b2)
    have hf : nFin (nb t (semA t).1) (semA t).1.length = .ok [] p' k := by
      unfold nFin
      by_cases e : (semA t).1.length = k + 1 + k
      · rw [e, h3]
      · have e2 : (semA t).1.length = (k + 1 + k) + 1 := by omega
        rw [e2, nAt_ok h3, step_rest]
        rw [u4 _ (by omega), show k + 1 + k = k + (k + 1) by omega, bX_far, bX_succ]
        exact bX_end _ (by rw [List.length_replicate]; omega)
    obtain ⟨a1, a2, a3, a4, a5⟩ := nest_ok u1 hf
    exact ⟨hk1, a3, a4, a5⟩
  · right
    have h1 := run_deep hstart (fun i hi => by rw [bo i (by omega)]; exact b1)
    have hf : nFin (nb t (semA t).1) (semA t).1.length = .bad 6 100 := by
      unfold nFin
      rw [nAt_bad h1 _ (by omega)]
    obtain ⟨a1, a2, a3, a4⟩ := nest_bad u1 hf
    exact ⟨by omega, a2, a3, by rw [a4, u5 100 (by omega)]; rfl⟩
theorem deep_two {t : ByteArray} {o c k : Nat} (h : Oc o c) (hk : k < 130) (ht : bl t = dTwo o k) :
    (k = 0 ∧ nestE t = 0 ∧ nestF t = 0) ∨ (0 < k ∧ k ≤ 100 ∧ nestE t = 5 ∧ nestF t = k) ∨ (100 < k ∧ nestE t = 6 ∧ nestF t = 101) := by
  have hsz : t.size = 1 + k := by
    rw [← bl_size, ht]; unfold dTwo
    rw [List.length_cons, List.length_replicate]; omega
  obtain ⟨⟨s1, s2⟩, ⟨s3, s4⟩⟩ := oc_small h
  obtain ⟨u1, u2, u3, u4, u5⟩ := unit_all (t := t) (X := (kw 97, [ch 97]) :: List.replicate k (8, [ch o])) (by
      intro x hx
      rw [ht] at hx
      unfold dTwo at hx
      rcases List.mem_cons.1 hx with rfl | hx
      · exact ⟨97, rfl, by omega, by omega⟩
      · exact ⟨o, (List.mem_replicate.1 hx).2, s1, s2⟩) (by omega) (by rw [ht]; exact two_lex h k _ (by omega)) (by
      intro x hx
      rcases List.mem_cons.1 hx with rfl | hx
      · exact ⟨kw_loud _, rfl⟩
      · rw [(List.mem_replicate.1 hx).2]; exact ⟨(by decide : silent 8 = false), rfl⟩)
  rw [List.length_cons, List.length_replicate] at u2 u3 u5
  obtain ⟨b1, b2⟩ := oc_brk h
  have b0 : nb t (semA t).1 0 = 0 := by rw [u4 0 (by omega)]; exact brk_word.2
  have bo : ∀ i, i < k → nb t (semA t).1 (1 + i) = brk [ch o] := fun i hi => by
    rw [u4 _ (by omega), show 1 + i = i + 1 by omega, bX_succ]
    have := bX_rep k (8, [ch o]) [] hi
    rwa [List.append_nil] at this
  have hstart : nAt (nb t (semA t).1) 1 = .ok [] (fun _ => -1) 0 := (nAt_ok (rfl : nAt (nb t (semA t).1) 0 = .ok [] (fun _ => -1) 0)).trans (step_rest b0)
  by_cases hk1 : k ≤ 100
  · have h1 := run_open hstart k hk1 (fun i hi => by rw [bo i hi]; exact b1)
    have h2 : nAt (nb t (semA t).1) (semA t).1.length = .ok (stk 1 k) (fun _ => -1) k := by
      by_cases e : (semA t).1.length = 1 + k
      · rw [e]; exact h1
      · have e2 : (semA t).1.length = (1 + k) + 1 := by omega
        rw [e2, nAt_ok h1, step_rest]
        rw [u4 _ (by omega), show 1 + k = k + 1 by omega, bX_succ]
        exact bX_end _ (by rw [List.length_replicate]; omega)
    cases k with
    | zero =>
      left
      have hf : nFin (nb t (semA t).1) (semA t).1.length = .ok [] (fun _ => -1) 0 := by unfold nFin; rw [h2]; rfl
      obtain ⟨a1, a2, a3, a4, a5⟩ := nest_ok u1 hf
      exact ⟨rfl, a4, a5⟩
    | succ k =>
      right; left
      have hf : nFin (nb t (semA t).1) (semA t).1.length = .bad 5 (1 + k) := by unfold nFin; rw [h2]; rfl
      obtain ⟨a1, a2, a3, a4⟩ := nest_bad u1 hf
      exact ⟨by omega, hk1, a3, by rw [a4, u5 (1 + k) (by omega)]; omega⟩
  · right; right
    have h1 := run_deep hstart (fun i hi => by rw [bo i (by omega)]; exact b1)
    have hf : nFin (nb t (semA t).1) (semA t).1.length = .bad 6 101 := by
      unfold nFin
      rw [nAt_bad h1 _ (by omega)]
    obtain ⟨a1, a2, a3, a4⟩ := nest_bad u1 hf
    exact ⟨by omega, a3, by rw [a4, u5 101 (by omega)]; rfl⟩
end Go.Proofs.Ytnkgbmnjehpkgab

