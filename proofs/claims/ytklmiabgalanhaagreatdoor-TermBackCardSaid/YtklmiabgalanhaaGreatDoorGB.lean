/- Plain mathematics of numbers as texts: rows of digits, decimals, numbers with a prefix, by one way forward and by all cuts. Nothing of the program is named here. -/
import Derived.Test.YtklmiabgalanhaaGreatDoorGA
namespace Go.Proofs.YtklmiabgalanhaaGreatDoor.Nm
set_option maxRecDepth 100000

/-- What a byte says as a digit of base 16; 16: it is none. -/
def dg (c : UInt8) : Nat := if 48 ≤ c.toNat ∧ c.toNat ≤ 57 then c.toNat - 48 else if 97 ≤ c.toNat ∧ c.toNat ≤ 102 then c.toNat - 97 + 10 else if 65 ≤ c.toNat ∧ c.toNat ≤ 70 then c.toNat - 65 + 10 else 16

/-- A row of digits. -/
def R (b : Nat) : List UInt8 → Bool
  | [] => false
  | [c] => decide (dg c < b)
  | c :: d :: l => decide (dg c < b) && (if d = 95 then R b l else R b (d :: l))

/-- What is left behind as long a row as there is. -/
def go (b : Nat) : List UInt8 → List UInt8
  | [] => []
  | [c] => if dg c < b then [] else [c]
  | c :: d :: l => if dg c < b then (if d = 95 then (match l with | [] => d :: l | e :: _ => if dg e < b then go b l else d :: l) else go b (d :: l)) else c :: d :: l

/-- Does a digit stand ahead? -/
def hd (b : Nat) : List UInt8 → Bool
  | [] => false
  | c :: _ => decide (dg c < b)

theorem dg_under : dg 95 = 16 := by decide

theorem go_no {b : Nat} {l : List UInt8} (h : hd b l = false) : go b l = l := by
  match l, h with
  | [], _ => rfl
  | [c], h => simp [hd] at h; simp [go]; omega
  | c :: d :: l, h => simp [hd] at h; simp [go]; omega

theorem hd_R {b : Nat} {l : List UInt8} (h : R b l = true) : hd b l = true := by
  match l, h with
  | [c], h => simpa [R, hd] using h
  | c :: d :: l, h => simp [R] at h; simp [hd]; exact h.1

theorem go_spec {b : Nat} (hb : b ≤ 16) : ∀ (l : List UInt8), hd b l = true → ∃ p, l = p ++ go b l ∧ R b p = true
  | [], h => by simp [hd] at h
  | [c], h => by
    simp [hd] at h
    exact ⟨[c], by simp [go, h], by simp [R, h]⟩
  | c :: d :: l, h => by
    simp [hd] at h
    by_cases hd' : d = 95
    · subst hd'
      match l with
      | [] => exact ⟨[c], by simp [go, h], by simp [R, h]⟩
      | e :: l =>
        by_cases he : dg e < b
        · obtain ⟨p, h1, h2⟩ := go_spec hb (e :: l) (by simp [hd, he])
          refine ⟨c :: 95 :: p, ?_, ?_⟩
          · have : go b (c :: 95 :: e :: l) = go b (e :: l) := by simp [go, h, he]
            rw [this, List.cons_append, List.cons_append, ← h1]
          · simp [R, h, h2]
        · exact ⟨[c], by simp [go, h, he], by simp [R, h]⟩
    · by_cases hdd : dg d < b
      · obtain ⟨p, h1, h2⟩ := go_spec hb (d :: l) (by simp [hd, hdd])
        have e1 : go b (c :: d :: l) = go b (d :: l) := by simp [go, h, hd']
        match p, h1, h2 with
        | x :: p, h1, h2 =>
          have : d = x := by simpa using congrArg List.head? h1
          subst this
          refine ⟨c :: d :: p, by rw [e1, List.cons_append, ← h1], ?_⟩
          rw [R, if_neg hd', h2]; simp [h]
      · refine ⟨[c], ?_, by simp [R, h]⟩
        have e1 : go b (c :: d :: l) = d :: l := by
          have : go b (c :: d :: l) = go b (d :: l) := by simp [go, h, hd']
          rw [this, go_no (by simp [hd]; omega)]
        rw [e1]; rfl

/-- Nothing behind a row goes on with it. -/
def stops (b : Nat) : List UInt8 → Prop
  | [] => True
  | c :: _ => ¬ dg c < b ∧ c ≠ 95

theorem stops_hd {b : Nat} {r : List UInt8} (h : stops b r) : go b r = r := by
  apply go_no
  match r, h with
  | [], _ => rfl
  | c :: r, h => simp [hd]; have := h.1; omega

theorem go_unique {b : Nat} (hb : b ≤ 16) {r : List UInt8} (hr : stops b r) : ∀ (p : List UInt8), R b p = true → go b (p ++ r) = r
  | [], h => by simp [R] at h
  | [c], h => by
    simp [R] at h
    match r, hr with
    | [], _ => simp [go, h]
    | d :: r, hr =>
      have : go b ([c] ++ d :: r) = go b (d :: r) := by simp [go, h, hr.2]
      rw [this, stops_hd hr]
  | c :: d :: l, h => by
    rw [R] at h
    simp only [Bool.and_eq_true, decide_eq_true_eq] at h
    obtain ⟨h1, h2⟩ := h
    by_cases hd' : d = 95
    · subst hd'
      rw [if_pos rfl] at h2
      have h3 := hd_R h2
      match l, h2, h3 with
      | e :: l, h2, h3 =>
        simp [hd] at h3
        have : go b (c :: 95 :: e :: l ++ r) = go b (e :: l ++ r) := by simp [go, h1, h3]
        rw [this, go_unique hb hr (e :: l) h2]
    · rw [if_neg hd'] at h2
      have : go b (c :: d :: l ++ r) = go b (d :: l ++ r) := by simp [go, h1, hd']
      rw [this, go_unique hb hr (d :: l) h2]

theorem hd_append {b : Nat} {p : List UInt8} (r : List UInt8) (h : R b p = true) : hd b (p ++ r) = true := by
  have := hd_R h
  match p, this with
  | c :: p, h => exact h

/-- A text that is gone through as one row. -/
def whole (b : Nat) (l : List UInt8) : Bool := hd b l && (go b l).isEmpty

theorem whole_eq {b : Nat} (hb : b ≤ 16) (l : List UInt8) : whole b l = R b l := by
  rw [Bool.eq_iff_iff]
  unfold whole
  constructor
  · intro h
    simp only [Bool.and_eq_true, List.isEmpty_iff] at h
    obtain ⟨p, h1, h2⟩ := go_spec hb l h.1
    rw [h.2, List.append_nil] at h1
    rw [h1]; exact h2
  · intro h
    have := go_unique hb (r := []) trivial l h
    rw [List.append_nil] at this
    simp [hd_R h, this]

theorem R_mem {b : Nat} : ∀ (l : List UInt8), R b l = true → ∀ c ∈ l, dg c < b ∨ c = 95
  | [], h, _, _ => by simp [R] at h
  | [c], h, x, hx => by simp at hx; subst hx; simp [R] at h; exact .inl h
  | c :: d :: l, h, x, hx => by
    rw [R] at h
    simp only [Bool.and_eq_true, decide_eq_true_eq] at h
    obtain ⟨h1, h2⟩ := h
    rcases List.mem_cons.1 hx with rfl | hx
    · exact .inl h1
    · by_cases hd' : d = 95
      · rw [if_pos hd'] at h2
        rcases List.mem_cons.1 hx with rfl | hx
        · exact .inr hd'
        · exact R_mem l h2 x hx
      · rw [if_neg hd'] at h2
        exact R_mem (d :: l) h2 x hx

theorem R_last {b : Nat} : ∀ (l : List UInt8), R b l = true → ∃ c, l.getLast? = some c ∧ dg c < b
  | [], h => by simp [R] at h
  | [c], h => ⟨c, rfl, by simpa [R] using h⟩
  | c :: d :: l, h => by
    rw [R] at h
    simp only [Bool.and_eq_true, decide_eq_true_eq] at h
    obtain ⟨h1, h2⟩ := h
    by_cases hd' : d = 95
    · rw [if_pos hd'] at h2
      obtain ⟨x, hx, hl⟩ := R_last l h2
      match l, hx with
      | e :: l, hx => exact ⟨x, by rw [List.getLast?_cons_cons, List.getLast?_cons_cons]; exact hx, hl⟩
    · rw [if_neg hd'] at h2
      obtain ⟨x, hx, hl⟩ := R_last (d :: l) h2
      exact ⟨x, by rw [List.getLast?_cons_cons]; exact hx, hl⟩

theorem R_mono {b c : Nat} (hbc : b ≤ c) : ∀ (l : List UInt8), R b l = true → R c l = true
  | [], h => by simp [R] at h
  | [x], h => by simp [R] at h ⊢; omega
  | x :: d :: l, h => by
    rw [R] at h ⊢
    simp only [Bool.and_eq_true, decide_eq_true_eq] at h ⊢
    refine ⟨by omega, ?_⟩
    have h2 := h.2
    by_cases hd' : d = 95
    · rw [if_pos hd'] at h2 ⊢; exact R_mono hbc l h2
    · rw [if_neg hd'] at h2 ⊢; exact R_mono hbc (d :: l) h2

/-- The reference's test, byte by byte: the one ahead goes along. -/
def chk (b : Nat) : UInt8 → List UInt8 → Bool
  | _, [] => true
  | p, c :: l => (decide (c = 95 ∧ p ≠ 95) || decide (dg c < b)) && chk b c l

def lastD (b : Nat) (l : List UInt8) : Bool := match l.getLast? with | none => false | some c => decide (dg c < b)

theorem chk_eq {b : Nat} (hb : b ≤ 16) : ∀ (c : UInt8) (t : List UInt8), dg c < b → (chk b c t && lastD b (c :: t)) = R b (c :: t)
  | c, [], h => by simp [chk, lastD, R]
  | c, [d], h => by
    by_cases hd' : d = 95
    · subst hd'
      have : ¬ dg 95 < b := by rw [dg_under]; omega
      simp [lastD, R, this]
    · simp [chk, lastD, R, hd', h]
  | c, d :: e :: v, h => by
    have hl : ∀ x (y : UInt8) l, lastD b (x :: y :: l) = lastD b (y :: l) := fun x y l => by unfold lastD; rw [List.getLast?_cons_cons]
    by_cases hd' : d = 95
    · subst hd'
      have hc : c ≠ 95 := by rintro rfl; rw [dg_under] at h; omega
      rw [R, if_pos rfl, hl, hl, chk, chk]
      by_cases he : dg e < b
      · rw [← chk_eq hb e v he]; simp [hc, he, h]
      · have : R b (e :: v) = false := by
          cases hv : R b (e :: v) with
          | false => rfl
          | true => have := hd_R hv; simp [hd] at this; omega
        rw [this]; simp [he]
    · rw [R, if_neg hd', hl, chk]
      by_cases hdd : dg d < b
      · rw [← chk_eq hb d (e :: v) hdd]; simp [hd', hdd, h]
      · have : R b (d :: e :: v) = false := by
          cases hv : R b (d :: e :: v) with
          | false => rfl
          | true => have := hd_R hv; simp [hd] at this; omega
        rw [this]; simp [hd', hdd]

/-- The sign of a power. -/
def sg : List UInt8 → List UInt8
  | [] => []
  | c :: t => if c = 43 ∨ c = 45 then t else c :: t
/-- What stands behind the letter of a power, to the end. -/
def expo (l : List UInt8) : Bool := whole 10 (sg l)

def at1 (c : UInt8) : List UInt8 → Bool
  | [] => false
  | x :: _ => decide (x = c)
def at2 (c d : UInt8) : List UInt8 → Bool
  | [] => false
  | x :: _ => decide (x = c ∨ x = d)

def dec (l : List UInt8) : Nat :=
  let w := hd 10 l
  let l1 := go 10 l
  if (w && l1.isEmpty) = true then (if (!at1 48 l || whole 8 l) = true then 3 else 0)
  else
    let point := at1 46 l1
    let l2 := if point = true then l1.tail else l1
    let part := point && hd 10 l2
    let l3 := if part = true then go 10 l2 else l2
    if ((w || part) && at2 101 69 l3) = true then (if expo l3.tail = true then 4 else 0)
    else if ((w && point || part) && l3.isEmpty) = true then 4 else 0

def pre (l : List UInt8) (base : Nat) : Nat :=
  let lined := at1 95 l
  let l1 := if lined = true then l.tail else l
  let w := hd base l1
  let l2 := go base l1
  if (w && l2.isEmpty) = true then 3
  else if base ≠ 16 ∨ (lined && !w) = true then 0
  else
    let point := at1 46 l2
    let l3 := if point = true then l2.tail else l2
    let part := point && hd 16 l3
    let l4 := if part = true then go 16 l3 else l3
    if ((w || part) && at2 112 80 l4 && expo l4.tail) = true then 4 else 0

def pfx : List UInt8 → Nat
  | c :: d :: _ => if c = 48 then (if d = 98 ∨ d = 66 then 2 else if d = 111 ∨ d = 79 then 8 else if d = 120 ∨ d = 88 then 16 else 10) else 10
  | _ => 10

def plain (l : List UInt8) : Nat := if pfx l = 10 then dec l else pre (l.drop 2) (pfx l)

def kind (l : List UInt8) : Nat :=
  if l.getLast? = some 105 then (if plain l.dropLast ≠ 0 ∨ whole 10 l.dropLast = true then 5 else 0) else plain l

/-- The reference's pieces. -/
def under (b : Nat) (l : List UInt8) : Bool := R b l || (at1 95 l && R b l.tail)
def power (c d : UInt8) (l : List UInt8) : Bool := at2 c d l && expo l.tail
def front (b : Nat) (hex : Bool) (l : List UInt8) : Bool := R b l || (hex && under b l)
/-- A point cuts the text. -/
def cuts (b : Nat) (hex : Bool) (x y : List UInt8) : Bool := (front b hex x && (y.isEmpty || R b y)) || (x.isEmpty && R b y)
def pointed (b : Nat) (hex : Bool) (l : List UInt8) : Prop := ∃ x y, l = x ++ 46 :: y ∧ cuts b hex x y = true

def IntG (l : List UInt8) : Prop :=
  l = [48] ∨ (R 10 l = true ∧ at1 48 l = false) ∨ (at1 48 l = true ∧ under 8 l.tail = true) ∨
  (pfx l = 2 ∧ under 2 (l.drop 2) = true) ∨ (pfx l = 8 ∧ under 8 (l.drop 2) = true) ∨ (pfx l = 16 ∧ under 16 (l.drop 2) = true)

def DecG (l : List UInt8) : Prop := pointed 10 false l ∨ ∃ x y, l = x ++ y ∧ power 101 69 y = true ∧ (pointed 10 false x ∨ R 10 x = true)
def HexG (l : List UInt8) : Prop := ∃ x y, l = x ++ y ∧ power 112 80 y = true ∧ (pointed 16 true x ∨ under 16 x = true)
def FloatG (l : List UInt8) : Prop := (pfx l = 16 ∧ HexG (l.drop 2)) ∨ (pfx l ≠ 16 ∧ DecG l)

theorem expo_eq (l : List UInt8) : expo l = R 10 (sg l) := whole_eq (by omega) _

theorem isEmpty_false_of_cons (c : UInt8) (l : List UInt8) : (c :: l).isEmpty = false := rfl

theorem stops_letter {c d : UInt8} {b : Nat} {l : List UInt8} (h : at2 c d l = true) (h1 : ¬ dg c < b) (h2 : ¬ dg d < b) (h3 : c ≠ 95) (h4 : d ≠ 95) : stops b l := by
  match l, h with
  | x :: l, h =>
    simp [at2] at h
    rcases h with rfl | rfl
    · exact ⟨h1, h3⟩
    · exact ⟨h2, h4⟩

theorem at1_no2 {e c d : UInt8} {l : List UInt8} (h : at2 c d l = true) (h1 : e ≠ c) (h2 : e ≠ d) : at1 e l = false := by
  match l, h with
  | x :: l, h =>
    simp [at2] at h
    rcases h with rfl | rfl
    · simp [at1]; exact fun e => h1 e.symm
    · simp [at1]; exact fun e => h2 e.symm

theorem at2_ne {c d : UInt8} {l : List UInt8} (h : at2 c d l = true) : l.isEmpty = false := by
  match l, h with
  | x :: l, _ => rfl

theorem R_ne {b : Nat} {l : List UInt8} (h : R b l = true) : l.isEmpty = false := by
  match l, h with
  | x :: l, _ => rfl

/-- The 'b' and 'e' of decimals. -/
theorem dec4 {l : List UInt8} : dec l = 4 ↔ DecG l := by
  constructor
  · intro h
    unfold dec at h
    have fin : ∀ (b : Nat) (w : List UInt8), hd b w = true → b ≤ 16 → ∃ p, w = p ++ go b w ∧ R b p = true := fun b w a c => go_spec c w a
    cases hw : hd 10 l with
    | true =>
      obtain ⟨p, hp, hR⟩ := go_spec (by omega) l hw
      generalize hl1 : go 10 l = l1 at h hp
      simp only [hw, Bool.true_and, Bool.true_or] at h
      split at h
      · split at h <;> simp at h
      · rename_i hne
        cases hpt : at1 46 l1 with
        | true =>
          match l1, hpt with
          | x :: l2, hpt =>
            simp [at1] at hpt; subst hpt
            simp only [at1, decide_true, if_true, List.tail_cons, Bool.true_and] at h
            cases hq : hd 10 l2 with
            | true =>
              obtain ⟨q, hq1, hq2⟩ := go_spec (by omega) l2 hq
              generalize go 10 l2 = l3 at h hq1
              simp only [hq, if_true, Bool.or_true, Bool.true_and] at h
              cases he : at2 101 69 l3 with
              | true =>
                simp only [he, if_true] at h
                split at h
                · rename_i hex
                  refine .inr ⟨p ++ 46 :: q, l3, by rw [hp, hq1]; simp, by simp [power, he, hex], .inl ⟨p, q, rfl, by simp [cuts, front, hR, hq2]⟩⟩
                · simp at h
              | false =>
                simp only [he, Bool.false_eq_true, if_false] at h
                split at h
                · rename_i hem
                  have : l3 = [] := List.isEmpty_iff.1 hem
                  subst this
                  rw [List.append_nil] at hq1
                  subst hq1
                  exact .inl ⟨p, l2, by rw [hp], by simp [cuts, front, hR, hq2]⟩
                · simp at h
            | false =>
              simp only [hq, Bool.false_eq_true, if_false, Bool.or_false] at h
              cases he : at2 101 69 l2 with
              | true =>
                simp only [he, if_true] at h
                split at h
                · rename_i hex
                  exact .inr ⟨p ++ [46], l2, by rw [hp]; simp, by simp [power, he, hex], .inl ⟨p, [], rfl, by simp [cuts, front, hR]⟩⟩
                · simp at h
              | false =>
                simp only [he, Bool.false_eq_true, if_false, Bool.true_and] at h
                split at h
                · rename_i hem
                  have : l2 = [] := List.isEmpty_iff.1 hem
                  subst this
                  exact .inl ⟨p, [], by rw [hp], by simp [cuts, front, hR]⟩
                · simp at h
        | false =>
          simp only [hpt, Bool.false_eq_true, if_false, Bool.false_and, Bool.or_false] at h
          cases he : at2 101 69 l1 with
          | true =>
            simp only [he, if_true] at h
            split at h
            · rename_i hex
              exact .inr ⟨p, l1, hp, by simp [power, he, hex], .inr hR⟩
            · simp at h
          | false => simp [he] at h
    | false =>
      rw [go_no hw] at h
      simp only [hw, Bool.false_and, Bool.false_eq_true, if_false, Bool.false_or] at h
      cases hpt : at1 46 l with
      | true =>
        match l, hpt with
        | x :: l2, hpt =>
          simp [at1] at hpt; subst hpt
          simp only [at1, decide_true, if_true, List.tail_cons, Bool.true_and] at h
          cases hq : hd 10 l2 with
          | true =>
            obtain ⟨q, hq1, hq2⟩ := go_spec (by omega) l2 hq
            generalize go 10 l2 = l3 at h hq1
            simp only [hq, if_true, Bool.true_and] at h
            cases he : at2 101 69 l3 with
            | true =>
              simp only [he, if_true] at h
              split at h
              · rename_i hex
                exact .inr ⟨46 :: q, l3, by rw [hq1]; simp, by simp [power, he, hex], .inl ⟨[], q, rfl, by simp [cuts, hq2]⟩⟩
              · simp at h
            | false =>
              simp only [he, Bool.false_eq_true, if_false] at h
              split at h
              · rename_i hem
                have : l3 = [] := List.isEmpty_iff.1 hem
                subst this
                rw [List.append_nil] at hq1
                subst hq1
                exact .inl ⟨[], l2, rfl, by simp [cuts, hq2]⟩
              · simp at h
          | false => simp [hq] at h
      | false => simp [hpt] at h
  · have st46 : ∀ (y : List UInt8), stops 10 (46 :: y) := fun y => ⟨by decide, by decide⟩
    have dot : ∀ {x : List UInt8} (y : List UInt8), R 10 x = true → hd 10 (x ++ 46 :: y) = true ∧ go 10 (x ++ 46 :: y) = 46 :: y := fun y h => ⟨hd_append _ h, go_unique (by omega) (st46 y) _ h⟩
    have stE : ∀ {y : List UInt8}, at2 101 69 y = true → stops 10 y := fun h => stops_letter h (by decide) (by decide) (by decide) (by decide)
    have hdE : ∀ {y : List UInt8}, at2 101 69 y = true → hd 10 y = false := fun {y} h => by
      have := stE h
      match y, h with
      | x :: y, h => simp [hd]; have := this.1; omega
    rintro (⟨x, y, rfl, hc⟩ | ⟨x, y, rfl, hp, hx⟩)
    · simp only [cuts, front, Bool.false_and, Bool.or_false, Bool.or_eq_true, Bool.and_eq_true, List.isEmpty_iff] at hc
      rcases hc with ⟨h1, h2⟩ | ⟨h1, h2⟩
      · obtain ⟨a, b⟩ := dot y h1
        unfold dec
        simp only [a, b, List.isEmpty_cons, Bool.and_false, Bool.false_eq_true, if_false, at1, decide_true, if_true, List.tail_cons, Bool.true_and, Bool.true_or]
        rcases h2 with rfl | h2
        · simp [hd, at2]
        · have hg : go 10 y = [] := by have := go_unique (b := 10) (by omega) (r := []) trivial y h2; rwa [List.append_nil] at this
          simp [hd_R h2, hg, at2]
      · subst h1
        rw [List.nil_append]
        have hg : go 10 y = [] := by have := go_unique (b := 10) (by omega) (r := []) trivial y h2; rwa [List.append_nil] at this
        have a : hd 10 (46 :: y) = false := by simp [hd, dg]
        unfold dec
        rw [a, go_no a]
        simp [hd_R h2, hg, at2, at1]
    · simp only [power, Bool.and_eq_true] at hp
      obtain ⟨he, hex⟩ := hp
      have s46 := at1_no2 (e := 46) he (by decide) (by decide)
      have hne := at2_ne he
      rcases hx with ⟨a, b, rfl, hc⟩ | hx
      · simp only [cuts, front, Bool.false_and, Bool.or_false, Bool.or_eq_true, Bool.and_eq_true, List.isEmpty_iff] at hc
        rw [List.append_assoc, List.cons_append]
        rcases hc with ⟨h1, h2⟩ | ⟨h1, h2⟩
        · obtain ⟨u, v⟩ := dot (b ++ y) h1
          unfold dec
          simp only [u, v, List.isEmpty_cons, Bool.and_false, Bool.false_eq_true, if_false, at1, decide_true, if_true, List.tail_cons, Bool.true_and, Bool.true_or]
          rcases h2 with rfl | h2
          · rw [List.nil_append]; simp [hdE he, he, hex]
          · simp [hd_append y h2, go_unique (b := 10) (by omega) (stE he) b h2, he, hex]
        · subst h1
          rw [List.nil_append]
          have u : hd 10 (46 :: (b ++ y)) = false := by simp [hd, dg]
          unfold dec
          rw [u, go_no u]
          simp [hd_append y h2, go_unique (b := 10) (by omega) (stE he) b h2, he, hex, at1]
      · unfold dec
        simp [hd_append y hx, go_unique (b := 10) (by omega) (stE he) x hx, he, hex, hne, s46]

theorem under_cases {b : Nat} {l : List UInt8} (h : under b l = true) : (R b l = true) ∨ (∃ u, l = 95 :: u ∧ R b u = true) := by
  unfold under at h
  simp only [Bool.or_eq_true, Bool.and_eq_true] at h
  rcases h with h | ⟨h1, h2⟩
  · exact .inl h
  · match l, h1, h2 with
    | x :: l, h1, h2 => simp [at1] at h1; subst h1; exact .inr ⟨l, rfl, h2⟩

theorem at95 {b : Nat} (hb : b ≤ 16) {l : List UInt8} (h : hd b l = true) : at1 95 l = false := by
  match l, h with
  | x :: l, h =>
    simp [hd] at h; simp [at1]; rintro rfl; rw [dg_under] at h; omega

theorem pre3 {b : Nat} (hb : b ≤ 16) {l : List UInt8} : pre l b = 3 ↔ under b l = true := by
  have hP : ∀ m, (hd b m && (go b m).isEmpty) = R b m := fun m => whole_eq hb m
  constructor
  · intro h
    unfold pre at h
    cases hl : at1 95 l with
    | true =>
      simp only [hl, if_true, hP] at h
      cases hw : R b l.tail with
      | true => unfold under; rw [hl, hw]; simp
      | false =>
        rw [hw] at h
        simp only [Bool.false_eq_true, if_false] at h
        repeat' split at h
        all_goals simp at h
    | false =>
      simp only [hl, Bool.false_eq_true, if_false, hP] at h
      cases hw : R b l with
      | true => unfold under; rw [hw]; rfl
      | false =>
        rw [hw] at h
        simp only [Bool.false_eq_true, if_false, Bool.false_and, or_false] at h
        repeat' split at h
        all_goals simp at h
  · intro h
    rcases under_cases h with h1 | ⟨u, rfl, h1⟩
    · unfold pre
      simp only [at95 hb (hd_R h1), Bool.false_eq_true, if_false, hP, h1, if_true]
    · unfold pre
      simp only [show at1 95 (95 :: u) = true from rfl, if_true, List.tail_cons, hP, h1]

theorem pre4 {l : List UInt8} : pre l 16 = 4 ↔ HexG l := by
  constructor
  · intro h
    unfold pre at h
    have main : ∀ (u m : List UInt8), (l = u ++ m) → (u = [] ∨ (u = [95] ∧ hd 16 m = true)) →
        (if (hd 16 m && (go 16 m).isEmpty) = true then 3 else
          let point := at1 46 (go 16 m)
          let l3 := if point = true then (go 16 m).tail else go 16 m
          let part := point && hd 16 l3
          let l4 := if part = true then go 16 l3 else l3
          if ((hd 16 m || part) && at2 112 80 l4 && expo l4.tail) = true then 4 else 0) = 4 → HexG l := by
      intro u m hl hu h
      have frontOf : ∀ p, R 16 p = true → m = p ++ go 16 m → under 16 (u ++ p) = true := by
        intro p hp hm
        rcases hu with rfl | ⟨rfl, _⟩
        · unfold under; rw [List.nil_append, hp]; rfl
        · unfold under; simp [at1, hp]
      cases hw : hd 16 m with
      | true =>
        obtain ⟨p, hp, hR⟩ := go_spec (by omega) m hw
        have hF := frontOf p hR hp
        generalize hl1 : go 16 m = l1 at h hp
        simp only [hw, Bool.true_and, Bool.true_or] at h
        split at h
        · cases h
        · cases hpt : at1 46 l1 with
          | true =>
            match l1, hpt with
            | x :: l2, hpt =>
              simp [at1] at hpt; subst hpt
              simp only [at1, decide_true, if_true, List.tail_cons, Bool.true_and] at h
              cases hq : hd 16 l2 with
              | true =>
                obtain ⟨q, hq1, hq2⟩ := go_spec (by omega) l2 hq
                generalize go 16 l2 = l3 at h hq1
                simp only [hq, if_true] at h
                split at h
                · rename_i hc
                  refine ⟨u ++ p ++ 46 :: q, l3, by rw [hl, hp, hq1]; simp, by unfold power; exact hc, .inl ⟨u ++ p, q, rfl, ?_⟩⟩
                  simp [cuts, front, hF, hq2]
                · cases h
              | false =>
                simp only [hq, Bool.false_eq_true, if_false] at h
                split at h
                · rename_i hc
                  refine ⟨u ++ p ++ [46], l2, by rw [hl, hp]; simp, by unfold power; exact hc, .inl ⟨u ++ p, [], rfl, ?_⟩⟩
                  simp [cuts, front, hF]
                · cases h
          | false =>
            simp only [hpt, Bool.false_eq_true, if_false, Bool.false_and] at h
            split at h
            · rename_i hc
              exact ⟨u ++ p, l1, by rw [hl, hp, List.append_assoc], by unfold power; exact hc, .inr hF⟩
            · cases h
      | false =>
        have hu' : u = [] := by
          rcases hu with hu | ⟨_, hu⟩
          · exact hu
          · rw [hw] at hu; cases hu
        subst hu'
        rw [List.nil_append] at hl
        subst hl
        rw [go_no hw] at h
        simp only [hw, Bool.false_and, Bool.false_eq_true, if_false, Bool.false_or] at h
        cases hpt : at1 46 l with
        | true =>
          match l, hpt with
          | x :: l2, hpt =>
            simp [at1] at hpt; subst hpt
            simp only [at1, decide_true, if_true, List.tail_cons, Bool.true_and] at h
            cases hq : hd 16 l2 with
            | true =>
              obtain ⟨q, hq1, hq2⟩ := go_spec (by omega) l2 hq
              generalize go 16 l2 = l3 at h hq1
              simp only [hq, if_true, Bool.true_and] at h
              split at h
              · rename_i hc
                exact ⟨46 :: q, l3, by rw [hq1]; simp, by unfold power; exact hc, .inl ⟨[], q, rfl, by simp [cuts, hq2]⟩⟩
              · cases h
            | false => simp [hq] at h
        | false => simp [hpt] at h
    cases hl : at1 95 l with
    | true =>
      simp only [hl, if_true] at h
      match l, hl with
      | x :: m, hl =>
        simp [at1] at hl; subst hl
        simp only [List.tail_cons] at h
        cases hw : hd 16 m with
        | true =>
          simp only [hw, Bool.not_true, Bool.and_false, Bool.false_eq_true, or_false, ne_eq, not_true, if_false] at h
          exact main [95] m rfl (.inr ⟨rfl, hw⟩) (by rw [hw]; exact h)
        | false => simp [hw] at h
    | false =>
      simp only [hl, Bool.false_eq_true, if_false, Bool.false_and, or_false, ne_eq, not_true] at h
      exact main [] l rfl (.inl rfl) h
  · have st46 : ∀ (y : List UInt8), stops 16 (46 :: y) := fun y => ⟨by decide, by decide⟩
    have stP : ∀ {y : List UInt8}, at2 112 80 y = true → stops 16 y := fun h => stops_letter h (by decide) (by decide) (by decide) (by decide)
    have hdP : ∀ {y : List UInt8}, at2 112 80 y = true → hd 16 y = false := fun {y} h => by
      have := stP h
      match y, h with
      | x :: y, h => simp [hd]; have := this.1; omega
    rintro ⟨x, y, rfl, hp, hx⟩
    simp only [power, Bool.and_eq_true] at hp
    obtain ⟨he, hex⟩ := hp
    have s46 := at1_no2 (e := 46) he (by decide) (by decide)
    have hne := at2_ne he
    -- what stands behind the first row
    have tail : ∀ (a r : List UInt8), under 16 a = true → stops 16 r → r.isEmpty = false →
        pre (a ++ r) 16 = (let point := at1 46 r
          let l3 := if point = true then r.tail else r
          let part := point && hd 16 l3
          let l4 := if part = true then go 16 l3 else l3
          if (at2 112 80 l4 && expo l4.tail) = true then 4 else 0) := by
      intro a r ha hr hr2
      rcases under_cases ha with h | ⟨u, rfl, h⟩
      · have h1 := hd_append r h
        have h2 := go_unique (by omega) hr a h
        unfold pre
        simp only [at95 (by omega) h1, h1, h2, hr2, Bool.false_eq_true, if_false, Bool.and_false, Bool.false_and, or_false, ne_eq, not_true, Bool.true_or, Bool.true_and]
      · have h1 := hd_append r h
        have h2 := go_unique (by omega) hr u h
        unfold pre
        simp only [List.cons_append, show at1 95 (95 :: (u ++ r)) = true from rfl, if_true, List.tail_cons, h1, h2, hr2, Bool.false_eq_true, if_false, Bool.and_false, Bool.not_true, or_false, ne_eq, not_true, Bool.true_or, Bool.true_and]
    rcases hx with ⟨a, b, rfl, hc⟩ | hx
    · simp only [cuts, front, Bool.or_eq_true, Bool.and_eq_true, List.isEmpty_iff, true_and] at hc
      rw [List.append_assoc, List.cons_append]
      rcases hc with ⟨h1, h2⟩ | ⟨h1, h2⟩
      · have hu : under 16 a = true := by
          rcases h1 with h1 | h1
          · unfold under; rw [h1]; rfl
          · exact h1
        rw [tail a _ hu (st46 _) rfl]
        simp only [at1, decide_true, if_true, List.tail_cons, Bool.true_and]
        rcases h2 with rfl | h2
        · rw [List.nil_append]; simp [hdP he, he, hex]
        · simp [hd_append y h2, go_unique (b := 16) (by omega) (stP he) b h2, he, hex]
      · subst h1
        rw [List.nil_append]
        have u : hd 16 (46 :: (b ++ y)) = false := by simp [hd, dg]
        unfold pre
        simp only [at1, show ¬ (46 : UInt8) = 95 by decide, decide_false, Bool.false_eq_true, if_false, u, go_no u]
        simp [hd_append y h2, go_unique (b := 16) (by omega) (stP he) b h2, he, hex]
    · rw [tail x y hx (stP he) hne]
      simp [s46, he, hex]

theorem dec3 {l : List UInt8} : dec l = 3 ↔ R 10 l = true ∧ (at1 48 l = false ∨ R 8 l = true) := by
  have hP : (hd 10 l && (go 10 l).isEmpty) = R 10 l := whole_eq (by omega) l
  unfold dec
  simp only [hP, whole_eq (show 8 ≤ 16 by omega)]
  cases R 10 l with
  | true =>
    simp only [if_true, true_and]
    cases at1 48 l <;> cases R 8 l <;> simp
  | false =>
    simp only [Bool.false_eq_true, if_false, false_and, iff_false]
    intro h
    repeat' split at h
    all_goals simp at h

theorem dec_kinds (l : List UInt8) : dec l = 0 ∨ dec l = 3 ∨ dec l = 4 := by
  unfold dec
  simp only []
  repeat' split
  all_goals simp
theorem pre_kinds (l : List UInt8) (b : Nat) : pre l b = 0 ∨ pre l b = 3 ∨ pre l b = 4 := by
  unfold pre
  simp only []
  repeat' split
  all_goals simp
theorem plain_kinds (l : List UInt8) : plain l = 0 ∨ plain l = 3 ∨ plain l = 4 := by
  unfold plain
  split
  · exact dec_kinds l
  · exact pre_kinds _ _

theorem pre4_not16 {l : List UInt8} {b : Nat} (hb : b ≠ 16) : pre l b ≠ 4 := by
  unfold pre
  simp only [hb, ne_eq, not_false_eq_true, true_or, if_true]
  repeat' split
  all_goals simp

/-- What two bytes tell a base. -/
theorem pfx_cases (l : List UInt8) : pfx l = 10 ∨ (∃ d t, l = 48 :: d :: t ∧ ¬ dg d < 10 ∧ d ≠ 95 ∧ d ≠ 46 ∧ d ≠ 101 ∧ d ≠ 69 ∧ (pfx l = 2 ∨ pfx l = 8 ∨ pfx l = 16)) := by
  match l with
  | [] => exact .inl rfl
  | [c] => exact .inl rfl
  | c :: d :: t =>
    by_cases hc : c = 48
    · subst hc
      by_cases h1 : d = 98 ∨ d = 66
      · refine .inr ⟨d, t, rfl, ?_, ?_, ?_, ?_, ?_, .inl (by simp [pfx, h1])⟩ <;> (rcases h1 with rfl | rfl <;> decide)
      · by_cases h2 : d = 111 ∨ d = 79
        · refine .inr ⟨d, t, rfl, ?_, ?_, ?_, ?_, ?_, .inr (.inl (by simp [pfx, h1, h2]))⟩ <;> (rcases h2 with rfl | rfl <;> decide)
        · by_cases h3 : d = 120 ∨ d = 88
          · refine .inr ⟨d, t, rfl, ?_, ?_, ?_, ?_, ?_, .inr (.inr (by simp [pfx, h1, h2, h3]))⟩ <;> (rcases h3 with rfl | rfl <;> decide)
          · exact .inl (by simp [pfx, h1, h2, h3])
    · exact .inl (by simp [pfx, hc])

theorem dec_lettered {d : UInt8} {t : List UInt8} (h1 : ¬ dg d < 10) (h2 : d ≠ 95) (h3 : d ≠ 46) (h4 : d ≠ 101) (h5 : d ≠ 69) : dec (48 :: d :: t) = 0 := by
  have a : hd 10 (48 :: d :: t) = true := by simp [hd, dg]
  have b : go 10 (48 :: d :: t) = d :: t := by
    have := go_unique (b := 10) (by omega) (r := d :: t) ⟨h1, h2⟩ [48] (by decide)
    simpa using this
  unfold dec
  simp [a, b, at1, at2, h3, h4, h5]

theorem not_under8 {d : UInt8} {t : List UInt8} (h1 : ¬ dg d < 10) (h2 : d ≠ 95) : under 8 (d :: t) = false := by
  cases hv : under 8 (d :: t) with
  | false => rfl
  | true =>
    rcases under_cases hv with h | ⟨u, h, _⟩
    · have := hd_R h; simp [hd] at this; omega
    · exact absurd (List.cons.inj h).1 h2

theorem int_iff (l : List UInt8) : plain l = 3 ↔ IntG l := by
  rcases pfx_cases l with hp | ⟨d, t, rfl, h1, h2, h3, h4, h5, hp⟩
  · unfold plain IntG
    rw [if_pos hp, dec3, hp]
    simp only [show ¬ (10 = 2) by omega, show ¬ (10 = 8) by omega, show ¬ (10 = 16) by omega, false_and, or_false]
    constructor
    · rintro ⟨a, b | b⟩
      · exact .inr (.inl ⟨a, b⟩)
      · cases h0 : at1 48 l with
        | false => exact .inr (.inl ⟨a, rfl⟩)
        | true =>
          match l, h0, b with
          | [x], h0, b => simp [at1] at h0; exact .inl (by rw [h0])
          | x :: y :: l, h0, b =>
            simp only [R, Bool.and_eq_true] at b
            refine .inr (.inr ⟨rfl, ?_⟩)
            have b2 := b.2
            split at b2
            · rename_i hy; subst hy; simp [under, at1, b2]
            · simp [under, b2]
    · rintro (rfl | ⟨a, b⟩ | ⟨a, b⟩)
      · exact ⟨by decide, .inr (by decide)⟩
      · exact ⟨a, .inl b⟩
      · have h8 : R 8 l = true := by
          match l, a, b with
          | [x], a, b => simp [under, R, at1] at b
          | x :: y :: l, a, b =>
            simp [at1] at a; subst a
            simp only [List.tail_cons] at b
            rcases under_cases b with b | ⟨u, b, c⟩
            · have hy : y ≠ 95 := by
                rintro rfl
                have := hd_R b; simp [hd, dg] at this
              simp only [R, if_neg hy, b]; decide
            · injection b with b1 b2
              subst b1 b2
              simp only [R, if_pos, c]; decide
        exact ⟨R_mono (by omega) l h8, .inr h8⟩
  · have hne : pfx (48 :: d :: t) ≠ 10 := by rcases hp with h | h | h <;> rw [h] <;> omega
    unfold plain
    rw [if_neg hne]
    have hR : R 10 (48 :: d :: t) = false := by
      cases hv : R 10 (48 :: d :: t) with
      | false => rfl
      | true =>
        rcases R_mem _ hv d (by simp) with h | h
        · exact absurd h h1
        · exact absurd h h2
    unfold IntG
    have e1 : ¬ (48 :: d :: t : List UInt8) = [48] := by simp
    simp only [e1, hR, Bool.false_eq_true, false_and, List.tail_cons, not_under8 h1 h2, and_false, false_or, List.drop_succ_cons, List.drop_zero]
    rcases hp with hp | hp | hp
    · rw [hp, pre3 (by omega)]; simp
    · rw [hp, pre3 (by omega)]; simp
    · rw [hp, pre3 (by omega)]; simp

theorem float_iff (l : List UInt8) : plain l = 4 ↔ FloatG l := by
  unfold plain FloatG
  rcases pfx_cases l with hp | ⟨d, t, rfl, h1, h2, h3, h4, h5, hp⟩
  · rw [if_pos hp, hp, dec4]; simp
  · have hne : pfx (48 :: d :: t) ≠ 10 := by rcases hp with h | h | h <;> rw [h] <;> omega
    rw [if_neg hne]
    have hD : ¬ DecG (48 :: d :: t) := fun h => by have := dec4.2 h; rw [dec_lettered h1 h2 h3 h4 h5] at this; cases this
    rcases hp with hp | hp | hp
    · rw [hp]; simp [hD, pre4_not16]
    · rw [hp]; simp [hD, pre4_not16]
    · rw [hp, pre4]; simp [hD]
end Go.Proofs.YtklmiabgalanhaaGreatDoor.Nm

/- Plain mathematics of numbers as texts: their last bytes, an i behind them, underscores left out. Nothing of the program is named here. -/
namespace Go.Proofs.YtklmiabgalanhaaGreatDoor.Nm
set_option maxRecDepth 100000

/-! ### The last byte -/
theorem last_append {x y : List UInt8} (h : y ≠ []) : (x ++ y).getLast? = y.getLast? := by
  rw [List.getLast?_append]
  cases hy : y.getLast? with
  | none => exact absurd (List.getLast?_eq_none_iff.1 hy) h
  | some c => rfl
theorem ne_of {b : Nat} {l : List UInt8} (h : R b l = true) : l ≠ [] := by rintro rfl; simp [R] at h
theorem under_ne {b : Nat} {l : List UInt8} (h : under b l = true) : l ≠ [] := by rintro rfl; simp [under, R, at1] at h
theorem under_last {b : Nat} {l : List UInt8} (h : under b l = true) : ∃ c, l.getLast? = some c ∧ dg c < b := by
  rcases under_cases h with h3 | ⟨u, rfl, h3⟩
  · exact R_last l h3
  · obtain ⟨c, h1, h2⟩ := R_last u h3
    exact ⟨c, by rw [show (95 :: u : List UInt8) = [95] ++ u from rfl, last_append (ne_of h3)]; exact h1, h2⟩
theorem expo_last {t : List UInt8} (h : expo t = true) : ∃ c, t.getLast? = some c ∧ dg c < 10 := by
  rw [expo_eq] at h
  obtain ⟨c, h1, h2⟩ := R_last _ h
  match t, h, h1 with
  | g :: t, h, h1 =>
    simp only [sg] at h h1
    split at h1
    · rename_i hg
      rw [if_pos hg] at h
      exact ⟨c, by rw [show (g :: t : List UInt8) = [g] ++ t from rfl, last_append (ne_of h)]; exact h1, h2⟩
    · exact ⟨c, h1, h2⟩
theorem expo_ne {t : List UInt8} (h : expo t = true) : t ≠ [] := by rintro rfl; simp [expo, sg, whole, hd] at h
theorem power_split {c d : UInt8} {y : List UInt8} (h : power c d y = true) : ∃ e t, y = e :: t ∧ (e = c ∨ e = d) ∧ expo t = true := by
  unfold power at h
  simp only [Bool.and_eq_true] at h
  match y, h with
  | e :: t, h => exact ⟨e, t, rfl, by simpa [at2] using h.1, h.2⟩
theorem power_last {c d : UInt8} {y : List UInt8} (h : power c d y = true) : y ≠ [] ∧ ∃ c, y.getLast? = some c ∧ dg c < 10 := by
  obtain ⟨e, t, rfl, _, h⟩ := power_split h
  obtain ⟨x, h1, h2⟩ := expo_last h
  exact ⟨by simp, x, by rw [show (e :: t : List UInt8) = [e] ++ t from rfl, last_append (expo_ne h)]; exact h1, h2⟩

theorem cuts_cases {b : Nat} {hex : Bool} {x y : List UInt8} (h : cuts b hex x y = true) : (under b x = true ∧ (hex = false → R b x = true) ∧ (y = [] ∨ R b y = true)) ∨ (x = [] ∧ R b y = true) := by
  simp only [cuts, front, Bool.or_eq_true, Bool.and_eq_true, List.isEmpty_iff] at h
  rcases h with ⟨h1, h2⟩ | h
  · refine .inl ⟨?_, ?_, h2⟩
    · rcases h1 with h1 | h1
      · unfold under; rw [h1]; rfl
      · exact h1.2
    · intro hh
      rcases h1 with h1 | h1
      · exact h1
      · rw [hh] at h1; exact absurd h1.1 (by decide)
  · exact .inr h

theorem pointed_last {b : Nat} {hex : Bool} {l : List UInt8} (h : pointed b hex l) : ∃ c, l.getLast? = some c ∧ (dg c < b ∨ c = 46) := by
  obtain ⟨x, y, rfl, hc⟩ := h
  have key : ∀ y : List UInt8, R b y = true → ∃ c, (x ++ 46 :: y).getLast? = some c ∧ (dg c < b ∨ c = 46) := by
    intro y hy
    obtain ⟨c, h1, h2⟩ := R_last y hy
    exact ⟨c, by rw [last_append (by simp), show (46 :: y : List UInt8) = [46] ++ y from rfl, last_append (ne_of hy)]; exact h1, .inl h2⟩
  rcases cuts_cases hc with ⟨_, _, rfl | h⟩ | ⟨_, h⟩
  · exact ⟨46, by rw [last_append (by simp)]; rfl, .inr rfl⟩
  · exact key y h
  · exact key y h

theorem pfx_spell {l : List UInt8} (h : pfx l ≠ 10) : ∃ d t, l = 48 :: d :: t := by
  rcases pfx_cases l with h' | ⟨d, t, rfl, _⟩
  · exact absurd h' h
  · exact ⟨d, t, rfl⟩

theorem int_last {l : List UInt8} (h : IntG l) : ∃ c, l.getLast? = some c ∧ dg c < (if pfx l = 16 then 16 else 10) := by
  have le10 : ∀ {n}, n < 10 → n < (if pfx l = 16 then 16 else 10) := by intro n hn; split <;> omega
  have pf : ∀ b, b ≤ 16 → (b = 16 → pfx l = 16) → (b ≤ 10 ∨ b = 16) → pfx l ≠ 10 → under b (l.drop 2) = true → ∃ c, l.getLast? = some c ∧ dg c < (if pfx l = 16 then 16 else 10) := by
    intro b hb hb2 hb3 hp hu
    obtain ⟨d, t, e⟩ := pfx_spell hp
    rw [e] at hu
    have hu : under b t = true := hu
    obtain ⟨c, h1, h2⟩ := under_last hu
    refine ⟨c, by rw [e, show (48 :: d :: t : List UInt8) = [48, d] ++ t from rfl, last_append (under_ne hu)]; exact h1, ?_⟩
    rcases hb3 with h | h
    · exact le10 (by omega)
    · rw [if_pos (hb2 h)]; omega
  rcases h with rfl | ⟨h, _⟩ | ⟨h1, h2⟩ | ⟨h1, h2⟩ | ⟨h1, h2⟩ | ⟨h1, h2⟩
  · exact ⟨48, rfl, by decide⟩
  · obtain ⟨c, h1, h2⟩ := R_last l h
    exact ⟨c, h1, le10 h2⟩
  · match l, h1, h2 with
    | a :: t, h1, h2 =>
      have h2 : under 8 t = true := h2
      obtain ⟨c, h3, h4⟩ := under_last h2
      exact ⟨c, by rw [show (a :: t : List UInt8) = [a] ++ t from rfl, last_append (under_ne h2)]; exact h3, le10 (by omega)⟩
  · exact pf 2 (by omega) (by omega) (by omega) (by omega) h2
  · exact pf 8 (by omega) (by omega) (by omega) (by omega) h2
  · exact pf 16 (by omega) (fun _ => h1) (.inr rfl) (by omega) h2

theorem float_last {l : List UInt8} (h : FloatG l) : ∃ c, l.getLast? = some c ∧ (dg c < 10 ∨ c = 46) := by
  rcases h with ⟨hp, x, y, e, hy, _⟩ | ⟨_, h | ⟨x, y, e, hy, _⟩⟩
  · obtain ⟨d, t, el⟩ := pfx_spell (l := l) (by omega)
    obtain ⟨n, c, h1, h2⟩ := power_last hy
    rw [el] at e
    have e' : t = x ++ y := e
    refine ⟨c, ?_, .inl h2⟩
    rw [el, e', show (48 :: d :: (x ++ y) : List UInt8) = (48 :: d :: x) ++ y from rfl, last_append n]; exact h1
  · exact pointed_last h
  · obtain ⟨n, c, h1, h2⟩ := power_last hy
    exact ⟨c, by rw [e, last_append n]; exact h1, .inl h2⟩

theorem plain_last {l : List UInt8} (h : plain l ≠ 0) : ∃ c, l.getLast? = some c ∧ ((dg c < if pfx l = 16 then 16 else 10) ∨ c = 46) := by
  rcases plain_kinds l with h' | h' | h'
  · exact absurd h' h
  · obtain ⟨c, h1, h2⟩ := int_last ((int_iff l).1 h')
    exact ⟨c, h1, .inl h2⟩
  · obtain ⟨c, h1, h2⟩ := float_last ((float_iff l).1 h')
    refine ⟨c, h1, h2.imp_left fun h => by split <;> omega⟩

theorem plain_i {l : List UInt8} (h : l.getLast? = some 105) : plain l = 0 := by
  by_cases h0 : plain l = 0
  · exact h0
  · obtain ⟨c, h1, h2⟩ := plain_last h0
    rw [h] at h1
    have := Option.some.inj h1
    subst this
    rcases h2 with h2 | h2
    · have : dg 105 = 16 := by decide
      rw [this] at h2; split at h2 <;> omega
    · exact absurd h2 (by decide)

theorem R10_i {l : List UInt8} (h : l.getLast? = some 105) : R 10 l = false := by
  cases hv : R 10 l with
  | false => rfl
  | true =>
    obtain ⟨c, h1, h2⟩ := R_last l hv
    rw [h] at h1
    have := Option.some.inj h1
    subst this
    exact absurd h2 (by decide)

/-- The reference's order of questions. -/
theorem kind_ref (l : List UInt8) : kind l = if plain l = 3 then 3 else if plain l = 4 then 4 else if 1 < l.length ∧ l.getLast? = some 105 ∧ (plain l.dropLast = 3 ∨ plain l.dropLast = 4 ∨ R 10 l.dropLast = true) then 5 else 0 := by
  unfold kind
  rw [whole_eq (by omega)]
  have nz : plain l.dropLast ≠ 0 ↔ plain l.dropLast = 3 ∨ plain l.dropLast = 4 := by
    have := plain_kinds l.dropLast; omega
  by_cases h : l.getLast? = some 105
  · rw [if_pos h, plain_i h, if_neg (show ¬ (0 = 3) by omega), if_neg (show ¬ (0 = 4) by omega)]
    by_cases hl : 1 < l.length
    · by_cases hk : plain l.dropLast ≠ 0 ∨ R 10 l.dropLast = true
      · rw [if_pos hk, if_pos ⟨hl, h, by rcases hk with hk | hk
                                         · rcases nz.1 hk with hk | hk
                                           · exact .inl hk
                                           · exact .inr (.inl hk)
                                         · exact .inr (.inr hk)⟩]
      · rw [if_neg hk, if_neg]
        rintro ⟨_, _, g | g | g⟩
        · exact hk (.inl (by omega))
        · exact hk (.inl (by omega))
        · exact hk (.inr g)
    · have : l.dropLast = [] := by
        match l, hl with
        | [], _ => rfl
        | [c], _ => rfl
        | c :: d :: l, hl => simp at hl
      rw [this, if_neg (by decide), if_neg (fun g => hl g.1)]
  · rw [if_neg h, if_neg (c := 1 < l.length ∧ _) (fun g => h g.2.1)]
    rcases plain_kinds l with k | k | k <;> rw [k] <;> simp

/-- An i behind. -/
theorem kind_i (l : List UInt8) : kind (l ++ [105]) = if plain l ≠ 0 ∨ R 10 l = true then 5 else 0 := by
  unfold kind
  rw [if_pos (by rw [last_append (by simp)]; rfl), List.dropLast_concat, whole_eq (by omega)]

theorem kind_imag (l : List UInt8) : (kind l = 3 ∨ kind l = 4 → kind (l ++ [105]) = 5) ∧ (kind l = 5 → kind (l ++ [105]) = 0) ∧ (kind (l ++ [105]) = 0 ∨ kind (l ++ [105]) = 5) ∧ (kind l = 0 ∨ kind l = 3 ∨ kind l = 4 ∨ kind l = 5) := by
  refine ⟨?_, ?_, ?_, ?_⟩
  · intro h
    rw [kind_i, if_pos]
    left
    unfold kind at h
    split at h
    · split at h <;> simp at h
    · omega
  · intro h
    unfold kind at h
    split at h
    · rename_i hl
      rw [kind_i, plain_i hl, R10_i hl, if_neg (by simp)]
    · have := plain_kinds l; omega
  · rw [kind_i]; split <;> simp
  · unfold kind
    split
    · split <;> simp
    · have := plain_kinds l; omega

/-! ### Without underscores -/
def F (l : List UInt8) : List UInt8 := l.filter (fun c => decide (c ≠ 95))
theorem F_append (a b : List UInt8) : F (a ++ b) = F a ++ F b := List.filter_append ..
theorem F_cons {c : UInt8} (h : c ≠ 95) (l : List UInt8) : F (c :: l) = c :: F l := by unfold F; rw [List.filter_cons_of_pos (by simpa using h)]
theorem F_under (l : List UInt8) : F (95 :: l) = F l := by unfold F; rw [List.filter_cons_of_neg (by simp)]
theorem F_head {l : List UInt8} {c : UInt8} {t : List UInt8} (h : F l = c :: t) : c ≠ 95 := by
  have : c ∈ F l := by rw [h]; exact List.mem_cons_self ..
  have := (List.mem_filter.1 this).2
  simpa using this
theorem dig_ne {b : Nat} (hb : b ≤ 16) {c : UInt8} (h : dg c < b) : c ≠ 95 := by rintro rfl; rw [dg_under] at h; omega

theorem R_F {b : Nat} (hb : b ≤ 16) : ∀ l : List UInt8, R b l = true → R b (F l) = true
  | [], h => by simp [R] at h
  | [c], h => by
    have hc : dg c < b := by simpa [R] using h
    rw [F_cons (dig_ne hb hc)]; exact h
  | c :: d :: l, h => by
    have h' := h
    rw [R] at h
    simp only [Bool.and_eq_true, decide_eq_true_eq] at h
    obtain ⟨h1, h2⟩ := h
    have step : ∀ m, R b (F m) = true → R b (c :: F m) = true := by
      intro m hm
      match hF : F m, hm with
      | e :: t, hm => rw [R, if_neg (F_head hF), hm]; simp [h1]
    rw [F_cons (dig_ne hb h1)]
    by_cases hd' : d = 95
    · subst hd'
      rw [if_pos rfl] at h2
      rw [F_under]
      exact step l (R_F hb l h2)
    · rw [if_neg hd'] at h2
      exact step (d :: l) (R_F hb (d :: l) h2)

theorem under_F {b : Nat} (hb : b ≤ 16) {l : List UInt8} (h : under b l = true) : R b (F l) = true := by
  rcases under_cases h with h1 | ⟨u, rfl, h1⟩
  · exact R_F hb l h1
  · rw [F_under]; exact R_F hb u h1
theorem R_under {b : Nat} {l : List UInt8} (h : R b l = true) : under b l = true := by unfold under; rw [h]; rfl

theorem pfx_F {l : List UInt8} (h : pfx l ≠ 10) : pfx (F l) = pfx l ∧ (F l).drop 2 = F (l.drop 2) := by
  rcases pfx_cases l with h' | ⟨d, t, rfl, _, h2, _⟩
  · exact absurd h' h
  · rw [F_cons (by decide), F_cons h2]
    exact ⟨by simp [pfx], rfl⟩

theorem expo_F {t : List UInt8} (h : expo t = true) : expo (F t) = true := by
  rw [expo_eq] at h ⊢
  match t, h with
  | g :: t, h =>
    simp only [sg] at h
    split at h
    · rename_i hg
      rw [F_cons (by rcases hg with rfl | rfl <;> decide), sg, if_pos hg]
      exact R_F (by omega) t h
    · rename_i hg
      have h1 := hd_R h
      simp [hd] at h1
      have := R_F (b := 10) (by omega) (g :: t) h
      rw [F_cons (dig_ne (by omega) h1)] at this ⊢
      rw [sg, if_neg hg]; exact this

theorem power_F {c d : UInt8} (hc : c ≠ 95) (hd' : d ≠ 95) {y : List UInt8} (h : power c d y = true) : power c d (F y) = true := by
  obtain ⟨e, t, rfl, he, h⟩ := power_split h
  have : e ≠ 95 := by rcases he with rfl | rfl <;> assumption
  rw [F_cons this]
  unfold power
  simp only [List.tail_cons, expo_F h, Bool.and_true]
  simpa [at2] using he

theorem pointed_F {b : Nat} (hb : b ≤ 16) {hex : Bool} {l : List UInt8} (h : pointed b hex l) : pointed b hex (F l) := by
  obtain ⟨x, y, rfl, hc⟩ := h
  refine ⟨F x, F y, by rw [F_append, F_cons (by decide)], ?_⟩
  rcases cuts_cases hc with ⟨h1, _, h2⟩ | ⟨rfl, h⟩
  · have hx := under_F hb h1
    unfold cuts front
    rw [hx]
    rcases h2 with rfl | h2
    · simp [F]
    · rw [R_F hb y h2]; simp
  · unfold cuts
    rw [R_F hb y h]; simp [F]

theorem dec_F {l : List UInt8} (h : DecG l) : DecG (F l) := by
  rcases h with h | ⟨x, y, rfl, hp, hx⟩
  · exact .inl (pointed_F (by omega) h)
  · refine .inr ⟨F x, F y, F_append .., power_F (by decide) (by decide) hp, ?_⟩
    rcases hx with hx | hx
    · exact .inl (pointed_F (by omega) hx)
    · exact .inr (R_F (by omega) x hx)
theorem hex_F {l : List UInt8} (h : HexG l) : HexG (F l) := by
  obtain ⟨x, y, rfl, hp, hx⟩ := h
  refine ⟨F x, F y, F_append .., power_F (by decide) (by decide) hp, ?_⟩
  rcases hx with hx | hx
  · exact .inl (pointed_F (by omega) hx)
  · exact .inr (R_under (under_F (by omega) hx))
theorem not10_of_dec {l : List UInt8} (h : DecG l) : pfx l = 10 := by
  rcases pfx_cases l with h' | ⟨d, t, rfl, h1, h2, h3, h4, h5, _⟩
  · exact h'
  · have := dec4.2 h
    rw [dec_lettered h1 h2 h3 h4 h5] at this; cases this
theorem float_F {l : List UInt8} (h : FloatG l) : FloatG (F l) := by
  rcases h with ⟨hp, h⟩ | ⟨hp, h⟩
  · obtain ⟨a, b⟩ := pfx_F (l := l) (by omega)
    exact .inl ⟨by omega, by rw [b]; exact hex_F h⟩
  · have := dec_F h
    exact .inr ⟨by rw [not10_of_dec this]; omega, this⟩
theorem head_F {b : Nat} (hb : b ≤ 16) {l : List UInt8} (h : R b l = true) (c : UInt8) : at1 c (F l) = at1 c l := by
  have h1 := hd_R h
  match l, h1 with
  | d :: l, h1 =>
    simp [hd] at h1
    rw [F_cons (dig_ne hb h1)]; rfl
theorem int_F {l : List UInt8} (h : IntG l) : IntG (F l) := by
  rcases h with rfl | ⟨h, h0⟩ | ⟨h1, h2⟩ | ⟨h1, h2⟩ | ⟨h1, h2⟩ | ⟨h1, h2⟩
  · exact .inl (by decide)
  · exact .inr (.inl ⟨R_F (by omega) l h, by rw [head_F (by omega) h]; exact h0⟩)
  · match l, h1, h2 with
    | a :: t, h1, h2 =>
      simp [at1] at h1; subst h1
      rw [F_cons (by decide)]
      exact .inr (.inr (.inl ⟨rfl, R_under (under_F (by omega) h2)⟩))
  · obtain ⟨a, b⟩ := pfx_F (l := l) (by omega)
    exact .inr (.inr (.inr (.inl ⟨by omega, by rw [b]; exact R_under (under_F (by omega) h2)⟩)))
  · obtain ⟨a, b⟩ := pfx_F (l := l) (by omega)
    exact .inr (.inr (.inr (.inr (.inl ⟨by omega, by rw [b]; exact R_under (under_F (by omega) h2)⟩))))
  · obtain ⟨a, b⟩ := pfx_F (l := l) (by omega)
    exact .inr (.inr (.inr (.inr (.inr ⟨by omega, by rw [b]; exact R_under (under_F (by omega) h2)⟩))))
theorem plain_F {l : List UInt8} (h : plain l ≠ 0) : plain (F l) = plain l := by
  rcases plain_kinds l with k | k | k
  · exact absurd k h
  · rw [k, int_iff]; exact int_F ((int_iff l).1 k)
  · rw [k, float_iff]; exact float_F ((float_iff l).1 k)

theorem kind_F {l : List UInt8} (h : kind l ≠ 0) : kind (F l) = kind l := by
  by_cases hl : l.getLast? = some 105
  · obtain ⟨t, rfl⟩ := (List.getLast?_eq_some_iff.1 hl)
    have e : F (t ++ [105]) = F t ++ [105] := by rw [F_append]; rfl
    rw [e]
    rw [kind_i] at h ⊢
    rw [kind_i]
    split at h
    · rename_i hk
      rw [if_pos hk, if_pos]
      rcases hk with hk | hk
      · left; rw [plain_F hk]; exact hk
      · right; exact R_F (by omega) t hk
    · exact absurd rfl h
  · have hk : kind l = plain l := by unfold kind; rw [if_neg hl]
    rw [hk] at h ⊢
    have hF := plain_F h
    unfold kind
    rw [if_neg, hF]
    intro hl2
    rw [plain_i hl2] at hF
    exact h hF.symm
end Go.Proofs.YtklmiabgalanhaaGreatDoor.Nm

/- Plain mathematics of numbers as texts: runs. Nothing of the program is named here. -/
namespace Go.Proofs.YtklmiabgalanhaaGreatDoor.Nm
set_option maxRecDepth 100000

/-! ### Runs -/
def inner (c : UInt8) : Bool := decide ((97 ≤ c.toNat ∧ c.toNat ≤ 122) ∨ (65 ≤ c.toNat ∧ c.toNat ≤ 90) ∨ (48 ≤ c.toNat ∧ c.toNat ≤ 57) ∨ c.toNat = 95 ∨ c.toNat = 46)
def sign (c : UInt8) : Bool := decide (c = 43 ∨ c = 45)
def lt (hex : Bool) (c : UInt8) : Bool := bif hex then decide (c = 112 ∨ c = 80) else decide (c = 101 ∨ c = 69)
/-- Does a byte go on with a run? -/
def on (hex : Bool) (p c : UInt8) : Bool := inner c || (lt hex p && sign c)
def runLen (hex : Bool) : UInt8 → List UInt8 → Nat
  | _, [] => 0
  | p, c :: l => if on hex p c = true then 1 + runLen hex c l else 0
def okRun (hex : Bool) : UInt8 → List UInt8 → Bool
  | _, [] => true
  | p, c :: l => on hex p c && okRun hex c l
def lastOr : UInt8 → List UInt8 → UInt8
  | p, [] => p
  | _, c :: l => lastOr c l
def runOf (l : List UInt8) : Nat := match l with | [] => 0 | a :: t => 1 + runLen (decide (pfx l = 16)) a t
def begins (l : List UInt8) : Bool := match l with | [] => false | a :: t => if a = 46 then hd 10 t else decide (dg a < 10)

theorem lastOr_eq : ∀ (a : UInt8) (t : List UInt8), (a :: t).getLast? = some (lastOr a t)
  | a, [] => rfl
  | a, c :: t => by rw [List.getLast?_cons_cons, lastOr]; exact lastOr_eq c t

theorem run_stop {hex : Bool} {c : UInt8} {v : List UInt8} (hc : inner c = false) : ∀ (a : UInt8) (t : List UInt8), okRun hex a t = true → (lt hex (lastOr a t) = false ∨ sign c = false) → runLen hex a (t ++ c :: v) = t.length
  | a, [], _, h => by
    have : on hex a c = false := by
      unfold on; rw [hc]
      rcases h with h | h
      · rw [show lt hex a = false from h]; rfl
      · rw [h, Bool.and_false]; rfl
    simp [runLen, this]
  | a, d :: t, ho, h => by
    rw [okRun, Bool.and_eq_true] at ho
    have := run_stop (v := v) hc d t ho.2 h
    simp only [List.cons_append, runLen, ho.1, if_true, this, List.length_cons]
    omega

theorem run_take {hex : Bool} : ∀ (a : UInt8) (t : List UInt8), okRun hex a (t.take (runLen hex a t)) = true ∧ runLen hex a t ≤ t.length
  | a, [] => ⟨rfl, Nat.le_refl _⟩
  | a, c :: t => by
    rw [runLen]
    split
    · rename_i h
      obtain ⟨x, y⟩ := run_take (hex := hex) c t
      rw [show 1 + runLen hex c t = runLen hex c t + 1 by omega, List.take_succ_cons, okRun, h, x]
      exact ⟨rfl, by rw [List.length_cons]; omega⟩
    · exact ⟨by rw [List.take_zero]; rfl, by omega⟩

theorem inner_dig {c : UInt8} (h : dg c < 16) : inner c = true := by
  unfold dg at h
  unfold inner
  refine decide_eq_true ?_
  split at h
  · omega
  · split at h
    · omega
    · split at h
      · omega
      · omega
theorem inner_R {b : Nat} (hb : b ≤ 16) {l : List UInt8} (h : R b l = true) : ∀ c ∈ l, inner c = true := by
  intro c hc
  rcases R_mem l h c hc with h | h
  · exact inner_dig (by omega)
  · rw [h]; decide
theorem inner_under {b : Nat} (hb : b ≤ 16) {l : List UInt8} (h : under b l = true) : ∀ c ∈ l, inner c = true := by
  rcases under_cases h with h1 | ⟨u, rfl, h1⟩
  · exact inner_R hb h1
  · intro c hc
    rcases List.mem_cons.1 hc with rfl | hc
    · decide
    · exact inner_R hb h1 c hc
theorem inner_pointed {b : Nat} (hb : b ≤ 16) {hex : Bool} {l : List UInt8} (h : pointed b hex l) : ∀ c ∈ l, inner c = true := by
  obtain ⟨x, y, rfl, hc⟩ := h
  have hx : ∀ c ∈ x, inner c = true := by
    rcases cuts_cases hc with ⟨h, _, _⟩ | ⟨rfl, _⟩
    · exact inner_under hb h
    · intro c hc; cases hc
  have hy : ∀ c ∈ y, inner c = true := by
    rcases cuts_cases hc with ⟨_, _, rfl | h⟩ | ⟨_, h⟩
    · intro c hc; cases hc
    · exact inner_R hb h
    · exact inner_R hb h
  intro c hc
  rcases List.mem_append.1 hc with h | h
  · exact hx c h
  · rcases List.mem_cons.1 h with rfl | h
    · decide
    · exact hy c h

/-- Inner bytes, and a power behind them or none. -/
def Sh (hex : Bool) (l : List UInt8) : Prop := ∃ u v, l = u ++ v ∧ (∀ c ∈ u, inner c = true) ∧ (v = [] ∨ ∃ e m r, v = e :: (m ++ r) ∧ lt hex e = true ∧ (m = [] ∨ ∃ g, sign g = true ∧ m = [g]) ∧ (∀ c ∈ r, inner c = true))

theorem sh_inner (hex : Bool) {l : List UInt8} (h : ∀ c ∈ l, inner c = true) : Sh hex l := ⟨l, [], by simp, h, .inl rfl⟩

theorem power_shape {c d : UInt8} {y : List UInt8} (h : power c d y = true) : ∃ e m r, y = e :: (m ++ r) ∧ (e = c ∨ e = d) ∧ (m = [] ∨ ∃ g, sign g = true ∧ m = [g]) ∧ (∀ c ∈ r, inner c = true) := by
  obtain ⟨e, t, rfl, he, h⟩ := power_split h
  rw [expo_eq] at h
  match t, h with
  | g :: t, h =>
    simp only [sg] at h
    split at h
    · rename_i hg
      exact ⟨e, [g], t, rfl, he, .inr ⟨g, by simpa [sign] using hg, rfl⟩, inner_R (by omega) h⟩
    · exact ⟨e, [], g :: t, rfl, he, .inl rfl, inner_R (by omega) h⟩

theorem inner_pfx {d : UInt8} {t : List UInt8} (h : pfx (48 :: d :: t) ≠ 10) : inner d = true := by
  simp only [pfx, if_true] at h
  split at h
  · rename_i h1; rcases h1 with rfl | rfl <;> decide
  · split at h
    · rename_i h1; rcases h1 with rfl | rfl <;> decide
    · split at h
      · rename_i h1; rcases h1 with rfl | rfl <;> decide
      · exact absurd rfl h

theorem inner_lettered {l : List UInt8} (hp : pfx l ≠ 10) (h : ∀ c ∈ l.drop 2, inner c = true) : ∀ c ∈ l, inner c = true := by
  obtain ⟨d, t, rfl⟩ := pfx_spell hp
  intro c hc
  rcases List.mem_cons.1 hc with rfl | hc
  · decide
  · rcases List.mem_cons.1 hc with rfl | hc
    · exact inner_pfx hp
    · exact h c hc

theorem int_sh {hex : Bool} {l : List UInt8} (h : IntG l) : Sh hex l := by
  apply sh_inner
  rcases h with rfl | ⟨h, _⟩ | ⟨h1, h2⟩ | ⟨h1, h2⟩ | ⟨h1, h2⟩ | ⟨h1, h2⟩
  · decide
  · exact inner_R (by omega) h
  · match l, h1, h2 with
    | a :: t, h1, h2 =>
      simp [at1] at h1; subst h1
      intro c hc
      rcases List.mem_cons.1 hc with rfl | hc
      · decide
      · exact inner_under (by omega) h2 c hc
  · exact inner_lettered (by omega) (inner_under (by omega) h2)
  · exact inner_lettered (by omega) (inner_under (by omega) h2)
  · exact inner_lettered (by omega) (inner_under (by omega) h2)

theorem float_sh {l : List UInt8} (h : FloatG l) : Sh (decide (pfx l = 16)) l := by
  rcases h with ⟨hp, x, y, e, hy, hx⟩ | ⟨hp, h | ⟨x, y, e, hy, hx⟩⟩
  · rw [decide_eq_true hp]
    obtain ⟨f, m, r, e2, hf, hm, hr⟩ := power_shape hy
    obtain ⟨d, t, el⟩ := pfx_spell (l := l) (by omega)
    have e' : t = x ++ y := by rw [el] at e; exact e
    refine ⟨48 :: d :: x, y, by rw [el, e']; rfl, ?_, .inr ⟨f, m, r, e2, by simpa [lt] using hf, hm, hr⟩⟩
    have hx' : ∀ c ∈ x, inner c = true := by
      rcases hx with hx | hx
      · exact inner_pointed (by omega) hx
      · exact inner_under (by omega) hx
    intro c hc
    rcases List.mem_cons.1 hc with rfl | hc
    · decide
    · rcases List.mem_cons.1 hc with rfl | hc
      · exact inner_pfx (t := t) (by rw [← el]; omega)
      · exact hx' c hc
  · exact sh_inner _ (inner_pointed (by omega) h)
  · rw [decide_eq_false hp]
    obtain ⟨f, m, r, e2, hf, hm, hr⟩ := power_shape hy
    refine ⟨x, y, e, ?_, .inr ⟨f, m, r, e2, by simpa [lt] using hf, hm, hr⟩⟩
    rcases hx with hx | hx
    · exact inner_pointed (by omega) hx
    · exact inner_R (by omega) hx

theorem plain_sh {l : List UInt8} (h : plain l ≠ 0) : Sh (decide (pfx l = 16)) l := by
  rcases plain_kinds l with k | k | k
  · exact absurd k h
  · exact int_sh ((int_iff l).1 k)
  · exact float_sh ((float_iff l).1 k)

theorem sh_i {hex : Bool} {l : List UInt8} (h : Sh hex l) : Sh hex (l ++ [105]) := by
  obtain ⟨u, v, rfl, hu, rfl | ⟨e, m, r, rfl, he, hm, hr⟩⟩ := h
  · refine sh_inner hex ?_
    intro c hc
    rw [List.append_nil] at hc
    rcases List.mem_append.1 hc with h | h
    · exact hu c h
    · rw [List.mem_singleton] at h; rw [h]; decide
  · refine ⟨u, e :: (m ++ (r ++ [105])), by simp, hu, .inr ⟨e, m, r ++ [105], rfl, he, hm, ?_⟩⟩
    intro c hc
    rcases List.mem_append.1 hc with h | h
    · exact hr c h
    · rw [List.mem_singleton] at h; rw [h]; decide

theorem pfx_app {c : UInt8} (h : c = 105 ∨ inner c = false) (t v : List UInt8) : pfx (t ++ c :: v) = pfx t := by
  have no : ∀ d : UInt8, inner d = true → d ≠ 105 → c ≠ d := by
    rintro d h1 h2 rfl
    rcases h with h | h
    · exact h2 h
    · rw [h1] at h; cases h
  match t with
  | [] =>
    have : c ≠ 48 := no 48 (by decide) (by decide)
    match v with
    | [] => rfl
    | d :: v => simp [pfx, this]
  | [a] =>
    have n1 := no 98 (by decide) (by decide); have n2 := no 66 (by decide) (by decide); have n3 := no 111 (by decide) (by decide)
    have n4 := no 79 (by decide) (by decide); have n5 := no 120 (by decide) (by decide); have n6 := no 88 (by decide) (by decide)
    simp [pfx, n1, n2, n3, n4, n5, n6]
  | a :: d :: t => rfl

theorem begins_app {a : List UInt8} (b : List UInt8) (h : begins a = true) : begins (a ++ b) = true := by
  match a, h with
  | x :: t, h =>
    simp only [begins, List.cons_append] at h ⊢
    split
    · rename_i hx
      rw [if_pos hx] at h
      match t, h with
      | y :: t, h => exact h
    · rename_i hx
      rw [if_neg hx] at h; exact h
theorem begins_R {l : List UInt8} (h : R 10 l = true) : begins l = true := by
  have h1 := hd_R h
  match l, h1 with
  | a :: t, h1 =>
    simp only [hd] at h1
    simp only [begins]
    split
    · rename_i ha; subst ha; exact absurd (of_decide_eq_true h1) (by decide)
    · exact h1
theorem begins_0 (t : List UInt8) : begins (48 :: t) = true := by simp [begins, dg]
theorem begins_pointed {l : List UInt8} (h : pointed 10 false l) : begins l = true := by
  obtain ⟨x, y, rfl, hc⟩ := h
  rcases cuts_cases hc with ⟨_, h, _⟩ | ⟨rfl, h⟩
  · exact begins_app _ (begins_R (h rfl))
  · simp [begins, hd_R h]
theorem plain_begins {l : List UInt8} (h : plain l ≠ 0) : begins l = true := by
  have h48 : pfx l ≠ 10 → begins l = true := by
    intro hp
    obtain ⟨d, t, rfl⟩ := pfx_spell hp
    exact begins_0 _
  rcases plain_kinds l with k | k | k
  · exact absurd k h
  · rcases (int_iff l).1 k with rfl | ⟨h, _⟩ | ⟨h1, _⟩ | ⟨h1, _⟩ | ⟨h1, _⟩ | ⟨h1, _⟩
    · decide
    · exact begins_R h
    · match l, h1 with
      | a :: t, h1 => simp [at1] at h1; subst h1; exact begins_0 _
    · exact h48 (by omega)
    · exact h48 (by omega)
    · exact h48 (by omega)
  · rcases (float_iff l).1 k with ⟨hp, _⟩ | ⟨_, h | ⟨x, y, rfl, _, hx⟩⟩
    · exact h48 (by omega)
    · exact begins_pointed h
    · rcases hx with hx | hx
      · exact begins_app _ (begins_pointed hx)
      · exact begins_app _ (begins_R hx)

theorem ok_inner {hex : Bool} (v : List UInt8) : ∀ (a : UInt8) (x : List UInt8), (∀ c ∈ x, inner c = true) → okRun hex a (x ++ v) = okRun hex (lastOr a x) v
  | a, [], _ => rfl
  | a, c :: x, h => by
    have hc : on hex a c = true := by unfold on; rw [h c (List.mem_cons_self ..)]; rfl
    rw [List.cons_append, okRun, hc, Bool.true_and, lastOr]
    exact ok_inner v c x fun d hd => h d (List.mem_cons_of_mem _ hd)
theorem ok_all {hex : Bool} (a : UInt8) (x : List UInt8) (h : ∀ c ∈ x, inner c = true) : okRun hex a x = true := by
  have := ok_inner (hex := hex) [] a x h
  rw [List.append_nil] at this
  rw [this]; rfl
theorem lt_inner {hex : Bool} {e : UInt8} (h : lt hex e = true) : inner e = true := by
  unfold lt at h
  cases hex
  · simp only [cond_false, decide_eq_true_eq] at h; rcases h with rfl | rfl <;> decide
  · simp only [cond_true, decide_eq_true_eq] at h; rcases h with rfl | rfl <;> decide
theorem ok_power {hex : Bool} {e : UInt8} {m r : List UInt8} (he : lt hex e = true) (hm : m = [] ∨ ∃ g, sign g = true ∧ m = [g]) (hr : ∀ c ∈ r, inner c = true) : okRun hex e (m ++ r) = true := by
  rcases hm with rfl | ⟨g, hg, rfl⟩
  · exact ok_all e r hr
  · rw [List.singleton_append, okRun, ok_all g r hr]
    simp [on, he, hg]
theorem sh_ok {hex : Bool} {a : UInt8} {t : List UInt8} (h : Sh hex (a :: t)) : okRun hex a t = true := by
  obtain ⟨u, v, e, hu, hv⟩ := h
  match u, e, hu with
  | [], e, _ =>
    rcases hv with rfl | ⟨x, m, r, rfl, hx, hm, hr⟩
    · cases e
    · rw [List.nil_append] at e
      obtain ⟨rfl, rfl⟩ := List.cons.inj e
      exact ok_power hx hm hr
  | b :: u, e, hu =>
    rw [List.cons_append] at e
    obtain ⟨rfl, rfl⟩ := List.cons.inj e
    rw [ok_inner v a u fun d hd => hu d (List.mem_cons_of_mem _ hd)]
    rcases hv with rfl | ⟨x, m, r, rfl, hx, hm, hr⟩
    · rfl
    · rw [okRun, ok_power hx hm hr]
      simp [on, lt_inner hx]

/-- WHAT A NUMBER IS LIKE FROM ITS FIRST BYTE TO ITS LAST. -/
theorem kind_good {l : List UInt8} (h : kind l ≠ 0) : begins l = true ∧ Sh (decide (pfx l = 16)) l ∧ ∃ c, l.getLast? = some c ∧ lt (decide (pfx l = 16)) c = false := by
  unfold kind at h
  split at h
  · rename_i hl
    obtain ⟨t, rfl⟩ := (List.getLast?_eq_some_iff.1 hl)
    rw [List.dropLast_concat, whole_eq (by omega)] at h
    have hk : plain t ≠ 0 ∨ R 10 t = true := by
      by_cases hh : plain t ≠ 0 ∨ R 10 t = true
      · exact hh
      · rw [if_neg hh] at h; exact absurd rfl h
    have hp := pfx_app (c := 105) (.inl rfl) t []
    rw [hp]
    refine ⟨?_, ?_, 105, hl, ?_⟩
    · apply begins_app
      rcases hk with hk | hk
      · exact plain_begins hk
      · exact begins_R hk
    · apply sh_i
      rcases hk with hk | hk
      · exact plain_sh hk
      · exact sh_inner _ (inner_R (by omega) hk)
    · cases decide (pfx t = 16) <;> decide
  · refine ⟨plain_begins h, plain_sh h, ?_⟩
    obtain ⟨c, h1, h2⟩ := plain_last h
    refine ⟨c, h1, ?_⟩
    cases hv : lt (decide (pfx l = 16)) c with
    | false => rfl
    | true =>
      exfalso
      by_cases hp : pfx l = 16
      · rw [decide_eq_true hp] at hv
        rw [if_pos hp] at h2
        simp only [lt, cond_true, decide_eq_true_eq] at hv
        rcases hv with rfl | rfl <;> revert h2 <;> decide
      · rw [decide_eq_false hp] at hv
        rw [if_neg hp] at h2
        simp only [lt, cond_false, decide_eq_true_eq] at hv
        rcases hv with rfl | rfl <;> revert h2 <;> decide

/-- WHATEVER STANDS BEHIND A NUMBER that goes on with no run. -/
theorem run_signs {l : List UInt8} (h : kind l ≠ 0) {c : UInt8} (hc : inner c = false) (v : List UInt8) : begins (l ++ c :: v) = true ∧ runOf (l ++ c :: v) = l.length := by
  obtain ⟨h1, h2, x, h3, h4⟩ := kind_good h
  refine ⟨begins_app _ h1, ?_⟩
  have hp := pfx_app (.inr hc) l v
  match l, h1, h2, h3, hp with
  | a :: t, h1, h2, h3, hp =>
    rw [List.cons_append] at hp ⊢
    simp only [runOf, hp]
    rw [lastOr_eq] at h3
    rw [run_stop hc a t (sh_ok h2) (.inl (by rw [Option.some.inj h3]; exact h4)), List.length_cons]
    omega

theorem runOf_le (l : List UInt8) : runOf l ≤ l.length := by
  match l with
  | [] => exact Nat.le_refl _
  | a :: t =>
    have := (run_take (hex := decide (pfx (a :: t) = 16)) a t).2
    simp only [runOf, List.length_cons]; omega
theorem runOf_pos {l : List UInt8} (h : begins l = true) : 1 ≤ runOf l := by
  match l, h with
  | a :: t, _ => simp only [runOf]; omega

/-- WHAT IS FOUND, WITH A BLANK BEHIND. -/
theorem run_whole {l : List UInt8} (h : begins l = true) : begins (l.take (runOf l) ++ [32]) = true ∧ runOf (l.take (runOf l) ++ [32]) = runOf l := by
  match l, h with
  | a :: t, h =>
    obtain ⟨o, le⟩ := run_take (hex := decide (pfx (a :: t) = 16)) a t
    have e : (a :: t).take (runOf (a :: t)) = a :: t.take (runLen (decide (pfx (a :: t) = 16)) a t) := by
      simp only [runOf]; rw [Nat.add_comm 1, List.take_succ_cons]
    have hpf : pfx (a :: t.take (runLen (decide (pfx (a :: t) = 16)) a t)) = pfx (a :: t) ∧ begins (a :: t.take (runLen (decide (pfx (a :: t) = 16)) a t)) = true := by
      match t, h with
      | [], h => rw [List.take_nil]; exact ⟨rfl, h⟩
      | d :: t, h =>
        rw [runLen]
        by_cases hi : inner d = true
        · have : on (decide (pfx (a :: d :: t) = 16)) a d = true := by unfold on; rw [hi]; rfl
          rw [if_pos this, Nat.add_comm 1, List.take_succ_cons]
          exact ⟨rfl, h⟩
        · have hi' : inner d = false := by simpa using hi
          have p1 := pfx_app (.inr hi') [a] t
          have b1 : begins [a] = true := by
            simp only [begins] at h ⊢
            split
            · rename_i ha
              rw [if_pos ha] at h
              simp only [hd, decide_eq_true_eq] at h
              exact absurd (inner_dig (by omega)) hi
            · rename_i ha
              rw [if_neg ha] at h; exact h
          have p2 : pfx (a :: d :: t) = 10 := p1
          split
          · rw [Nat.add_comm 1, List.take_succ_cons]
            exact ⟨rfl, h⟩
          · exact ⟨p2.symm, b1⟩
    rw [e]
    refine ⟨begins_app _ hpf.2, ?_⟩
    have hp2 := pfx_app (c := 32) (.inr (by decide)) (a :: t.take (runLen (decide (pfx (a :: t) = 16)) a t)) []
    rw [hpf.1] at hp2
    rw [List.cons_append] at hp2 ⊢
    simp only [runOf, hp2]
    rw [run_stop (by decide) a _ o (.inr (by decide)), List.length_take]
    omega
end Go.Proofs.YtklmiabgalanhaaGreatDoor.Nm

