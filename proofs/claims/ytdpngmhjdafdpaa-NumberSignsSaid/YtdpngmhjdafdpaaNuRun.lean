/- Plain mathematics of numbers as texts: runs. Nothing of the program is named here. -/
import Derived.Test.YtdpngmhjdafdpaaNuGram
namespace Go.Proofs.Ytdpngmhjdafdpaa.Nm

/-! ### Runs -/
def inner (c : UInt8) : Bool := decide ((97 ≤ c.toNat ∧ c.toNat ≤ 122) ∨ (65 ≤ c.toNat ∧ c.toNat ≤ 90) ∨ (48 ≤ c.toNat ∧ c.toNat ≤ 57) ∨ c.toNat = 95 ∨ c.toNat = 46)
def sign (c : UInt8) : Bool := decide (c = 43 ∨ c = 45)
def lt (hex : Bool) (c : UInt8) : Bool := bif hex then decide (c = 112 ∨ c = 80) else decide (c = 101 ∨ c = 69)
/-- Does a byte go on with a run? -/
def on (hex : Bool) (p c : UInt8) : Bool := inner c || (lt hex p && sign c)
def runLen (hex : Bool) : UInt8 → List UInt8 → Nat
  | _, [] => 0
  | p, c :: l => if on hex p c = true then 1 + runLen hex c l else 0
def okRun (hex : Bool) : UInt8 → List UInt8 → Bool
  | _, [] => true
  | p, c :: l => on hex p c && okRun hex c l
def lastOr : UInt8 → List UInt8 → UInt8
  | p, [] => p
  | _, c :: l => lastOr c l
def runOf (l : List UInt8) : Nat := match l with | [] => 0 | a :: t => 1 + runLen (decide (pfx l = 16)) a t
def begins (l : List UInt8) : Bool := match l with | [] => false | a :: t => if a = 46 then hd 10 t else decide (dg a < 10)

theorem lastOr_eq : ∀ (a : UInt8) (t : List UInt8), (a :: t).getLast? = some (lastOr a t)
  | a, [] => rfl
  | a, c :: t => by rw [List.getLast?_cons_cons, lastOr]; exact lastOr_eq c t

theorem run_stop {hex : Bool} {c : UInt8} {v : List UInt8} (hc : inner c = false) : ∀ (a : UInt8) (t : List UInt8), okRun hex a t = true → (lt hex (lastOr a t) = false ∨ sign c = false) → runLen hex a (t ++ c :: v) = t.length
  | a, [], _, h => by
    have : on hex a c = false := by
      unfold on; rw [hc]
      rcases h with h | h
      · rw [show lt hex a = false from h]; rfl
      · rw [h, Bool.and_false]; rfl
    simp [runLen, this]
  | a, d :: t, ho, h => by
    rw [okRun, Bool.and_eq_true] at ho
    have := run_stop (v := v) hc d t ho.2 h
    simp only [List.cons_append, runLen, ho.1, if_true, this, List.length_cons]
    omega

theorem run_take {hex : Bool} : ∀ (a : UInt8) (t : List UInt8), okRun hex a (t.take (runLen hex a t)) = true ∧ runLen hex a t ≤ t.length
  | a, [] => ⟨rfl, Nat.le_refl _⟩
  | a, c :: t => by
    rw [runLen]
    split
    · rename_i h
      obtain ⟨x, y⟩ := run_take (hex := hex) c t
      rw [show 1 + runLen hex c t = runLen hex c t + 1 by omega, List.take_succ_cons, okRun, h, x]
      exact ⟨rfl, by rw [List.length_cons]; omega⟩
    · exact ⟨by rw [List.take_zero]; rfl, by omega⟩

theorem inner_dig {c : UInt8} (h : dg c < 16) : inner c = true := by
  unfold dg at h
  unfold inner
  refine decide_eq_true ?_
  split at h
  · omega
  · split at h
    · omega
    · split at h
      · omega
      · omega
theorem inner_R {b : Nat} (hb : b ≤ 16) {l : List UInt8} (h : R b l = true) : ∀ c ∈ l, inner c = true := by
  intro c hc
  rcases R_mem l h c hc with h | h
  · exact inner_dig (by omega)
  · rw [h]; decide
theorem inner_under {b : Nat} (hb : b ≤ 16) {l : List UInt8} (h : under b l = true) : ∀ c ∈ l, inner c = true := by
  rcases under_cases h with h1 | ⟨u, rfl, h1⟩
  · exact inner_R hb h1
  · intro c hc
    rcases List.mem_cons.1 hc with rfl | hc
    · decide
    · exact inner_R hb h1 c hc
theorem inner_pointed {b : Nat} (hb : b ≤ 16) {hex : Bool} {l : List UInt8} (h : pointed b hex l) : ∀ c ∈ l, inner c = true := by
  obtain ⟨x, y, rfl, hc⟩ := h
  have hx : ∀ c ∈ x, inner c = true := by
    rcases cuts_cases hc with ⟨h, _, _⟩ | ⟨rfl, _⟩
    · exact inner_under hb h
    · intro c hc; cases hc
  have hy : ∀ c ∈ y, inner c = true := by
    rcases cuts_cases hc with ⟨_, _, rfl | h⟩ | ⟨_, h⟩
    · intro c hc; cases hc
    · exact inner_R hb h
    · exact inner_R hb h
  intro c hc
  rcases List.mem_append.1 hc with h | h
  · exact hx c h
  · rcases List.mem_cons.1 h with rfl | h
    · decide
    · exact hy c h

/-- Inner bytes, and a power behind them or none. -/
def Sh (hex : Bool) (l : List UInt8) : Prop := ∃ u v, l = u ++ v ∧ (∀ c ∈ u, inner c = true) ∧ (v = [] ∨ ∃ e m r, v = e :: (m ++ r) ∧ lt hex e = true ∧ (m = [] ∨ ∃ g, sign g = true ∧ m = [g]) ∧ (∀ c ∈ r, inner c = true))

theorem sh_inner (hex : Bool) {l : List UInt8} (h : ∀ c ∈ l, inner c = true) : Sh hex l := ⟨l, [], by simp, h, .inl rfl⟩

theorem power_shape {c d : UInt8} {y : List UInt8} (h : power c d y = true) : ∃ e m r, y = e :: (m ++ r) ∧ (e = c ∨ e = d) ∧ (m = [] ∨ ∃ g, sign g = true ∧ m = [g]) ∧ (∀ c ∈ r, inner c = true) := by
  obtain ⟨e, t, rfl, he, h⟩ := power_split h
  rw [expo_eq] at h
  match t, h with
  | g :: t, h =>
    simp only [sg] at h
    split at h
    · rename_i hg
      exact ⟨e, [g], t, rfl, he, .inr ⟨g, by simpa [sign] using hg, rfl⟩, inner_R (by omega) h⟩
    · exact ⟨e, [], g :: t, rfl, he, .inl rfl, inner_R (by omega) h⟩

theorem inner_pfx {d : UInt8} {t : List UInt8} (h : pfx (48 :: d :: t) ≠ 10) : inner d = true := by
  simp only [pfx, if_true] at h
  split at h
  · rename_i h1; rcases h1 with rfl | rfl <;> decide
  · split at h
    · rename_i h1; rcases h1 with rfl | rfl <;> decide
    · split at h
      · rename_i h1; rcases h1 with rfl | rfl <;> decide
      · exact absurd rfl h

theorem inner_lettered {l : List UInt8} (hp : pfx l ≠ 10) (h : ∀ c ∈ l.drop 2, inner c = true) : ∀ c ∈ l, inner c = true := by
  obtain ⟨d, t, rfl⟩ := pfx_spell hp
  intro c hc
  rcases List.mem_cons.1 hc with rfl | hc
  · decide
  · rcases List.mem_cons.1 hc with rfl | hc
    · exact inner_pfx hp
    · exact h c hc

theorem int_sh {hex : Bool} {l : List UInt8} (h : IntG l) : Sh hex l := by
  apply sh_inner
  rcases h with rfl | ⟨h, _⟩ | ⟨h1, h2⟩ | ⟨h1, h2⟩ | ⟨h1, h2⟩ | ⟨h1, h2⟩
  · decide
  · exact inner_R (by omega) h
  · match l, h1, h2 with
    | a :: t, h1, h2 =>
      simp [at1] at h1; subst h1
      intro c hc
      rcases List.mem_cons.1 hc with rfl | hc
      · decide
      · exact inner_under (by omega) h2 c hc
  · exact inner_lettered (by omega) (inner_under (by omega) h2)
  · exact inner_lettered (by omega) (inner_under (by omega) h2)
  · exact inner_lettered (by omega) (inner_under (by omega) h2)

theorem float_sh {l : List UInt8} (h : FloatG l) : Sh (decide (pfx l = 16)) l := by
  rcases h with ⟨hp, x, y, e, hy, hx⟩ | ⟨hp, h | ⟨x, y, e, hy, hx⟩⟩
  · rw [decide_eq_true hp]
    obtain ⟨f, m, r, e2, hf, hm, hr⟩ := power_shape hy
    obtain ⟨d, t, el⟩ := pfx_spell (l := l) (by omega)
    have e' : t = x ++ y := by rw [el] at e; exact e
    refine ⟨48 :: d :: x, y, by rw [el, e']; rfl, ?_, .inr ⟨f, m, r, e2, by simpa [lt] using hf, hm, hr⟩⟩
    have hx' : ∀ c ∈ x, inner c = true := by
      rcases hx with hx | hx
      · exact inner_pointed (by omega) hx
      · exact inner_under (by omega) hx
    intro c hc
    rcases List.mem_cons.1 hc with rfl | hc
    · decide
    · rcases List.mem_cons.1 hc with rfl | hc
      · exact inner_pfx (t := t) (by rw [← el]; omega)
      · exact hx' c hc
  · exact sh_inner _ (inner_pointed (by omega) h)
  · rw [decide_eq_false hp]
    obtain ⟨f, m, r, e2, hf, hm, hr⟩ := power_shape hy
    refine ⟨x, y, e, ?_, .inr ⟨f, m, r, e2, by simpa [lt] using hf, hm, hr⟩⟩
    rcases hx with hx | hx
    · exact inner_pointed (by omega) hx
    · exact inner_R (by omega) hx

theorem plain_sh {l : List UInt8} (h : plain l ≠ 0) : Sh (decide (pfx l = 16)) l := by
  rcases plain_kinds l with k | k | k
  · exact absurd k h
  · exact int_sh ((int_iff l).1 k)
  · exact float_sh ((float_iff l).1 k)

theorem sh_i {hex : Bool} {l : List UInt8} (h : Sh hex l) : Sh hex (l ++ [105]) := by
  obtain ⟨u, v, rfl, hu, rfl | ⟨e, m, r, rfl, he, hm, hr⟩⟩ := h
  · refine sh_inner hex ?_
    intro c hc
    rw [List.append_nil] at hc
    rcases List.mem_append.1 hc with h | h
    · exact hu c h
    · rw [List.mem_singleton] at h; rw [h]; decide
  · refine ⟨u, e :: (m ++ (r ++ [105])), by simp, hu, .inr ⟨e, m, r ++ [105], rfl, he, hm, ?_⟩⟩
    intro c hc
    rcases List.mem_append.1 hc with h | h
    · exact hr c h
    · rw [List.mem_singleton] at h; rw [h]; decide

theorem pfx_app {c : UInt8} (h : c = 105 ∨ inner c = false) (t v : List UInt8) : pfx (t ++ c :: v) = pfx t := by
  have no : ∀ d : UInt8, inner d = true → d ≠ 105 → c ≠ d := by
    rintro d h1 h2 rfl
    rcases h with h | h
    · exact h2 h
    · rw [h1] at h; cases h
  match t with
  | [] =>
    have : c ≠ 48 := no 48 (by decide) (by decide)
    match v with
    | [] => rfl
    | d :: v => simp [pfx, this]
  | [a] =>
    have n1 := no 98 (by decide) (by decide); have n2 := no 66 (by decide) (by decide); have n3 := no 111 (by decide) (by decide)
    have n4 := no 79 (by decide) (by decide); have n5 := no 120 (by decide) (by decide); have n6 := no 88 (by decide) (by decide)
    simp [pfx, n1, n2, n3, n4, n5, n6]
  | a :: d :: t => rfl

theorem begins_app {a : List UInt8} (b : List UInt8) (h : begins a = true) : begins (a ++ b) = true := by
  match a, h with
  | x :: t, h =>
    simp only [begins, List.cons_append] at h ⊢
    split
    · rename_i hx
      rw [if_pos hx] at h
      match t, h with
      | y :: t, h => exact h
    · rename_i hx
      rw [if_neg hx] at h; exact h
theorem begins_R {l : List UInt8} (h : R 10 l = true) : begins l = true := by
  have h1 := hd_R h
  match l, h1 with
  | a :: t, h1 =>
    simp only [hd] at h1
    simp only [begins]
    split
    · rename_i ha; subst ha; exact absurd (of_decide_eq_true h1) (by decide)
    · exact h1
theorem begins_0 (t : List UInt8) : begins (48 :: t) = true := by simp [begins, dg]
theorem begins_pointed {l : List UInt8} (h : pointed 10 false l) : begins l = true := by
  obtain ⟨x, y, rfl, hc⟩ := h
  rcases cuts_cases hc with ⟨_, h, _⟩ | ⟨rfl, h⟩
  · exact begins_app _ (begins_R (h rfl))
  · simp [begins, hd_R h]
theorem plain_begins {l : List UInt8} (h : plain l ≠ 0) : begins l = true := by
  have h48 : pfx l ≠ 10 → begins l = true := by
    intro hp
    obtain ⟨d, t, rfl⟩ := pfx_spell hp
    exact begins_0 _
  rcases plain_kinds l with k | k | k
  · exact absurd k h
  · rcases (int_iff l).1 k with rfl | ⟨h, _⟩ | ⟨h1, _⟩ | ⟨h1, _⟩ | ⟨h1, _⟩ | ⟨h1, _⟩
    · decide
    · exact begins_R h
    · match l, h1 with
      | a :: t, h1 => simp [at1] at h1; subst h1; exact begins_0 _
    · exact h48 (by omega)
    · exact h48 (by omega)
    · exact h48 (by omega)
  · rcases (float_iff l).1 k with ⟨hp, _⟩ | ⟨_, h | ⟨x, y, rfl, _, hx⟩⟩
    · exact h48 (by omega)
    · exact begins_pointed h
    · rcases hx with hx | hx
      · exact begins_app _ (begins_pointed hx)
      · exact begins_app _ (begins_R hx)

theorem ok_inner {hex : Bool} (v : List UInt8) : ∀ (a : UInt8) (x : List UInt8), (∀ c ∈ x, inner c = true) → okRun hex a (x ++ v) = okRun hex (lastOr a x) v
  | a, [], _ => rfl
  | a, c :: x, h => by
    have hc : on hex a c = true := by unfold on; rw [h c (List.mem_cons_self ..)]; rfl
    rw [List.cons_append, okRun, hc, Bool.true_and, lastOr]
    exact ok_inner v c x fun d hd => h d (List.mem_cons_of_mem _ hd)
theorem ok_all {hex : Bool} (a : UInt8) (x : List UInt8) (h : ∀ c ∈ x, inner c = true) : okRun hex a x = true := by
  have := ok_inner (hex := hex) [] a x h
  rw [List.append_nil] at this
  rw [this]; rfl
theorem lt_inner {hex : Bool} {e : UInt8} (h : lt hex e = true) : inner e = true := by
  unfold lt at h
  cases hex
  · simp only [cond_false, decide_eq_true_eq] at h; rcases h with rfl | rfl <;> decide
  · simp only [cond_true, decide_eq_true_eq] at h; rcases h with rfl | rfl <;> decide
theorem ok_power {hex : Bool} {e : UInt8} {m r : List UInt8} (he : lt hex e = true) (hm : m = [] ∨ ∃ g, sign g = true ∧ m = [g]) (hr : ∀ c ∈ r, inner c = true) : okRun hex e (m ++ r) = true := by
  rcases hm with rfl | ⟨g, hg, rfl⟩
  · exact ok_all e r hr
  · rw [List.singleton_append, okRun, ok_all g r hr]
    simp [on, he, hg]
theorem sh_ok {hex : Bool} {a : UInt8} {t : List UInt8} (h : Sh hex (a :: t)) : okRun hex a t = true := by
  obtain ⟨u, v, e, hu, hv⟩ := h
  match u, e, hu with
  | [], e, _ =>
    rcases hv with rfl | ⟨x, m, r, rfl, hx, hm, hr⟩
    · cases e
    · rw [List.nil_append] at e
      obtain ⟨rfl, rfl⟩ := List.cons.inj e
      exact ok_power hx hm hr
  | b :: u, e, hu =>
    rw [List.cons_append] at e
    obtain ⟨rfl, rfl⟩ := List.cons.inj e
    rw [ok_inner v a u fun d hd => hu d (List.mem_cons_of_mem _ hd)]
    rcases hv with rfl | ⟨x, m, r, rfl, hx, hm, hr⟩
    · rfl
    · rw [okRun, ok_power hx hm hr]
      simp [on, lt_inner hx]

/-- WHAT A NUMBER IS LIKE FROM ITS FIRST BYTE TO ITS LAST. -/
theorem kind_good {l : List UInt8} (h : kind l ≠ 0) : begins l = true ∧ Sh (decide (pfx l = 16)) l ∧ ∃ c, l.getLast? = some c ∧ lt (decide (pfx l = 16)) c = false := by
  unfold kind at h
  split at h
  · rename_i hl
    obtain ⟨t, rfl⟩ := (List.getLast?_eq_some_iff.1 hl)
    rw [List.dropLast_concat, whole_eq (by omega)] at h
    have hk : plain t ≠ 0 ∨ R 10 t = true := by
      by_cases hh : plain t ≠ 0 ∨ R 10 t = true
      · exact hh
      · rw [if_neg hh] at h; exact absurd rfl h
    have hp := pfx_app (c := 105) (.inl rfl) t []
    rw [hp]
    refine ⟨?_, ?_, 105, hl, ?_⟩
    · apply begins_app
      rcases hk with hk | hk
      · exact plain_begins hk
      · exact begins_R hk
    · apply sh_i
      rcases hk with hk | hk
      · exact plain_sh hk
      · exact sh_inner _ (inner_R (by omega) hk)
    · cases decide (pfx t = 16) <;> decide
  · refine ⟨plain_begins h, plain_sh h, ?_⟩
    obtain ⟨c, h1, h2⟩ := plain_last h
    refine ⟨c, h1, ?_⟩
    cases hv : lt (decide (pfx l = 16)) c with
    | false => rfl
    | true =>
      exfalso
      by_cases hp : pfx l = 16
      · rw [decide_eq_true hp] at hv
        rw [if_pos hp] at h2
        simp only [lt, cond_true, decide_eq_true_eq] at hv
        rcases hv with rfl | rfl <;> revert h2 <;> decide
      · rw [decide_eq_false hp] at hv
        rw [if_neg hp] at h2
        simp only [lt, cond_false, decide_eq_true_eq] at hv
        rcases hv with rfl | rfl <;> revert h2 <;> decide

/-- WHATEVER STANDS BEHIND A NUMBER that goes on with no run. -/
theorem run_signs {l : List UInt8} (h : kind l ≠ 0) {c : UInt8} (hc : inner c = false) (v : List UInt8) : begins (l ++ c :: v) = true ∧ runOf (l ++ c :: v) = l.length := by
  obtain ⟨h1, h2, x, h3, h4⟩ := kind_good h
  refine ⟨begins_app _ h1, ?_⟩
  have hp := pfx_app (.inr hc) l v
  match l, h1, h2, h3, hp with
  | a :: t, h1, h2, h3, hp =>
    rw [List.cons_append] at hp ⊢
    simp only [runOf, hp]
    rw [lastOr_eq] at h3
    rw [run_stop hc a t (sh_ok h2) (.inl (by rw [Option.some.inj h3]; exact h4)), List.length_cons]
    omega

theorem runOf_le (l : List UInt8) : runOf l ≤ l.length := by
  match l with
  | [] => exact Nat.le_refl _
  | a :: t =>
    have := (run_take (hex := decide (pfx (a :: t) = 16)) a t).2
    simp only [runOf, List.length_cons]; omega
theorem runOf_pos {l : List UInt8} (h : begins l = true) : 1 ≤ runOf l := by
  match l, h with
  | a :: t, _ => simp only [runOf]; omega

/-- WHAT IS FOUND, WITH A BLANK BEHIND. -/
theorem run_whole {l : List UInt8} (h : begins l = true) : begins (l.take (runOf l) ++ [32]) = true ∧ runOf (l.take (runOf l) ++ [32]) = runOf l := by
  match l, h with
  | a :: t, h =>
    obtain ⟨o, le⟩ := run_take (hex := decide (pfx (a :: t) = 16)) a t
    have e : (a :: t).take (runOf (a :: t)) = a :: t.take (runLen (decide (pfx (a :: t) = 16)) a t) := by
      simp only [runOf]; rw [Nat.add_comm 1, List.take_succ_cons]
    have hpf : pfx (a :: t.take (runLen (decide (pfx (a :: t) = 16)) a t)) = pfx (a :: t) ∧ begins (a :: t.take (runLen (decide (pfx (a :: t) = 16)) a t)) = true := by
      match t, h with
      | [], h => rw [List.take_nil]; exact ⟨rfl, h⟩
      | d :: t, h =>
        rw [runLen]
        by_cases hi : inner d = true
        · have : on (decide (pfx (a :: d :: t) = 16)) a d = true := by unfold on; rw [hi]; rfl
          rw [if_pos this, Nat.add_comm 1, List.take_succ_cons]
          exact ⟨rfl, h⟩
        · have hi' : inner d = false := by simpa using hi
          have p1 := pfx_app (.inr hi') [a] t
          have b1 : begins [a] = true := by
            simp only [begins] at h ⊢
            split
            · rename_i ha
              rw [if_pos ha] at h
              simp only [hd, decide_eq_true_eq] at h
              exact absurd (inner_dig (by omega)) hi
            · rename_i ha
              rw [if_neg ha] at h; exact h
          have p2 : pfx (a :: d :: t) = 10 := p1
          split
          · rw [Nat.add_comm 1, List.take_succ_cons]
            exact ⟨rfl, h⟩
          · exact ⟨p2.symm, b1⟩
    rw [e]
    refine ⟨begins_app _ hpf.2, ?_⟩
    have hp2 := pfx_app (c := 32) (.inr (by decide)) (a :: t.take (runLen (decide (pfx (a :: t) = 16)) a t)) []
    rw [hpf.1] at hp2
    rw [List.cons_append] at hp2 ⊢
    simp only [runOf, hp2]
    rw [run_stop (by decide) a _ o (.inr (by decide)), List.length_take]
    omega
end Go.Proofs.Ytdpngmhjdafdpaa.Nm
