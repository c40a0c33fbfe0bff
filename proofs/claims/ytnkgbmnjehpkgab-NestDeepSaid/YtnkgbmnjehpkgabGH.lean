/- Contract of the reference's digit of numbers. -/
import Derived.Test.YtnkgbmnjehpkgabGF
namespace Go.Proofs.Ytnkgbmnjehpkgab
open Go.RowKit Em
set_option maxRecDepth 100000
set_option linter.unusedVariables false
set_option linter.unusedSimpArgs false

def upD (k : Nat) : Nat := if k < 10 then 48 + k else 55 + k
def loD (k : Nat) : Nat := if k < 10 then 48 + k else 87 + k
theorem upD_at : ∀ k : Fin 16, byN ⟨#[48, 49, 50, 51, 52, 53, 54, 55, 56, 57, 65, 66, 67, 68, 69, 70]⟩ k.1 = upD k.1 := by decide +kernel
theorem loD_at : ∀ k : Fin 16, byN ⟨#[48, 49, 50, 51, 52, 53, 54, 55, 56, 57, 97, 98, 99, 100, 101, 102]⟩ k.1 = loD k.1 := by decide +kernel

theorem dig_hit {n k : Nat} (hk : k < 16) (h : upD k = n ∨ loD k = n) : dgN n = k := by
  unfold upD loD at h
  unfold dgN
  by_cases h10 : k < 10
  · rw [if_pos h10, if_pos h10] at h
    rw [if_pos (by omega)]; omega
  · rw [if_neg h10, if_neg h10] at h
    rw [if_neg (by omega)]
    rcases h with h | h
    · rw [if_neg (by omega), if_pos (by omega)]; omega
    · rw [if_pos (by omega)]; omega
theorem dig_none {n b : Nat} (hb : b ≤ 16) (h : ∀ j, j < b → upD j ≠ n ∧ loD j ≠ n) : ¬ dgN n < b := by
  intro hlt
  unfold dgN at hlt
  split at hlt
  · have := (h (n - 48) hlt).1
    unfold upD at this
    rw [if_pos (by omega)] at this; omega
  · split at hlt
    · have := (h (n - 97 + 10) hlt).2
      unfold loD at this
      rw [if_neg (by omega)] at this; omega
    · split at hlt
      · have := (h (n - 65 + 10) hlt).1
        unfold upD at this
        rw [if_neg (by omega)] at this; omega
      · omega


end Go.Proofs.Ytnkgbmnjehpkgab

/- Contract of the reference's Row. -/
namespace Go.Proofs.Ytnkgbmnjehpkgab
open Go.RowKit Em
set_option maxRecDepth 100000
set_option linter.unusedVariables false
set_option linter.unusedSimpArgs false

theorem get_eq (s : ByteArray) (p : Nat) (h : p < s.size) : s[p]'h = s.get! p := by
  apply UInt8.toNat_inj.1
  rw [byN_get s p h]; rfl

/-- What the loop of Row asks from a place on. -/
theorem chk_at (s : ByteArray) (p b : Nat) (x : UInt8) (h : p < s.size) : Nm.chk b x ((bl s).drop p) = ((decide (byN s p = 95 ∧ x ≠ 95) || decide (dgN (byN s p) < b)) && Nm.chk b (s.get! p) ((bl s).drop (p + 1))) := by
  rw [bl_drop s p h, Nm.chk, ← byN_get s p h, dgN_eq, get_eq s p h]
  congr 2
  exact decide_eq_decide.2 ⟨fun ⟨a, b⟩ => ⟨by rw [a]; rfl, b⟩, fun ⟨a, b⟩ => ⟨UInt8.toNat_inj.1 a, b⟩⟩

theorem row_pieces (s : ByteArray) (b : Nat) (hb : b ≤ 16) (h : 0 < s.size) (h0 : dgN (byN s 0) < b) : Nm.R b (bl s) = (Nm.chk b (s.get! 0) ((bl s).drop 1) && decide (dgN (byN s (s.size - 1)) < b)) := by
  have e : bl s = (s[0]'h) :: (bl s).drop 1 := bl_drop s 0 h
  have h0' : Nm.dg (s[0]'h) < b := by rw [← dgN_eq, byN_get s 0 h]; exact h0
  have := Nm.chk_eq hb (s[0]'h) ((bl s).drop 1) h0'
  rw [← e, get_eq s 0 h] at this
  rw [← this]
  congr 1
  unfold Nm.lastD
  rw [List.getLast?_eq_getElem?, bl_size, bl_get s (s.size - 1) (by omega)]
  show decide (Nm.dg _ < b) = _
  rw [← dgN_eq, byN_get]

theorem R_no {s : ByteArray} {b : Nat} (h : 0 < s.size) (h0 : ¬ dgN (byN s 0) < b) : Nm.R b (bl s) = false := by
  cases hv : Nm.R b (bl s) with
  | false => rfl
  | true =>
    have h1 := Nm.hd_R hv
    have h2 := hd_at s 0 b h
    rw [List.drop_zero, h1] at h2
    have := of_decide_eq_true h2.symm
    omega

end Go.Proofs.Ytnkgbmnjehpkgab

/- Contracts of the reference of numbers: under, headed, Power. And of number.prefix. -/
namespace Go.Proofs.Ytnkgbmnjehpkgab
open Go.RowKit Em
set_option maxRecDepth 100000
set_option linter.unusedVariables false
set_option linter.unusedSimpArgs false

theorem bl_from (s : ByteArray) (a : Nat) : bl (s.extract a s.size) = (bl s).drop a := by
  rw [bl_extract, List.take_of_length_le (by rw [bl_size]; omega)]
theorem bl_to (s : ByteArray) (a : Nat) : bl (s.extract 0 a) = (bl s).take a := by rw [bl_extract, List.drop_zero]
theorem size_from (s : ByteArray) (a : Nat) : (s.extract a s.size).size ≤ s.size := by rw [← bl_size, bl_from, ← bl_size]; simp
theorem size_to (s : ByteArray) (a : Nat) : (s.extract 0 a).size ≤ s.size := by rw [← bl_size, bl_to, ← bl_size]; simp; omega


theorem at1_zero (s : ByteArray) (h : 0 < s.size) (c : UInt8) : Nm.at1 c (bl s) = decide (byN s 0 = c.toNat) := by
  have := at1_at s 0 h c
  rw [List.drop_zero] at this
  rw [this]
  exact decide_eq_decide.2 (by omega)
theorem at1_none (s : ByteArray) (h : ¬ 0 < s.size) (c : UInt8) : Nm.at1 c (bl s) = false := by
  have := bl_over s 0 h
  rw [List.drop_zero] at this
  rw [this]; rfl
theorem tail_drop (l : List UInt8) : l.tail = l.drop 1 := (List.drop_one).symm


/-- Does a text begin with 0 and one of two letters? -/
def hdB (s : ByteArray) (x y : Nat) : Bool := decide (2 ≤ s.size ∧ byN s 0 = 48 ∧ (byN s 1 = x ∨ byN s 1 = y))


theorem bl_two (s : ByteArray) (h : 2 ≤ s.size) : bl s = s.get! 0 :: s.get! 1 :: (bl s).drop 2 := by
  have h0 := bl_drop s 0 (by omega)
  have h1 := bl_drop s 1 (by omega)
  rw [List.drop_zero, get_eq s 0 (by omega)] at h0
  rw [get_eq s 1 (by omega)] at h1
  exact h0.trans (congrArg _ h1)

theorem pfx_short (s : ByteArray) (h : ¬ 2 ≤ s.size) : Nm.pfx (bl s) = 10 := by
  have hl : (bl s).length ≤ 1 := by rw [bl_size]; omega
  match hb : bl s, hl with
  | [], _ => rfl
  | [c], _ => rfl

theorem byte_is (s : ByteArray) (k : Nat) (c : UInt8) : s.get! k = c ↔ byN s k = c.toNat := by
  unfold byN; exact ⟨fun h => by rw [h], fun h => UInt8.toNat_inj.1 h⟩

theorem pfx_eq (s : ByteArray) : Nm.pfx (bl s) = if hdB s 98 66 = true then 2 else if hdB s 111 79 = true then 8 else if hdB s 120 88 = true then 16 else 10 := by
  by_cases h2 : 2 ≤ s.size
  · have e := bl_two s h2
    rw [e]
    simp only [Nm.pfx, byte_is, hdB, decide_eq_true_eq]
    show (if byN s 0 = 48 then if byN s 1 = 98 ∨ byN s 1 = 66 then 2 else if byN s 1 = 111 ∨ byN s 1 = 79 then 8 else if byN s 1 = 120 ∨ byN s 1 = 88 then 16 else 10 else 10) = _
    by_cases hB : byN s 0 = 48
    · simp [hB, h2]
    · simp [hB]
  · rw [pfx_short s h2]
    simp [hdB, h2]

set_option maxHeartbeats 1000000 in
theorem nprefix_any (s : ByteArray) (w : World) :
    Calls Try.prog 63 #[.string s] w fun e w' => e = .returned (.int .i64 (Nm.pfx (bl s) : Nat)) ∧ w = w' := by
  by_cases h2 : 2 ≤ s.size
  · have h2' : ¬ (s.size : Int) < 2 := by omega
    have h0 : 0 < s.size := by omega
    have h1 : 1 < s.size := by omega
    have h0' : (0 : Int) < (s.size : Int) := by omega
    have h1' : (1 : Int) < (s.size : Int) := by omega
    have e0 := byN_get s 0 h0
    have l0 := byN_lt s 0
    have e1 := byN_get s 1 h1
    have l1 := byN_lt s 1
    rw [pfx_eq s]
    unfold hdB
    generalize byN s 0 = B at e0 l0 ⊢
    generalize byN s 1 = C at e1 l1 ⊢
    by_cases hB : B = 48
    · subst hB
      have D : ∀ n : Nat, C ≠ n → ((C : Int) == (n : Int)) = false := fun n h => beq_eq_false_iff_ne.2 (by omega)
      by_cases c1 : C = 98
      · subst c1; rw [if_pos (by simp [h2])]
        go_enter Try.func63, Try.ntmps63
        go_wp2
        go_ret
        exact ⟨rfl, rfl⟩
      · by_cases c2 : C = 66
        · subst c2; rw [if_pos (by simp [h2])]
          go_enter Try.func63, Try.ntmps63
          go_wp2
          go_ret
          exact ⟨rfl, rfl⟩
        · rw [if_neg (by simp [h2, c1, c2])]
          by_cases c3 : C = 111
          · subst c3; rw [if_pos (by simp [h2])]
            go_enter Try.func63, Try.ntmps63
            go_wp2
            go_ret
            exact ⟨rfl, rfl⟩
          · by_cases c4 : C = 79
            · subst c4; rw [if_pos (by simp [h2])]
              go_enter Try.func63, Try.ntmps63
              go_wp2
              go_ret
              exact ⟨rfl, rfl⟩
            · rw [if_neg (by simp [h2, c3, c4])]
              by_cases c5 : C = 120
              · subst c5; rw [if_pos (by simp [h2])]
                go_enter Try.func63, Try.ntmps63
                go_wp2
                go_ret
                exact ⟨rfl, rfl⟩
              · by_cases c6 : C = 88
                · subst c6; rw [if_pos (by simp [h2])]
                  go_enter Try.func63, Try.ntmps63
                  go_wp2
                  go_ret
                  exact ⟨rfl, rfl⟩
                · rw [if_neg (by simp [h2, c5, c6])]
                  have d1 : ((C : Int) == 98) = false := D 98 c1
                  have d2 : ((C : Int) == 66) = false := D 66 c2
                  have d3 : ((C : Int) == 111) = false := D 111 c3
                  have d4 : ((C : Int) == 79) = false := D 79 c4
                  have d5 : ((C : Int) == 120) = false := D 120 c5
                  have d6 : ((C : Int) == 88) = false := D 88 c6
                  clear D
                  go_enter Try.func63, Try.ntmps63
                  go_wp2
                  go_ret
                  exact ⟨rfl, rfl⟩
    · have d1 : ((B : Int) != 48) = true := by simp; omega
      have d2 : ((B : Int) == 48) = false := beq_eq_false_iff_ne.2 (by omega)
      simp only [hB, false_and, and_false, decide_false, Bool.false_eq_true, if_false]
      go_enter Try.func63, Try.ntmps63
      go_wp2
      go_ret
      exact ⟨rfl, rfl⟩
  · rw [pfx_short s h2]
    have h2' : (s.size : Int) < 2 := by omega
    go_enter Try.func63, Try.ntmps63
    go_wp2
    go_ret
    exact ⟨rfl, rfl⟩

theorem at2_zero (s : ByteArray) (h : 0 < s.size) (c d : UInt8) : Nm.at2 c d (bl s) = decide (byN s 0 = c.toNat ∨ byN s 0 = d.toNat) := by
  have h0 := bl_drop s 0 h
  rw [List.drop_zero] at h0
  rw [h0, get_eq s 0 h]
  unfold Nm.at2
  exact decide_eq_decide.2 (by rw [byte_is, byte_is])

theorem power_spell (s : ByteArray) (h : 2 ≤ s.size) (c d : UInt8) : Nm.power c d (bl s) = (decide (byN s 0 = c.toNat ∨ byN s 0 = d.toNat) && if byN s 1 = 43 ∨ byN s 1 = 45 then Nm.R 10 ((bl s).drop 2) else Nm.R 10 ((bl s).drop 1)) := by
  unfold Nm.power
  rw [at2_zero s (by omega), Nm.expo_eq, tail_drop]
  congr 1
  have e := bl_drop s 1 (by omega)
  rw [e, get_eq s 1 (by omega), Nm.sg]
  simp only [byte_is]
  show Nm.R 10 (if byN s 1 = 43 ∨ byN s 1 = 45 then _ else _) = _
  split <;> rfl

end Go.Proofs.Ytnkgbmnjehpkgab

/- Contracts of the reference of numbers: pointed, Int. -/
namespace Go.Proofs.Ytnkgbmnjehpkgab
open Go.RowKit Em
set_option maxRecDepth 100000
set_option linter.unusedVariables false
set_option linter.unusedSimpArgs false


theorem no46 {b : Nat} (hb : b ≤ 16) {hex : Bool} {x y : List UInt8} (h : Nm.cuts b hex x y = true) : 46 ∉ x := by
  have hR : ∀ {z}, Nm.R b z = true → 46 ∉ z := by
    intro z hz hm
    rcases Nm.R_mem z hz 46 hm with h | h
    · exact absurd h (by show ¬ 16 < b; omega)
    · exact absurd h (by decide)
  intro hm
  simp only [Nm.cuts, Nm.front, Bool.or_eq_true, Bool.and_eq_true, List.isEmpty_iff] at h
  rcases h with ⟨h | ⟨_, h⟩, _⟩ | ⟨h, _⟩
  · exact hR h hm
  · rcases Nm.under_cases h with h1 | ⟨u, rfl, h1⟩
    · exact hR h1 hm
    · rcases List.mem_cons.1 hm with h' | h'
      · exact absurd h' (by decide)
      · exact hR h1 h'
  · subst h; cases hm

theorem cut_unique {x y x' y' : List UInt8} (h : x ++ 46 :: y = x' ++ 46 :: y') (h1 : 46 ∉ x) (h2 : 46 ∉ x') : x = x' ∧ y = y' := by
  induction x generalizing x' with
  | nil =>
    match x', h, h2 with
    | [], h, _ => exact ⟨rfl, (List.cons.inj h).2⟩
    | c :: x', h, h2 => exact absurd (by rw [(List.cons.inj h).1]; exact List.mem_cons_self ..) h2
  | cons c x ih =>
    match x', h, h2 with
    | [], h, _ => exact absurd (by rw [(List.cons.inj h).1]; exact List.mem_cons_self ..) h1
    | d :: x', h, h2 =>
      obtain ⟨e1, e2⟩ := List.cons.inj h
      obtain ⟨a, b⟩ := ih e2 (fun m => h1 (List.mem_cons_of_mem _ m)) (fun m => h2 (List.mem_cons_of_mem _ m))
      exact ⟨by rw [e1, a], b⟩

theorem pointed_iff {b : Nat} (hb : b ≤ 16) {hex : Bool} {x y : List UInt8} (h1 : 46 ∉ x) : Nm.pointed b hex (x ++ 46 :: y) ↔ Nm.cuts b hex x y = true := by
  constructor
  · rintro ⟨x', y', h, hc⟩
    obtain ⟨rfl, rfl⟩ := cut_unique h h1 (no46 hb hc)
    exact hc
  · exact fun h => ⟨x, y, rfl, h⟩
theorem pointed_no {b : Nat} {hex : Bool} {l : List UInt8} (h : 46 ∉ l) : ¬ Nm.pointed b hex l := by
  rintro ⟨x, y, rfl, _⟩
  exact h (by simp)

theorem take_mem (s : ByteArray) (k : Nat) (h : ∀ j, j < k → byN s j ≠ 46) (hk : k ≤ s.size) : 46 ∉ (bl s).take k := by
  intro hm
  obtain ⟨j, hj, he⟩ := List.mem_iff_getElem.1 hm
  rw [List.length_take, bl_size] at hj
  have hjk : j < k := by omega
  have hjs : j < s.size := by omega
  rw [List.getElem_take] at he
  have h2 := bl_get s j hjs
  rw [List.getElem?_eq_getElem (by rw [bl_size]; omega), he] at h2
  have := h j hjk
  rw [← byN_get s j hjs, ← Option.some.inj h2] at this
  exact this rfl

theorem cut_at (s : ByteArray) (k : Nat) (hk : k < s.size) (h : byN s k = 46) : bl s = (bl s).take k ++ 46 :: (bl s).drop (k + 1) := by
  have := bl_drop s k hk
  have e : s[k]'hk = 46 := UInt8.toNat_inj.1 (by rw [byN_get s k hk, h]; rfl)
  rw [e] at this
  rw [← this, List.take_append_drop]

theorem ext_empty (s : ByteArray) (a b : Nat) : ((s.extract a b).toList == []) = (bl (s.extract a b)).isEmpty := by
  have e : (s.extract a b).toList = bl (s.extract a b) := by rw [Lib.extract_toList, ← Lib.extract_data]; rfl
  rw [e, Bool.eq_iff_iff, beq_iff_eq, List.isEmpty_iff]

noncomputable def ptB (b : Nat) (hex : Bool) (l : List UInt8) : Bool := @decide (Nm.pointed b hex l) (Classical.propDecidable _)
theorem ptB_iff {b : Nat} {hex : Bool} {l : List UInt8} : ptB b hex l = true ↔ Nm.pointed b hex l := @decide_eq_true_iff _ (Classical.propDecidable _)
theorem ptB_of {b : Nat} {hex : Bool} {l : List UInt8} {v : Bool} (h : Nm.pointed b hex l ↔ v = true) : v = ptB b hex l := by
  rw [Bool.eq_iff_iff, ptB_iff]; exact h.symm

end Go.Proofs.Ytnkgbmnjehpkgab

