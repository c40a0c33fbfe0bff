/- The walk of the law QuotedRunes. -/
import Derived.Test.YtdpngmhjdafdpabQuLawD
import Derived.Test.YtdpngmhjdafdpabRefForm
namespace Go.Proofs.Ytdpngmhjdafdpab
open Go.Shelf Go.RowKit Em
set_option linter.unusedVariables false
set_option linter.unusedSimpArgs false

/-! ### Digits -/
def hbN (k : Nat) : Nat := if k < 10 then 48 + k else if k = 11 ∨ k = 13 ∨ k = 15 then 55 + k else 87 + k
theorem hb_at : ∀ k : Fin 16, byN ⟨#[48, 49, 50, 51, 52, 53, 54, 55, 56, 57, 97, 66, 99, 68, 101, 70]⟩ k.1 = hbN k.1 := by decide +kernel
theorem dg_hb : ∀ k : Fin 16, Nm.dg (UInt8.ofNat (hbN k.1)) = k.1 := by decide +kernel
theorem hb_lt (k : Nat) (h : k < 16) : hbN k < 256 := by unfold hbN; (repeat' split) <;> omega

def hx8 (n : Nat) : Nat → List UInt8
  | 0 => []
  | k + 1 => UInt8.ofNat (hbN (n / 16 ^ k % 16)) :: hx8 n k
theorem hx8_len (n : Nat) : ∀ k, (hx8 n k).length = k
  | 0 => rfl
  | k + 1 => by rw [hx8, List.length_cons, hx8_len n k]

theorem numA_hx8 (n : Nat) : ∀ (k v : Nat) (y : List UInt8), Qm.numA 16 k v (hx8 n k ++ y) = some (v * 16 ^ k + n % 16 ^ k, y)
  | 0, v, y => by
    show Qm.numA 16 0 v y = _
    rw [Qm.numA]; simp [Nat.mod_one]
  | k + 1, v, y => by
    have hd := dg_hb ⟨n / 16 ^ k % 16, Nat.mod_lt _ (by decide)⟩
    simp only [] at hd
    have hlt : n / 16 ^ k % 16 < 16 := Nat.mod_lt _ (by decide)
    show Qm.numA 16 (k + 1) v (UInt8.ofNat (hbN (n / 16 ^ k % 16)) :: (hx8 n k ++ y)) = _
    rw [Qm.numA, hd, if_pos hlt, numA_hx8 n k]
    have hm := Nat.mod_pow_succ (x := n) (b := 16) (k := k)
    rw [hm, Nat.pow_succ]
    congr 2
    rw [Nat.add_mul, Nat.mul_assoc, Nat.mul_comm 16 (16 ^ k), Nat.mul_comm (n / 16 ^ k % 16) (16 ^ k)]
    omega

theorem esc_U (mark : Nat) (hm : mark = 39 ∨ mark = 34) (n : Nat) (hn : n < 4294967296) (y : List UInt8) : Qm.esc mark (85 :: (hx8 n 8 ++ y)) = if Um.okN n then some (n, false, y) else none := by
  have h1 : ¬ ((85 : UInt8).toNat = mark ∨ (85 : UInt8).toNat = 92) := by
    have : (85 : UInt8).toNat = 85 := rfl
    omega
  rw [Qm.esc, if_neg h1, if_neg (by decide), if_pos (by decide)]
  have hw : Qm.wide (85 : UInt8).toNat = 8 := by decide
  have := numA_hx8 n 8 0 y
  rw [Nat.zero_mul, Nat.zero_add, Nat.mod_eq_of_lt (by omega)] at this
  rw [hw, this]
  rfl

theorem rune_U (n : Nat) (hn : n < 4294967296) : Qm.whole (39 :: 92 :: 85 :: (hx8 n 8 ++ [39])) = if Um.okN n then some (6, Qm.fm n, []) else none := by
  have e : Qm.rune (92 :: 85 :: (hx8 n 8 ++ [39])) = if Um.okN n then some (Qm.fm n, []) else none := by
    unfold Qm.rune
    have h1 : Nm.at1 92 (92 :: 85 :: (hx8 n 8 ++ [39])) = true := by rfl
    rw [if_pos h1]
    show (match Qm.esc 39 (85 :: (hx8 n 8 ++ [39])) with | some (n, _, r) => Qm.close 39 (Qm.fm n) r | none => none) = _
    rw [esc_U 39 (.inl rfl) n hn]
    by_cases ho : Um.okN n
    · rw [if_pos ho, if_pos ho]; exact Qm.close_yes _ []
    · rw [if_neg ho, if_neg ho]
  rw [Qm.whole39, e]
  by_cases ho : Um.okN n
  · rw [if_pos ho, if_pos ho, Option.map_some]
  · rw [if_neg ho, if_neg ho]; rfl

theorem str_U (n : Nat) (hn : n < 4294967296) : Qm.whole (34 :: 92 :: 85 :: (hx8 n 8 ++ [34])) = if Um.okN n then some (7, Qm.fm n, []) else none := by
  have e : Qm.strF ((92 :: 85 :: (hx8 n 8 ++ [34])).length + 1) (92 :: 85 :: (hx8 n 8 ++ [34])) = if Um.okN n then some (Qm.fm n, []) else none := by
    have hl : (92 :: 85 :: (hx8 n 8 ++ [34])).length + 1 = 10 + 1 + 1 := by rw [List.length_cons, List.length_cons, List.length_append, hx8_len]; rfl
    rw [hl, Qm.strF, if_neg (by decide), if_pos (by decide), esc_U 34 (.inr rfl) n hn]
    by_cases ho : Um.okN n
    · rw [if_pos ho, if_pos ho]
      have : Qm.strF (10 + 1) [34] = some ([], []) := by rw [Qm.strF, if_pos (by decide)]
      simp only [this, Option.map_some, Qm.sayS]
      simp
    · rw [if_neg ho, if_neg ho]
  rw [Qm.whole34, e]
  by_cases ho : Um.okN n
  · rw [if_pos ho, if_pos ho, Option.map_some]
  · rw [if_neg ho, if_neg ho]; rfl

theorem rune_form (n : Nat) (ho : Um.okN n) : Qm.whole (39 :: (Qm.fm n ++ [39])) = if n = 39 ∨ n = 92 ∨ n = 10 then none else some (6, Qm.fm n, []) := by
  have hrd := Qm.rd_form ho [39]
  have e : Qm.rune (Qm.fm n ++ [39]) = if n = 39 ∨ n = 92 ∨ n = 10 then none else some (Qm.fm n, []) := by
    by_cases h92 : n = 92
    · subst h92
      rw [Qm.fm_small (by decide), if_pos (.inr (.inl rfl))]
      rfl
    · have h1 : Nm.at1 92 (Qm.fm n ++ [39]) = false := by
        cases hx : Qm.fm n ++ [39] with
        | nil => rfl
        | cons c m =>
          by_cases hc : c = 92
          · exfalso
            rw [hx, hc] at hrd
            have := Qm.rd_form (c := 92) (.inl (by decide)) m
            rw [Qm.fm_small (by decide)] at this
            have h2 : Qm.rd (92 :: m) = some (92, m) := this
            rw [h2] at hrd
            exact h92 (Prod.mk.inj (Option.some.inj hrd)).1.symm
          · have : c.toNat ≠ 92 := fun h => hc (UInt8.toNat_inj.1 h)
            simp [Nm.at1, this, hc]
      unfold Qm.rune
      rw [if_neg (by rw [h1]; decide), hrd]
      simp only []
      by_cases h2 : n = 39 ∨ n = 10
      · rw [if_pos h2, if_pos (by omega)]
      · rw [if_neg h2, if_neg (by omega)]; exact Qm.close_yes _ []
  rw [Qm.whole39, e]
  by_cases h : n = 39 ∨ n = 92 ∨ n = 10
  · rw [if_pos h, if_pos h]; rfl
  · rw [if_neg h, if_neg h, Option.map_some]
end Go.Proofs.Ytdpngmhjdafdpab
