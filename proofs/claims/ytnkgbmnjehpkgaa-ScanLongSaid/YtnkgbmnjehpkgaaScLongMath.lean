/- Plain mathematics: a text of blanks alone. -/
import Derived.Test.YtnkgbmnjehpkgaaGV
namespace Go.Proofs.Ytnkgbmnjehpkgaa
open Go.RowKit Em
set_option maxRecDepth 100000
set_option linter.unusedVariables false

def blanks (n : Nat) : ByteArray := ⟨(List.replicate n 32).toArray⟩
theorem bl_blanks (n : Nat) : bl (blanks n) = List.replicate n 32 := rfl
theorem size_blanks (n : Nat) : (blanks n).size = n := by rw [← bl_size, bl_blanks, List.length_replicate]
theorem okN_blank : Um.okN 32 := by decide
theorem fm_blank : Qm.fm 32 = [32] := by decide
theorem rd_blank (y : List UInt8) : Qm.rd (32 :: y) = some (32, y) := by
  have := Qm.rd_form okN_blank y
  rw [fm_blank] at this
  exact this
theorem left_blanks : ∀ n, Sc.left Sc.blank (List.replicate n 32) = []
  | 0 => rfl
  | n + 1 => by
    rw [List.replicate_succ, Sc.left_yes (rd_blank _) (by decide)]
    exact left_blanks n
theorem cnt_blanks (n : Nat) : Sc.cnt Sc.blank (List.replicate n 32) = n := by
  unfold Sc.cnt; rw [left_blanks, List.length_replicate]; rfl
theorem lex_blanks (n : Nat) : Sc.lex isW (List.replicate (n + 1) 32) = (10, n + 1) := by
  have h := cnt_blanks (n + 1)
  rw [List.replicate_succ] at h ⊢
  unfold Sc.lex
  rw [rd_blank]
  dsimp only
  rw [if_neg (by decide), if_pos (by decide), h]
theorem cln_blanks (n : Nat) : ∀ f p, Sc.cln (blanks n) f p = none
  | 0, p => rfl
  | f + 1, p => by
    by_cases h : p < (blanks n).size
    · have hn := h
      rw [size_blanks] at hn
      have hd : (bl (blanks n)).drop p = 32 :: List.replicate (n - p - 1) 32 := by
        rw [bl_blanks, List.drop_replicate, show n - p = (n - p - 1) + 1 by omega, List.replicate_succ]; simp
      cases hk : Um.okAt (blanks n) p with
      | false =>
        have := Sc.rd_no (s := blanks n) (p := p) hk
        rw [hd, rd_blank] at this
        cases this
      | true =>
        have := Sc.rd_yes h hk
        rw [hd, rd_blank] at this
        have hc : Um.chr (blanks n) p = 32 := (Prod.mk.inj (Option.some.inj this)).1.symm
        rw [Sc.cln_step h hk (by rw [hc]; rfl)]
        exact cln_blanks n f _
    · exact Sc.cln_end h
theorem clnI_blanks (n : Nat) : Sc.clnI (blanks n) = -1 := by unfold Sc.clnI; rw [cln_blanks]
theorem allA_blanks (n : Nat) (h : n + 1 ≤ 65536) : allA (blanks (n + 1)) = ([⟨10, 0, n + 1⟩], 0, 0) := by
  have hl := lex_blanks n
  have e : Sc.lexs isW (blanks (n + 1)).size 0 (bl (blanks (n + 1))) = ([⟨10, 0, n + 1⟩], none) := by
    rw [size_blanks, bl_blanks, Sc.lexs_yes isW (by simp) (by rw [hl]; simp), hl]
    dsimp only
    rw [List.drop_of_length_le (by rw [List.length_replicate]; omega), Sc.lexs_nil]
    simp
  unfold allA
  rw [if_neg (by rw [size_blanks]; omega), if_neg (by rw [clnI_blanks]; decide), e]
theorem allA_long : allA (blanks 65537) = ([], 2, 0) := by
  unfold allA
  rw [if_pos (by rw [size_blanks]; omega)]
end Go.Proofs.Ytnkgbmnjehpkgaa

