/- What the reference's item is to a rune's text. -/
import Derived.Test.YtdpngmhjdafdpaaQuRBegA
namespace Go.Proofs.Ytdpngmhjdafdpaa
open Go.RowKit Em
set_option linter.unusedVariables false
set_option linter.unusedSimpArgs false

theorem escL_drop {mark p : Nat} {s : ByteArray} {n : Nat} {b : Bool} {r : List UInt8} (h : Qm.esc mark ((bl s).drop (p + 1)) = some (n, b, r)) :
    (bl s).drop (p + escL mark ((bl s).drop (p + 1))) = r ∧ 2 ≤ escL mark ((bl s).drop (p + 1)) ∧ p + escL mark ((bl s).drop (p + 1)) ≤ s.size := by
  obtain ⟨e, he, hne, _⟩ := Qm.esc_split h
  have hl := congrArg List.length he
  rw [List.length_append, List.length_drop, bl_size] at hl
  have hel : 1 ≤ e.length := by
    cases e with
    | nil => exact absurd rfl hne
    | cons a t => simp
  have hE : escL mark ((bl s).drop (p + 1)) = 1 + e.length := by
    unfold escL
    rw [h]
    simp only [List.length_drop, bl_size]
    omega
  rw [hE]
  refine ⟨?_, by omega, by omega⟩
  rw [show p + (1 + e.length) = (p + 1) + e.length by omega, ← List.drop_drop, he, List.drop_left]

theorem rune_item (s : ByteArray) (p : Nat) (hp : p < s.size) (h39 : byN s p ≠ 39) :
    Qm.rune ((bl s).drop p) = (if itL s p 39 = 0 then none else Qm.close 39 (bl (itT s p 39)) ((bl s).drop (p + itL s p 39))) ∧ p + itL s p 39 ≤ s.size ∧ (itT s p 39).size ≤ 4 := by
  have hd := bl_drop' s p hp
  obtain ⟨c, hc⟩ : ∃ c, s[p]'hp = c := ⟨_, rfl⟩
  have hb := byN_get s p hp
  rw [hc] at hd hb
  unfold itL itT
  by_cases h92 : byN s p = 92
  · rw [if_pos h92, if_pos h92]
    have hcc : c = 92 := UInt8.toNat_inj.1 (hb.trans h92)
    subst hcc
    have hR : Qm.rune ((bl s).drop p) = (match Qm.esc 39 ((bl s).drop (p + 1)) with | some (n, _, r) => Qm.close 39 (Qm.fm n) r | none => none) := by
      rw [hd]; unfold Qm.rune; rw [if_pos (by rfl)]; rfl
    rw [hR]
    cases hx : Qm.esc 39 ((bl s).drop (p + 1)) with
    | none =>
      have e1 : escL 39 ((bl s).drop (p + 1)) = 0 := by unfold escL; rw [hx]
      have e2 : escT 39 ((bl s).drop (p + 1)) = [] := by unfold escT; rw [hx]
      rw [e1, e2]
      exact ⟨by simp, by omega, by rw [txt_size]; simp⟩
    | some y =>
      obtain ⟨n, b, r⟩ := y
      obtain ⟨a1, a2, a3⟩ := escL_drop hx
      have e2 : escT 39 ((bl s).drop (p + 1)) = Qm.fm n := by unfold escT; rw [hx]; rfl
      rw [e2, a1, txt_bl, txt_size, if_neg (by omega)]
      exact ⟨rfl, a3, fm_le n⟩
  · rw [if_neg h92, if_neg h92]
    have hR : Qm.rune ((bl s).drop p) = (match Qm.rd ((bl s).drop p) with | some (c, r) => if c = 39 ∨ c = 10 then none else Qm.close 39 (Qm.fm c) r | none => none) := by
      unfold Qm.rune
      rw [if_neg (by
        rw [hd]
        have : c.toNat ≠ 92 := by rw [hb]; exact h92
        have h2 : c ≠ 92 := fun e => this (by rw [e]; rfl)
        simp [Nm.at1, this, h2])]
      rfl
    rw [hR]
    by_cases h10 : byN s p = 10
    · rw [if_pos h10, if_pos h10]
      have hcc : c = 10 := UInt8.toNat_inj.1 (hb.trans h10)
      subst hcc
      have h1 : Qm.rd ((bl s).drop p) = some (10, (bl s).drop (p + 1)) := by
        rw [hd]
        have := Qm.rd_form (c := 10) (Qm.ok_small (by omega)) ((bl s).drop (p + 1))
        rw [Qm.fm_small (by omega)] at this
        exact this
      rw [h1]
      exact ⟨by simp, by omega, by decide⟩
    · rw [if_neg h10, if_neg h10]
      simp only [if_neg (show ¬ (39 : Nat) = 34 by decide)]
      rw [rd_at s p hp]
      have hf := rd_fits s p hp
      by_cases h0 : rdN s p = 0
      · rw [if_pos h0, if_pos h0]
        refine ⟨rfl, hf, ?_⟩
        rw [h0, ← bl_size, bl_extract, List.length_drop, List.length_take]; omega
      · rw [if_neg h0, if_neg h0]
        have hr : Qm.rd ((bl s).drop p) = some (rdC s p, (bl s).drop (p + rdN s p)) := by rw [rd_at s p hp, if_neg h0]
        obtain ⟨ok, hl⟩ := Qm.rd_some hr
        have hlen := congrArg List.length hl
        rw [List.length_append, List.length_drop, List.length_drop, bl_size] at hlen
        have hT : bl (s.extract p (p + rdN s p)) = Qm.fm (rdC s p) := by
          rw [bl_extract, List.drop_take, hl]
          rw [show p + rdN s p - p = (Qm.fm (rdC s p)).length by omega, List.take_left]
        have hne : ¬ (rdC s p = 39 ∨ rdC s p = 10) := by
          intro h
          have hh : ∀ v : Nat, v < 128 → rdC s p = v → byN s p = v := by
            intro v hv e
            rw [e, Qm.fm_small hv, hd] at hl
            have := (List.cons.inj hl).1
            rw [← hb, this]
            exact Um.toNat_ofNat (by omega)
          rcases h with h | h
          · exact h39 (hh 39 (by omega) h)
          · exact h10 (hh 10 (by omega) h)
        simp only []
        rw [if_neg hne, hT]
        refine ⟨rfl, hf, ?_⟩
        rw [← bl_size, hT]
        exact fm_le _
end Go.Proofs.Ytdpngmhjdafdpaa
