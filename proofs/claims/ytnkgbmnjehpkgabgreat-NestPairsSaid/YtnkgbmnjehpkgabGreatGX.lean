/- Contract of the reference's Lexeme (scan), put together. -/
import Derived.Test.YtnkgbmnjehpkgabGreatGW
namespace Go.Proofs.YtnkgbmnjehpkgabGreat
open Go.RowKit Em
set_option maxRecDepth 100000
set_option linter.unusedVariables false

theorem chr_of_byte {s : ByteArray} {p : Nat} (h : byN s p < 128) : Um.chr s p = byN s p := by
  have e : byN s p = Um.byt s p := rfl
  rw [e] at h ⊢
  unfold Um.chr
  rw [Um.decode_spell, if_pos h]

theorem rlxV_no {p : Nat} {l : List UInt8} {k : Nat} (h : Sc.lex isW l = (k, 0)) : rlxV p l = .tuple #[.int .u8 0, .int .i64 0] := by
  unfold rlxV; rw [h]; exact if_pos rfl
theorem rlxV_yes {p : Nat} {l : List UInt8} {k n : Nat} (h : Sc.lex isW l = (k, n)) (hn : n ≠ 0) : rlxV p l = .tuple #[.int .u8 (k : Int), .int .i64 ((p + n : Nat) : Int)] := by
  unfold rlxV; rw [h]; exact if_neg hn

theorem cnt_pos {P : Nat → Bool} {l : List UInt8} {c : Nat} {r : List UInt8} (h : Qm.rd l = some (c, r)) (hp : P c = true) : Sc.cnt P l ≠ 0 := by
  have h1 := Sc.rd_less h
  have h2 := Sc.left_yes h hp
  have h3 := Sc.left_le P r
  unfold Sc.cnt
  rw [h2]; omega

theorem pre_char {l : List UInt8} {c : Nat} {r : List UInt8} (h : Qm.rd l = some (c, r)) {x : UInt8} {y : List UInt8} (hx : x.toNat < 128) (hp : (x :: y).isPrefixOf l = true) : c = x.toNat := by
  obtain ⟨t, ht⟩ := List.isPrefixOf_iff_prefix.1 hp
  obtain ⟨hk, he⟩ := Qm.rd_some h
  rcases Sc.fm_shape hk with ⟨h1, h2⟩ | ⟨h1, a, u, h2, h3, _⟩
  · rw [h2, ← ht] at he
    simp at he
    have := congrArg UInt8.toNat he.1
    simp at this
    omega
  · rw [h2, ← ht] at he
    simp at he
    rw [he.1] at hx
    omega

theorem rquoted_no (s : ByteArray) (p : Nat) (hp : p < s.size) (hm : mkN (byN s p) = false) (w : World) :
    Calls Tryz.prog 40 #[.string s, .int .i64 (p : Int)] w fun e w' => e = .returned (.tuple #[.int .u8 0, .int .i64 0, .int .i64 15]) ∧ Below w.heap.size w w' :=
  rscan_of s p w 0 0 15 ⟨#[]⟩ (fun w => (rbeg_no s p w (.inr (.inr ⟨p, rfl, hp, hm⟩))).mono (by rintro e w' ⟨rfl, rfl⟩; exact ⟨rfl, Below.refl _ _⟩))

theorem rquoted_yes (s : ByteArray) (p : Nat) (hp : p < s.size) (hm : mkN (byN s p) = true) (hs : s.size ≤ 140737488355300) :
    ∃ (k : Nat) (n : Nat) (x : Int), (match Qm.whole ((bl s).drop p) with | some (k, _, q) => (k, ((bl s).drop p).length - q.length) | none => (0, 0)) = (k, n) ∧ (n = 0 → k = 0) ∧ (x != 15) = true ∧
      ∀ w : World, Calls Tryz.prog 40 #[.string s, .int .i64 (p : Int)] w fun e w' => e = .returned (.tuple #[.int .u8 (k : Int), .int .i64 (if n = 0 then 0 else ((p + n : Nat) : Int)), .int .i64 x]) ∧ Below w.heap.size w w' := by
  have H := fun w => rbeg_yes s p w hp hm hs
  unfold begV at H
  cases hq : Qm.whole ((bl s).drop p) with
  | none =>
    rw [hq] at H
    refine ⟨0, 0, 4, rfl, fun _ => rfl, rfl, fun w => ?_⟩
    rw [if_pos rfl]
    exact rscan_of s p w 0 0 4 ⟨#[]⟩ (fun w => H w)
  | some x =>
    obtain ⟨k, v, q⟩ := x
    rw [hq] at H
    obtain ⟨m, y, hl, _⟩ := Qm.whole_split hq
    have hlen := congrArg List.length hl
    rw [List.length_cons, List.length_append, List.length_cons, List.length_drop, bl_size] at hlen
    have hn : ((bl s).drop p).length - q.length ≠ 0 := by rw [List.length_drop, bl_size]; omega
    refine ⟨k, ((bl s).drop p).length - q.length, 0, rfl, fun h => absurd h hn, rfl, fun w => ?_⟩
    rw [if_neg hn]
    have e : ((p + (((bl s).drop p).length - q.length) : Nat) : Int) = (s.size : Int) - (q.length : Int) := by rw [List.length_drop, bl_size]; omega
    rw [e]
    exact rscan_of s p w k _ 0 (txt v) (fun w => H w)

theorem rnumber_at (s : ByteArray) (p : Nat) (h : p < s.size) (hs : s.size ≤ 4611686018427387000) :
    (Nm.begins ((bl s).drop p) = false ∧ ∀ w : World, Calls Tryz.prog 39 #[.string s, .int .i64 (p : Int)] w fun e w' => e = .returned (.tuple #[.int .u8 0, .int .i64 0, .int .i64 15]) ∧ w = w') ∨
    (Nm.begins ((bl s).drop p) = true ∧ ∃ (k : Nat) (n : Nat) (x : Int), (if Nm.kind (((bl s).drop p).take (Nm.runOf ((bl s).drop p))) = 0 then (0, 0) else (Nm.kind (((bl s).drop p).take (Nm.runOf ((bl s).drop p))), Nm.runOf ((bl s).drop p))) = (k, n) ∧ (n = 0 → k = 0) ∧ (x != 15) = true ∧ ∀ w : World, Calls Tryz.prog 39 #[.string s, .int .i64 (p : Int)] w fun e w' => e = .returned (.tuple #[.int .u8 (k : Int), .int .i64 (if n = 0 then 0 else ((p + n : Nat) : Int)), .int .i64 x]) ∧ w = w') := by
  have H := fun w => rscan_any s p w hs
  have hb0 : begB s p = Nm.begins ((bl s).drop p) := by
    unfold begB; rw [if_neg (by omega), Int.toNat_natCast]
  cases hb : Nm.begins ((bl s).drop p) with
  | false =>
    rw [hb] at hb0
    have k0 : scanK s p = 0 := by unfold scanK; rw [hb0]; rfl
    have t0 : scanT s p = 0 := by unfold scanT; rw [if_pos k0]
    have e0 : scanE s p = 15 := by unfold scanE; rw [hb0]; rfl
    rw [k0, t0, e0] at H
    exact .inl ⟨rfl, H⟩
  | true =>
    rw [hb] at hb0
    have hpos := Nm.runOf_pos hb
    have k0 : scanK s p = Nm.kind (((bl s).drop p).take (Nm.runOf ((bl s).drop p))) := by unfold scanK; rw [hb0, if_pos rfl, Int.toNat_natCast]
    have t0 : scanT s p = if scanK s p = 0 then 0 else (p : Int) + ((Nm.runOf ((bl s).drop p) : Nat) : Int) := by unfold scanT; rw [Int.toNat_natCast]
    have e0 : scanE s p = if scanK s p = 0 then 4 else 0 := by unfold scanE; rw [hb0, if_pos rfl]
    rw [← k0]
    by_cases h0 : scanK s p = 0
    · rw [if_pos h0] at t0 e0
      rw [t0, e0, h0] at H
      rw [h0, if_pos rfl]
      exact .inr ⟨rfl, 0, 0, 4, rfl, fun _ => rfl, rfl, H⟩
    · rw [if_neg h0] at t0 e0
      rw [t0, e0] at H
      rw [if_neg h0]
      refine .inr ⟨rfl, scanK s p, Nm.runOf ((bl s).drop p), 0, rfl, fun h => by omega, rfl, ?_⟩
      rw [if_neg (by omega)]
      have e : ((p + Nm.runOf ((bl s).drop p) : Nat) : Int) = (p : Int) + ((Nm.runOf ((bl s).drop p) : Nat) : Int) := by push_cast; rfl
      rw [e]
      exact H

theorem rlxV_of {p : Nat} {l : List UInt8} {k n : Nat} (h : Sc.lex isW l = (k, n)) (h0 : n = 0 → k = 0) : Value.tuple #[.int .u8 (k : Int), .int .i64 (if n = 0 then 0 else ((p + n : Nat) : Int))] = rlxV p l := by
  by_cases hn : n = 0
  · have hk := h0 hn
    subst hn hk
    rw [rlxV_no h, if_pos rfl]; rfl
  · rw [rlxV_yes h hn, if_neg hn]

theorem rlexeme_any (s : ByteArray) (p : Nat) (w : World) (hp : p < s.size) (hs : s.size ≤ 140737488355300) (hw : Sc.Wf ((bl s).drop p)) :
    Calls Tryz.prog 29 #[.string s, .int .i64 (p : Int)] w fun e w' => e = .returned (rlxV p ((bl s).drop p)) ∧ Below w.heap.size w w' := by
  have hs2 : s.size ≤ 4611686018427387000 := by omega
  obtain ⟨hok, _⟩ := Sc.wf_at hp hw
  have hrd := Sc.rd_yes hp hok
  have hl := lex_of hrd
  have HR0 := fun w => rread_at s p w hp (by omega)
  rw [(rd_ok hok).1, (rd_ok hok).2, wid_len hp hok] at HR0
  have hsm := chr_small hp hok
  have hbc := @chr_of_byte s p
  have hpre := @pre_char _ _ _ hrd
  have hcp := fun P => @cnt_pos P _ _ _ hrd
  obtain ⟨c, hc⟩ : ∃ c, Um.chr s p = c := ⟨_, rfl⟩
  rw [hc] at hl HR0 hsm hbc hpre hcp
  have hlen : ((bl s).drop p).length = s.size - p := by rw [List.length_drop, bl_size]
  clear hrd hok hc
  have HB0 := fun w => rblank_any c w
  change ∀ w : World, Calls Tryz.prog 34 #[.int .i64 c] w fun e w' => e = .returned (.bool (Sc.blank c)) ∧ w = w' at HB0
  have HL0 := fun w => rletter_any c w
  change ∀ w : World, Calls Tryz.prog 37 #[.int .i64 c] w fun e w' => e = .returned (.bool (Sc.letter c)) ∧ Below w.heap.size w w' at HL0
  have HP1 := fun w => has_any s ⟨#[47, 47]⟩ p w (by omega) hs2 (by decide)
  change ∀ w : World, Calls Tryz.prog 36 #[.string s, .int .i64 (p : Int), .string ⟨#[47, 47]⟩] w fun e w' => e = .returned (.bool (([47, 47] : List UInt8).isPrefixOf ((bl s).drop p))) ∧ w = w' at HP1
  have HP2 := fun w => has_any s ⟨#[47, 42]⟩ p w (by omega) hs2 (by decide)
  change ∀ w : World, Calls Tryz.prog 36 #[.string s, .int .i64 (p : Int), .string ⟨#[47, 42]⟩] w fun e w' => e = .returned (.bool (([47, 42] : List UInt8).isPrefixOf ((bl s).drop p))) ∧ w = w' at HP2
  by_cases h1 : c = 65279
  · subst h1
    rw [if_pos rfl] at hl
    rw [rlxV_yes hl (by omega)]
    exact rlx_mark s p w 3 ((p + 3 : Nat) : Int) (by omega) (by omega) (Lib.hid HR0)
  rw [if_neg h1] at hl
  have n0 : ((c : Int) == 65279) = false := beq_eq_false_iff_ne.2 (by omega)
  cases h2 : Sc.blank c with
  | true =>
    rw [h2] at hl HB0
    rw [if_pos rfl] at hl
    rw [rlxV_yes hl (hcp Sc.blank h2)]
    exact rlx_blank s p w _ c _ n0 (Lib.hid HR0) (Lib.hid HB0) (Lib.hid fun w => run7_blank s p w (by omega) hs2)
  | false =>
    rw [h2] at hl HB0
    rw [if_neg (by simp)] at hl
    cases h3 : ([47, 47] : List UInt8).isPrefixOf ((bl s).drop p) with
    | true =>
      have hc47 := hpre (by decide) h3
      rw [h3] at hl HP1
      rw [if_pos rfl] at hl
      rw [rlxV_yes hl (hcp Sc.lineC (by rw [hc47]; decide))]
      refine rlx_line s p w _ c _ n0 (by omega) hs2 (Lib.hid HR0) (Lib.hid HB0) (Lib.hid HP1) (Lib.hid fun t h4 h5 h6 h7 => ?_)
      have := cnt_line hw (m := t - p) (by rw [hlen]; omega) (fun j hj => by
        rw [List.getElem?_drop]; exact h6 (p + j) (by omega) (by omega)) (by
        rcases h7 with h7 | h7
        · left; rw [hlen]; omega
        · right; rw [List.getElem?_drop, show p + (t - p) = t by omega]; exact h7)
      omega
    | false =>
      rw [h3] at hl HP1
      rw [if_neg (by simp)] at hl
      cases h4 : ([47, 42] : List UInt8).isPrefixOf ((bl s).drop p) with
      | true =>
        have h42 := (List.isPrefixOf_iff_prefix.1 h4).length_le
        rw [hlen] at h42
        simp only [List.length_cons, List.length_nil] at h42
        rw [h4] at hl HP2
        rw [if_pos rfl] at hl
        refine rlx_block s p w _ c _ n0 (by omega) hs2 (Lib.hid HR0) (Lib.hid HB0) (Lib.hid HP1) (Lib.hid HP2) (Lib.hid ⟨fun t h5 h6 h7 h8 => ?_, fun h7 => ?_⟩)
        · have hi := Lib.index_first (s := ((bl s).drop p).drop 2) (sub := [42, 47]) (i := t - (p + 2)) (by rw [List.length_drop, hlen]; omega) (by
            unfold Lib.occAt; rw [List.drop_drop, List.drop_drop, show p + (2 + (t - (p + 2))) = t by omega]; exact h8) (fun j hj => by
            unfold Lib.occAt; rw [List.drop_drop, List.drop_drop]; exact h7 _ (by omega) (by omega))
          have hbk : Sc.blk ((bl s).drop p) = 2 + (t - (p + 2)) + 2 := by unfold Sc.blk; rw [hi, if_pos (by omega), Int.toNat_natCast]
          rw [hbk] at hl
          rw [rlxV_yes hl (by omega)]
          have e : ((p + (2 + (t - (p + 2)) + 2) : Nat) : Int) = (t : Int) + 2 := by omega
          rw [e]; rfl
        · have hi := Lib.index_none (s := ((bl s).drop p).drop 2) (sub := [42, 47]) (fun j hj => by
            unfold Lib.occAt; rw [List.drop_drop, List.drop_drop]
            by_cases hj2 : p + (2 + j) < s.size
            · exact h7 _ (by omega) hj2
            · rw [List.drop_of_length_le (by rw [bl_size]; omega)]; rfl)
          have hbk : Sc.blk ((bl s).drop p) = 0 := by unfold Sc.blk; rw [hi]; rfl
          rw [hbk] at hl
          rw [rlxV_no hl]
      | false =>
        rw [h4] at hl HP2
        rw [if_neg (by simp)] at hl
        cases h5 : Sc.letter c with
        | true =>
          rw [h5] at hl HL0
          rw [if_pos rfl] at hl
          have hcw := hcp Sc.wordC (by unfold Sc.wordC; rw [h5]; rfl)
          have hle := Sc.cnt_le Sc.wordC ((bl s).drop p)
          rw [hlen] at hle
          rw [rlxV_yes hl hcw]
          have HX := fun w => run7_word s p w (by omega) hs2
          have hk : isW (((bl s).drop p).take (Sc.cnt Sc.wordC ((bl s).drop p))) = isWord (s.extract p (p + Sc.cnt Sc.wordC ((bl s).drop p))) := by
            unfold isW; congr 1; apply bl_inj; rw [txt_bl, ext_run]
          rw [hk]
          generalize Sc.cnt Sc.wordC ((bl s).drop p) = n at HX hle hcw ⊢
          have HWd := fun w => rword_any (s.extract p (p + n)) w
          generalize isWord (s.extract p (p + n)) = b at HWd ⊢
          have := rlx_word s p w _ c n b n0 (Lib.hid HR0) (Lib.hid HB0) (Lib.hid HP1) (Lib.hid HP2) (Lib.hid HL0) hp (by omega) (Lib.hid HX) (Lib.hid HWd)
          cases b with
          | true => exact this
          | false => exact this
        | false =>
          rw [h5] at hl HL0
          rw [if_neg (by simp)] at hl
          have hbeg := begins_spell s p hp
          by_cases h6 : c = 59
          · subst h6
            rw [if_pos rfl] at hl
            have hb := hsm (by omega)
            rw [hb] at hbeg
            rw [rlxV_yes hl (by omega)]
            rcases rnumber_at s p hp hs2 with ⟨_, HN⟩ | ⟨hn, _⟩
            · exact rlx_semi s p w _ 59 n0 (Lib.hid HR0) (Lib.hid HB0) (Lib.hid HP1) (Lib.hid HP2) (Lib.hid HL0) (Lib.hid HN) (Lib.hid fun w => rquoted_no s p hp (by rw [hb]; decide) w) hp hs2 hb
            · rw [hn, if_neg (by decide)] at hbeg; exact absurd hbeg (by decide)
          · rw [if_neg h6] at hl
            by_cases h7 : c = 39 ∨ c = 34 ∨ c = 96
            · have hmk : Sc.mark c = true := decide_eq_true h7
              rw [if_pos hmk] at hl
              have hb := hsm (by omega)
              have hmk2 : mkN (byN s p) = true := by rw [hb]; exact decide_eq_true h7
              obtain ⟨k, n, x, hq, hk0, hx, HQ⟩ := rquoted_yes s p hp hmk2 hs
              rw [← rlxV_of (hl.trans hq) hk0]
              rcases rnumber_at s p hp hs2 with ⟨_, HN⟩ | ⟨hn, _⟩
              · exact rlx_quoted s p w _ c k _ x n0 (Lib.hid HR0) (Lib.hid HB0) (Lib.hid HP1) (Lib.hid HP2) (Lib.hid HL0) (Lib.hid HN) (Lib.hid HQ) hx
              · exfalso
                rw [hn, hb] at hbeg
                rcases h7 with h7 | h7 | h7 <;> (rw [h7, if_neg (by decide)] at hbeg; exact absurd hbeg (by decide))
            · have hmk : Sc.mark c = false := decide_eq_false h7
              rw [if_neg (by rw [hmk]; simp)] at hl
              have hmk2 : mkN (byN s p) = false := by
                apply decide_eq_false
                intro h8
                have := hbc (by omega)
                omega
              rcases rnumber_at s p hp hs2 with ⟨hb, HN⟩ | ⟨hb, k, n, x, hk, hk0, hx, HN⟩
              · rw [hb, if_neg (by simp)] at hl
                have hb59 : byN s p ≠ 59 := fun h8 => by
                  have := hbc (by omega)
                  omega
                refine rlx_sign s p w _ c _ n0 (Lib.hid HR0) (Lib.hid HB0) (Lib.hid HP1) (Lib.hid HP2) (Lib.hid HL0) (Lib.hid HN) (Lib.hid fun w => rquoted_no s p hp hmk2 w) hp hs2 hb59 (Lib.hid ?_)
                by_cases hz : Sc.sgn ((bl s).drop p) = 0
                · rw [if_pos hz]
                  rw [hz] at hl
                  rw [rlxV_no hl]
                · rw [if_neg hz, rlxV_yes hl hz]
                  have e : ((p + Sc.sgn ((bl s).drop p) : Nat) : Int) = (p : Int) + (Sc.sgn ((bl s).drop p) : Int) := by push_cast; rfl
                  rw [e]; rfl
              · rw [hb, if_pos rfl] at hl
                rw [← rlxV_of (hl.trans hk) hk0]
                exact rlx_number s p w _ c k _ x n0 (Lib.hid HR0) (Lib.hid HB0) (Lib.hid HP1) (Lib.hid HP2) (Lib.hid HL0) (Lib.hid HN) hx
end Go.Proofs.YtnkgbmnjehpkgabGreat

/- Contracts of the reference's begins, One, All, Same (scan). -/
namespace Go.Proofs.YtnkgbmnjehpkgabGreat
open Go.RowKit Em
set_option maxRecDepth 100000
set_option linter.unusedVariables false

theorem lex_k {l : List UInt8} (h : (Sc.lex isW l).2 ≠ 0) : (Sc.lex isW l).1 ≠ 0 := by
  unfold Sc.lex at h ⊢
  split at h
  · exact absurd rfl h
  · rename_i c r hr
    by_cases h1 : c = 65279
    · rw [if_pos h1]; exact Nat.succ_ne_zero _
    rw [if_neg h1] at h ⊢
    by_cases h2 : Sc.blank c = true
    · rw [if_pos h2]; exact Nat.succ_ne_zero _
    rw [if_neg h2] at h ⊢
    by_cases h3 : [47, 47].isPrefixOf l = true
    · rw [if_pos h3]; exact Nat.succ_ne_zero _
    rw [if_neg h3] at h ⊢
    by_cases h4 : [47, 42].isPrefixOf l = true
    · rw [if_pos h4]; exact Nat.succ_ne_zero _
    rw [if_neg h4] at h ⊢
    by_cases h5 : Sc.letter c = true
    · rw [if_pos h5]
      dsimp only
      split <;> decide
    rw [if_neg h5] at h ⊢
    by_cases h6 : c = 59
    · rw [if_pos h6]; exact Nat.succ_ne_zero _
    rw [if_neg h6] at h ⊢
    by_cases h7 : Sc.mark c = true
    · rw [if_pos h7] at h ⊢
      cases hq : Qm.whole l with
      | none => rw [hq] at h; exact absurd rfl h
      | some x =>
        obtain ⟨k, v, q⟩ := x
        have := Sc.whole_kind hq
        show k ≠ 0
        omega
    rw [if_neg h7] at h ⊢
    by_cases h8 : Nm.begins l = true
    · rw [if_pos h8] at h ⊢
      by_cases h9 : Nm.kind (l.take (Nm.runOf l)) = 0
      · rw [if_pos h9] at h; exact absurd rfl h
      · rw [if_neg h9]; exact h9
    · rw [if_neg h8]; exact Nat.succ_ne_zero _

theorem ok_inside {s : ByteArray} {i p : Nat} (hi : i < s.size) (hw : Sc.Wf ((bl s).drop i)) (h1 : i < p) (h2 : p < i + Um.wid s i) (hp : p < s.size) : Um.okAt s p = false := by
  cases hk : Um.okAt s p with
  | false => rfl
  | true =>
    exfalso
    obtain ⟨hok, _⟩ := Sc.wf_at hi hw
    obtain ⟨hc, he⟩ := Qm.rd_some (Sc.rd_yes hi hok)
    have hlen := Qm.fm_len hc
    have hwl := wid_len hi hok
    have hrp := Sc.rd_yes hp hk
    have hd : (bl s).drop p = ((bl s).drop i).drop (p - i) := by rw [List.drop_drop, show i + (p - i) = p by omega]
    have hwp : Sc.Wf ((bl s).drop p) := by
      rw [hd] at hrp ⊢
      exact wf_drop hw hrp
    rw [he] at hd
    obtain ⟨z, hz⟩ : ∃ z, Qm.fm (Um.chr s i) = z := ⟨_, rfl⟩
    have hcut : ∀ a b, z = a ++ b → a ≠ [] → b ≠ [] → (∀ y ∈ b, 128 ≤ y.toNat ∧ y.toNat < 192) := fun a b e ha hb => (Sc.fm_cut hc (hz.trans e) ha hb).2
    rw [hz] at hlen hd
    rw [← hwl] at hlen
    rw [List.drop_append_of_le_length (by omega)] at hd
    have hne1 : z.take (p - i) ≠ [] := fun e => by
      have := congrArg List.length e
      rw [List.length_take, List.length_nil] at this
      omega
    have hne2 : z.drop (p - i) ≠ [] := fun e => by
      have := congrArg List.length e
      rw [List.length_drop, List.length_nil] at this
      omega
    have hb := hcut _ _ (List.take_append_drop (p - i) z).symm hne1 hne2
    obtain ⟨y, u, hu⟩ := List.exists_cons_of_ne_nil hne2
    rw [hu] at hd hb
    have h8 := hb y (List.mem_cons_self ..)
    have h9 := hwp.hd hd
    omega




set_option maxHeartbeats 2000000 in
theorem same_tk (x y : Option Addr) (cx cy : Nat) (L : List Sc.Tk) (w : World) (hx : TkI w x L) (hy : TkI w y L) (hl : L.length ≤ 4611686018427387904) :
    Calls Tryz.prog 8 #[.slice x L.length cx, .slice y L.length cy] w fun e w' => e = .returned (.bool true) ∧ Below w.heap.size w w' := by
  have Hx := Lib.hid hx
  have Hy := Lib.hid hy
  have hm := guard_tok
  clear hx hy
  go_enter Tryz.func8, Tryz.ntmps8
  go_wp2
  go_loopw [5] (fun i wr => ∃ (k : Nat), k ≤ L.length ∧ i = .int .i64 k ∧ Below w.heap.size w wr) (fun i _ => L.length - (intOf i).toNat)
  case atStart => exact ⟨0, by omega, rfl, Below.refl _ _⟩
  case round =>
    obtain ⟨k, hk, rfl, hb⟩ := hrel
    by_cases hlt : k < L.length
    · obtain ⟨g, rfl, hg, d0, d1, d2⟩ := (Hx.out.keep hb).cells hlt
      obtain ⟨g', rfl, hg', d0', d1', d2'⟩ := (Hy.out.keep hb).cells hlt
      have Hb := Lib.hid hb
      have b0 : (0 : Int) ≤ (k : Int) := by omega
      have b1 : (k : Int) < (L.length : Int) := by omega
      generalize (nthT L k).k = K at d0 d0'
      generalize (nthT L k).f = F at d1 d1'
      generalize (nthT L k).t = U at d2 d2'
      have hq := fun w => run_equal_tok w K F U K F U
      rw [tkEq_self] at hq
      clear hb
      go_wp2
      go_quiet (fail)
      go_wp2
      go_roundw
      case rel => exact ⟨k + 1, by omega, by go_num, below_drw Hb.out _⟩
      case measure => simp [intOf]; omega
    · go_wp2
      go_ret
      exact ⟨rfl, hb⟩

set_option maxHeartbeats 4000000 in
theorem rall_scan (s : ByteArray) (w : World) : Calls Tryz.prog 20 #[.string s] w (AllP s w) := by
  have Hbx := Lib.hid (fau_box w)
  have Hb := Lib.hid (fau_below w)
  by_cases h1 : 65536 < s.size
  · have e1 : allA s = ([], 2, 0) := if_pos h1
    unfold AllP
    rw [e1]
    have h1' : (65536 : Int) < (s.size : Int) := by omega
    have k0 := Hbx.out.c0
    have k1 := Hbx.out.c1
    have f0 := Hbx.out.free 0
    have f1 := Hbx.out.free 1
    have Hb2 := Lib.hid ((Below.refl w.heap.size w).alloc (Nat.le_refl _) (.cells #[.int .i64 2, .int .i64 0] 27))
    clear e1 h1
    go_enter Tryz.func20, Tryz.ntmps20
    go_wp2
    refine bodyPost_ret (v := .tuple #[.slice none 0 0, fauV 2 0]) ?_ ?_ ?_
    · simp [fauV, results, Tryz.results20, go_sem]
    · rfl
    · exact ⟨_, rfl, World.ownsRow_nil _ _ _ _, Hb2.out⟩
  have h1' : ¬ (65536 : Int) < (s.size : Int) := by omega
  have HC := Lib.hid (fun w => rclean_any s w (by omega))
  by_cases h2 : 0 ≤ Sc.clnI s
  · have e1 : allA s = ([], 3, Sc.clnI s) := by unfold allA; rw [if_neg h1, if_pos h2]
    unfold AllP
    rw [e1]
    clear e1
    generalize Sc.clnI s = cl at HC h2 ⊢
    go_enter Tryz.func20, Tryz.ntmps20
    go_wp2_with fail
    refine (HC.out _).mono ?_
    rintro e w1 ⟨rfl, hb1⟩
    have hbx1 := Hbx.out.keep hb1
    have k0 := hbx1.c0
    have k1 := hbx1.c1
    have f0 := hbx1.free 0
    have f1 := hbx1.free 1
    have hbf := hbx1.set 3 cl
    have r0 := hbf.c0
    have r1 := hbf.c1
    have Hb2 := Lib.hid (bset2 (Hb.out.trans (hb1.mono (by simp))) (Nat.le_refl _) (.int .i64 3) (.int .i64 cl))
    clear hbx1 hbf hb1
    go_wp2
    refine bodyPost_ret (v := .tuple #[.slice none 0 0, fauV 3 cl]) ?_ ?_ ?_
    · simp [fauV, results, Tryz.results20, go_sem, r0, r1]
    · rfl
    · exact ⟨_, rfl, World.ownsRow_nil _ _ _ _, Hb2.out⟩
  obtain ⟨i0, hi, hz0, hz1, hz2⟩ := info_parts info_tok
  have HW := Lib.hid (clean_wf (s := s) (by omega))
  have HA : Hid (allA s = match (Sc.lexs isW s.size 0 (bl s)).2 with | none => ((Sc.lexs isW s.size 0 (bl s)).1, 0, 0) | some p => ([], 4, (p : Int))) := Lib.hid (by unfold allA; rw [if_neg h1, if_neg h2]; rfl)
  have hd : ¬ (0 : Int) ≤ Sc.clnI s := h2
  generalize Sc.clnI s = cl at HC hd
  clear h2
  go_enter Tryz.func20, Tryz.ntmps20
  go_wp2_with fail
  refine (HC.out _).mono ?_
  rintro e w1 ⟨rfl, hb1⟩
  have Hbx1 := Lib.hid (Hbx.out.keep hb1)
  have Hb1 := Lib.hid (Hb.out.trans (hb1.mono (by simp)))
  clear hb1
  go_wp2
  go_loopw [5, 6] (fun v at' wr => ∃ (p f n : Nat) (acc : List Sc.Tk), at' = .int .i64 p ∧ p ≤ s.size ∧ s.size ≤ p + f ∧ n ≤ p ∧ Hid (acc.length = n) ∧
      Hid (acc ++ (Sc.lexs isW f p ((bl s).drop p)).1 = (Sc.lexs isW s.size 0 (bl s)).1 ∧ (Sc.lexs isW f p ((bl s).drop p)).2 = (Sc.lexs isW s.size 0 (bl s)).2) ∧ Hid (Sc.Wf ((bl s).drop p)) ∧
      wr.ownsRow (w.heap.size + 1) 41 3 v n (tCells acc) ∧ FBox wr w.heap.size 0 0 ∧ Below w.heap.size w wr) (fun _ at' _ => s.size - (intOf at').toNat)
  case atStart => exact ⟨0, s.size, 0, [], rfl, by omega, by omega, by omega, Lib.hid rfl, Lib.hid ⟨rfl, rfl⟩, HW, World.ownsRow_nil _ _ _ _, Hbx1.out, Hb1.out⟩
  case round =>
    obtain ⟨p, f, n, acc, rfl, hp, hf, hn, Hlen, HL, Hwf, hown, hfb, hb⟩ := hrel
    have Hfb := Lib.hid hfb
    have HB := Lib.hid hb
    have hgs := hb.size
    have hlt := hfb.lt
    by_cases hlt2 : p < s.size
    · have hne : (bl s).drop p ≠ [] := fun e => by
        have := congrArg List.length e
        rw [List.length_drop, bl_size] at this
        simp at this; omega
      obtain ⟨g, rfl⟩ : ∃ g, f = g + 1 := ⟨f - 1, by omega⟩
      have HX := Lib.hid (fun w => rlexeme_any s p w hlt2 (by omega) Hwf.out)
      unfold rlxV at HX
      have hcut := Sc.lex_cut isW Hwf.out
      have hk := Sc.lex_kind isW ((bl s).drop p)
      rw [List.length_drop, bl_size] at hcut
      have hpi : (p : Int) < (s.size : Int) := by omega
      by_cases hz : (Sc.lex isW ((bl s).drop p)).2 = 0
      · have hfin : allA s = ([], 4, (p : Int)) := by rw [HA.out, ← HL.out.2, Sc.lexs_no isW hne hz]
        rw [if_pos hz] at HX
        have Hfin := Lib.hid hfin
        clear hfin hz hcut hne hb hfb
        go_wp2_with fail
        refine (HX.out _).mono ?_
        rintro e w3 ⟨rfl, hb3⟩
        have g1 := Hfb.out.keep hb3
        have hlt3 := g1.lt
        have k0 := g1.c0
        have k1 := g1.c1
        have f0 := g1.free 0
        have f1 := g1.free 1
        have hbf := g1.set 4 p
        have r0 := hbf.c0
        have r1 := hbf.c1
        have hb4 := HB.out.trans (hb3.mono HB.out.size)
        have Hb4 := Lib.hid (bset2 hb4 (Nat.le_refl _) (.int .i64 4) (.int .i64 p))
        clear g1 hbf hb3 hb4
        go_wp2
        refine bodyPost_ret (v := .tuple #[.slice none 0 0, fauV 4 p]) ?_ ?_ ?_
        · simp [fauV, results, Tryz.results20, go_sem, r0, r1]
        · rfl
        · unfold AllP
          rw [Hfin.out]
          exact ⟨_, rfl, World.ownsRow_nil _ _ _ _, Hb4.out⟩
      · obtain ⟨c1, _, c3⟩ := hcut hz
        have hst := Sc.lexs_yes isW (f := g) (p := p) hne hz
        rw [if_neg hz] at HX
        have hkk := lex_k hz
        rw [List.drop_drop] at hst c3
        have hm0 : 0 < (Sc.lex isW ((bl s).drop p)).2 := by omega
        generalize (Sc.lex isW ((bl s).drop p)).2 = m at HX hst c1 c3 hm0
        generalize (Sc.lex isW ((bl s).drop p)).1 = k at HX hst hk hkk
        have d0 : ((k : Int) == 0) = false := beq_eq_false_iff_ne.2 (by omega)
        have Hst := Lib.hid hst
        have Hc3 := Lib.hid c3
        clear hst c3 hz hne hb hfb hcut
        go_wp2_with fail
        refine (HX.out _).mono ?_
        rintro e w3 ⟨rfl, hb3⟩
        have Hfb3 := Lib.hid (Hfb.out.keep hb3)
        have hb4 := HB.out.trans (hb3.mono HB.out.size)
        have hgs4 := hb4.size
        have hgs5 := (Hfb.out.keep hb3).lt
        have hown3 := own_below hown hb3
        have hl3 := (own_below hown hb3).lt
        have Hb4 := Lib.hid hb4
        have Hl3 := Lib.hid hl3
        clear hb3 hb4 hown hl3
        go_wp2_with (at_builtin; refine wpList_append_own _ rfl _ _ 23 rfl (w.heap.size + 1) 41 i0 _ 3 24 Tryz.underlying23 hi hz0 hz1 hz2 rfl (by decide) _ n (tCells acc) rfl (hown3.alloc _) ⟨w3.heap.size, 0, none⟩ 1 1 [.int .u8 k, .int .i64 p, .int .i64 ((p + m : Nat) : Int)] rfl rfl ?c1 ?c2 ?c3 ?c4 ?c5 ?_)
        case c1 => exact World.news_of_block (cs := #[.int .u8 k, .int .i64 p, .int .i64 ((p + m : Nat) : Int)]) (t := 41) (fr := (0, 0)) (heap_alloc_new w3 _)
        case c2 => simp [Value.oneCell']
        case c3 => unfold maxLen; omega
        case c4 => omega
        case c5 => simp; omega
        · intro v' w5 hown5 hgrow _
          have hb6 : Below w.heap.size w w5 := (Hb4.out.alloc hgs4 _).grown hgrow (by simp; omega) (fun k e => by have := (Hl3.out k e).1; omega)
          have hfb6 : FBox w5 w.heap.size 0 0 := grown_box hgrow (Hfb3.out.alloc _) (fun e => by have := (Hl3.out _ e.symm).1; omega)
          clear hgrow
          go_wp2
          go_roundw
          case rel => exact ⟨p + m, g, n + 1, acc ++ [⟨k, p, p + m⟩], rfl, by omega, by omega, by omega, Lib.hid (by rw [List.length_append, Hlen.out]; rfl), Lib.hid (by
            have h1 := HL.out.1
            have h2 := HL.out.2
            rw [Hst.out] at h1 h2
            refine ⟨?_, h2⟩
            rw [← h1, List.append_assoc]; rfl), Hc3, by rw [tCells_snoc]; exact hown5, hfb6, hb6⟩
          case measure => simp [intOf]; omega
    · have hdn : (bl s).drop p = [] := List.drop_of_length_le (by rw [bl_size]; omega)
      have hfin : allA s = (acc, 0, 0) := by
        have h1 := HL.out.1
        have h2 := HL.out.2
        rw [hdn, Sc.lexs_nil] at h1 h2
        rw [HA.out, ← h2, ← h1]
        simp
      have Hfin := Lib.hid hfin
      have hpi : ¬ (p : Int) < (s.size : Int) := by omega
      have k0 := hfb.c0
      have k1 := hfb.c1
      have f0 := hfb.free 0
      have f1 := hfb.free 1
      have hbf := hfb.set 0 0
      have r0 := hbf.c0
      have r1 := hbf.c1
      have Hown := Lib.hid (owns_far2 hown (g := w.heap.size) (by omega) (.int .i64 0) (.int .i64 0))
      have Hb2 := Lib.hid (bset2 hb (Nat.le_refl _) (.int .i64 0) (.int .i64 0))
      clear hfin hdn hbf hb hfb hown
      go_wp2
      refine bodyPost_ret (v := .tuple #[u5, fauV 0 0]) ?_ ?_ ?_
      · simp [fauV, results, Tryz.results20, go_sem, r0, r1]
      · rfl
      · unfold AllP
        rw [Hfin.out]
        refine ⟨_, rfl, ?_, Hb2.out⟩
        rw [Hlen.out]
        exact own_weaken Hown.out (by omega)
end Go.Proofs.YtnkgbmnjehpkgabGreat

