/- Contracts of the reference's has, run, Signs (scan). -/
import Derived.Test.YtnkgbmnjehpkgabGreatGV
import Derived.Test.YtnkgbmnjehpkgabGreatGE
import Derived.Test.YtnkgbmnjehpkgabGreatGK
import Derived.Test.YtnkgbmnjehpkgabGreatGQ
namespace Go.Proofs.YtnkgbmnjehpkgabGreat
open Go.RowKit Em
set_option maxRecDepth 100000
set_option linter.unusedVariables false

theorem has_eq (s x : ByteArray) (p : Nat) (h : p + x.size ≤ s.size) : ((s.extract p (p + x.size)).toList == x.toList) = (bl x).isPrefixOf ((bl s).drop p) := by
  have h1 := Lib.occAt_iff_take (bl s) (bl x) p (by rw [bl_size, bl_size]; exact h)
  unfold Lib.occAt at h1
  rw [h1, Lib.toList_data, Lib.toList_data]
  show (bl (s.extract p (p + x.size)) == bl x) = _
  rw [bl_extract, List.drop_take, Nat.add_sub_cancel_left, bl_size]
theorem has_no (s x : ByteArray) (p : Nat) (h : s.size < p + x.size) (hp : p ≤ s.size) : (bl x).isPrefixOf ((bl s).drop p) = false := by
  cases hh : (bl x).isPrefixOf ((bl s).drop p) with
  | false => rfl
  | true =>
    have := (List.isPrefixOf_iff_prefix.1 hh).length_le
    rw [List.length_drop, bl_size, bl_size] at this
    omega

theorem has_any (s x : ByteArray) (p : Nat) (w : World) (hp : p ≤ s.size) (hs : s.size ≤ 4611686018427387000) (hx : x.size ≤ 4611686018427387000) :
    Calls Tryz.prog 36 #[.string s, .int .i64 (p : Int), .string x] w fun e w' => e = .returned (.bool ((bl x).isPrefixOf ((bl s).drop p))) ∧ w = w' := by
  by_cases h : p + x.size ≤ s.size
  · have hq := has_eq s x p h
    have b0 : (0 : Int) ≤ (p : Int) := by omega
    have b1 : (p : Int) ≤ (p : Int) + (x.size : Int) := by omega
    have b2 : (p : Int) + (x.size : Int) ≤ (s.size : Int) := by omega
    have b3 : (x.size : Int) ≤ (s.size : Int) - (p : Int) := by omega
    have ht : ((p : Int) + (x.size : Int)).toNat = p + x.size := by omega
    generalize (bl x).isPrefixOf ((bl s).drop p) = b at hq ⊢
    have Hq := Lib.hid hq
    generalize hy : s.extract p (p + x.size) = y at hq
    have hfin : (y.toList == x.toList) = b := hq
    go_enter Tryz.func36, Tryz.ntmps36
    go_wp2
    go_ret
    exact ⟨by first | rfl | (simp [ht, hy, hfin]), rfl⟩
  · rw [has_no s x p (by omega) hp]
    have b3 : ¬ (x.size : Int) ≤ (s.size : Int) - (p : Int) := by omega
    go_enter Tryz.func36, Tryz.ntmps36
    go_wp2
    go_ret
    exact ⟨rfl, rfl⟩

theorem at_left {s : ByteArray} {P : Nat → Bool} {p pos : Nat} (h1 : p ≤ pos) (h2 : pos ≤ s.size) (h : Sc.left P ((bl s).drop p) = (bl s).drop pos) : p + Sc.cnt P ((bl s).drop p) = pos := by
  have h3 : Sc.cnt P ((bl s).drop p) = pos - p := Sc.cnt_at (by rw [List.length_drop, bl_size]; omega) (by rw [h, List.drop_drop]; congr 1; omega)
  omega

set_option maxHeartbeats 4000000 in
theorem run7_blank (s : ByteArray) (p : Nat) (w : World) (hp : p ≤ s.size) (hs : s.size ≤ 4611686018427387000) :
    Calls Tryz.prog 35 #[.string s, .int .i64 (p : Int), .int .i64 0] w fun e w' => e = .returned (.int .i64 ((p + Sc.cnt Sc.blank ((bl s).drop p) : Nat) : Int)) ∧ Below w.heap.size w w' := by
  go_enter Tryz.func35, Tryz.ntmps35
  go_wp2
  go_loopw [1] (fun a wr => ∃ pos : Nat, a = .int .i64 pos ∧ p ≤ pos ∧ pos ≤ s.size ∧ Hid (Sc.left Sc.blank ((bl s).drop pos) = Sc.left Sc.blank ((bl s).drop p)) ∧ Below w.heap.size w wr) (fun a _ => s.size - (intOf a).toNat)
  case atStart => exact ⟨p, rfl, Nat.le_refl _, hp, Lib.hid rfl, Below.refl _ _⟩
  case round =>
    obtain ⟨pos, rfl, h1, h2, Hl, hb⟩ := hrel
    have Hb := Lib.hid hb
    clear hb
    by_cases hlt : pos < s.size
    · have hpi : (pos : Int) < (s.size : Int) := by omega
      have HR := Lib.hid (fun w => rread_at s pos w hlt (by omega))
      have hw := Um.wid_pos s pos
      cases hk : Um.okAt s pos with
      | false =>
        have hfin := at_left h1 h2 (Hl.out.symm.trans (Sc.left_none (Sc.rd_no hk)))
        have Hfin := Lib.hid hfin
        rw [(rd_bad hk).1, (rd_bad hk).2] at HR
        clear hfin hk
        go_wp2_with fail
        refine (HR.out _).mono ?_
        rintro e w2 ⟨rfl, hb2⟩
        go_wp2
        go_ret
        exact ⟨ret_nat Hfin.out.symm, Hb.out.trans (hb2.mono Hb.out.size)⟩
      | true =>
        have hfit := Um.ok_fits hlt hk
        have hrd := Sc.rd_yes hlt hk
        have d0 : ((Um.wid s pos : Int) == 0) = false := beq_eq_false_iff_ne.2 (by omega)
        rw [(rd_ok hk).1, (rd_ok hk).2] at HR
        have HB := Lib.hid (fun w => rblank_any (Um.chr s pos) w)
        change Hid (∀ w, Calls Tryz.prog 34 #[.int .i64 (Um.chr s pos)] w fun e w' => e = .returned (.bool (Sc.blank (Um.chr s pos))) ∧ w = w') at HB
        have Hrd := Lib.hid hrd
        cases hq : Sc.blank (Um.chr s pos) with
        | false =>
          have hfin := at_left h1 h2 (Hl.out.symm.trans (Sc.left_no hrd hq))
          have Hfin := Lib.hid hfin
          rw [hq] at HB
          clear hfin hk hq hrd
          go_wp2_with fail
          refine (HR.out _).mono ?_
          rintro e w2 ⟨rfl, hb2⟩
          clear hw
          go_wp2_with fail
          refine (HB.out _).mono ?_
          rintro e w3 ⟨rfl, rfl⟩
          go_wp2
          go_ret
          exact ⟨ret_nat Hfin.out.symm, Hb.out.trans (hb2.mono Hb.out.size)⟩
        | true =>
          have Hq := Lib.hid hq
          rw [hq] at HB
          clear hk hq hrd
          go_wp2_with fail
          refine (HR.out _).mono ?_
          rintro e w2 ⟨rfl, hb2⟩
          go_wp2_with fail
          refine (HB.out _).mono ?_
          rintro e w3 ⟨rfl, rfl⟩
          go_wp2
          go_roundw
          case rel => exact ⟨pos + Um.wid s pos, by go_num, by omega, hfit, Lib.hid (by rw [← Hl.out]; exact (Sc.left_yes Hrd.out Hq.out).symm), Hb.out.trans (hb2.mono Hb.out.size)⟩
          case measure => simp [intOf]; omega
    · have hpi : ¬ (pos : Int) < (s.size : Int) := by omega
      have hfin := at_left h1 h2 (Hl.out.symm.trans (Sc.left_none (Sc.rd_end hlt)))
      have Hfin := Lib.hid hfin
      clear hfin
      go_wp2
      go_ret
      exact ⟨ret_nat Hfin.out.symm, Hb.out⟩

set_option maxHeartbeats 4000000 in
theorem run7_word (s : ByteArray) (p : Nat) (w : World) (hp : p ≤ s.size) (hs : s.size ≤ 4611686018427387000) :
    Calls Tryz.prog 35 #[.string s, .int .i64 (p : Int), .int .i64 1] w fun e w' => e = .returned (.int .i64 ((p + Sc.cnt Sc.wordC ((bl s).drop p) : Nat) : Int)) ∧ Below w.heap.size w w' := by
  go_enter Tryz.func35, Tryz.ntmps35
  go_wp2
  go_loopw [1] (fun a wr => ∃ pos : Nat, a = .int .i64 pos ∧ p ≤ pos ∧ pos ≤ s.size ∧ Hid (Sc.left Sc.wordC ((bl s).drop pos) = Sc.left Sc.wordC ((bl s).drop p)) ∧ Below w.heap.size w wr) (fun a _ => s.size - (intOf a).toNat)
  case atStart => exact ⟨p, rfl, Nat.le_refl _, hp, Lib.hid rfl, Below.refl _ _⟩
  case round =>
    obtain ⟨pos, rfl, h1, h2, Hl, hb⟩ := hrel
    have Hb := Lib.hid hb
    clear hb
    by_cases hlt : pos < s.size
    · have hpi : (pos : Int) < (s.size : Int) := by omega
      have HR := Lib.hid (fun w => rread_at s pos w hlt (by omega))
      have hw := Um.wid_pos s pos
      cases hk : Um.okAt s pos with
      | false =>
        have hfin := at_left h1 h2 (Hl.out.symm.trans (Sc.left_none (Sc.rd_no hk)))
        have Hfin := Lib.hid hfin
        rw [(rd_bad hk).1, (rd_bad hk).2] at HR
        clear hfin hk
        go_wp2_with fail
        refine (HR.out _).mono ?_
        rintro e w2 ⟨rfl, hb2⟩
        go_wp2
        go_ret
        exact ⟨ret_nat Hfin.out.symm, Hb.out.trans (hb2.mono Hb.out.size)⟩
      | true =>
        have hfit := Um.ok_fits hlt hk
        have hrd := Sc.rd_yes hlt hk
        have d0 : ((Um.wid s pos : Int) == 0) = false := beq_eq_false_iff_ne.2 (by omega)
        rw [(rd_ok hk).1, (rd_ok hk).2] at HR
        have HLt := Lib.hid (fun w => rletter_any (Um.chr s pos) w)
        change Hid (∀ w, Calls Tryz.prog 37 #[.int .i64 (Um.chr s pos)] w fun e w' => e = .returned (.bool (Sc.letter (Um.chr s pos))) ∧ Below w.heap.size w w') at HLt
        have HDg := Lib.hid (fun w => rdigit_any (Um.chr s pos) w)
        change Hid (∀ w, Calls Tryz.prog 59 #[.int .i64 (Um.chr s pos)] w fun e w' => e = .returned (.bool (Sc.digit (Um.chr s pos))) ∧ Below w.heap.size w w') at HDg
        have Hrd := Lib.hid hrd
        cases hq1 : Sc.letter (Um.chr s pos) with
        | true =>
          have hq : Sc.wordC (Um.chr s pos) = true := by unfold Sc.wordC; rw [hq1]; rfl
          have Hq := Lib.hid hq
          rw [hq1] at HLt
          clear hk hq1 hq hrd HDg
          go_wp2_with fail
          refine (HR.out _).mono ?_
          rintro e w2 ⟨rfl, hb2⟩
          have Hb2 := Lib.hid (Hb.out.trans (hb2.mono Hb.out.size))
          clear hb2
          go_wp2_with fail
          refine (HLt.out _).mono ?_
          rintro e w3 ⟨rfl, hb3⟩
          go_wp2
          go_roundw
          case rel => exact ⟨pos + Um.wid s pos, by go_num, by omega, hfit, Lib.hid (by rw [← Hl.out]; exact (Sc.left_yes Hrd.out Hq.out).symm), Hb2.out.trans (hb3.mono Hb2.out.size)⟩
          case measure => simp [intOf]; omega
        | false =>
          rw [hq1] at HLt
          cases hq2 : Sc.digit (Um.chr s pos) with
          | true =>
            have hq : Sc.wordC (Um.chr s pos) = true := by unfold Sc.wordC; rw [hq2, Bool.or_true]
            have Hq := Lib.hid hq
            rw [hq2] at HDg
            clear hk hq1 hq2 hq hrd
            go_wp2_with fail
            refine (HR.out _).mono ?_
            rintro e w2 ⟨rfl, hb2⟩
            have Hb2 := Lib.hid (Hb.out.trans (hb2.mono Hb.out.size))
            clear hb2
            go_wp2_with fail
            refine (HLt.out _).mono ?_
            rintro e w3 ⟨rfl, hb3⟩
            have Hb3 := Lib.hid (Hb2.out.trans (hb3.mono Hb2.out.size))
            clear hb3
            go_wp2_with fail
            refine (HDg.out _).mono ?_
            rintro e w4 ⟨rfl, hb4⟩
            go_wp2
            go_roundw
            case rel => exact ⟨pos + Um.wid s pos, by go_num, by omega, hfit, Lib.hid (by rw [← Hl.out]; exact (Sc.left_yes Hrd.out Hq.out).symm), Hb3.out.trans (hb4.mono Hb3.out.size)⟩
            case measure => simp [intOf]; omega
          | false =>
            have hq : Sc.wordC (Um.chr s pos) = false := by unfold Sc.wordC; rw [hq1, hq2]; rfl
            have hfin := at_left h1 h2 (Hl.out.symm.trans (Sc.left_no hrd hq))
            have Hfin := Lib.hid hfin
            rw [hq2] at HDg
            clear hfin hk hq1 hq2 hq hrd
            go_wp2_with fail
            refine (HR.out _).mono ?_
            rintro e w2 ⟨rfl, hb2⟩
            have Hb2 := Lib.hid (Hb.out.trans (hb2.mono Hb.out.size))
            clear hb2
            go_wp2_with fail
            refine (HLt.out _).mono ?_
            rintro e w3 ⟨rfl, hb3⟩
            have Hb3 := Lib.hid (Hb2.out.trans (hb3.mono Hb2.out.size))
            clear hb3
            go_wp2_with fail
            refine (HDg.out _).mono ?_
            rintro e w4 ⟨rfl, hb4⟩
            go_wp2
            go_ret
            exact ⟨ret_nat Hfin.out.symm, Hb3.out.trans (hb4.mono Hb3.out.size)⟩
    · have hpi : ¬ (pos : Int) < (s.size : Int) := by omega
      have hfin := at_left h1 h2 (Hl.out.symm.trans (Sc.left_none (Sc.rd_end hlt)))
      have Hfin := Lib.hid hfin
      clear hfin
      go_wp2
      go_ret
      exact ⟨ret_nat Hfin.out.symm, Hb.out⟩

theorem info_str : (Tryz.prog.info? 9).map (fun i => (i.zero, i.size, i.bytes)) = some (some (.string ⟨#[]⟩), 1, 16) := by kernel_rfl
set_option maxHeartbeats 4000000 in
theorem rsigns_any (w : World) : Calls Tryz.prog 41 #[] w fun e w' => e = .returned (.slice (some ⟨w.heap.size, 0, none⟩) 47 47) ∧ w' = w.alloc (.cells sgnCells.toArray 9) := by
  go_enter Tryz.func41, Tryz.ntmps41
  go_wp2
  go_ret
  exact ⟨rfl, rfl⟩
end Go.Proofs.YtnkgbmnjehpkgabGreat

/- Contract of the reference's Lexeme (scan). -/
namespace Go.Proofs.YtnkgbmnjehpkgabGreat
open Go.RowKit Em
set_option maxRecDepth 100000
set_option linter.unusedVariables false

/-! ### Lines, comments and signs, byte by byte -/
theorem fm_no10 {c : Nat} (h : Um.okN c) (hc : c ≠ 10) : ∀ y ∈ Qm.fm c, y ≠ 10 := by
  intro y hy e
  subst e
  rcases Sc.fm_shape h with ⟨h1, h2⟩ | ⟨_, a, t, h2, h3, h4⟩
  · rw [h2] at hy
    simp at hy
    have := congrArg UInt8.toNat hy
    simp at this
    omega
  · rw [h2] at hy
    rcases List.mem_cons.1 hy with h5 | h5
    · rw [← h5] at h3; revert h3; decide
    · have := (h4 _ h5).1
      revert this; decide
theorem left_line : ∀ (n : Nat) (l : List UInt8), l.length ≤ n → ∃ x, l = x ++ Sc.left Sc.lineC l ∧ ∀ y ∈ x, y ≠ 10
  | 0, l, h => by
    have : l = [] := List.eq_nil_of_length_eq_zero (by omega)
    subst this
    exact ⟨[], rfl, by simp⟩
  | n + 1, l, h => by
    cases hr : Qm.rd l with
    | none => rw [Sc.left_none hr]; exact ⟨[], rfl, by simp⟩
    | some cr =>
      obtain ⟨c, r⟩ := cr
      cases hp : Sc.lineC c with
      | false => rw [Sc.left_no hr hp]; exact ⟨[], rfl, by simp⟩
      | true =>
        have hlt := Sc.rd_less hr
        rw [Sc.left_yes hr hp]
        obtain ⟨x, h1, h2⟩ := left_line n r (by omega)
        obtain ⟨hk, hl⟩ := Qm.rd_some hr
        have hc : c ≠ 10 := of_decide_eq_true hp
        have h3 := fm_no10 hk hc
        generalize Qm.fm c = z at hl h3
        refine ⟨z ++ x, by rw [List.append_assoc, ← h1]; exact hl, ?_⟩
        intro y hy
        rcases List.mem_append.1 hy with h4 | h4
        · exact h3 y h4
        · exact h2 y h4
theorem cnt_line {l : List UInt8} (hw : Sc.Wf l) {m : Nat} (hm : m ≤ l.length) (h1 : ∀ j, j < m → l[j]? ≠ some 10) (h2 : m = l.length ∨ l[m]? = some 10) : Sc.cnt Sc.lineC l = m := by
  obtain ⟨x, h3, h4⟩ := left_line l.length l (Nat.le_refl _)
  have hlen := congrArg List.length h3
  rw [List.length_append] at hlen
  have hx : x.length = m := by
    rcases Nat.lt_trichotomy m x.length with h5 | h5 | h5
    · exfalso
      rcases h2 with h2 | h2
      · omega
      · rw [h3, List.getElem?_append_left h5] at h2
        exact h4 10 (List.mem_of_getElem? h2) rfl
    · exact h5.symm
    · exfalso
      have hwl := Sc.Wf.left (P := Sc.lineC) l.length (Nat.le_refl _) hw
      have hne : Sc.left Sc.lineC l ≠ [] := fun e => by rw [e] at hlen; simp at hlen; omega
      obtain ⟨c, r, hr, _, hc, he⟩ := hwl.rd hne
      obtain ⟨_, _, _, h6⟩ := Sc.left_split Sc.lineC l.length l (Nat.le_refl _)
      have h7 := h6 c r hr
      have h8 : c = 10 := by
        unfold Sc.lineC at h7
        exact Classical.not_not.1 (of_decide_eq_false h7)
      have e10 : Qm.fm c = [10] := by rw [h8]; exact Qm.fm_small (by omega)
      rw [e10] at he
      refine h1 x.length h5 ?_
      rw [h3, List.getElem?_append_right (Nat.le_refl _), Nat.sub_self, he]
      rfl
  unfold Sc.cnt
  omega

/-- The longest of the first signs that begins a text. -/
def bst (l : List UInt8) : Nat → Nat
  | 0 => 0
  | j + 1 => if (Sc.signs.getD j []).isPrefixOf l = true ∧ bst l j < (sgnA j).size then (sgnA j).size else bst l j
theorem sgnA_size {j : Nat} (h : j < 47) : (sgnA j).size ≤ 3 ∧ 1 ≤ (sgnA j).size := by
  have e : (sgnA j).size = (Sc.signs.getD j []).length := txt_size _
  rw [e]
  have : ∀ j, j < 47 → (Sc.signs.getD j []).length ≤ 3 ∧ 1 ≤ (Sc.signs.getD j []).length := by decide
  exact this j h
theorem bst_spec (l : List UInt8) : ∀ j, j ≤ 47 → bst l j ≤ 3 ∧ (bst l j = 0 ∨ ∃ i, i < j ∧ (Sc.signs.getD i []).isPrefixOf l = true ∧ (sgnA i).size = bst l j) ∧ (∀ i, i < j → (Sc.signs.getD i []).isPrefixOf l = true → (sgnA i).size ≤ bst l j)
  | 0, _ => ⟨by simp [bst], .inl rfl, fun i h => by omega⟩
  | j + 1, hj => by
    obtain ⟨h1, h2, h3⟩ := bst_spec l j (by omega)
    have h4 := sgnA_size (j := j) (by omega)
    by_cases hc : (Sc.signs.getD j []).isPrefixOf l = true ∧ bst l j < (sgnA j).size
    · have e : bst l (j + 1) = (sgnA j).size := if_pos hc
      rw [e]
      refine ⟨h4.1, .inr ⟨j, by omega, hc.1, rfl⟩, fun i hi hp => ?_⟩
      by_cases e2 : i = j
      · subst e2; exact Nat.le_refl _
      · have := h3 i (by omega) hp; omega
    · have e : bst l (j + 1) = bst l j := if_neg hc
      rw [e]
      refine ⟨h1, ?_, fun i hi hp => ?_⟩
      · rcases h2 with h2 | ⟨i, hi, hp, hs⟩
        · exact .inl h2
        · exact .inr ⟨i, by omega, hp, hs⟩
      · by_cases e2 : i = j
        · subst e2
          by_cases h5 : bst l i < (sgnA i).size
          · exact absurd ⟨hp, h5⟩ hc
          · omega
        · exact h3 i (by omega) hp
theorem bst_sgn (l : List UInt8) : bst l 47 = Sc.sgn l := by
  obtain ⟨h1, h2, h3⟩ := bst_spec l 47 (Nat.le_refl _)
  symm
  refine sgn_of h1 (fun m hm hm3 => sgnB_no fun j hj hs => ?_) ?_
  · cases hp : (Sc.signs.getD j []).isPrefixOf l with
    | false => rfl
    | true => have := h3 j hj hp; omega
  · rcases h2 with h2 | ⟨i, hi, hp, hs⟩
    · exact .inl h2
    · exact .inr (sgnB_yes hi hs hp)

/-! ### The walks -/
/-- What Lexeme answers. -/
def rlxV (p : Nat) (l : List UInt8) : Value :=
  if (Sc.lex isW l).2 = 0 then .tuple #[.int .u8 0, .int .i64 0] else .tuple #[.int .u8 ((Sc.lex isW l).1 : Nat), .int .i64 ((p + (Sc.lex isW l).2 : Nat) : Int)]

set_option maxHeartbeats 2000000 in
theorem rlx_mark (s : ByteArray) (p : Nat) (w : World) (wd : Int) (q : Int) (hq0 : 0 ≤ q ∧ q ≤ 4611686018427387904)
    (hp : (p : Int) + wd = q)
    (HR : Hid (∀ w, Calls Tryz.prog 33 #[.string s, .int .i64 (p : Int)] w fun e w' => e = .returned (.tuple #[.int .i64 65279, .int .i64 wd]) ∧ Below w.heap.size w w')) :
    Calls Tryz.prog 29 #[.string s, .int .i64 (p : Int)] w fun e w' => e = .returned (.tuple #[.int .u8 (10 : Nat), .int .i64 q]) ∧ Below w.heap.size w w' := by
  have B0 := Lib.hid (Below.refl w.heap.size w)
  go_enter Tryz.func29, Tryz.ntmps29
  go_wp2_with fail
  refine (HR.out _).mono ?_
  rintro e w1 ⟨rfl, b1⟩
  have B1 := Lib.hid (B0.out.trans (b1.mono B0.out.size))
  clear b1
  go_wp2
  go_ret2
  exact ⟨ret_kn rfl (by first | exact hp | omega), B1.out⟩

set_option maxHeartbeats 2000000 in
theorem rlx_blank (s : ByteArray) (p : Nat) (w : World) (wd : Int) (c n : Int)
    (n0 : (c == 65279) = false)
    (HR : Hid (∀ w, Calls Tryz.prog 33 #[.string s, .int .i64 (p : Int)] w fun e w' => e = .returned (.tuple #[.int .i64 c, .int .i64 wd]) ∧ Below w.heap.size w w'))
    (HB : Hid (∀ w, Calls Tryz.prog 34 #[.int .i64 c] w fun e w' => e = .returned (.bool true) ∧ w = w'))
    (HX : Hid (∀ w, Calls Tryz.prog 35 #[.string s, .int .i64 (p : Int), .int .i64 0] w fun e w' => e = .returned (.int .i64 n) ∧ Below w.heap.size w w')) :
    Calls Tryz.prog 29 #[.string s, .int .i64 (p : Int)] w fun e w' => e = .returned (.tuple #[.int .u8 10, .int .i64 n]) ∧ Below w.heap.size w w' := by
  have B0 := Lib.hid (Below.refl w.heap.size w)
  go_enter Tryz.func29, Tryz.ntmps29
  go_wp2_with fail
  refine (HR.out _).mono ?_
  rintro e w1 ⟨rfl, b1⟩
  have B1 := Lib.hid (B0.out.trans (b1.mono B0.out.size))
  clear b1
  go_wp2_with fail
  refine (HB.out _).mono ?_
  rintro e w2 ⟨rfl, rfl⟩
  go_wp2_with fail
  refine (HX.out _).mono ?_
  rintro e w3 ⟨rfl, b3⟩
  have B3 := Lib.hid (B1.out.trans (b3.mono B1.out.size))
  clear b3
  go_wp2
  go_ret2
  exact ⟨rfl, B3.out⟩

theorem byte10 {s : ByteArray} {k : Nat} (h : k < s.size) : (byN s k ≠ 10 → (bl s)[k]? ≠ some 10) ∧ (byN s k = 10 → (bl s)[k]? = some 10) := by
  rw [bl_get s k h, ← byN_get s k h]
  constructor
  · intro h1 h2
    exact h1 (by rw [Option.some.inj h2]; rfl)
  · intro h1
    exact congrArg some (UInt8.toNat_inj.1 h1)

set_option maxHeartbeats 2000000 in
theorem rlx_line (s : ByteArray) (p : Nat) (w : World) (wd : Int) (c n : Int)
    (n0 : (c == 65279) = false)
    (hps : p ≤ s.size)
    (hs : s.size ≤ 4611686018427387000)
    (HR : Hid (∀ w, Calls Tryz.prog 33 #[.string s, .int .i64 (p : Int)] w fun e w' => e = .returned (.tuple #[.int .i64 c, .int .i64 wd]) ∧ Below w.heap.size w w'))
    (HB : Hid (∀ w, Calls Tryz.prog 34 #[.int .i64 c] w fun e w' => e = .returned (.bool false) ∧ w = w'))
    (HP1 : Hid (∀ w, Calls Tryz.prog 36 #[.string s, .int .i64 (p : Int), .string ⟨#[47, 47]⟩] w fun e w' => e = .returned (.bool true) ∧ w = w'))
    (HN : Hid (∀ t : Nat, p ≤ t → t ≤ s.size → (∀ j, p ≤ j → j < t → (bl s)[j]? ≠ some 10) → (t = s.size ∨ (bl s)[t]? = some 10) → (t : Int) = n)) :
    Calls Tryz.prog 29 #[.string s, .int .i64 (p : Int)] w fun e w' => e = .returned (.tuple #[.int .u8 (11 : Nat), .int .i64 n]) ∧ Below w.heap.size w w' := by
  have B0 := Lib.hid (Below.refl w.heap.size w)
  go_enter Tryz.func29, Tryz.ntmps29
  go_wp2_with fail
  refine (HR.out _).mono ?_
  rintro e w1 ⟨rfl, b1⟩
  have B1 := Lib.hid (B0.out.trans (b1.mono B0.out.size))
  clear b1
  go_wp2_with fail
  refine (HB.out _).mono ?_
  rintro e w2 ⟨rfl, rfl⟩
  go_wp2_with fail
  refine (HP1.out _).mono ?_
  rintro e w3 ⟨rfl, rfl⟩
  go_wp2
  go_loopw [8] (fun a wr => ∃ to' : Nat, a = .int .i64 to' ∧ p ≤ to' ∧ to' ≤ s.size ∧ wr = w1 ∧ Hid (∀ j, p ≤ j → j < to' → (bl s)[j]? ≠ some 10)) (fun a _ => s.size - (intOf a).toNat)
  case atStart => exact ⟨p, rfl, Nat.le_refl _, hps, rfl, Lib.hid fun j h1 h2 => by omega⟩
  case round =>
    obtain ⟨t, rfl, h1, h2, rfl, Hno⟩ := hrel
    by_cases hlt : t < s.size
    · obtain ⟨t1, t2⟩ := byte10 hlt
      have e1 := byN_get s t hlt
      have l1 := byN_lt s t
      have b0 : (0 : Int) ≤ (t : Int) := by omega
      have b1 : (t : Int) < (s.size : Int) := by omega
      by_cases hc : byN s t = 10
      · have hfin : (t : Int) = n := by
          have := HN.out t h1 h2 Hno.out (.inr (t2 hc))
          omega
        rw [hc] at e1
        have Hfin := Lib.hid hfin
        clear hfin t1 t2 hc l1
        go_wp2
        go_ret2
        exact ⟨ret_kn rfl Hfin.out, B1.out⟩
      · have hnew : Hid (∀ j, p ≤ j → j < t + 1 → (bl s)[j]? ≠ some 10) := Lib.hid fun j h3 h4 => by
          by_cases e : j = t
          · subst e; exact t1 hc
          · exact Hno.out j h3 (by omega)
        have d1 : ((byN s t : Int) == 10) = false := beq_eq_false_iff_ne.2 (by omega)
        have d2 : ((byN s t : Int) != 10) = true := by unfold bne; rw [d1]; rfl
        clear t1 t2 hc
        generalize byN s t = Y at e1 l1 d1 d2
        go_wp2
        go_roundw
        case rel => exact ⟨t + 1, by go_num, by omega, by omega, trivial, hnew⟩
        case measure => simp [intOf]; omega
    · have hfin : (t : Int) = n := by
        have := HN.out t h1 h2 Hno.out (.inl (by omega))
        omega
      have Hfin := Lib.hid hfin
      have b1 : ¬ (t : Int) < (s.size : Int) := by omega
      clear hfin
      go_wp2
      go_ret2
      exact ⟨ret_kn rfl Hfin.out, B1.out⟩

set_option maxHeartbeats 2000000 in
theorem rlx_block (s : ByteArray) (p : Nat) (w : World) (wd : Int) (c : Int) (v : Value)
    (n0 : (c == 65279) = false)
    (hps : p + 2 ≤ s.size)
    (hs : s.size ≤ 4611686018427387000)
    (HR : Hid (∀ w, Calls Tryz.prog 33 #[.string s, .int .i64 (p : Int)] w fun e w' => e = .returned (.tuple #[.int .i64 c, .int .i64 wd]) ∧ Below w.heap.size w w'))
    (HB : Hid (∀ w, Calls Tryz.prog 34 #[.int .i64 c] w fun e w' => e = .returned (.bool false) ∧ w = w'))
    (HP1 : Hid (∀ w, Calls Tryz.prog 36 #[.string s, .int .i64 (p : Int), .string ⟨#[47, 47]⟩] w fun e w' => e = .returned (.bool false) ∧ w = w'))
    (HP2 : Hid (∀ w, Calls Tryz.prog 36 #[.string s, .int .i64 (p : Int), .string ⟨#[47, 42]⟩] w fun e w' => e = .returned (.bool true) ∧ w = w'))
    (HN : Hid ((∀ t : Nat, p + 2 ≤ t → t ≤ s.size → (∀ j, p + 2 ≤ j → j < t → [42, 47].isPrefixOf ((bl s).drop j) = false) → [42, 47].isPrefixOf ((bl s).drop t) = true → Ending.returned (.tuple #[.int .u8 12, .int .i64 ((t : Int) + 2)]) = .returned v) ∧ ((∀ j, p + 2 ≤ j → j < s.size → [42, 47].isPrefixOf ((bl s).drop j) = false) → Ending.returned (.tuple #[.int .u8 0, .int .i64 0]) = .returned v))) :
    Calls Tryz.prog 29 #[.string s, .int .i64 (p : Int)] w fun e w' => e = .returned (v) ∧ Below w.heap.size w w' := by
  have B0 := Lib.hid (Below.refl w.heap.size w)
  go_enter Tryz.func29, Tryz.ntmps29
  go_wp2_with fail
  refine (HR.out _).mono ?_
  rintro e w1 ⟨rfl, b1⟩
  have B1 := Lib.hid (B0.out.trans (b1.mono B0.out.size))
  clear b1
  go_wp2_with fail
  refine (HB.out _).mono ?_
  rintro e w2 ⟨rfl, rfl⟩
  go_wp2_with fail
  refine (HP1.out _).mono ?_
  rintro e w3 ⟨rfl, rfl⟩
  go_wp2_with fail
  refine (HP2.out _).mono ?_
  rintro e w4 ⟨rfl, rfl⟩
  go_wp2
  go_loopw [9] (fun a wr => ∃ to' : Nat, a = .int .i64 to' ∧ p + 2 ≤ to' ∧ to' ≤ s.size ∧ wr = w1 ∧ Hid (∀ j, p + 2 ≤ j → j < to' → [42, 47].isPrefixOf ((bl s).drop j) = false)) (fun a _ => s.size - (intOf a).toNat)
  case atStart => exact ⟨p + 2, by first | rfl | go_num, Nat.le_refl _, hps, rfl, Lib.hid fun j h1 h2 => by omega⟩
  case round =>
    obtain ⟨t, rfl, h1, h2, rfl, Hno⟩ := hrel
    by_cases hlt : t < s.size
    · have b1 : (t : Int) < (s.size : Int) := by omega
      have HH := Lib.hid (fun w => has_any s ⟨#[42, 47]⟩ t w h2 hs (by decide))
      change Hid (∀ w, Calls Tryz.prog 36 #[.string s, .int .i64 (t : Int), .string ⟨#[42, 47]⟩] w fun e w' => e = .returned (.bool (([42, 47] : List UInt8).isPrefixOf ((bl s).drop t))) ∧ w = w') at HH
      cases hc : ([42, 47] : List UInt8).isPrefixOf ((bl s).drop t) with
      | true =>
        have hfin := HN.out.1 t h1 h2 Hno.out hc
        have Hfin := Lib.hid hfin
        rw [hc] at HH
        clear hfin hc
        go_wp2_with fail
        refine (HH.out _).mono ?_
        rintro e w5 ⟨rfl, rfl⟩
        go_wp2
        go_ret2
        exact ⟨Hfin.out, B1.out⟩
      | false =>
        have hnew : Hid (∀ j, p + 2 ≤ j → j < t + 1 → [42, 47].isPrefixOf ((bl s).drop j) = false) := Lib.hid fun j h3 h4 => by
          by_cases e : j = t
          · subst e; exact hc
          · exact Hno.out j h3 (by omega)
        rw [hc] at HH
        clear hc
        go_wp2_with fail
        refine (HH.out _).mono ?_
        rintro e w5 ⟨rfl, rfl⟩
        go_wp2
        go_roundw
        case rel => exact ⟨t + 1, by go_num, by omega, by omega, trivial, hnew⟩
        case measure => simp [intOf]; omega
    · have hfin := HN.out.2 (fun j h3 h4 => Hno.out j h3 (by omega))
      have Hfin := Lib.hid hfin
      have b1 : ¬ (t : Int) < (s.size : Int) := by omega
      clear hfin
      go_wp2
      go_ret2
      exact ⟨Hfin.out, B1.out⟩

set_option maxHeartbeats 2000000 in
theorem rlx_word (s : ByteArray) (p : Nat) (w : World) (wd : Int) (c : Int) (n : Nat) (b : Bool)
    (n0 : (c == 65279) = false)
    (HR : Hid (∀ w, Calls Tryz.prog 33 #[.string s, .int .i64 (p : Int)] w fun e w' => e = .returned (.tuple #[.int .i64 c, .int .i64 wd]) ∧ Below w.heap.size w w'))
    (HB : Hid (∀ w, Calls Tryz.prog 34 #[.int .i64 c] w fun e w' => e = .returned (.bool false) ∧ w = w'))
    (HP1 : Hid (∀ w, Calls Tryz.prog 36 #[.string s, .int .i64 (p : Int), .string ⟨#[47, 47]⟩] w fun e w' => e = .returned (.bool false) ∧ w = w'))
    (HP2 : Hid (∀ w, Calls Tryz.prog 36 #[.string s, .int .i64 (p : Int), .string ⟨#[47, 42]⟩] w fun e w' => e = .returned (.bool false) ∧ w = w'))
    (HL : Hid (∀ w, Calls Tryz.prog 37 #[.int .i64 c] w fun e w' => e = .returned (.bool true) ∧ Below w.heap.size w w'))
    (hps : p < s.size)
    (hq : p + n ≤ s.size)
    (HX : Hid (∀ w, Calls Tryz.prog 35 #[.string s, .int .i64 (p : Int), .int .i64 1] w fun e w' => e = .returned (.int .i64 ((p + n : Nat) : Int)) ∧ Below w.heap.size w w'))
    (HW : Hid (∀ w, Calls Tryz.prog 38 #[.string (s.extract p (p + n))] w fun e w' => e = .returned (.bool b) ∧ Below w.heap.size w w')) :
    Calls Tryz.prog 29 #[.string s, .int .i64 (p : Int)] w fun e w' => e = .returned (.tuple #[.int .u8 (if b = true then 2 else 1), .int .i64 ((p + n : Nat) : Int)]) ∧ Below w.heap.size w w' := by
  have b0 : (0 : Int) ≤ (p : Int) := by omega
  obtain ⟨m, hm⟩ : ∃ m, p + n = m := ⟨_, rfl⟩
  rw [hm] at HX HW hq ⊢
  have b1 : (p : Int) ≤ (m : Int) := by omega
  have b2 : (m : Int) ≤ (s.size : Int) := by omega
  clear hm hq
  cases b
  · have B0 := Lib.hid (Below.refl w.heap.size w)
    go_enter Tryz.func29, Tryz.ntmps29
    go_wp2_with fail
    refine (HR.out _).mono ?_
    rintro e w1 ⟨rfl, b1⟩
    have B1 := Lib.hid (B0.out.trans (b1.mono B0.out.size))
    clear b1
    go_wp2_with fail
    refine (HB.out _).mono ?_
    rintro e w2 ⟨rfl, rfl⟩
    go_wp2_with fail
    refine (HP1.out _).mono ?_
    rintro e w3 ⟨rfl, rfl⟩
    go_wp2_with fail
    refine (HP2.out _).mono ?_
    rintro e w4 ⟨rfl, rfl⟩
    go_wp2_with fail
    refine (HL.out _).mono ?_
    rintro e w5 ⟨rfl, b5⟩
    have B5 := Lib.hid (B1.out.trans (b5.mono B1.out.size))
    clear b5
    go_wp2_with fail
    refine (HX.out _).mono ?_
    rintro e w6 ⟨rfl, b6⟩
    have B6 := Lib.hid (B5.out.trans (b6.mono B5.out.size))
    clear b6
    go_wp2_with fail
    refine (HW.out _).mono ?_
    rintro e w7 ⟨rfl, b7⟩
    have B7 := Lib.hid (B6.out.trans (b7.mono B6.out.size))
    clear b7
    go_wp2
    go_ret2
    exact ⟨rfl, B7.out⟩
  · have B0 := Lib.hid (Below.refl w.heap.size w)
    go_enter Tryz.func29, Tryz.ntmps29
    go_wp2_with fail
    refine (HR.out _).mono ?_
    rintro e w1 ⟨rfl, b1⟩
    have B1 := Lib.hid (B0.out.trans (b1.mono B0.out.size))
    clear b1
    go_wp2_with fail
    refine (HB.out _).mono ?_
    rintro e w2 ⟨rfl, rfl⟩
    go_wp2_with fail
    refine (HP1.out _).mono ?_
    rintro e w3 ⟨rfl, rfl⟩
    go_wp2_with fail
    refine (HP2.out _).mono ?_
    rintro e w4 ⟨rfl, rfl⟩
    go_wp2_with fail
    refine (HL.out _).mono ?_
    rintro e w5 ⟨rfl, b5⟩
    have B5 := Lib.hid (B1.out.trans (b5.mono B1.out.size))
    clear b5
    go_wp2_with fail
    refine (HX.out _).mono ?_
    rintro e w6 ⟨rfl, b6⟩
    have B6 := Lib.hid (B5.out.trans (b6.mono B5.out.size))
    clear b6
    go_wp2_with fail
    refine (HW.out _).mono ?_
    rintro e w7 ⟨rfl, b7⟩
    have B7 := Lib.hid (B6.out.trans (b7.mono B6.out.size))
    clear b7
    go_wp2
    go_ret2
    exact ⟨rfl, B7.out⟩

set_option maxHeartbeats 2000000 in
theorem rlx_number (s : ByteArray) (p : Nat) (w : World) (wd : Int) (c k n x : Int)
    (n0 : (c == 65279) = false)
    (HR : Hid (∀ w, Calls Tryz.prog 33 #[.string s, .int .i64 (p : Int)] w fun e w' => e = .returned (.tuple #[.int .i64 c, .int .i64 wd]) ∧ Below w.heap.size w w'))
    (HB : Hid (∀ w, Calls Tryz.prog 34 #[.int .i64 c] w fun e w' => e = .returned (.bool false) ∧ w = w'))
    (HP1 : Hid (∀ w, Calls Tryz.prog 36 #[.string s, .int .i64 (p : Int), .string ⟨#[47, 47]⟩] w fun e w' => e = .returned (.bool false) ∧ w = w'))
    (HP2 : Hid (∀ w, Calls Tryz.prog 36 #[.string s, .int .i64 (p : Int), .string ⟨#[47, 42]⟩] w fun e w' => e = .returned (.bool false) ∧ w = w'))
    (HL : Hid (∀ w, Calls Tryz.prog 37 #[.int .i64 c] w fun e w' => e = .returned (.bool false) ∧ Below w.heap.size w w'))
    (HX : Hid (∀ w, Calls Tryz.prog 39 #[.string s, .int .i64 (p : Int)] w fun e w' => e = .returned (.tuple #[.int .u8 k, .int .i64 n, .int .i64 x]) ∧ w = w'))
    (hx : (x != 15) = true) :
    Calls Tryz.prog 29 #[.string s, .int .i64 (p : Int)] w fun e w' => e = .returned (.tuple #[.int .u8 k, .int .i64 n]) ∧ Below w.heap.size w w' := by
  have B0 := Lib.hid (Below.refl w.heap.size w)
  go_enter Tryz.func29, Tryz.ntmps29
  go_wp2_with fail
  refine (HR.out _).mono ?_
  rintro e w1 ⟨rfl, b1⟩
  have B1 := Lib.hid (B0.out.trans (b1.mono B0.out.size))
  clear b1
  go_wp2_with fail
  refine (HB.out _).mono ?_
  rintro e w2 ⟨rfl, rfl⟩
  go_wp2_with fail
  refine (HP1.out _).mono ?_
  rintro e w3 ⟨rfl, rfl⟩
  go_wp2_with fail
  refine (HP2.out _).mono ?_
  rintro e w4 ⟨rfl, rfl⟩
  go_wp2_with fail
  refine (HL.out _).mono ?_
  rintro e w5 ⟨rfl, b5⟩
  have B5 := Lib.hid (B1.out.trans (b5.mono B1.out.size))
  clear b5
  go_wp2_with fail
  refine (HX.out _).mono ?_
  rintro e w6 ⟨rfl, rfl⟩
  go_wp2
  go_ret2
  exact ⟨rfl, B5.out⟩

set_option maxHeartbeats 2000000 in
theorem rlx_quoted (s : ByteArray) (p : Nat) (w : World) (wd : Int) (c k n x : Int)
    (n0 : (c == 65279) = false)
    (HR : Hid (∀ w, Calls Tryz.prog 33 #[.string s, .int .i64 (p : Int)] w fun e w' => e = .returned (.tuple #[.int .i64 c, .int .i64 wd]) ∧ Below w.heap.size w w'))
    (HB : Hid (∀ w, Calls Tryz.prog 34 #[.int .i64 c] w fun e w' => e = .returned (.bool false) ∧ w = w'))
    (HP1 : Hid (∀ w, Calls Tryz.prog 36 #[.string s, .int .i64 (p : Int), .string ⟨#[47, 47]⟩] w fun e w' => e = .returned (.bool false) ∧ w = w'))
    (HP2 : Hid (∀ w, Calls Tryz.prog 36 #[.string s, .int .i64 (p : Int), .string ⟨#[47, 42]⟩] w fun e w' => e = .returned (.bool false) ∧ w = w'))
    (HL : Hid (∀ w, Calls Tryz.prog 37 #[.int .i64 c] w fun e w' => e = .returned (.bool false) ∧ Below w.heap.size w w'))
    (HX : Hid (∀ w, Calls Tryz.prog 39 #[.string s, .int .i64 (p : Int)] w fun e w' => e = .returned (.tuple #[.int .u8 0, .int .i64 0, .int .i64 15]) ∧ w = w'))
    (HQ : Hid (∀ w, Calls Tryz.prog 40 #[.string s, .int .i64 (p : Int)] w fun e w' => e = .returned (.tuple #[.int .u8 k, .int .i64 n, .int .i64 x]) ∧ Below w.heap.size w w'))
    (hx : (x != 15) = true) :
    Calls Tryz.prog 29 #[.string s, .int .i64 (p : Int)] w fun e w' => e = .returned (.tuple #[.int .u8 k, .int .i64 n]) ∧ Below w.heap.size w w' := by
  have B0 := Lib.hid (Below.refl w.heap.size w)
  go_enter Tryz.func29, Tryz.ntmps29
  go_wp2_with fail
  refine (HR.out _).mono ?_
  rintro e w1 ⟨rfl, b1⟩
  have B1 := Lib.hid (B0.out.trans (b1.mono B0.out.size))
  clear b1
  go_wp2_with fail
  refine (HB.out _).mono ?_
  rintro e w2 ⟨rfl, rfl⟩
  go_wp2_with fail
  refine (HP1.out _).mono ?_
  rintro e w3 ⟨rfl, rfl⟩
  go_wp2_with fail
  refine (HP2.out _).mono ?_
  rintro e w4 ⟨rfl, rfl⟩
  go_wp2_with fail
  refine (HL.out _).mono ?_
  rintro e w5 ⟨rfl, b5⟩
  have B5 := Lib.hid (B1.out.trans (b5.mono B1.out.size))
  clear b5
  go_wp2_with fail
  refine (HX.out _).mono ?_
  rintro e w6 ⟨rfl, rfl⟩
  go_wp2_with fail
  refine (HQ.out _).mono ?_
  rintro e w7 ⟨rfl, b7⟩
  have B7 := Lib.hid (B5.out.trans (b7.mono B5.out.size))
  clear b7
  go_wp2
  go_ret2
  exact ⟨rfl, B7.out⟩

set_option maxHeartbeats 2000000 in
theorem rlx_semi (s : ByteArray) (p : Nat) (w : World) (wd : Int) (c : Int)
    (n0 : (c == 65279) = false)
    (HR : Hid (∀ w, Calls Tryz.prog 33 #[.string s, .int .i64 (p : Int)] w fun e w' => e = .returned (.tuple #[.int .i64 c, .int .i64 wd]) ∧ Below w.heap.size w w'))
    (HB : Hid (∀ w, Calls Tryz.prog 34 #[.int .i64 c] w fun e w' => e = .returned (.bool false) ∧ w = w'))
    (HP1 : Hid (∀ w, Calls Tryz.prog 36 #[.string s, .int .i64 (p : Int), .string ⟨#[47, 47]⟩] w fun e w' => e = .returned (.bool false) ∧ w = w'))
    (HP2 : Hid (∀ w, Calls Tryz.prog 36 #[.string s, .int .i64 (p : Int), .string ⟨#[47, 42]⟩] w fun e w' => e = .returned (.bool false) ∧ w = w'))
    (HL : Hid (∀ w, Calls Tryz.prog 37 #[.int .i64 c] w fun e w' => e = .returned (.bool false) ∧ Below w.heap.size w w'))
    (HX : Hid (∀ w, Calls Tryz.prog 39 #[.string s, .int .i64 (p : Int)] w fun e w' => e = .returned (.tuple #[.int .u8 0, .int .i64 0, .int .i64 15]) ∧ w = w'))
    (HQ : Hid (∀ w, Calls Tryz.prog 40 #[.string s, .int .i64 (p : Int)] w fun e w' => e = .returned (.tuple #[.int .u8 0, .int .i64 0, .int .i64 15]) ∧ Below w.heap.size w w'))
    (hps : p < s.size)
    (hs : s.size ≤ 4611686018427387000)
    (hb : byN s p = 59) :
    Calls Tryz.prog 29 #[.string s, .int .i64 (p : Int)] w fun e w' => e = .returned (.tuple #[.int .u8 9, .int .i64 ((p : Int) + 1)]) ∧ Below w.heap.size w w' := by
  have e1 := byN_get s p hps
  have b0 : (0 : Int) ≤ (p : Int) := by omega
  have b1 : (p : Int) < (s.size : Int) := by omega
  rw [hb] at e1
  clear hb
  have B0 := Lib.hid (Below.refl w.heap.size w)
  go_enter Tryz.func29, Tryz.ntmps29
  go_wp2_with fail
  refine (HR.out _).mono ?_
  rintro e w1 ⟨rfl, b1⟩
  have B1 := Lib.hid (B0.out.trans (b1.mono B0.out.size))
  clear b1
  go_wp2_with fail
  refine (HB.out _).mono ?_
  rintro e w2 ⟨rfl, rfl⟩
  go_wp2_with fail
  refine (HP1.out _).mono ?_
  rintro e w3 ⟨rfl, rfl⟩
  go_wp2_with fail
  refine (HP2.out _).mono ?_
  rintro e w4 ⟨rfl, rfl⟩
  go_wp2_with fail
  refine (HL.out _).mono ?_
  rintro e w5 ⟨rfl, b5⟩
  have B5 := Lib.hid (B1.out.trans (b5.mono B1.out.size))
  clear b5
  go_wp2_with fail
  refine (HX.out _).mono ?_
  rintro e w6 ⟨rfl, rfl⟩
  go_wp2_with fail
  refine (HQ.out _).mono ?_
  rintro e w7 ⟨rfl, b7⟩
  have B7 := Lib.hid (B5.out.trans (b7.mono B5.out.size))
  clear b7
  go_wp2
  go_ret2
  exact ⟨rfl, B7.out⟩

set_option maxHeartbeats 2000000 in
theorem rlx_sign (s : ByteArray) (p : Nat) (w : World) (wd : Int) (c : Int) (v : Value)
    (n0 : (c == 65279) = false)
    (HR : Hid (∀ w, Calls Tryz.prog 33 #[.string s, .int .i64 (p : Int)] w fun e w' => e = .returned (.tuple #[.int .i64 c, .int .i64 wd]) ∧ Below w.heap.size w w'))
    (HB : Hid (∀ w, Calls Tryz.prog 34 #[.int .i64 c] w fun e w' => e = .returned (.bool false) ∧ w = w'))
    (HP1 : Hid (∀ w, Calls Tryz.prog 36 #[.string s, .int .i64 (p : Int), .string ⟨#[47, 47]⟩] w fun e w' => e = .returned (.bool false) ∧ w = w'))
    (HP2 : Hid (∀ w, Calls Tryz.prog 36 #[.string s, .int .i64 (p : Int), .string ⟨#[47, 42]⟩] w fun e w' => e = .returned (.bool false) ∧ w = w'))
    (HL : Hid (∀ w, Calls Tryz.prog 37 #[.int .i64 c] w fun e w' => e = .returned (.bool false) ∧ Below w.heap.size w w'))
    (HX : Hid (∀ w, Calls Tryz.prog 39 #[.string s, .int .i64 (p : Int)] w fun e w' => e = .returned (.tuple #[.int .u8 0, .int .i64 0, .int .i64 15]) ∧ w = w'))
    (HQ : Hid (∀ w, Calls Tryz.prog 40 #[.string s, .int .i64 (p : Int)] w fun e w' => e = .returned (.tuple #[.int .u8 0, .int .i64 0, .int .i64 15]) ∧ Below w.heap.size w w'))
    (hps : p < s.size)
    (hs : s.size ≤ 4611686018427387000)
    (hb : byN s p ≠ 59)
    (HN : Hid (if Sc.sgn ((bl s).drop p) = 0 then Ending.returned (.tuple #[.int .u8 0, .int .i64 0]) = .returned v else Ending.returned (.tuple #[.int .u8 8, .int .i64 ((p : Int) + (Sc.sgn ((bl s).drop p) : Int))]) = .returned v)) :
    Calls Tryz.prog 29 #[.string s, .int .i64 (p : Int)] w fun e w' => e = .returned (v) ∧ Below w.heap.size w w' := by
  have e1 := byN_get s p hps
  have b0 : (0 : Int) ≤ (p : Int) := by omega
  have b1 : (p : Int) < (s.size : Int) := by omega
  have l1 := byN_lt s p
  have d1 : ((byN s p : Int) == 59) = false := beq_eq_false_iff_ne.2 (by omega)
  generalize byN s p = Y at e1 l1 d1 hb
  have B0 := Lib.hid (Below.refl w.heap.size w)
  go_enter Tryz.func29, Tryz.ntmps29
  go_wp2_with fail
  refine (HR.out _).mono ?_
  rintro e w1 ⟨rfl, b1⟩
  have B1 := Lib.hid (B0.out.trans (b1.mono B0.out.size))
  clear b1
  go_wp2_with fail
  refine (HB.out _).mono ?_
  rintro e w2 ⟨rfl, rfl⟩
  go_wp2_with fail
  refine (HP1.out _).mono ?_
  rintro e w3 ⟨rfl, rfl⟩
  go_wp2_with fail
  refine (HP2.out _).mono ?_
  rintro e w4 ⟨rfl, rfl⟩
  go_wp2_with fail
  refine (HL.out _).mono ?_
  rintro e w5 ⟨rfl, b5⟩
  have B5 := Lib.hid (B1.out.trans (b5.mono B1.out.size))
  clear b5
  go_wp2_with fail
  refine (HX.out _).mono ?_
  rintro e w6 ⟨rfl, rfl⟩
  go_wp2_with fail
  refine (HQ.out _).mono ?_
  rintro e w7 ⟨rfl, b7⟩
  have B7 := Lib.hid (B5.out.trans (b7.mono B5.out.size))
  clear b7
  go_wp2_with fail
  refine (rsigns_any _).mono ?_
  rintro e w8 ⟨rfl, hw8⟩
  have B8 : Hid (Below w.heap.size w w8) := Lib.hid (by rw [hw8]; exact B7.out.alloc B7.out.size _)
  have hh8 : w8.heap[w7.heap.size]? = some (.cells sgnCells.toArray 9 (0, 0)) := by rw [hw8]; exact heap_alloc_new w7 _
  have hc8 : Hid (∀ j, j < 47 → w8.cell? ⟨w7.heap.size, j, none⟩ = some (.string (sgnA j))) := Lib.hid fun j hj => by
    rw [cell_of_row w8 _ j _ _ _ hh8]; simpa using sgn_cell hj
  clear hw8 hh8
  go_wp2
  go_loopw [14, 16] (fun bs i wr => ∃ j : Nat, j ≤ 47 ∧ i = .int .i64 j ∧ bs = .int .i64 (bst ((bl s).drop p) j : Nat) ∧ wr = w8) (fun _ i _ => 47 - (intOf i).toNat)
  case atStart => exact ⟨0, by omega, rfl, rfl, rfl⟩
  case round =>
    obtain ⟨j, hj, rfl, rfl, rfl⟩ := hrel
    by_cases hlt : j < 47
    · have c8 := hc8.out j hlt
      have hx := sgnA_size hlt
      have HH := Lib.hid (fun w => has_any s (sgnA j) p w (by omega) hs (by omega))
      rw [sgn_bl] at HH
      have hbst : bst ((bl s).drop p) (j + 1) = if (Sc.signs.getD j []).isPrefixOf ((bl s).drop p) = true ∧ bst ((bl s).drop p) j < (sgnA j).size then (sgnA j).size else bst ((bl s).drop p) j := rfl
      have hbs := (bst_spec ((bl s).drop p) j hj).1
      have j0 : (0 : Int) ≤ (j : Int) := by omega
      have j1 : (j : Int) < 47 := by omega
      cases hc : (Sc.signs.getD j []).isPrefixOf ((bl s).drop p) with
      | true =>
        rw [hc] at HH hbst
        by_cases hg : bst ((bl s).drop p) j < (sgnA j).size
        · rw [if_pos ⟨rfl, hg⟩] at hbst
          have Hbst := Lib.hid hbst
          have hg' : (bst ((bl s).drop p) j : Int) < ((sgnA j).size : Int) := by omega
          clear hbst hc
          generalize bst ((bl s).drop p) j = m at hg hg' hbs
          generalize sgnA j = y at c8 HH hg hg' hx Hbst
          go_wp2_with fail
          refine (HH.out _).mono ?_
          rintro e w9 ⟨rfl, rfl⟩
          go_wp2
          go_roundw
          case rel => exact ⟨j + 1, by omega, by go_num, by rw [Hbst.out], trivial⟩
          case measure => simp [intOf]; omega
        · rw [if_neg (fun h => hg h.2)] at hbst
          have Hbst := Lib.hid hbst
          have hg' : ¬ (bst ((bl s).drop p) j : Int) < ((sgnA j).size : Int) := by omega
          clear hbst hc
          generalize bst ((bl s).drop p) j = m at hg hg' hbs Hbst ⊢
          generalize sgnA j = y at c8 HH hg hg' hx
          go_wp2_with fail
          refine (HH.out _).mono ?_
          rintro e w9 ⟨rfl, rfl⟩
          go_wp2
          go_roundw
          case rel => exact ⟨j + 1, by omega, by go_num, by rw [Hbst.out], trivial⟩
          case measure => simp [intOf]; omega
      | false =>
        rw [hc] at HH hbst
        rw [if_neg (fun h => by cases h.1)] at hbst
        have Hbst := Lib.hid hbst
        clear hbst hc
        generalize bst ((bl s).drop p) j = m at hbs Hbst ⊢
        generalize sgnA j = y at c8 HH hx
        go_wp2_with fail
        refine (HH.out _).mono ?_
        rintro e w9 ⟨rfl, rfl⟩
        go_wp2
        go_roundw
        case rel => exact ⟨j + 1, by omega, by go_num, by rw [Hbst.out], trivial⟩
        case measure => simp [intOf]; omega
    · have hj47 : j = 47 := by omega
      subst hj47
      have HNs := HN.out
      have hbs := (bst_spec ((bl s).drop p) 47 (Nat.le_refl _)).1
      rw [bst_sgn] at hbs ⊢
      have j1 : ¬ (47 : Int) < 47 := by omega
      by_cases hz : Sc.sgn ((bl s).drop p) = 0
      · rw [if_pos hz] at HNs
        have HV := Lib.hid HNs
        clear HNs
        rw [hz]
        go_wp2
        go_ret2
        exact ⟨HV.out, B8.out⟩
      · rw [if_neg hz] at HNs
        have HV := Lib.hid HNs
        have d2 : ((Sc.sgn ((bl s).drop p) : Int) == 0) = false := beq_eq_false_iff_ne.2 (by omega)
        clear HNs
        generalize Sc.sgn ((bl s).drop p) = m at hz d2 hbs HV ⊢
        go_wp2
        go_ret2
        exact ⟨HV.out, B8.out⟩

end Go.Proofs.YtnkgbmnjehpkgabGreat

