/- The walks of the laws ClassTells, ClassNames, ClassApart. -/
import Derived.Test.YtlmhcjomegiibaaNameRef
import Derived.Test.YtlmhcjomegiibaaBulk
namespace Go.Proofs.Ytlmhcjomegiibaa
open Go.RowKit

theorem rune_bounds {r : Int} (h : (Lit.int .i32 r).wf = true) : -2147483648 ≤ r ∧ r ≤ 2147483647 := by simpa [Lit.wf, IntKind.min, IntKind.max, IntKind.signed, IntKind.bits] using h

theorem walk_ClassTells (r : Int) (w : World) (w0 : (Lit.int .i32 r).wf = true) :
    Calls Try.prog 10 #[.int .i32 r] w fun e w' => e = .returned (.bool true) ∧ Below w.heap.size w w' := by
  obtain ⟨hb1, hb2⟩ := rune_bounds w0
  go_enter Try.func10, Try.ntmps10
  go_wp2_with fail
  refine (fixed2_any w).mono ?_
  rintro e w1 ⟨rfl, g1⟩
  go_wp2_with fail
  refine (letter_any r w1).mono ?_
  rintro e w2 ⟨rfl, g2⟩
  go_wp2_with fail
  refine (rletter_any r w2).mono ?_
  rintro e w3 ⟨rfl, g3⟩
  go_wp2_with fail
  refine (digit_any r w3).mono ?_
  rintro e w4 ⟨rfl, g4⟩
  go_wp2_with fail
  refine (rdigit_any r w4).mono ?_
  rintro e w5 ⟨rfl, g5⟩
  go_wp2_with fail
  refine (blank_any r w5).mono ?_
  rintro e w6 ⟨rfl, g6⟩
  go_wp2_with fail
  refine (rblank_any r w6).mono ?_
  rintro e w7 ⟨rfl, rfl⟩
  go_wp2_with fail
  refine (base_any r w6 hb1 hb2).mono ?_
  rintro e w7 ⟨rfl, rfl⟩
  go_wp2_with fail
  refine (rbase_any r w6).mono ?_
  rintro e w7 ⟨rfl, rfl⟩
  go_wp2
  go_ret
  have s1 := g1.size; have s2 := g2.size; have s3 := g3.size; have s4 := g4.size; have s5 := g5.size
  exact ⟨rfl, ((((g1.trans (g2.mono (by omega))).trans (g3.mono (by omega))).trans (g4.mono (by omega))).trans (g5.mono (by omega))).trans (g6.mono (by omega))⟩

theorem walk_ClassNames (s : ByteArray) (w : World) (hs : s.size ≤ 1048576) :
    Calls Try.prog 11 #[.string s] w fun e w' => e = .returned (.bool true) ∧ Below w.heap.size w w' := by
  go_enter Try.func11, Try.ntmps11
  go_wp2_with fail
  refine (fixed2_any w).mono ?_
  rintro e w1 ⟨rfl, g1⟩
  go_wp2_with fail
  refine (name_any s w1).mono ?_
  rintro e w2 ⟨rfl, g2⟩
  go_wp2_with fail
  refine (rname_any s w2 (by omega)).mono ?_
  rintro e w3 ⟨rfl, g3⟩
  go_wp2_with fail
  refine (word_any s w3).mono ?_
  rintro e w4 ⟨rfl, rfl⟩
  go_wp2_with fail
  refine (rword_any s w3).mono ?_
  rintro e w4 ⟨rfl, g4⟩
  go_wp2
  go_ret
  have s1 := g1.size; have s2 := g2.size; have s3 := g3.size
  exact ⟨rfl, ((g1.trans (g2.mono (by omega))).trans (g3.mono (by omega))).trans (g4.mono (by omega))⟩

/-! No number is in two of the tables. -/
def clear2 (l m : List (Int × Int)) : Bool := l.all fun x => m.all fun y => decide (x.2 < y.1) || decide (y.2 < x.1)
theorem in_some : ∀ {l : List (Int × Int)} {r : Int}, Cm.inB l r = true → ∃ x ∈ l, x.1 ≤ r ∧ r ≤ x.2
  | [], r, h => by cases h
  | (a, b) :: t, r, h => by
    rw [Cm.inB] at h
    by_cases hc : a ≤ r ∧ r ≤ b
    · exact ⟨(a, b), List.mem_cons_self .., hc⟩
    · rw [if_neg hc] at h
      obtain ⟨x, hx, hr⟩ := in_some h
      exact ⟨x, List.mem_cons_of_mem _ hx, hr⟩
theorem not_both {l m : List (Int × Int)} (h : clear2 l m = true) {r : Int} (h1 : Cm.inB l r = true) : Cm.inB m r = false := by
  cases h2 : Cm.inB m r with
  | false => rfl
  | true =>
    obtain ⟨x, hx, a, b⟩ := in_some h1
    obtain ⟨y, hy, c, d⟩ := in_some h2
    unfold clear2 at h
    have := List.all_eq_true.1 (List.all_eq_true.1 h x hx) y hy
    simp only [Bool.or_eq_true, decide_eq_true_eq] at this
    omega
theorem letters_digits : clear2 Cm.letters Cm.digits = true := by decide
theorem letters_blanks : clear2 Cm.letters Cm.blanks = true := by decide
theorem digits_blanks : clear2 Cm.digits Cm.blanks = true := by decide

theorem base_cases (r : Int) : Cm.base r < 0 ∨ (0 ≤ Cm.base r ∧ Cm.base r < 16 ∧ Cm.inB Cm.blanks r = false) := by
  rw [Cm.blank_iff]
  unfold Cm.base
  by_cases h1 : 48 ≤ r ∧ r ≤ 57
  · rw [if_pos h1]; right; exact ⟨by omega, by omega, decide_eq_false (by omega)⟩
  · rw [if_neg h1]
    by_cases h2 : 65 ≤ r ∧ r ≤ 70
    · rw [if_pos h2]; right; exact ⟨by omega, by omega, decide_eq_false (by omega)⟩
    · rw [if_neg h2]
      by_cases h3 : 97 ≤ r ∧ r ≤ 102
      · rw [if_pos h3]; right; exact ⟨by omega, by omega, decide_eq_false (by omega)⟩
      · rw [if_neg h3]; left; omega

theorem apart_tail (r : Int) (b1 b2 b3 : Bool) (w : World) (hb1 : -2147483648 ≤ r) (hb2 : r ≤ 2147483647) (h1 : Cm.inB Cm.letters r = b1) (h2 : Cm.inB Cm.digits r = b2) (h3 : Cm.inB Cm.blanks r = b3)
    (hone : (b1 = true ∧ b2 = false ∧ b3 = false) ∨ (b1 = false ∧ b2 = true ∧ b3 = false) ∨ (b1 = false ∧ b2 = false ∧ b3 = true) ∨ (b1 = false ∧ b2 = false ∧ b3 = false)) :
    Calls Try.prog 12 #[.int .i32 r] w fun e w' => e = .returned (.bool true) ∧ Below w.heap.size w w' := by
  have L1 := fun wx => letter_any r wx
  have L2 := fun wx => digit_any r wx
  have L3 := fun wx => blank_any r wx
  have L4 := fun wx => base_any r wx hb1 hb2
  have hbc := base_cases r
  rw [h1] at L1
  rw [h2] at L2
  rw [h3] at L3 hbc
  clear h1 h2 h3
  generalize Cm.base r = q at L4 hbc
  rcases hbc with hq | ⟨hq0, hq1, hq2⟩
  · obtain ⟨rfl, rfl, rfl⟩ | ⟨rfl, rfl, rfl⟩ | ⟨rfl, rfl, rfl⟩ | ⟨rfl, rfl, rfl⟩ := hone
    all_goals
      go_enter Try.func12, Try.ntmps12
      go_wp2_with fail
      refine (L1 w).mono ?_
      rintro e w2 ⟨rfl, g2⟩
      go_wp2_with fail
      refine (L2 w2).mono ?_
      rintro e w3 ⟨rfl, g3⟩
      go_wp2_with fail
      refine (L3 w3).mono ?_
      rintro e w4 ⟨rfl, g4⟩
      go_wp2_with fail
      refine (fixed2_any w4).mono ?_
      rintro e w5 ⟨rfl, g5⟩
      go_wp2_with fail
      refine (L4 w5).mono ?_
      rintro e w6 ⟨rfl, rfl⟩
      go_wp2
      go_ret
      have s2 := g2.size; have s3 := g3.size; have s4 := g4.size
      exact ⟨rfl, ((g2.trans (g3.mono (by omega))).trans (g4.mono (by omega))).trans (g5.mono (by omega))⟩
  · have hq3 : ¬ q < 0 := by omega
    subst hq2
    obtain ⟨rfl, rfl, -⟩ | ⟨rfl, rfl, -⟩ | ⟨-, -, ⟨⟩⟩ | ⟨rfl, rfl, -⟩ := hone
    all_goals
      go_enter Try.func12, Try.ntmps12
      go_wp2_with fail
      refine (L1 w).mono ?_
      rintro e w2 ⟨rfl, g2⟩
      go_wp2_with fail
      refine (L2 w2).mono ?_
      rintro e w3 ⟨rfl, g3⟩
      go_wp2_with fail
      refine (L3 w3).mono ?_
      rintro e w4 ⟨rfl, g4⟩
      go_wp2_with fail
      refine (fixed2_any w4).mono ?_
      rintro e w5 ⟨rfl, g5⟩
      go_wp2_with fail
      refine (L4 w5).mono ?_
      rintro e w6 ⟨rfl, rfl⟩
      go_wp2_with fail
      refine (L3 w5).mono ?_
      rintro e w6 ⟨rfl, g6⟩
      go_wp2_with fail
      refine (L4 w6).mono ?_
      rintro e w7 ⟨rfl, rfl⟩
      go_wp2
      go_ret
      have s2 := g2.size; have s3 := g3.size; have s4 := g4.size; have s5 := g5.size
      exact ⟨rfl, (((g2.trans (g3.mono (by omega))).trans (g4.mono (by omega))).trans (g5.mono (by omega))).trans (g6.mono (by omega))⟩

theorem walk_ClassApart (r : Int) (w : World) (w0 : (Lit.int .i32 r).wf = true) :
    Calls Try.prog 12 #[.int .i32 r] w fun e w' => e = .returned (.bool true) ∧ Below w.heap.size w w' := by
  obtain ⟨hb1, hb2⟩ := rune_bounds w0
  refine apart_tail r _ _ _ w hb1 hb2 rfl rfl rfl ?_
  cases h1 : Cm.inB Cm.letters r with
  | true => exact .inl ⟨rfl, not_both letters_digits h1, not_both letters_blanks h1⟩
  | false =>
    cases h2 : Cm.inB Cm.digits r with
    | true => exact .inr (.inl ⟨rfl, rfl, not_both digits_blanks h2⟩)
    | false =>
      cases h3 : Cm.inB Cm.blanks r with
      | true => exact .inr (.inr (.inl ⟨rfl, rfl, rfl⟩))
      | false => exact .inr (.inr (.inr ⟨rfl, rfl, rfl⟩))
end Go.Proofs.Ytlmhcjomegiibaa
