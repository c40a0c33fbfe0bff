/- Contracts of nest.Depth and of the reference's Ints; the laws' helper 'fixed' of layer 9. -/
import Derived.Test.YtnkgbmnjehpkgabGreatNeOf
namespace Go.Proofs.YtnkgbmnjehpkgabGreat
open Go.RowKit Em
set_option maxRecDepth 100000
set_option linter.unusedVariables false

theorem nAt_code (b : Nat → Int) : ∀ i c k, nAt b i = .bad c k → c = 5 ∨ c = 6
  | 0, c, k, h => by cases h
  | i + 1, c, k, h => by
    cases hx : nAt b i with
    | bad c' k' =>
      rw [nAt, hx] at h
      injection h with h1 h2
      subst h1
      exact nAt_code b i _ _ hx
    | ok st p m =>
      rw [nAt_ok hx] at h
      unfold nStep at h
      split at h
      · split at h
        · injection h with h1; exact .inr h1.symm
        · cases h
      · split at h
        · split at h
          · injection h with h1; exact .inl h1.symm
          · split at h
            · cases h
            · injection h with h1; exact .inl h1.symm
        · cases h
theorem semA_two (s : ByteArray) : (semA s).2.1 = 0 → (semA s).2.2 = 0 := by
  intro h
  unfold semA at h ⊢
  split
  · rfl
  · rename_i hn
    rw [if_neg hn] at h
    exact absurd h hn
/-- Either the brackets have their partners, or there is a fault. -/
theorem nest_cases (s : ByteArray) : (∃ p m, (semA s).2.1 = 0 ∧ nAt (nb s (semA s).1) (semA s).1.length = .ok [] p m ∧ nestT s = (semA s).1 ∧ nestP s = p ∧ nestM s = m ∧ nestE s = 0 ∧ nestF s = 0) ∨ (nestE s ≠ 0 ∧ nestM s = 0 ∧ nestT s = []) := by
  by_cases h : (semA s).2.1 = 0
  · cases hx : nAt (nb s (semA s).1) (semA s).1.length with
    | bad c k =>
      have hf : nFin (nb s (semA s).1) (semA s).1.length = .bad c k := by unfold nFin; rw [hx]
      obtain ⟨a1, a2, a3, a4⟩ := nest_bad h hf
      refine .inr ⟨?_, a2, a1⟩
      rw [a3]
      rcases nAt_code _ _ _ _ hx with rfl | rfl <;> decide
    | ok st p m =>
      cases st with
      | nil =>
        have hf : nFin (nb s (semA s).1) (semA s).1.length = .ok [] p m := by unfold nFin; rw [hx]
        obtain ⟨a1, a2, a3, a4, a5⟩ := nest_ok h hf
        exact .inl ⟨p, m, h, rfl, a1, a2, a3, a4, a5⟩
      | cons j r =>
        have hf : nFin (nb s (semA s).1) (semA s).1.length = .bad 5 j := by unfold nFin; rw [hx]
        obtain ⟨a1, a2, a3, a4⟩ := nest_bad h hf
        exact .inr ⟨by rw [a3]; decide, a2, a1⟩
  · obtain ⟨a1, a2, a3, a4⟩ := nest_fault h
    exact .inr ⟨by rw [a3]; exact h, a2, a1⟩
theorem semA_len {s : ByteArray} (h : (semA s).2.1 = 0) : (semA s).1.length ≤ 131072 := by
  have hA : (allA s).2.1 = 0 := by
    unfold semA at h
    split at h
    · assumption
    · exact h
  rw [← refS_all s hA]; have := refS_len s (allA s).1 (allA s).1.length; have := allA_most s; omega
theorem nestT_len (s : ByteArray) : (nestT s).length ≤ 131072 := by
  rcases nest_cases s with ⟨p, m, h, _, h1, _⟩ | ⟨_, _, h⟩
  · rw [h1]; exact semA_len h
  · rw [h]; simp

set_option maxHeartbeats 2000000 in
theorem ints_any (x y : Option Addr) (cx cy n : Nat) (p q : Nat → Int) (w : World) (hx : IsF w x n p) (hy : IsF w y n q) (hpq : ∀ k, k < n → p k = q k) (hn : n ≤ 1000000) :
    Calls Tryz.prog 9 #[.slice x n cx, .slice y n cy] w fun e w' => e = .returned (.bool true) ∧ ∃ d, w' = w.drewN d := by
  have Hx := Lib.hid hx
  have Hy := Lib.hid hy
  have Hq := Lib.hid hpq
  clear hx hy hpq
  go_enter Tryz.func9, Tryz.ntmps9
  go_wp2
  go_loopw [5] (fun iv wr => ∃ i d : Nat, i ≤ n ∧ iv = .int .i64 i ∧ wr = w.drewN d) (fun iv _ => n - (intOf iv).toNat)
  case atStart => exact ⟨0, 0, by omega, rfl, rfl⟩
  case round =>
    obtain ⟨i, d, hi, rfl, rfl⟩ := hrel
    by_cases hlt : i < n
    · obtain ⟨g, rfl, hg, d0⟩ := Hx.out.cells hlt
      obtain ⟨g2, rfl, hg2, e0⟩ := Hy.out.cells hlt
      rw [← Hq.out i hlt] at e0
      generalize p i = V at d0 e0
      have b0 : (0 : Int) ≤ (i : Int) := by omega
      have b1 : (i : Int) < (n : Int) := by omega
      have v1 : ((V : Int) == V) = true := beq_self_eq_true _
      have v2 : ((V : Int) != V) = false := by rw [bne, v1]; rfl
      go_wp2
      go_quiet (fail)
      go_wp2
      go_roundw
      case rel => exact ⟨i + 1, _, by omega, by go_num, rfl⟩
      case measure => simp [intOf]; omega
    · have b1 : ¬ (i : Int) < (n : Int) := by omega
      go_wp2
      go_ret
      exact ⟨rfl, d, rfl⟩

set_option maxHeartbeats 4000000 in
theorem depth_any (s : ByteArray) (w : World) (hm : Mx w) : Calls Tryz.prog 6 #[.string s] w fun e w' => e = .returned (.tuple #[.int .i64 (nestM s : Int), fauV (nestE s) (nestF s)]) ∧ Below w.heap.size w w' := by
  have Hm := Lib.hid hm
  have H1 := fun w hm => nest_any s w hm
  unfold NstP at H1
  have m2 := guard_fau
  have b0 := (Below.refl w.heap.size w).alloc (Nat.le_refl _) (.cells #[.int .i64 0, .int .i64 0] 27)
  have F0 : Hid (FBox (w.alloc (.cells #[.int .i64 0, .int .i64 0] 27)) w.heap.size 0 0) := Lib.hid (heap_alloc_new w _)
  have B0 := Lib.hid b0
  have Hm0 := Lib.hid (hm.keep b0)
  clear hm b0
  have hlen := nestT_len s
  rcases nest_cases s with ⟨p, m, hs0, hn, a1, a2, a3, a4, a5⟩ | ⟨hE, a3, a1⟩
  · rw [a3, a4, a5]
    rw [a1] at hlen
    rw [a1, a2, a4, a5] at H1
    dsimp only [fauV] at H1 ⊢
    have q2 := fun w => run_equal_fau w 0 0 0 0
    rw [faEq_self] at q2
    have hNE := ne_end hn
    have hbef := fun i hi => nAt_before hn i hi
    generalize (semA s).1 = T at *
    generalize nb s T = b at hNE hbef hn
    have H1 := Lib.hid H1
    have HNE := Lib.hid hNE
    have Hbef := Lib.hid hbef
    have Hn := Lib.hid hn
    clear hNE hbef hn a1 a2 a3 a4 a5 hs0
    go_enter Tryz.func6, Tryz.ntmps6
    go_wp2_with fail
    refine (H1.out _ Hm0.out).mono ?_
    rintro e w1 ⟨x1, c1, x2, c2, rfl, i1, i2, b1⟩
    have hsz := b1.size
    simp at hsz
    have bb := B0.out.trans (b1.mono B0.out.size)
    have B1 := Lib.hid (bb.alloc bb.size (.cells #[.int .i64 0, .int .i64 0] 27))
    have T1 : Hid (FBox (w1.alloc (.cells #[.int .i64 0, .int .i64 0] 27)) w1.heap.size 0 0) := Lib.hid (heap_alloc_new w1 _)
    have F1 := Lib.hid ((F0.out.keep b1).alloc (.cells #[.int .i64 0, .int .i64 0] 27))
    have I2 := Lib.hid (i2.keep ((Below.refl _ _).alloc (Nat.le_refl _) (.cells #[.int .i64 0, .int .i64 0] 27)))
    have p0 := T1.out.c0
    have p1 := T1.out.c1
    clear b1 i1 i2 bb hsz
    go_wp2
    clear p0 p1
    generalize w1.alloc (.cells #[.int .i64 0, .int .i64 0] 27) = w2 at B1 F1 I2 ⊢
    go_loopw [7, 8, 23] (fun dv mv iv wr => ∃ (i : Nat) (st : List Nat) (p' : Nat → Int) (m' : Nat), i ≤ T.length ∧ iv = .int .i64 i ∧ dv = .int .i64 ((st.length : Nat) : Int) ∧ mv = .int .i64 (m' : Int) ∧ Hid (nAt b i = .ok st p' m') ∧ wr = w2) (fun _ _ iv _ => T.length - (intOf iv).toNat)
    case atStart => exact ⟨0, [], fun _ => -1, 0, by omega, rfl, rfl, rfl, Lib.hid rfl, rfl⟩
    case round =>
      obtain ⟨i, st, p', m', hi, rfl, rfl, rfl, HA, rfl⟩ := hrel
      have hNI := ni_at _ _ _ _ _ HA.out
      have hm100 := hNI.hm
      by_cases hlt : i < T.length
      · obtain ⟨g, rfl, hg, d0⟩ := I2.out.cells hlt
        have b0 : (0 : Int) ≤ (i : Int) := by omega
        have b1 : (i : Int) < (T.length : Int) := by omega
        obtain ⟨st2, p2, m2', hnx⟩ := Hbef.out (i + 1) hlt
        rw [nAt_ok HA.out] at hnx
        have hAn := nAt_ok HA.out
        rcases Int.lt_trichotomy (b i) 0 with hb | hb | hb
        · obtain ⟨j, hj1, hj2, hj3⟩ := HNE.out.cl i hlt hb
          rw [hj2] at d0
          cases st with
          | nil => rw [step_none hb] at hnx; cases hnx
          | cons t r =>
            by_cases hz : b t + b i = 0
            · rw [step_shut hb hz] at hAn
              have HAn := Lib.hid hAn
              obtain ⟨L, hL⟩ : ∃ L, r.length = L := ⟨_, rfl⟩
              have HL := Lib.hid hL
              rw [show (((t :: r).length : Nat) : Int) = (L : Int) + 1 by rw [List.length_cons, hL]; rfl]
              have n1 : ¬ (i : Int) < (j : Int) := by omega
              have n2 : ((j : Int) == -1) = false := beq_eq_false_iff_ne.2 (by omega)
              have n3 : ((j : Int) != -1) = true := by rw [bne, n2]; rfl
              have c3 : IntKind.i64.wrap ((L : Int) + 1 - 1) = (L : Int) := by rw [IntKind.wrap_i64]; have := hm100.1; rw [List.length_cons] at this; omega
              have hL9 : L ≤ 100 := by have := hm100.1; rw [List.length_cons] at this; omega
              clear hnx hAn hb hz hj2 hj3 hL
              go_wp2
              go_roundw
              case rel => exact ⟨i + 1, r, _, m', by omega, by go_num, by rw [HL.out], rfl, HAn, by first | trivial | rfl⟩
              case measure => simp [intOf]; omega
            · rw [step_wrong hb hz] at hnx; cases hnx
        · rw [HNE.out.zr i hlt hb] at d0
          rw [step_rest hb] at hAn
          have HAn := Lib.hid hAn
          have n1 : ¬ (i : Int) < -1 := by omega
          clear hnx hAn hb
          go_wp2
          go_roundw
          case rel => exact ⟨i + 1, st, p', m', by omega, by go_num, rfl, rfl, HAn, by first | trivial | rfl⟩
          case measure => simp [intOf]; omega
        · obtain ⟨c, hc1, hc2, hc3, hc4⟩ := HNE.out.op i hlt hb
          rw [hc3] at d0
          by_cases hl : st.length = 100
          · rw [step_deep hb hl] at hnx; cases hnx
          · rw [step_open hb hl] at hAn
            have HAn := Lib.hid hAn
            obtain ⟨L, hL⟩ : ∃ L, st.length = L := ⟨_, rfl⟩
            have HL := Lib.hid hL
            rw [hL] at hAn HAn ⊢
            have n1 : (i : Int) < (c : Int) := by omega
            have c3 : IntKind.i64.wrap ((L : Int) + 1) = (L : Int) + 1 := by rw [IntKind.wrap_i64]; omega
            clear hnx hAn hb hc3 hc4
            go_wp2
            go_roundw
            case rel => exact ⟨i + 1, i :: st, _, _, by omega, by go_num, by rw [List.length_cons, HL.out]; go_num, by congr 1; omega, HAn, by first | trivial | rfl⟩
            case measure => simp [intOf]; omega
      · have hie : i = T.length := by omega
        subst hie
        have hfin := HA.out.symm.trans Hn.out
        injection hfin with e1 e2 e3
        subst e1; subst e2; subst e3
        have b1 : ¬ (T.length : Int) < (T.length : Int) := by omega
        have r0 := F1.out.c0
        have r1 := F1.out.c1
        have z0 := F1.out.free 0
        have z1 := F1.out.free 1
        have hbf := F1.out.set 0 0
        have k0 := hbf.c0
        have k1 := hbf.c1
        have Hb4 := Lib.hid (bset2 B1.out (Nat.le_refl _) (.int .i64 0) (.int .i64 0))
        clear hbf hNI hm100
        go_wp2
        refine bodyPost_ret (v := .tuple #[.int .i64 (m' : Int), fauV 0 0]) ?_ rfl ⟨rfl, Hb4.out⟩
        simp [fauV, results, Tryz.results6, go_sem, k0, k1]
  · rw [a3]
    rw [a1] at H1
    have hne : faEq (nestE s) (nestF s) 0 0 = false := by
      unfold faEq; rw [show (nestE s == 0) = false from beq_eq_false_iff_ne.2 hE]; rfl
    dsimp only [fauV] at H1 ⊢
    generalize nestE s = E at H1 hne ⊢
    generalize nestF s = D at H1 hne ⊢
    have q2 := fun w => run_equal_fau w E D 0 0
    rw [hne] at q2
    have H1 := Lib.hid H1
    clear hne a1 a3 hlen
    go_enter Tryz.func6, Tryz.ntmps6
    go_wp2_with fail
    refine (H1.out _ Hm0.out).mono ?_
    rintro e w1 ⟨x1, c1, x2, c2, rfl, i1, i2, b1⟩
    have hsz := b1.size
    simp at hsz
    have bb := B0.out.trans (b1.mono B0.out.size)
    have B1 := Lib.hid (bb.alloc bb.size (.cells #[.int .i64 E, .int .i64 D] 27))
    have T1 : Hid (FBox (w1.alloc (.cells #[.int .i64 E, .int .i64 D] 27)) w1.heap.size E D) := Lib.hid (heap_alloc_new w1 _)
    have F1 := Lib.hid ((F0.out.keep b1).alloc (.cells #[.int .i64 E, .int .i64 D] 27))
    have p0 := T1.out.c0
    have p1 := T1.out.c1
    have z0 := F1.out.free 0
    have z1 := F1.out.free 1
    have r0 := F1.out.c0
    have r1 := F1.out.c1
    have hbf := F1.out.set E D
    have k0 := hbf.c0
    have k1 := hbf.c1
    clear b1 i1 i2 bb hbf
    go_wp2
    go_region
    go_wp2
    refine bodyPost_ret (v := .tuple #[.int .i64 0, fauV E D]) ?_ rfl ⟨rfl, below_draw' (bset2 B1.out (Nat.le_refl _) _ _) 1⟩
    simp [fauV, results, Tryz.results6, go_sem, k0, k1]

theorem fx9a : (nestT ⟨#[102, 40, 97, 91, 49, 93, 41]⟩).length = 8 ∧ nestE ⟨#[102, 40, 97, 91, 49, 93, 41]⟩ = 0 ∧ nestF ⟨#[102, 40, 97, 91, 49, 93, 41]⟩ = 0 := ⟨by kernel_rfl, by kernel_rfl, by kernel_rfl⟩
def fx9q (k : Nat) : Int := [-1, 6, -1, 5, -1, 3, 1, -1].getD k 0
theorem fx9b : (List.range 8).map (nestP ⟨#[102, 40, 97, 91, 49, 93, 41]⟩) = (List.range 8).map fx9q := by kernel_rfl
theorem fx9c : (nestT ⟨#[40, 93]⟩).length = 0 ∧ nestE ⟨#[40, 93]⟩ = 5 ∧ nestF ⟨#[40, 93]⟩ = 1 := ⟨by kernel_rfl, by kernel_rfl, by kernel_rfl⟩
theorem fx9d : nestM ⟨#[97, 40, 98, 41, 123, 99, 91, 49, 93, 125]⟩ = 2 ∧ nestE ⟨#[97, 40, 98, 41, 123, 99, 91, 49, 93, 125]⟩ = 0 ∧ nestF ⟨#[97, 40, 98, 41, 123, 99, 91, 49, 93, 125]⟩ = 0 := ⟨by kernel_rfl, by kernel_rfl, by kernel_rfl⟩
theorem fx9e : ∀ k, k < 8 → nestP ⟨#[102, 40, 97, 91, 49, 93, 41]⟩ k = fx9q k := by
  intro k hk
  have h := congrArg (fun l => l[k]?) fx9b
  simpa [List.getElem?_map, List.getElem?_range hk] using h

set_option maxHeartbeats 4000000 in
theorem fixed9_any (w : World) (hm : Mx w) : Calls Tryz.prog 4 #[] w fun e w' => e = .returned (.bool true) ∧ Below w.heap.size w w' := by
  have Hm := Lib.hid hm
  have H1 := fun w hm => nest_any ⟨#[102, 40, 97, 91, 49, 93, 41]⟩ w hm
  have H2 := fun w hm => nest_any ⟨#[40, 93]⟩ w hm
  have H3 := fun w hm => depth_any ⟨#[97, 40, 98, 41, 123, 99, 91, 49, 93, 125]⟩ w hm
  unfold NstP at H1 H2
  have HP := Lib.hid fx9e
  obtain ⟨a1, a2, a3⟩ := fx9a
  obtain ⟨a4, a5, a6⟩ := fx9c
  obtain ⟨a7, a8, a9⟩ := fx9d
  rw [a1, a2, a3] at H1
  rw [a4, a5, a6] at H2
  rw [a7, a8, a9] at H3
  dsimp only [fauV] at H1 H2 H3
  generalize nestP ⟨#[102, 40, 97, 91, 49, 93, 41]⟩ = P1 at H1 HP
  have H1 := Lib.hid H1
  have H2 := Lib.hid H2
  have H3 := Lib.hid H3
  have q1 := fun w => run_equal_fau w 0 0 0 0
  have q2 := fun w => run_equal_fau w 5 1 5 1
  rw [faEq_self] at q1 q2
  have m2 := guard_fau
  clear hm a1 a2 a3 a4 a5 a6 a7 a8 a9
  go_enter Tryz.func4, Tryz.ntmps4
  go_wp2_with fail
  refine (H1.out _ Hm.out).mono ?_
  rintro e w1 ⟨x1, c1, x2, c2, rfl, i1, i2, b1⟩
  have a1 := (Below.refl w1.heap.size w1).alloc (Nat.le_refl _) (.cells #[.int .i64 0, .int .i64 0] 27)
  have B1 := Lib.hid (b1.alloc b1.size (.cells #[.int .i64 0, .int .i64 0] 27))
  have T1 : Hid (FBox (w1.alloc (.cells #[.int .i64 0, .int .i64 0] 27)) w1.heap.size 0 0) := Lib.hid (heap_alloc_new w1 _)
  have J1 := Lib.hid (i2.keep a1)
  clear b1 i1 i2 a1
  go_wp2_with fail
  refine (H2.out _ (Hm.out.keep B1.out)).mono ?_
  rintro e w2 ⟨y1, d1, y2, d2, rfl, i1, i2, b2⟩
  have b2' := B1.out.trans (b2.mono B1.out.size)
  have a2 := (Below.refl w2.heap.size w2).alloc (Nat.le_refl _) (.cells #[.int .i64 5, .int .i64 1] 27)
  have B2 := Lib.hid (b2'.alloc b2'.size (.cells #[.int .i64 5, .int .i64 1] 27))
  have T2 : Hid (FBox (w2.alloc (.cells #[.int .i64 5, .int .i64 1] 27)) w2.heap.size 5 1) := Lib.hid (heap_alloc_new w2 _)
  have S1 := Lib.hid ((T1.out.keep b2).alloc (.cells #[.int .i64 5, .int .i64 1] 27))
  have J2 := Lib.hid ((J1.out.keep b2).keep a2)
  clear b2 b2' i1 i2 a2
  go_wp2_with fail
  refine (H3.out _ (Hm.out.keep B2.out)).mono ?_
  rintro e w3 ⟨rfl, b3⟩
  have b3' := B2.out.trans (b3.mono B2.out.size)
  have a3 := (Below.refl w3.heap.size w3).alloc (Nat.le_refl _) (.cells #[.int .i64 0, .int .i64 0] 27)
  have B3 := Lib.hid (b3'.alloc b3'.size (.cells #[.int .i64 0, .int .i64 0] 27))
  have T3 : Hid (FBox (w3.alloc (.cells #[.int .i64 0, .int .i64 0] 27)) w3.heap.size 0 0) := Lib.hid (heap_alloc_new w3 _)
  have S2 := Lib.hid ((S1.out.keep b3).alloc (.cells #[.int .i64 0, .int .i64 0] 27))
  have S3 := Lib.hid ((T2.out.keep b3).alloc (.cells #[.int .i64 0, .int .i64 0] 27))
  have J3 := Lib.hid ((J2.out.keep b3).keep a3)
  clear b3 b3' a3
  have hrow := heap_alloc_new (w3.alloc (.cells #[.int .i64 0, .int .i64 0] 27)) (.cells #[.int .i64 (-1), .int .i64 6, .int .i64 (-1), .int .i64 5, .int .i64 (-1), .int .i64 3, .int .i64 1, .int .i64 (-1)] 3)
  rw [World.size_alloc] at hrow
  have R4 : Hid (IsF ((w3.alloc (.cells #[.int .i64 0, .int .i64 0] 27)).alloc (.cells #[.int .i64 (-1), .int .i64 6, .int .i64 (-1), .int .i64 5, .int .i64 (-1), .int .i64 3, .int .i64 1, .int .i64 (-1)] 3)) (some ⟨w3.heap.size + 1, 0, none⟩) 8 fx9q) := Lib.hid (fun _ => ⟨_, rfl, (Array.getElem?_eq_some_iff.1 hrow).1, fun k hk => by
    rw [cell_of_row _ _ k _ _ _ hrow]
    match k, hk with
    | 0, _ => rfl
    | 1, _ => rfl
    | 2, _ => rfl
    | 3, _ => rfl
    | 4, _ => rfl
    | 5, _ => rfl
    | 6, _ => rfl
    | 7, _ => rfl⟩)
  have a4 := (Below.refl (w3.alloc (.cells #[.int .i64 0, .int .i64 0] 27)).heap.size (w3.alloc (.cells #[.int .i64 0, .int .i64 0] 27))).alloc (Nat.le_refl _) (.cells #[.int .i64 (-1), .int .i64 6, .int .i64 (-1), .int .i64 5, .int .i64 (-1), .int .i64 3, .int .i64 1, .int .i64 (-1)] 3)
  have J4 := Lib.hid (J3.out.keep a4)
  have B4 := Lib.hid (B3.out.alloc B3.out.size (.cells #[.int .i64 (-1), .int .i64 6, .int .i64 (-1), .int .i64 5, .int .i64 (-1), .int .i64 3, .int .i64 1, .int .i64 (-1)] 3))
  have S4 := Lib.hid (S2.out.alloc (.cells #[.int .i64 (-1), .int .i64 6, .int .i64 (-1), .int .i64 5, .int .i64 (-1), .int .i64 3, .int .i64 1, .int .i64 (-1)] 3))
  have S5 := Lib.hid (S3.out.alloc (.cells #[.int .i64 (-1), .int .i64 6, .int .i64 (-1), .int .i64 5, .int .i64 (-1), .int .i64 3, .int .i64 1, .int .i64 (-1)] 3))
  have S6 := Lib.hid (T3.out.alloc (.cells #[.int .i64 (-1), .int .i64 6, .int .i64 (-1), .int .i64 5, .int .i64 (-1), .int .i64 3, .int .i64 1, .int .i64 (-1)] 3))
  have p0 := S2.out.c0
  have p1 := S2.out.c1
  clear hrow a4
  go_wp2_with fail
  refine (ints_any x2 _ c2 8 8 P1 fx9q _ J4.out R4.out HP.out (by omega)).mono ?_
  rintro e w4 ⟨rfl, d, rfl⟩
  have p2 := S5.out.c0
  have p3 := S5.out.c1
  have p4 := S6.out.c0
  have p5 := S6.out.c1
  have B5 := Lib.hid (below_drw B4.out d)
  clear p0 p1
  go_wp2
  go_ret
  exact ⟨by simp, B5.out⟩
end Go.Proofs.YtnkgbmnjehpkgabGreat

