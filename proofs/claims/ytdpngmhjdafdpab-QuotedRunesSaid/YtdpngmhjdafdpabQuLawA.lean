/- The document's examples; the walks of the laws QuotedFound, QuotedJoins. -/
import Derived.Test.YtdpngmhjdafdpabQuQuote
import Derived.Test.YtdpngmhjdafdpabQuGram
import Derived.Test.YtdpngmhjdafdpabBulk
namespace Go.Proofs.Ytdpngmhjdafdpab
open Go.Shelf Go.RowKit Em
set_option linter.unusedVariables false
set_option linter.unusedSimpArgs false

theorem ex_a : Qm.whole [39, 97, 39] = some (6, [97], []) := by
  rw [Qm.whole39]
  have h1 : Qm.rd [97, 39] = some (97, [39]) := by
    have := Qm.rd_form (c := 97) (Qm.ok_small (by omega)) [39]
    rw [Qm.fm_small (by omega)] at this
    exact this
  have h2 : Qm.rune [97, 39] = some ([97], []) := by
    unfold Qm.rune
    rw [if_neg (by decide), h1]
    simp only [if_neg (show ¬ ((97 : Nat) = 39 ∨ (97 : Nat) = 10) by omega)]
    rw [Qm.close_yes, Qm.fm_small (by omega)]
    rfl
  rw [h2]; rfl
theorem fm_255 : Qm.fm 255 = [195, 191] := by
  rw [Qm.fm_eq, Um.form_list (Qm.ok_small (by omega))]
  decide
theorem ex_b : Qm.whole [39, 92, 51, 55, 55, 39] = some (6, [195, 191], []) := by
  rw [Qm.whole39]
  have h1 : Qm.esc 39 [51, 55, 55, 39] = some (255, true, [39]) := by decide
  have h2 : Qm.rune [92, 51, 55, 55, 39] = some ([195, 191], []) := by
    unfold Qm.rune
    rw [if_pos (by decide)]
    show (match Qm.esc 39 [51, 55, 55, 39] with | some (n, _, r) => Qm.close 39 (Qm.fm n) r | none => none) = _
    rw [h1]
    simp only []
    rw [Qm.close_yes, fm_255]
  rw [h2]; rfl
theorem ex_c : Qm.whole [34, 92, 51, 55, 55, 34] = some (7, [255], []) := by decide
theorem ex_d : txt (quoteL (bl ⟨#[97, 10, 255]⟩)) = ⟨#[34, 97, 92, 110, 92, 120, 102, 102, 34]⟩ := by decide +kernel

theorem bl_b : bl ⟨#[39, 92, 51, 55, 55, 39]⟩ = [39, 92, 51, 55, 55, 39] := rfl
theorem bl_c : bl ⟨#[34, 92, 51, 55, 55, 34]⟩ = [34, 92, 51, 55, 55, 34] := rfl
theorem bl_a : (bl ⟨#[120, 39, 97, 39]⟩).drop 1 = [39, 97, 39] := rfl

set_option maxHeartbeats 2000000 in
theorem fixed6_any (w : World) :
    Calls Try.prog 11 #[] w fun e w' => e = .returned (.bool true) ∧ Below w.heap.size w w' := by
  have S1 := fun w => qscan_yes ⟨#[120, 39, 97, 39]⟩ 1 w (by decide) (by decide +kernel) (by decide)
  have q1 : qK ((bl ⟨#[120, 39, 97, 39]⟩).drop 1) = 6 := by unfold qK wholeK; rw [bl_a, ex_a]
  have q2 : qT (ByteArray.size ⟨#[120, 39, 97, 39]⟩) ((bl ⟨#[120, 39, 97, 39]⟩).drop 1) = 4 := by unfold qT; rw [bl_a, ex_a]; rfl
  have q3 : qE ((bl ⟨#[120, 39, 97, 39]⟩).drop 1) = 0 := by unfold qE; rw [bl_a, ex_a]
  rw [q1, q2, q3] at S1
  have S2 := fun w => value_any ⟨#[39, 92, 51, 55, 55, 39]⟩ w (by decide)
  have v1 : vT ⟨#[39, 92, 51, 55, 55, 39]⟩ = ⟨#[195, 191]⟩ := by unfold vT; rw [bl_b, ex_b]; rfl
  have v2 : vE ⟨#[39, 92, 51, 55, 55, 39]⟩ = 0 := by unfold vE; rw [bl_b, ex_b]
  rw [v1, v2] at S2
  have S3 := fun w => value_any ⟨#[34, 92, 51, 55, 55, 34]⟩ w (by decide)
  have v3 : vT ⟨#[34, 92, 51, 55, 55, 34]⟩ = ⟨#[255]⟩ := by unfold vT; rw [bl_c, ex_c]; rfl
  have v4 : vE ⟨#[34, 92, 51, 55, 55, 34]⟩ = 0 := by unfold vE; rw [bl_c, ex_c]
  rw [v3, v4] at S3
  have S4 := fun w => quote_any ⟨#[97, 10, 255]⟩ w (by decide)
  rw [ex_d] at S4
  clear q1 q2 q3 v1 v2 v3 v4
  go_enter Try.func11, Try.ntmps11
  go_wp2_with fail
  refine (S1 _).mono ?_
  rintro e w1 ⟨rfl, b1⟩
  go_wp2_with fail
  refine (S2 _).mono ?_
  rintro e w2 ⟨rfl, b2⟩
  have c2 := b1.trans (b2.mono b1.size)
  clear b1 b2
  go_wp2_with fail
  refine (S3 _).mono ?_
  rintro e w3 ⟨rfl, b3⟩
  have c3 := c2.trans (b3.mono c2.size)
  clear c2 b3
  go_wp2_with fail
  refine (S4 _).mono ?_
  rintro e w4 ⟨rfl, b4⟩
  have c4 := c3.trans (b4.mono c3.size)
  clear c3 b4
  go_wp2
  go_ret
  exact ⟨rfl, c4⟩

theorem ext_take (s : ByteArray) (n E : Nat) : bl (s.extract n E) = ((bl s).drop n).take (E - n) := by rw [bl_extract, List.drop_take]

set_option maxHeartbeats 4000000 in
theorem walk_QuotedFound (s : ByteArray) (at' : Int) (w : World) (w0 : s.size ≤ 140737488351232) (w1 : (Lit.int .i64 at').wf = true) :
    Calls Try.prog 7 #[.string s, .int .i64 at'] w fun e w' => e = .returned (.bool true) ∧ Below w.heap.size w w' := by
  clear w1
  have bad : ∀ (E : Int), (E = 15 ∨ E = 4) → (∀ w, Calls Try.prog 10 #[.string s, .int .i64 at'] w fun e w' => e = .returned (.tuple #[.int .u8 0, .int .i64 0, .int .i64 E]) ∧ Below w.heap.size w w') →
      Calls Try.prog 7 #[.string s, .int .i64 at'] w fun e w' => e = .returned (.bool true) ∧ Below w.heap.size w w' := by
    intro E hE HS
    rcases hE with rfl | rfl
    all_goals (
      go_enter Try.func7, Try.ntmps7
      go_wp2_with fail
      refine (HS _).mono ?_
      rintro e w1 ⟨rfl, b1⟩
      go_wp2_with fail
      refine (fixed6_any _).mono ?_
      rintro e w2 ⟨rfl, b2⟩
      have c2 := b1.trans (b2.mono b1.size)
      clear b1 b2
      go_wp2_with fail
      refine (fixed6_any _).mono ?_
      rintro e w3 ⟨rfl, b3⟩
      have c3 := c2.trans (b3.mono c2.size)
      go_wp2
      go_ret
      exact ⟨rfl, c3⟩)
  by_cases hno : at' < 0 ∨ (s.size : Int) ≤ at' ∨ ∃ k : Nat, at' = k ∧ k < s.size ∧ mkN (byN s k) = false
  · exact bad 15 (.inl rfl) (fun w => (qscan_no s at' w hno).mono (by rintro e w' ⟨rfl, rfl⟩; exact ⟨rfl, Below.refl _ _⟩))
  · obtain ⟨n, rfl⟩ := Int.eq_ofNat_of_zero_le (show 0 ≤ at' by omega)
    have hn : n < s.size := by omega
    have hm : mkN (byN s n) = true := by
      cases h : mkN (byN s n) with
      | true => rfl
      | false => exact absurd (.inr (.inr ⟨n, rfl, hn, h⟩)) hno
    have HS := fun w => qscan_yes s n w hn hm (by omega)
    cases hx : Qm.whole ((bl s).drop n) with
    | none =>
      have e1 : qK ((bl s).drop n) = 0 := by unfold qK wholeK; rw [hx]
      have e2 : qT s.size ((bl s).drop n) = 0 := by unfold qT; rw [hx]
      have e3 : qE ((bl s).drop n) = 4 := by unfold qE; rw [hx]
      rw [e1, e2, e3] at HS
      exact bad 4 (.inr rfl) HS
    | some y =>
      obtain ⟨K, t, q⟩ := y
      obtain ⟨m, x, h1, h2, h3, h4⟩ := Qm.whole_split hx
      have hlen := congrArg List.length h1
      rw [List.length_drop, bl_size, List.length_cons, List.length_append, List.length_cons] at hlen
      obtain ⟨E, hE⟩ : ∃ E, n + x.length + 2 = E := ⟨_, rfl⟩
      obtain ⟨F, hF⟩ : ∃ F, n + x.length + 1 = F := ⟨_, rfl⟩
      have e1 : qK ((bl s).drop n) = K := by unfold qK wholeK; rw [hx]
      have e2 : qT s.size ((bl s).drop n) = (E : Int) := by unfold qT; rw [hx]; simp only []; omega
      have e3 : qE ((bl s).drop n) = 0 := by unfold qE; rw [hx]
      rw [e1, e2, e3] at HS
      have t1 : ((bl s).drop n).take (E - n) = m :: (x ++ [m]) := by
        rw [h1, show E - n = (m :: (x ++ [m])).length by simp; omega, show m :: (x ++ m :: q) = (m :: (x ++ [m])) ++ q by simp, List.take_left]
      have t2 : ((bl s).drop n).take (F - n) = m :: x := by
        rw [h1, show F - n = (m :: x).length by simp; omega, show m :: (x ++ m :: q) = (m :: x) ++ m :: q by simp, List.take_left]
      have V1 := fun w => value_any (s.extract n E) w (Nat.le_trans (show (s.extract n E).size ≤ s.size by rw [← bl_size, ext_take, ← bl_size]; simp; omega) (by omega))
      have V2 := fun w => value_any (s.extract n F) w (Nat.le_trans (show (s.extract n F).size ≤ s.size by rw [← bl_size, ext_take, ← bl_size]; simp; omega) (by omega))
      have f1 : vE (s.extract n E) = 0 := by unfold vE; rw [ext_take, t1, h2]
      have f2 : vE (s.extract n F) = 4 := by unfold vE; rw [ext_take, t2, h3]
      rw [f1] at V1
      rw [f2] at V2
      have gn : s.get! n = m := by
        have := bl_drop' s n hn
        rw [h1] at this
        have hh := (List.cons.inj this).1
        rw [hh]
        apply UInt8.toNat_inj.1
        rw [byN_get s n hn]; rfl
      have gF : byN s F = m.toNat := by
        have hFs : F < s.size := by omega
        have e5 : ((bl s).drop n)[x.length + 1]? = some m := by rw [h1]; simp
        rw [List.getElem?_drop, show n + (x.length + 1) = F by omega, bl_get s F hFs] at e5
        rw [← byN_get s F hFs, Option.some.inj e5]
      have gn2 : byN s n = m.toNat := by unfold byN; rw [gn]
      have eN := byN_get s n hn
      have hFs : F < s.size := by omega
      have eF := byN_get s F hFs
      rw [gn2] at eN
      rw [gF] at eF
      have lm := m.toNat_lt
      have hKm : (K = 6 ∧ m.toNat = 39) ∨ (K = 7 ∧ m.toNat ≠ 39) := by
        rcases wholeK_pos hx with h | h
        · exact .inl ⟨h, by rw [h4.1 h]; rfl⟩
        · refine .inr ⟨h, fun e => ?_⟩
          have := h4.2 (UInt8.toNat_inj.1 (show m.toNat = (39 : UInt8).toNat from e))
          omega
      have b0 : (0 : Int) ≤ (n : Int) := by omega
      have b1 : ¬ (n : Int) < 0 := by omega
      have D1 : decide ((n : Int) < 0) = false := decide_eq_false (by omega)
      have D2 : decide ((s.size : Int) < (E : Int)) = false := decide_eq_false (by omega)
      have D2' : decide (s.size < E) = false := decide_eq_false (by omega)
      have D3 : decide ((E : Int) < (n : Int) + 2) = false := decide_eq_false (by omega)
      have D3' : decide (E < n + 2) = false := decide_eq_false (by omega)
      have D4 : ((m.toNat : Int) != (m.toNat : Int)) = false := by simp
      have D5 : ((m.toNat : Int) == (m.toNat : Int)) = true := by simp
      have b2 : (n : Int) < (s.size : Int) := by omega
      have b3 : ¬ (s.size : Int) < (E : Int) := by omega
      have b4 : ¬ (E : Int) < (n : Int) + 2 := by omega
      have b5 : (E : Int) - 1 = (F : Int) := by omega
      have b6 : (0 : Int) ≤ (F : Int) := by omega
      have b7 : (F : Int) < (s.size : Int) := by omega
      have b8 : (n : Int) ≤ (E : Int) := by omega
      have b9 : (n : Int) ≤ (F : Int) := by omega
      have b10 : (E : Int) ≤ (s.size : Int) := by omega
      have b11 : (F : Int) ≤ (s.size : Int) := by omega
      have b12 : (F : Nat) ≤ 4611686018427387000 := by omega
      clear bad hno hm hx h1 h2 h3 h4 hlen t1 t2 f1 f2 e1 e2 e3 gn gF gn2 hE hF
      generalize m.toNat = M at eN eF lm hKm D4 D5
      generalize vT (s.extract n E) = A1 at V1
      generalize vT (s.extract n F) = A2 at V2
      rcases hKm with ⟨rfl, rfl⟩ | ⟨rfl, hM⟩
      · go_enter Try.func7, Try.ntmps7
        go_wp2_with fail
        refine (HS _).mono ?_
        rintro e w1 ⟨rfl, c1⟩
        go_wp2_with fail
        refine (fixed6_any _).mono ?_
        rintro e w2 ⟨rfl, d2⟩
        have c2 := c1.trans (d2.mono c1.size)
        clear c1 d2
        go_wp2
        go_quiet (fail)
        have c2' : Below w.heap.size w (w2.drewN nq) := below_drw c2 _
        go_wp2_with fail
        refine (V1 _).mono ?_
        rintro e w3 ⟨rfl, d3⟩
        have c3 := c2'.trans (d3.mono c2.size)
        clear c2 c2' d3
        go_wp2_with fail
        refine (V2 _).mono ?_
        rintro e w4 ⟨rfl, d4⟩
        have c4 := c3.trans (d4.mono c3.size)
        go_wp2
        go_ret
        exact ⟨rfl, c4⟩
      · have m1 : ((M : Int) == 39) = false := beq_eq_false_iff_ne.2 (by omega)
        go_enter Try.func7, Try.ntmps7
        go_wp2_with fail
        refine (HS _).mono ?_
        rintro e w1 ⟨rfl, c1⟩
        go_wp2_with fail
        refine (fixed6_any _).mono ?_
        rintro e w2 ⟨rfl, d2⟩
        have c2 := c1.trans (d2.mono c1.size)
        clear c1 d2
        go_wp2
        go_quiet (fail)
        have c2' : Below w.heap.size w (w2.drewN nq) := below_drw c2 _
        go_wp2_with fail
        refine (V1 _).mono ?_
        rintro e w3 ⟨rfl, d3⟩
        have c3 := c2'.trans (d3.mono c2.size)
        clear c2 c2' d3
        go_wp2_with fail
        refine (V2 _).mono ?_
        rintro e w4 ⟨rfl, d4⟩
        have c4 := c3.trans (d4.mono c3.size)
        go_wp2
        go_ret
        exact ⟨rfl, c4⟩
end Go.Proofs.Ytdpngmhjdafdpab
