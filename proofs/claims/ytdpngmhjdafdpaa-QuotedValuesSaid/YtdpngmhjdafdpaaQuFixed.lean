/- The document's examples; the walks of the laws QuotedFound, QuotedJoins. -/
import Derived.Test.YtdpngmhjdafdpaaQuQuote
import Derived.Test.YtdpngmhjdafdpaaQuGram
import Derived.Test.YtdpngmhjdafdpaaBulk
namespace Go.Proofs.Ytdpngmhjdafdpaa
open Go.Shelf Go.RowKit Em
set_option linter.unusedVariables false
set_option linter.unusedSimpArgs false

theorem ex_a : Qm.whole [39, 97, 39] = some (6, [97], []) := by
  rw [Qm.whole39]
  have h1 : Qm.rd [97, 39] = some (97, [39]) := by
    have := Qm.rd_form (c := 97) (Qm.ok_small (by omega)) [39]
    rw [Qm.fm_small (by omega)] at this
    exact this
  have h2 : Qm.rune [97, 39] = some ([97], []) := by
    unfold Qm.rune
    rw [if_neg (by decide), h1]
    simp only [if_neg (show ¬ ((97 : Nat) = 39 ∨ (97 : Nat) = 10) by omega)]
    rw [Qm.close_yes, Qm.fm_small (by omega)]
    rfl
  rw [h2]; rfl
theorem fm_255 : Qm.fm 255 = [195, 191] := by
  rw [Qm.fm_eq, Um.form_list (Qm.ok_small (by omega))]
  decide
theorem ex_b : Qm.whole [39, 92, 51, 55, 55, 39] = some (6, [195, 191], []) := by
  rw [Qm.whole39]
  have h1 : Qm.esc 39 [51, 55, 55, 39] = some (255, true, [39]) := by decide
  have h2 : Qm.rune [92, 51, 55, 55, 39] = some ([195, 191], []) := by
    unfold Qm.rune
    rw [if_pos (by decide)]
    show (match Qm.esc 39 [51, 55, 55, 39] with | some (n, _, r) => Qm.close 39 (Qm.fm n) r | none => none) = _
    rw [h1]
    simp only []
    rw [Qm.close_yes, fm_255]
  rw [h2]; rfl
theorem ex_c : Qm.whole [34, 92, 51, 55, 55, 34] = some (7, [255], []) := by decide
theorem ex_d : txt (quoteL (bl ⟨#[97, 10, 255]⟩)) = ⟨#[34, 97, 92, 110, 92, 120, 102, 102, 34]⟩ := by decide +kernel

theorem bl_b : bl ⟨#[39, 92, 51, 55, 55, 39]⟩ = [39, 92, 51, 55, 55, 39] := rfl
theorem bl_c : bl ⟨#[34, 92, 51, 55, 55, 34]⟩ = [34, 92, 51, 55, 55, 34] := rfl
theorem bl_a : (bl ⟨#[120, 39, 97, 39]⟩).drop 1 = [39, 97, 39] := rfl

set_option maxHeartbeats 2000000 in
theorem fixed6_any (w : World) :
    Calls Try.prog 19 #[] w fun e w' => e = .returned (.bool true) ∧ Below w.heap.size w w' := by
  have S1 := fun w => qscan_yes ⟨#[120, 39, 97, 39]⟩ 1 w (by decide) (by decide +kernel) (by decide)
  have q1 : qK ((bl ⟨#[120, 39, 97, 39]⟩).drop 1) = 6 := by unfold qK wholeK; rw [bl_a, ex_a]
  have q2 : qT (ByteArray.size ⟨#[120, 39, 97, 39]⟩) ((bl ⟨#[120, 39, 97, 39]⟩).drop 1) = 4 := by unfold qT; rw [bl_a, ex_a]; rfl
  have q3 : qE ((bl ⟨#[120, 39, 97, 39]⟩).drop 1) = 0 := by unfold qE; rw [bl_a, ex_a]
  rw [q1, q2, q3] at S1
  have S2 := fun w => value_any ⟨#[39, 92, 51, 55, 55, 39]⟩ w (by decide)
  have v1 : vT ⟨#[39, 92, 51, 55, 55, 39]⟩ = ⟨#[195, 191]⟩ := by unfold vT; rw [bl_b, ex_b]; rfl
  have v2 : vE ⟨#[39, 92, 51, 55, 55, 39]⟩ = 0 := by unfold vE; rw [bl_b, ex_b]
  rw [v1, v2] at S2
  have S3 := fun w => value_any ⟨#[34, 92, 51, 55, 55, 34]⟩ w (by decide)
  have v3 : vT ⟨#[34, 92, 51, 55, 55, 34]⟩ = ⟨#[255]⟩ := by unfold vT; rw [bl_c, ex_c]; rfl
  have v4 : vE ⟨#[34, 92, 51, 55, 55, 34]⟩ = 0 := by unfold vE; rw [bl_c, ex_c]
  rw [v3, v4] at S3
  have S4 := fun w => quote_any ⟨#[97, 10, 255]⟩ w (by decide)
  rw [ex_d] at S4
  clear q1 q2 q3 v1 v2 v3 v4
  go_enter Try.func19, Try.ntmps19
  go_wp2_with fail
  refine (S1 _).mono ?_
  rintro e w1 ⟨rfl, b1⟩
  go_wp2_with fail
  refine (S2 _).mono ?_
  rintro e w2 ⟨rfl, b2⟩
  have c2 := b1.trans (b2.mono b1.size)
  clear b1 b2
  go_wp2_with fail
  refine (S3 _).mono ?_
  rintro e w3 ⟨rfl, b3⟩
  have c3 := c2.trans (b3.mono c2.size)
  clear c2 b3
  go_wp2_with fail
  refine (S4 _).mono ?_
  rintro e w4 ⟨rfl, b4⟩
  have c4 := c3.trans (b4.mono c3.size)
  clear c3 b4
  go_wp2
  go_ret
  exact ⟨rfl, c4⟩

end Go.Proofs.Ytdpngmhjdafdpaa
