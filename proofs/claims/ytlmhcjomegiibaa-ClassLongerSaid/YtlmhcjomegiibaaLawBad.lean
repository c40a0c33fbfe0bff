/- The walk of the law RunesBad. -/
import Derived.Test.YtlmhcjomegiibaaSame
import Derived.Test.YtlmhcjomegiibaaAppendMath
namespace Go.Proofs.Ytlmhcjomegiibaa
open Go.RowKit

theorem chs_ok (s : ByteArray) : ∀ f p, ∀ c ∈ Um.chs s f p, Um.okN c
  | 0, p, c, h => by simp [Um.chs] at h
  | f + 1, p, c, h => by
    by_cases hp : p < s.size
    · cases hk : Um.okAt s p with
      | false => rw [Um.chs_bad hk] at h; simp at h
      | true =>
        rw [Um.chs_step hp hk] at h
        have ho : Utf8.decode s p ≠ (65533, 1) := by unfold Um.okAt at hk; exact of_decide_eq_true hk
        rcases List.mem_cons.1 h with rfl | h
        · exact (Um.decode_at hp ho).1
        · exact chs_ok s f _ c h
    · rw [Um.chs_end hp] at h; simp at h

theorem allC_ok (s : ByteArray) : ∀ c ∈ Um.allC s, Um.okN c := by
  intro c h
  unfold Um.allC at h
  split at h
  · exact chs_ok s _ _ c h
  · simp at h

theorem allC_le (s : ByteArray) : ∀ c ∈ Um.allC s, c ≤ 1114111 := fun c h => by have := allC_ok s c h; unfold Um.okN at this; omega

theorem walk_RunesBad (s : ByteArray) (w : World) (hs : s.size ≤ 1048576) :
    Calls Try.prog 5 #[.string s] w fun e w' => e = .returned (.bool true) ∧ Below w.heap.size w w' := by
  have hlen := Um.allC_length s
  go_enter Try.func5, Try.ntmps5
  go_wp2_with fail
  refine (all_any s w (by omega)).mono ?_
  rintro e w1 ⟨va, rfl, ha, h1⟩
  go_wp2_with fail
  refine (rall_any s w1 (by omega)).mono ?_
  rintro e w2 ⟨vb, rfl, hb, h2⟩
  have ha2 := owns_below ha h2
  go_wp2_with fail
  refine (fixed_any w2).mono ?_
  rintro e w3 ⟨rfl, h3⟩
  have ha3 := owns_below ha2 h3
  have hb3 := owns_below hb h3
  go_wp2_with fail
  refine (bad_any s w3).mono ?_
  rintro e w4 ⟨rfl, h4⟩
  have ha4 := owns_below ha3 h4
  have hb4 := owns_below hb3 h4
  go_wp2_with fail
  refine (rbad_any s w4 (by omega)).mono ?_
  rintro e w5 ⟨rfl, h5⟩
  have ha5 := owns_below ha4 h5
  have hb5 := owns_below hb4 h5
  go_wp2_with fail
  refine (same_own _ _ va vb (Um.allC s) w5 (by omega) (allC_le s) ha5 hb5).mono ?_
  rintro e w6 ⟨rfl, h6⟩
  go_wp2
  go_ret
  have s1 := h1.size; have s2 := h2.size; have s3 := h3.size; have s4 := h4.size; have s5 := h5.size
  exact ⟨rfl, ((((h1.trans (h2.mono (by omega))).trans (h3.mono (by omega))).trans (h4.mono (by omega))).trans (h5.mono (by omega))).trans (h6.mono (by omega))⟩
end Go.Proofs.Ytlmhcjomegiibaa
