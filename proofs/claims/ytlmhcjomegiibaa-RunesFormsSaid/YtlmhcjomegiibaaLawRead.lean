/- The walks of the laws RunesRead and RunesForms. -/
import Derived.Test.YtlmhcjomegiibaaFixed
import Derived.Test.YtlmhcjomegiibaaAppendMath
namespace Go.Proofs.Ytlmhcjomegiibaa
open Go.RowKit

theorem rdC_le (s : ByteArray) (n : Nat) (h : n < s.size) : rdC s n ≤ 1114111 := by
  cases hk : Um.okAt s n with
  | false => rw [(rd_bad hk).1]; omega
  | true =>
    rw [(rd_ok hk).1]
    have ho : Utf8.decode s n ≠ (65533, 1) := by unfold Um.okAt at hk; exact of_decide_eq_true hk
    have := (Um.decode_at h ho).1
    unfold Um.okN at this
    unfold Um.chr
    omega

theorem walk_RunesRead (s : ByteArray) (a : Int) (w : World) (w0 : s.size ≤ maxLen) (_w1 : (Lit.int .i64 a).wf = true) :
    Calls Try.prog 3 #[.string s, .int .i64 a] w fun e w' => e = .returned (.bool true) ∧ Below w.heap.size w w' := by
  by_cases h : a < 0 ∨ (s.size : Int) ≤ a
  · go_enter Try.func3, Try.ntmps3
    go_wp2_with fail
    refine (read_no s a w h).mono ?_
    rintro e w1 ⟨rfl, rfl⟩
    go_wp2_with fail
    refine (rread_no s a w h).mono ?_
    rintro e w1 ⟨rfl, rfl⟩
    go_wp2_with fail
    refine (fixed_any w).mono ?_
    rintro e w3 ⟨rfl, h3⟩
    go_wp2
    go_ret
    exact ⟨rfl, h3⟩
  · obtain ⟨n, rfl⟩ := Int.eq_ofNat_of_zero_le (show 0 ≤ a by omega)
    have hn : n < s.size := by simp at h; omega
    have hc := rdC_le s n hn
    clear h
    go_enter Try.func3, Try.ntmps3
    go_wp2_with fail
    refine (read_at s n w hn).mono ?_
    rintro e w1 ⟨rfl, h1⟩
    go_wp2_with fail
    refine (rread_at s n w1 hn (by unfold maxLen at w0; omega)).mono ?_
    rintro e w2 ⟨rfl, h2⟩
    go_wp2_with fail
    refine (fixed_any w2).mono ?_
    rintro e w3 ⟨rfl, h3⟩
    go_wp2
    go_ret
    exact ⟨rfl, (h1.trans (h2.mono h1.size)).trans (h3.mono (Nat.le_trans h1.size h2.size))⟩

theorem chr_of {s : ByteArray} {p c l : Nat} (h : Utf8.decode s p = (c, l)) : Um.chr s p = c := by unfold Um.chr; rw [h]
theorem wid_of {s : ByteArray} {p c l : Nat} (h : Utf8.decode s p = (c, l)) : Um.wid s p = l := by unfold Um.wid; rw [h]
theorem rd_form {c : Nat} (hc : Um.okN c) (b : ByteArray) : rdC (formOf (c : Int) ++ b) 0 = c ∧ rdN (formOf (c : Int) ++ b) 0 = Um.len c := by
  rw [formOf_eq]
  have h := rd_ok (Um.okAt_form hc b)
  exact ⟨h.1.trans (chr_of (Um.decode_form hc b)), h.2.trans (wid_of (Um.decode_form hc b))⟩

theorem fx5 (w : World) : Calls Try.prog 15 #[.string ⟨#[128]⟩, .int .i64 0] w fun e w' => e = .returned (.tuple #[.int .i32 0, .int .i64 0]) ∧ Below w.heap.size w w' := by
  have h := read_at ⟨#[128]⟩ 0 w (by decide)
  have e1 : rdC ⟨#[128]⟩ 0 = 0 := by decide +kernel
  have e2 : rdN ⟨#[128]⟩ 0 = 0 := by decide +kernel
  rw [e1, e2] at h
  exact h

theorem walk_RunesForms (r : Int) (w : World) (w0 : (Lit.int .i32 r).wf = true) :
    Calls Try.prog 4 #[.int .i32 r] w fun e w' => e = .returned (.bool true) ∧ Below w.heap.size w w' := by
  have hb : -2147483648 ≤ r ∧ r ≤ 2147483647 := by simpa [Lit.wf, IntKind.min, IntKind.max, IntKind.signed, IntKind.bits] using w0
  obtain ⟨hb1, hb2⟩ := hb
  cases hv : Utf8.valid r with
  | true =>
    obtain ⟨c, rfl, hc⟩ := Um.okN_of_valid hv
    have hsz : (formOf (c : Int)).size = Um.len c := form_size hc
    have hlen := Um.len_pos c
    have hrd := rd_form hc ⟨#[128]⟩
    have hpos : 0 < (formOf (c : Int) ++ ⟨#[128]⟩).size := by rw [Um.size_append, hsz]; omega
    have hne : (formOf (c : Int)).toList.isEmpty = false := by
      rw [Um.toList_eq]
      have e : (formOf (c : Int)).data.toList.length = Um.len c := by rw [Array.length_toList, ← Um.size_data]; exact hsz
      cases hl : (formOf (c : Int)).data.toList with
      | nil => rw [hl] at e; simp at e; omega
      | cons a b => rfl
    have hq : ((Um.len c : Int) == ((formOf (c : Int)).size : Int)) = true := by rw [hsz]; exact beq_self_eq_true _
    have Hrd := Lib.hid hrd
    have hle : (formOf (c : Int)).size ≤ 4 := by omega
    clear hrd hsz
    go_enter Try.func4, Try.ntmps4
    go_wp2_with fail
    refine (form_any _ w).mono ?_
    rintro e w1 ⟨rfl, rfl⟩
    go_wp2_with fail
    refine (fixed_any w).mono ?_
    rintro e w1 ⟨rfl, h1⟩
    go_wp2_with fail
    refine (rform_any _ w1).mono ?_
    rintro e w2 ⟨rfl, h2⟩
    go_wp2_with fail
    refine (read_at _ 0 w2 hpos).mono ?_
    rw [Hrd.out.1, Hrd.out.2]
    rintro e w3 ⟨rfl, h3⟩
    go_wp2
    go_ret
    exact ⟨rfl, (h1.trans (h2.mono h1.size)).trans (h3.mono (Nat.le_trans h1.size h2.size))⟩
  | false =>
    have hf : formOf r = ByteArray.empty := by unfold formOf; rw [hv]; rfl
    go_enter Try.func4, Try.ntmps4
    go_wp2_with fail
    refine (form_any r w).mono ?_
    rw [hf]
    rintro e w1 ⟨rfl, rfl⟩
    go_wp2_with fail
    refine (fixed_any w).mono ?_
    rintro e w1 ⟨rfl, h1⟩
    go_wp2_with fail
    refine (rform_any r w1).mono ?_
    rw [hf]
    rintro e w2 ⟨rfl, h2⟩
    go_wp2_with fail
    refine (fx5 w2).mono ?_
    rintro e w3 ⟨rfl, h3⟩
    go_wp2_with (go_at_call 20; refine (may_any _ _).mono ?_; rintro e w' ⟨rfl, rfl⟩)
    go_ret
    exact ⟨rfl, (h1.trans (h2.mono h1.size)).trans (h3.mono (Nat.le_trans h1.size h2.size))⟩
end Go.Proofs.Ytlmhcjomegiibaa
