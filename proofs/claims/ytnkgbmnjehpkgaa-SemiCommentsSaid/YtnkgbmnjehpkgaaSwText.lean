/- The reference's Text; a token's text. -/
import Derived.Test.YtnkgbmnjehpkgaaSwWr
import Derived.Test.YtnkgbmnjehpkgaaSeLawC
import Derived.Deep.CutRange
import Derived.Deep.RegionWith
import Derived.Deep.RegionHeld3
namespace Go.Proofs.Ytnkgbmnjehpkgaa
open Go.RowKit Em
set_option maxRecDepth 100000
set_option linter.unusedVariables false

/-- A token's text. -/
def tokS (s : ByteArray) (k f t : Nat) : ByteArray := if k = 9 then ⟨#[59]⟩ else s.extract f t
theorem tokS_bl (s : ByteArray) (t : Sc.Tk) : bl (tokS s t.k t.f t.t) = (tokX s t).2 := by
  unfold tokS tokX
  by_cases h : t.k = 9
  · rw [if_pos h]; dsimp only; rw [if_pos h]; rfl
  · rw [if_neg h]; dsimp only; rw [if_neg h, cutT_ext]
theorem tokS_size (s : ByteArray) (k f t : Nat) : (tokS s k f t).size ≤ s.size + 1 := by
  unfold tokS
  split
  · show 1 ≤ _; omega
  · rw [ByteArray.size_extract]; omega

theorem text_any (s : ByteArray) (K F U : Nat) (w : World) (h1 : F ≤ U) (h2 : U ≤ s.size) :
    Calls Try.prog 22 #[.string s, .agg #[.int .u8 K, .int .i64 F, .int .i64 U]] w fun e w' => e = .returned (.string (tokS s K F U)) ∧ Below w.heap.size w w' := by
  by_cases h9 : K = 9
  · subst h9
    rw [show tokS s 9 F U = ⟨#[59]⟩ from if_pos rfl]
    go_enter Try.func22, Try.ntmps22
    go_wp2
    go_ret
    exact ⟨rfl, (Below.refl _ _).alloc (Nat.le_refl _) _⟩
  · rw [show tokS s K F U = s.extract F U from if_neg h9]
    have n9 : ((K : Int) == 9) = false := beq_eq_false_iff_ne.2 (by omega)
    have l0 : (0 : Int) ≤ (F : Int) := by omega
    have l1 : (F : Int) ≤ (U : Int) := by omega
    have l2 : (U : Int) ≤ (s.size : Int) := by omega
    go_enter Try.func22, Try.ntmps22
    go_wp2
    go_ret
    exact ⟨rfl, (Below.refl _ _).alloc (Nat.le_refl _) _⟩

end Go.Proofs.Ytnkgbmnjehpkgaa

