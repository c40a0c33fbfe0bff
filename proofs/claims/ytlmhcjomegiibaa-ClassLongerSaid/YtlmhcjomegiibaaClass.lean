/- Contracts of class.within and of the reference's in. -/
import Derived.Test.YtlmhcjomegiibaaFixed
import Derived.Test.YtlmhcjomegiibaaClassMath
namespace Go.Proofs.Ytlmhcjomegiibaa
open Go.RowKit

theorem within_any (g c : Nat) (l : List (Int × Int)) (r : Int) (w : World) (hmax : l.length ≤ 1000000) (ht : Cm.Tab w .i32 g l) :
    Calls Try.prog 47 #[.slice (some ⟨g, 0, none⟩) l.length c, .int .i32 r] w fun e w' => e = .returned (.bool (Cm.withinB l r)) ∧ Below w.heap.size w w' := by
  obtain ⟨hg, ht⟩ := ht
  have Ht := Lib.hid ht
  clear ht
  go_enter Try.func47, Try.ntmps47
  go_wp2
  go_loopw [9] (fun i wr => ∃ k : Nat, k ≤ l.length ∧ i = .int .i64 k ∧ Cm.withinB (l.drop k) r = Cm.withinB l r ∧ Below w.heap.size w wr) (fun i _ => l.length - (intOf i).toNat)
  case atStart => exact ⟨0, by omega, rfl, rfl, Below.refl _ _⟩
  case round =>
    obtain ⟨k, hk, rfl, hd, hnx⟩ := hrel
    have Hd := Lib.hid hd
    clear hd
    by_cases hlt : k < l.length
    · obtain ⟨c1, c2⟩ := Ht.out k hlt
      have d1 := (hnx.cell (p := ⟨g, k * 2, none⟩) hg).trans c1
      have d2 := (hnx.cell (p := ⟨g, k * 2 + 1, none⟩) hg).trans c2
      have b0 : (0 : Int) ≤ (k : Int) := by omega
      have b1 : (k : Int) < (l.length : Int) := by omega
      clear c1 c2
      have e1 := Cm.drop_at hlt
      have hs : Cm.withinB (l.drop k) r = if r ≤ Cm.hi l k then decide (Cm.lo l k ≤ r) else Cm.withinB (l.drop (k + 1)) r := by rw [e1]; rfl
      have Hs := Lib.hid hs
      have hsz := hnx.size
      clear hs e1
      by_cases hr : r ≤ Cm.hi l k
      · have hfin : Cm.withinB l r = decide (Cm.lo l k ≤ r) := by rw [← Hd.out, Hs.out, if_pos hr]
        have Hfin := Lib.hid hfin
        clear hfin
        go_wp2
        go_ret
        exact ⟨ret_bool Hfin.out.symm, (hnx.alloc hsz _)⟩
      · go_wp2
        go_roundw
        case rel => exact ⟨k + 1, by omega, by go_num, by rw [← Hd.out, Hs.out, if_neg hr], hnx.alloc hsz _⟩
        case measure => simp [intOf]; omega
    · have hfin : Cm.withinB l r = false := by rw [← Hd.out, List.drop_of_length_le (by omega)]; rfl
      have Hfin := Lib.hid hfin
      clear hfin
      go_wp2
      go_ret
      exact ⟨ret_bool Hfin.out.symm, hnx⟩
end Go.Proofs.Ytlmhcjomegiibaa
