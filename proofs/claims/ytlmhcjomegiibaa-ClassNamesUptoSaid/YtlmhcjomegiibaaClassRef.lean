/- Contracts of the reference's tables of layer 2, and of its 'in'. -/
import Derived.Test.YtlmhcjomegiibaaClass
namespace Go.Proofs.Ytlmhcjomegiibaa
open Go.RowKit

theorem in_any (g c : Nat) (l : List (Int × Int)) (r : Int) (w : World) (hmax : l.length ≤ 1000000) (ht : Cm.Tab w .i64 g l) :
    Calls Try.prog 48 #[.int .i64 r, .slice (some ⟨g, 0, none⟩) l.length c] w fun e w' => e = .returned (.bool (Cm.inB l r)) ∧ w = w' := by
  obtain ⟨hg, ht⟩ := ht
  have Ht := Lib.hid ht
  clear ht
  go_enter Try.func48, Try.ntmps48
  go_wp2
  go_loop [5] (fun i => ∃ k : Nat, k ≤ l.length ∧ i = .int .i64 k ∧ Cm.inB (l.drop k) r = Cm.inB l r) (fun i => l.length - (intOf i).toNat)
  case atStart => exact ⟨0, by omega, rfl, rfl⟩
  case round =>
    obtain ⟨k, hk, rfl, hd⟩ := hrel
    have Hd := Lib.hid hd
    clear hd
    by_cases hlt : k < l.length
    · obtain ⟨c1, c2⟩ := Ht.out k hlt
      have b0 : (0 : Int) ≤ (k : Int) := by omega
      have b1 : (k : Int) < (l.length : Int) := by omega
      have e1 := Cm.drop_at hlt
      have hs : Cm.inB (l.drop k) r = if Cm.lo l k ≤ r ∧ r ≤ Cm.hi l k then true else Cm.inB (l.drop (k + 1)) r := by rw [e1]; rfl
      have Hs := Lib.hid hs
      clear hs e1
      by_cases h1 : Cm.lo l k ≤ r
      · by_cases h2 : r ≤ Cm.hi l k
        · have hfin : Cm.inB l r = true := by rw [← Hd.out, Hs.out, if_pos ⟨h1, h2⟩]
          have Hfin := Lib.hid hfin
          clear hfin
          go_wp2
          go_ret
          exact ⟨ret_bool Hfin.out.symm, rfl⟩
        · go_wp2
          go_round
          case rel => exact ⟨k + 1, by omega, by go_num, by rw [← Hd.out, Hs.out, if_neg (fun h => h2 h.2)]⟩
          case measure => simp [intOf]; omega
      · go_wp2
        go_round
        case rel => exact ⟨k + 1, by omega, by go_num, by rw [← Hd.out, Hs.out, if_neg (fun h => h1 h.1)]⟩
        case measure => simp [intOf]; omega
    · have hfin : Cm.inB l r = false := by rw [← Hd.out, List.drop_of_length_le (by omega)]; rfl
      have Hfin := Lib.hid hfin
      clear hfin
      go_wp2
      go_ret
      exact ⟨ret_bool Hfin.out.symm, rfl⟩

set_option maxRecDepth 100000 in
set_option maxHeartbeats 4000000 in
theorem digits_any (w : World) :
    Calls Try.prog 41 #[] w fun e w' => e = .returned (.slice (some ⟨w.heap.size, 0, none⟩) 5 5) ∧ w' = w.alloc (.cells (Cm.flat .i64 Cm.digits).toArray 53) := by
  go_enter Try.func41, Try.ntmps41
  go_wp2
  go_ret
  exact ⟨rfl, rfl⟩

set_option maxRecDepth 100000 in
set_option maxHeartbeats 4000000 in
theorem letters_any (w : World) :
    Calls Try.prog 40 #[] w fun e w' => e = .returned (.slice (some ⟨w.heap.size, 0, none⟩) 33 33) ∧ w' = w.alloc (.cells (Cm.flat .i64 Cm.letters).toArray 53) := by
  go_enter Try.func40, Try.ntmps40
  go_wp2
  go_ret
  exact ⟨rfl, rfl⟩
end Go.Proofs.Ytlmhcjomegiibaa
