/- Contract of the laws' helper 'same' (layer 1). -/
import Derived.Test.YtlmhcjomegiibaaFixed
import Derived.BigQuiet
import Derived.Deep.QuietTactic
namespace Go.Proofs.Ytlmhcjomegiibaa
open Go.RowKit

theorem same_none (xa xb : Option Addr) (ca cb : Nat) (w : World) :
    Calls Try.prog 25 #[.slice xa 0 ca, .slice xb 0 cb] w fun e w' => e = .returned (.bool true) ∧ Below w.heap.size w w' := by
  go_enter Try.func25, Try.ntmps25
  go_wp2
  refine wp_loop_rounds 1 ?_
  rw [rounds_succ]
  go_wp2
  go_ret
  exact ⟨rfl, Below.refl _ _⟩

theorem same_some (ga gb ca cb n : Nat) (f : Nat → Nat) (w : World) (hn : 0 < n) (hmax : n ≤ 1000000000000) (hf : ∀ i, i < n → f i ≤ 1114111)
    (ha : ∀ i, i < n → w.cell? ⟨ga, i, none⟩ = some (.int .i32 (f i))) (hb : ∀ i, i < n → w.cell? ⟨gb, i, none⟩ = some (.int .i64 (f i))) :
    Calls Try.prog 25 #[.slice (some ⟨ga, 0, none⟩) n ca, .slice (some ⟨gb, 0, none⟩) n cb] w fun e w' => e = .returned (.bool true) ∧ Below w.heap.size w w' := by
  have Ha := Lib.hid ha
  have Hb := Lib.hid hb
  have Hf := Lib.hid hf
  clear ha hb hf
  go_enter Try.func25, Try.ntmps25
  go_wp2
  go_loopw [5] (fun i wr => ∃ k q : Nat, k ≤ n ∧ i = .int .i64 k ∧ wr = w.drewN q) (fun i _ => n - (intOf i).toNat)
  case atStart => exact ⟨0, 0, by omega, rfl, rfl⟩
  case round =>
    obtain ⟨k, q, hk, rfl, rfl⟩ := hrel
    by_cases hlt : k < n
    · have h1 : w.cell? ⟨ga, k, none⟩ = some (.int .i32 (f k)) := Ha.out k hlt
      have h2 : w.cell? ⟨gb, k, none⟩ = some (.int .i64 (f k)) := Hb.out k hlt
      have h3 := Hf.out k hlt
      have b1 : (0 : Int) ≤ (k : Int) := by omega
      have b2 : (k : Int) < (n : Int) := by omega
      have hw : IntKind.i64.wrap ((f k : Nat) : Int) = f k := IntWalk.i64_in _ (by omega)
      go_wp2
      go_quiet (fail)
      clear hw
      go_wp2
      go_roundw
      case rel => exact ⟨k + 1, q + nq, by omega, by go_num, rfl⟩
      case measure => simp [intOf]; omega
    · go_wp2
      go_ret
      exact ⟨rfl, ⟨rfl, rfl, rfl, Nat.le_refl _, fun _ _ => rfl⟩⟩

/-- Two owned rows of the same characters, the one as runes, the other as int64s. -/
theorem same_own (Ba Bb : Nat) (va vb : Value) (L : List Nat) (w : World) (hmax : L.length ≤ 1000000000000) (hL : ∀ c ∈ L, c ≤ 1114111)
    (ha : w.ownsRow Ba 21 1 va L.length (cells .i32 L)) (hb : w.ownsRow Bb 2 1 vb L.length (cells .i64 L)) :
    Calls Try.prog 25 #[va, vb] w fun e w' => e = .returned (.bool true) ∧ Below w.heap.size w w' := by
  by_cases hn : L.length = 0
  · rw [hn] at ha hb
    rcases ha.2 with ⟨rfl, _⟩ | ⟨ga, ca, cura, rfl, _⟩
    · rcases hb.2 with ⟨rfl, _⟩ | ⟨gb, cb, curb, rfl, _⟩
      · exact same_none _ _ _ _ _
      · exact same_none _ _ _ _ _
    · rcases hb.2 with ⟨rfl, _⟩ | ⟨gb, cb, curb, rfl, _⟩
      · exact same_none _ _ _ _ _
      · exact same_none _ _ _ _ _
  · have ka := fun g (h : va.ownBlock = some g) => ha.cells (g := g) h
    have kb := fun g (h : vb.ownBlock = some g) => hb.cells (g := g) h
    rcases ha.2 with ⟨_, h0⟩ | ⟨ga, ca, cura, rfl, _⟩
    · exact absurd h0 hn
    · rcases hb.2 with ⟨_, h0⟩ | ⟨gb, cb, curb, rfl, _⟩
      · exact absurd h0 hn
      · refine same_some ga gb ca cb L.length (fun i => L.getD i 0) w (by omega) hmax ?_ ?_ ?_
        · intro i hi
          have e : L.getD i 0 = L[i] := by simp [hi]
          show L.getD i 0 ≤ _
          rw [e]; exact hL _ (List.getElem_mem hi)
        · intro i hi
          have h := ka ga rfl i (.int .i32 (L.getD i 0 : Nat)) (by simp [cells, hi])
          rw [add_zero] at h
          exact h
        · intro i hi
          have h := kb gb rfl i (.int .i64 (L.getD i 0 : Nat)) (by simp [cells, hi])
          rw [add_zero] at h
          exact h
end Go.Proofs.Ytlmhcjomegiibaa
