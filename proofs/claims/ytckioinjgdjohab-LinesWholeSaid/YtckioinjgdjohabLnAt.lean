/- Contracts of lines.At and of the reference's At. -/
import Derived.Test.YtckioinjgdjohabLnLine
import Derived.RegionTactic
import Derived.Deep.RegionHeld3
namespace Go.Proofs.Ytckioinjgdjohab
open Go.RowKit Em Go.Sort

set_option maxHeartbeats 1000000 in
/-- The closure that sort.Search asks. -/
theorem ask_any (bx bo : Nat) (x : Option Addr) (c : Nat) (S : List Nat) (o : Nat) (i : Nat) (w : World) (hi : i < S.length)
    (hx : w.cell? ⟨bx, 0, none⟩ = some (.slice x S.length c)) (ho : w.cell? ⟨bo, 0, none⟩ = some (.int .i64 (o : Nat))) (hr : RowN w x S) :
    Calls Try.prog 24 #[.int .i64 i, .pointer (some ⟨bx, 0, none⟩), .pointer (some ⟨bo, 0, none⟩)] w fun e w' => e = .returned (.bool (decide (o < nthN S i))) ∧ ∃ q, w' = w.drewN q := by
  obtain ⟨g, rfl, hg, hc⟩ := hr (by omega)
  have c1 := hc i hi
  clear hc
  generalize nthN S i = G at c1 ⊢
  have b0 : (0 : Int) ≤ (i : Int) := by omega
  have b1 : (i : Int) < (S.length : Int) := by omega
  go_enter Try.func24, Try.ntmps24
  go_wp2
  go_quiet (fail)
  go_wp2
  go_ret
  exact ⟨by simp, nq, rfl⟩

/-- Counting what lies on one side. -/
theorem countP_side (n m : Nat) (p : Nat → Bool) (hm : m ≤ n) (h : ∀ i, i < n → (p i = true ↔ i < m)) : (List.range n).countP p = m := by
  have e : (List.range n).countP p = (List.range n).countP (fun i => decide (i < m)) := by
    apply List.countP_congr
    intro i hi
    rw [h i (List.mem_range.1 hi)]
    simp
  rw [e]
  have : ∀ n, (List.range n).countP (fun i => decide (i < m)) = min n m := by
    intro n
    induction n with
    | zero => simp
    | succ n ih =>
      rw [List.range_succ, List.countP_append, ih]
      by_cases hc : n < m
      · simp [hc]; omega
      · simp [hc]; omega
  rw [this n]; omega

theorem search_any (bx bo : Nat) (x : Option Addr) (c : Nat) (s : ByteArray) (o : Nat) (w : World) (ho' : o ≤ s.size) (hs : s.size ≤ 1099511627776)
    (hx : w.cell? ⟨bx, 0, none⟩ = some (.slice x (starts (bl s)).length c)) (ho : w.cell? ⟨bo, 0, none⟩ = some (.int .i64 (o : Nat))) (hr : RowN w x (starts (bl s))) :
    Calls Try.prog 23 #[.int .i64 ((starts (bl s)).length : Nat), .func (.func 24) #[] #[.pointer (some ⟨bx, 0, none⟩), .pointer (some ⟨bo, 0, none⟩)]] w fun e w' => e = .returned (.int .i64 (ln (bl s) o : Nat)) ∧ Below w.heap.size w w' := by
  have hm := starts_most s
  have hol : o ≤ (bl s).length := by rw [bl_size]; exact ho'
  have eg : ∀ args w, (callFunc 24 args).run Try.prog w = .ok (.enter 24 args) w := enters_of Try.func24 (by kernel_rfl) rfl
  have side := starts_side (bl s) o hol
  have hbel : ∀ m os, Below w.heap.size w (grow (w.drewN m) os) := fun m os => below_grown_sl w.heap.size w m os (Nat.le_refl _)
  have hS := Any.sort_Search seaLays 24 #[.pointer (some ⟨bx, 0, none⟩), .pointer (some ⟨bo, 0, none⟩)] (starts (bl s)).length (fun i => decide (o < nthN (starts (bl s)) i)) w eg (by omega)
    (fun m os i hi => (ask_any bx bo x c (starts (bl s)) o i _ hi
      (((hbel m os).cell (World.block_lt_of_cell? w _ hx)).trans hx) (((hbel m os).cell (World.block_lt_of_cell? w _ ho)).trans ho) (hr.keep (hbel m os))).mono
      fun _ _ ⟨he, q, hq⟩ => ⟨he, q, #[], by rw [hq, grow_empty]⟩)
    (fun a b hab hb h => by
      have h1 := of_decide_eq_true h
      refine decide_eq_true ?_
      have sa := side a (by omega)
      have sb := side b hb
      omega)
  have hcnt : (List.range (starts (bl s)).length).countP (fun i => !decide (o < nthN (starts (bl s)) i)) = ln (bl s) o :=
    countP_side _ _ _ (ln_le (bl s) o hol) (fun i hi => by
      have := side i hi
      simp; omega)
  rw [hcnt] at hS
  exact hS.mono fun _ _ ⟨he, q, os, hw⟩ => ⟨he, by rw [hw]; exact below_grown_sl w.heap.size w q os (Nat.le_refl _)⟩
end Go.Proofs.Ytckioinjgdjohab
