/- Contracts of class.Letter, Digit, Blank, Base. -/
import Derived.Test.YtlmhcjomegiibaaClass
import Derived.Deep.WholeRow
namespace Go.Proofs.Ytlmhcjomegiibaa
open Go.RowKit

theorem blank_any (r : Int) (w : World) :
    Calls Try.prog 32 #[.int .i32 r] w fun e w' => e = .returned (.bool (Cm.inB Cm.blanks r)) ∧ Below w.heap.size w w' := by
  have hq := Cm.blank_eq r
  have hb : Below w.heap.size w (w.alloc (.cells (Cm.flat .i32 Cm.blanks).toArray 72)) := (Below.refl _ _).alloc (Nat.le_refl _) _
  have ht : Cm.Tab (w.alloc (.cells (Cm.flat .i32 Cm.blanks).toArray 72)) .i32 w.heap.size Cm.blanks := Cm.tab_of (heap_alloc_new w _)
  have H := within_any w.heap.size 3 Cm.blanks r _ (by decide) ht
  rw [hq] at H
  have HH := Lib.hid H
  clear H hq ht
  go_enter Try.func32, Try.ntmps32
  go_wp2_with fail
  refine HH.out.mono ?_
  rintro e w1 ⟨rfl, h1⟩
  go_wp2
  go_ret
  exact ⟨rfl, hb.trans (h1.mono hb.size)⟩

set_option maxRecDepth 100000 in
set_option maxHeartbeats 8000000 in
theorem digit_any (r : Int) (w : World) :
    Calls Try.prog 30 #[.int .i32 r] w fun e w' => e = .returned (.bool (Cm.inB Cm.digits r)) ∧ Below w.heap.size w w' := by
  have hq := Cm.digit_eq r
  have hb : Below w.heap.size w (w.alloc (.cells (Cm.flat .i32 Cm.digits).toArray 71)) := (Below.refl _ _).alloc (Nat.le_refl _) _
  have ht : Cm.Tab (w.alloc (.cells (Cm.flat .i32 Cm.digits).toArray 71)) .i32 w.heap.size Cm.digits := Cm.tab_of (heap_alloc_new w _)
  have H := within_any w.heap.size 5 Cm.digits r _ (by decide) ht
  rw [hq] at H
  have HH := Lib.hid H
  clear H hq ht
  go_enter Try.func30, Try.ntmps30
  go_wp2_with fail
  refine HH.out.mono ?_
  rintro e w1 ⟨rfl, h1⟩
  go_wp2
  go_ret
  exact ⟨rfl, hb.trans (h1.mono hb.size)⟩

theorem letters_built : ∀ (xs : List (Nat × Value)), xs = (List.range 33).map (fun i => (i, Value.agg #[.int .i32 (Cm.lo Cm.letters i), .int .i32 (Cm.hi Cm.letters i)])) → Try.prog.built 67 xs = some (Cm.flat .i32 Cm.letters).toArray := by
  rintro _ rfl
  kernel_rfl

theorem letters_zero : (Try.prog.info? 67).map (fun i => (i.zero, i.size)) = some (some (.agg (Array.replicate 66 (.int .i32 0))), 66) := by kernel_rfl

theorem letters_size : (Try.prog.info? 67).map (·.size) = some (Cm.flat .i32 Cm.letters).toArray.size := by kernel_rfl
theorem letters_one : (Cm.flat .i32 Cm.letters).toArray.all (·.oneCell') = true := by kernel_rfl

set_option maxRecDepth 100000 in
set_option maxHeartbeats 4000000 in
theorem letter_any (r : Int) (w : World) :
    Calls Try.prog 28 #[.int .i32 r] w fun e w' => e = .returned (.bool (Cm.inB Cm.letters r)) ∧ Below w.heap.size w w' := by
  have hq := Cm.letter_eq r
  have hb : Below w.heap.size w (w.alloc (.cells (Cm.flat .i32 Cm.letters).toArray 67)) := (Below.refl _ _).alloc (Nat.le_refl _) _
  have ht : Cm.Tab (w.alloc (.cells (Cm.flat .i32 Cm.letters).toArray 67)) .i32 w.heap.size Cm.letters := Cm.tab_of (heap_alloc_new w _)
  have H := within_any w.heap.size 33 Cm.letters r _ (by decide) ht
  rw [hq] at H
  have HH := Lib.hid H
  have hz := (zero_of_info letters_zero).1
  clear H hq ht
  go_enter Try.func28, Try.ntmps28
  go_wp2_with (first
    | (refine wpList_build rfl 67 _ rfl (by rw [letters_built _ rfl]; rfl) ?_; rw [letters_built _ rfl])
    | (refine wpList_store_row rfl 67 _ _ rfl w.heap.size (Cm.flat .i32 Cm.letters).toArray rfl rfl 67 (Array.replicate 66 (.int .i32 0)) (heap_alloc_new w _) letters_size rfl letters_one ?_; rw [World.setRow_alloc_new]))
  refine HH.out.mono ?_
  rintro e w1 ⟨rfl, h1⟩
  go_wp2
  go_ret
  exact ⟨rfl, hb.trans (h1.mono hb.size)⟩
end Go.Proofs.Ytlmhcjomegiibaa
