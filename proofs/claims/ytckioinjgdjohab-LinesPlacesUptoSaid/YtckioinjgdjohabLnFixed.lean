/- Two places compared; the laws' helper 'fixed' of layer 4: the document's examples. -/
import Derived.Test.YtckioinjgdjohabLnOff
import Derived.Laws.StructEq
namespace Go.Proofs.Ytckioinjgdjohab
open Go.RowKit Em

def posFields : Array Field := #[⟨"Line", 3, 0, false, "", "", 0⟩, ⟨"Col", 3, 1, false, "", "", 8⟩]
theorem fieldsOf_pos : Try.prog.fieldsOf 33 = posFields := by
  unfold Program.fieldsOf
  rw [Try.underlying33]
  rfl
theorem run_equal_pos (w : World) (l c l' c' : Int) :
    (Op.equalIn 10000 33 (.agg #[.int .i64 l, .int .i64 c]) (.agg #[.int .i64 l', .int .i64 c'])).run Try.prog w = .ok (l == l' && c == c') w := by
  have hp : Try.prog.stoodInHeld 33 = false := by kernel_rfl
  have ha : ∀ w, (isAgg 3).run Try.prog w = .ok false w := fun _ => by kernel_rfl
  rw [run_equalIn_agg (P := Try.prog) w 9999 33 _ _ (by rw [fieldsOf_pos]; exact Try.underlying33) hp, fieldsOf_pos]
  have u3 := Try.underlying3
  simp [posFields, go_sem, u3, ha]
  by_cases h1 : l = l' <;> by_cases h2 : c = c' <;> simp [h1, h2]
theorem guard_pos : Try.prog.eqGuardType Try.prog.depth 33 = false := by kernel_rfl
theorem same_pos (w : World) (l c : Int) : (Op.equalIn 10000 33 (.agg #[.int .i64 l, .int .i64 c]) (.agg #[.int .i64 l, .int .i64 c])).run Try.prog w = .ok true w := by
  rw [run_equal_pos]; simp

def fxT : ByteArray := ⟨#[97, 10, 98, 99, 10]⟩
theorem fx_at : atV fxT 5 = .tuple #[.agg #[.int .i64 3, .int .i64 1], .int .i64 0] := by kernel_rfl
theorem fx_offR : offR fxT 2 3 = 4 := by decide +kernel
theorem fx_offE : offE fxT 2 3 = 0 := by decide +kernel
theorem fx_linT : linT fxT 2 = ⟨#[98, 99]⟩ := by kernel_rfl
theorem fx_linE : linE fxT 2 = 0 := by kernel_rfl
theorem fx_cnt : (starts (bl fxT)).length = 3 := by kernel_rfl

set_option maxRecDepth 100000 in
set_option maxHeartbeats 4000000 in
theorem fixed_any (w : World) : Calls Try.prog 11 #[] w fun e w' => e = .returned (.bool true) ∧ Below w.heap.size w w' := by
  have H1 := at_any fxT 5 w (by decide)
  rw [fx_at] at H1
  change Calls _ _ #[.string ⟨#[97, 10, 98, 99, 10]⟩, .int .i64 5] _ _ at H1
  have hm := guard_pos
  have hq := fun w => same_pos w 3 1
  go_enter Try.func11, Try.ntmps11
  go_wp2_with fail
  refine H1.mono ?_
  rintro e w1 ⟨rfl, b1⟩
  have B1 := Lib.hid b1
  have p1 : PBox (w1.alloc (.cells #[.int .i64 3, .int .i64 1] 33)) w1.heap.size 3 1 := heap_alloc_new w1 _
  have B2 := Lib.hid (b1.alloc b1.size (.cells #[.int .i64 3, .int .i64 1] 33))
  have H2 := off_any fxT 2 3 (w1.alloc (.cells #[.int .i64 3, .int .i64 1] 33)) (by decide)
  rw [fx_offR, fx_offE] at H2
  change Calls _ _ #[.string ⟨#[97, 10, 98, 99, 10]⟩, .agg #[.int .i64 2, .int .i64 3]] _ _ at H2
  have P1 := Lib.hid p1
  clear H1 b1 p1
  go_wp2_with fail
  refine H2.mono ?_
  rintro e w3 ⟨rfl, b3⟩
  have P3 := Lib.hid (P1.out.keep b3)
  have B3 := Lib.hid (B2.out.trans (b3.mono B2.out.size))
  have H3 := line_any fxT 2 w3 (by decide)
  rw [fx_linT, fx_linE] at H3
  change Calls _ _ #[.string ⟨#[97, 10, 98, 99, 10]⟩, .int .i64 2] _ _ at H3
  clear H2 b3 P1
  go_wp2_with fail
  refine H3.mono ?_
  rintro e w4 ⟨rfl, b4⟩
  have p4 := P3.out.keep b4
  have k0 := p4.c0
  have k1 := p4.c1
  have B4 := Lib.hid (B3.out.trans (b4.mono B3.out.size))
  have H4 := count_any fxT w4 (by decide)
  rw [fx_cnt] at H4
  change Calls _ _ #[.string ⟨#[97, 10, 98, 99, 10]⟩] _ _ at H4
  clear H3 b4 P3 p4
  go_wp2_with fail
  refine H4.mono ?_
  rintro e w5 ⟨rfl, rfl⟩
  clear H4
  go_wp2
  go_ret
  exact ⟨rfl, B4.out⟩
end Go.Proofs.Ytckioinjgdjohab
