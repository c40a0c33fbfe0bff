/- The walk of the law NumberScans. -/
import Derived.Test.YtdpngmhjdafdpaaNuRScan
import Derived.Test.YtdpngmhjdafdpaaNuLawA
namespace Go.Proofs.Ytdpngmhjdafdpaa
open Go.RowKit Em
set_option linter.unusedVariables false
set_option linter.unusedSimpArgs false

theorem walk_NumberScans (s : ByteArray) (at' : Int) (w : World) (w0 : s.size ≤ maxLen) (w1 : (Lit.int .i64 at').wf = true) :
    Calls Try.prog 4 #[.string s, .int .i64 at'] w fun e w' => e = .returned (.bool true) ∧ Below w.heap.size w w' := by
  by_cases h : s.size ≤ 400
  · have h4 : ¬ (400 : Int) < (s.size : Int) := by omega
    have HK := fun w => scan_any s at' w (by omega)
    have HR := fun w => rscan_any s at' w (by omega)
    generalize scanK s at' = K at HK HR
    generalize scanT s at' = T at HK HR
    generalize scanE s at' = E at HK HR
    clear w0 w1
    go_enter Try.func4, Try.ntmps4
    go_wp2_with fail
    refine (HK _).mono ?_
    rintro e w2 ⟨rfl, b2⟩
    go_wp2_with fail
    refine (HR _).mono ?_
    rintro e w3 ⟨rfl, rfl⟩
    go_wp2_with fail
    refine (fixed5_any _).mono ?_
    rintro e w1 ⟨rfl, b1⟩
    go_wp2
    go_ret
    exact ⟨rfl, b2.trans (b1.mono b2.size)⟩
  · have h4 : (400 : Int) < (s.size : Int) := by omega
    go_enter Try.func4, Try.ntmps4
    go_wp2_with fail
    refine (fixed5_any w).mono ?_
    rintro e w1 ⟨rfl, b1⟩
    go_wp2
    go_ret
    exact ⟨rfl, b1⟩

end Go.Proofs.Ytdpngmhjdafdpaa
