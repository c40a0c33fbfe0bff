/- The walk of the law TreeChecks. -/
import Derived.Test.YtklmiabgalanhaaTrArg
import Derived.Test.YtklmiabgalanhaaTrFix
namespace Go.Proofs.Ytklmiabgalanhaa
open Go.RowKit Km Tm
set_option maxRecDepth 100000
set_option linter.unusedVariables false

set_option maxHeartbeats 4000000 in
theorem walk_TreeChecks (a : Option Addr) (len cap : Nat) (Z : List Nd) (n : Int) (w : World) (h : NdArg w a len cap Z) (hz : cap * 40 ≤ 140737488351232) (_ : (Lit.int .i64 n).wf = true) :
    Calls Try.prog 3 #[.slice a len cap, .int .i64 n] w fun e w' => e = .returned (.bool true) ∧ Below w.heap.size w w' := by
  have hl := h.len_eq
  have hn := h.nw hz
  generalize Z.take len = L at hl hn
  subst hl
  clear h hz
  by_cases hbig : 2000 < L.length
  · have b1 : (2000 : Int) < (L.length : Int) := by omega
    clear hn hbig
    go_enter Try.func3, Try.ntmps3
    go_wp2_with fail
    refine (fixed_any w).mono ?_
    rintro e w1 ⟨rfl, hb1⟩
    have B1 := Lib.hid hb1
    clear hb1
    go_wp2
    go_ret
    exact ⟨rfl, B1.out⟩
  · have b1 : ¬ (2000 : Int) < (L.length : Int) := by omega
    have hr : Nr w a L := ⟨hn.1, by omega⟩
    have HN := Lib.hid hn
    have HR := Lib.hid hr
    have m24 : ∀ (w : World), True := fun _ => trivial
    clear hn hr hbig m24
    go_enter Try.func3, Try.ntmps3
    go_wp2_with fail
    refine (fixed_any w).mono ?_
    rintro e w1 ⟨rfl, hb1⟩
    have B1 := Lib.hid hb1
    have N1 := Lib.hid (HN.out.keep hb1)
    have R1 := Lib.hid (HR.out.keep hb1)
    clear hb1
    by_cases c1 : n < 0 ∨ 131072 < n
    · have C1 := Lib.hid c1
      clear c1
      go_wp2_with fail
      refine (check_arg n a cap L w1 C1.out).mono ?_
      rintro e w2 ⟨rfl, hb2⟩
      have B2 := Lib.hid (B1.out.trans (hb2.mono B1.out.size))
      have R2 := Lib.hid (R1.out.keep hb2)
      clear hb2
      go_wp2_with fail
      refine (rcheck_any n a cap L w2 R2.out).mono ?_
      rintro e w3 ⟨a1, a2, a3, hb3⟩
      obtain rfl := a1 C1.out
      have B3 := Lib.hid (B2.out.trans (hb3.mono B2.out.size))
      clear a1 a2 a3 hb3
      go_wp2
      go_ret
      exact ⟨rfl, B3.out⟩
    · have C1 := Lib.hid (And.intro (show 0 ≤ n by omega) (show n ≤ 131072 by omega))
      clear c1
      by_cases ht : Tr L.length (nthN L) n
      · have HT := Lib.hid ht
        clear ht
        go_wp2_with fail
        refine (check_yes n a cap L w1 C1.out.1 C1.out.2 N1.out HT.out).mono ?_
        rintro e w2 ⟨rfl, hb2⟩
        have B2 := Lib.hid (B1.out.trans (hb2.mono B1.out.size))
        have R2 := Lib.hid (R1.out.keep hb2)
        clear hb2
        go_wp2_with fail
        refine (rcheck_any n a cap L w2 R2.out).mono ?_
        rintro e w3 ⟨a1, a2, a3, hb3⟩
        obtain rfl := a2 C1.out.1 C1.out.2 HT.out
        have B3 := Lib.hid (B2.out.trans (hb3.mono B2.out.size))
        clear a1 a2 a3 hb3
        go_wp2
        go_ret
        exact ⟨rfl, B3.out⟩
      · have HT := Lib.hid ht
        clear ht
        go_wp2_with fail
        refine (check_no n a cap L w1 C1.out.1 C1.out.2 N1.out HT.out).mono ?_
        rintro e w2 ⟨rfl, hb2⟩
        have B2 := Lib.hid (B1.out.trans (hb2.mono B1.out.size))
        have R2 := Lib.hid (R1.out.keep hb2)
        clear hb2
        go_wp2_with fail
        refine (rcheck_any n a cap L w2 R2.out).mono ?_
        rintro e w3 ⟨a1, a2, a3, hb3⟩
        obtain rfl := a3 C1.out.1 C1.out.2 HT.out
        have B3 := Lib.hid (B2.out.trans (hb3.mono B2.out.size))
        clear a1 a2 a3 hb3
        go_wp2
        go_ret
        exact ⟨rfl, B3.out⟩
end Go.Proofs.Ytklmiabgalanhaa
