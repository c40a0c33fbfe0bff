/- Contracts of tree.Check, upsFor, End, Up, Over. -/
import Derived.Test.YtklmiabgalanhaaTrUpsW
namespace Go.Proofs.Ytklmiabgalanhaa
open Go.RowKit Km Tm
set_option maxRecDepth 100000
set_option linter.unusedVariables false

/-- A slice held against nil. -/
theorem nil_eq (w : World) (a : Option Addr) (n c : Nat) : (binOp .eql 30 (.slice a n c) (.slice none 0 0)).run Try.prog w = .ok (.bool a.isNone) w := Lib.run_eql_slice_nil w 30 3 a n c 0 0 Try.underlying30
/-- Nodes that came in. -/
def Nw (w : World) (x : Option Addr) (L : List Nd) : Prop := NdI w x L ∧ (L.length + 1) * 24 ≤ 140737488355328 ∧ ∀ i, i < L.length → (nthN L i).c ≤ 9223372036854775807
theorem Nw.keep {w w' : World} {x : Option Addr} {L : List Nd} (h : Nw w x L) (hb : Below w.heap.size w w') : Nw w' x L := ⟨h.1.keep hb, h.2⟩
/-- A tree of as many tokens as may be. -/
def TM (L : List Nd) : Prop := Tr L.length (nthN L) 131072
def upL (L : List Nd) : Nat → Int := up L.length (Kx (nthN L))
def enL (L : List Nd) : Nat → Nat := E L.length (Kx (nthN L))

theorem check_arg (n : Int) (x : Option Addr) (c : Nat) (L : List Nd) (w : World) (hn : n < 0 ∨ 131072 < n) :
    Calls Try.prog 8 #[.slice x L.length c, .int .i64 n] w fun e w' => e = .returned (.int .i64 1) ∧ Below w.heap.size w w' := by
  by_cases h1 : n < 0
  · clear hn
    have hnil := nil_eq
    go_enter Try.func8, Try.ntmps8
    go_wp2
    go_ret
    exact ⟨rfl, Below.refl _ _⟩
  · have h2 : 131072 < n := by omega
    clear hn
    have hnil := nil_eq
    go_enter Try.func8, Try.ntmps8
    go_wp2
    go_ret
    exact ⟨rfl, Below.refl _ _⟩
theorem check_yes (n : Int) (x : Option Addr) (c : Nat) (L : List Nd) (w : World) (h1 : 0 ≤ n) (h2 : n ≤ 131072) (hr : Nw w x L) (ht : Tr L.length (nthN L) n) :
    Calls Try.prog 8 #[.slice x L.length c, .int .i64 n] w fun e w' => e = .returned (.int .i64 0) ∧ Below w.heap.size w w' := by
  have HU := Lib.hid (fun w => ups_any n x c L w)
  have Hr := Lib.hid hr
  have Ht := Lib.hid ht
  clear hr ht
  have hnil := nil_eq
  go_enter Try.func8, Try.ntmps8
  go_wp2_with fail
  refine (HU.out w Hr.out.1 Hr.out.2.1 Hr.out.2.2).mono ?_
  rintro e w1 ⟨a1, a2, b1⟩
  obtain ⟨g, cc, rfl, _⟩ := a1 Ht.out
  have B1 := Lib.hid b1
  clear a1 a2 b1
  go_wp2
  go_ret
  exact ⟨rfl, B1.out⟩
theorem check_no (n : Int) (x : Option Addr) (c : Nat) (L : List Nd) (w : World) (h1 : 0 ≤ n) (h2 : n ≤ 131072) (hr : Nw w x L) (ht : ¬ Tr L.length (nthN L) n) :
    Calls Try.prog 8 #[.slice x L.length c, .int .i64 n] w fun e w' => e = .returned (.int .i64 8) ∧ Below w.heap.size w w' := by
  have HU := Lib.hid (fun w => ups_any n x c L w)
  have Hr := Lib.hid hr
  have Ht := Lib.hid ht
  clear hr ht
  have hnil := nil_eq
  go_enter Try.func8, Try.ntmps8
  go_wp2_with fail
  refine (HU.out w Hr.out.1 Hr.out.2.1 Hr.out.2.2).mono ?_
  rintro e w1 ⟨a1, a2, b1⟩
  obtain rfl := a2 Ht.out
  have B1 := Lib.hid b1
  clear a1 a2 b1
  go_wp2
  go_ret
  exact ⟨rfl, B1.out⟩

theorem upsFor_none (i : Int) (x : Option Addr) (c : Nat) (L : List Nd) (w : World) (hr : Nw w x L) (h : ¬ (0 ≤ i ∧ i < (L.length : Int) ∧ TM L)) :
    Calls Try.prog 26 #[.slice x L.length c, .int .i64 i] w fun e w' => e = .returned (.slice none 0 0) ∧ Below w.heap.size w w' := by
  by_cases h1 : i < 0
  · clear h hr
    go_enter Try.func26, Try.ntmps26
    go_wp2
    go_ret
    exact ⟨rfl, Below.refl _ _⟩
  · by_cases h2 : (L.length : Int) ≤ i
    · clear h hr
      go_enter Try.func26, Try.ntmps26
      go_wp2
      go_ret
      exact ⟨rfl, Below.refl _ _⟩
    · have HU := Lib.hid (fun w => ups_any 131072 x c L w)
      have Hr := Lib.hid hr
      have Ht := Lib.hid (fun t => h ⟨by omega, by omega, t⟩ : ¬ TM L)
      clear hr h
      go_enter Try.func26, Try.ntmps26
      go_wp2_with fail
      refine (HU.out w Hr.out.1 Hr.out.2.1 Hr.out.2.2).mono ?_
      rintro e w1 ⟨a1, a2, b1⟩
      obtain rfl := a2 Ht.out
      have B1 := Lib.hid b1
      clear a1 a2 b1
      go_wp2
      go_ret
      exact ⟨rfl, B1.out⟩
theorem upsFor_some (i : Nat) (x : Option Addr) (c : Nat) (L : List Nd) (w : World) (hr : Nw w x L) (hi : i < L.length) (ht : TM L) :
    Calls Try.prog 26 #[.slice x L.length c, .int .i64 (i : Int)] w fun e w' => ∃ g c2, e = .returned (.slice (some ⟨g, 0, none⟩) L.length c2) ∧ L.length ≤ c2 ∧ (∀ j, j < L.length → w'.cell? ⟨g, j, none⟩ = some (.int .i64 (upL L j))) ∧ Below w.heap.size w w' := by
  have HU := Lib.hid (fun w => ups_any 131072 x c L w)
  have Hr := Lib.hid hr
  have Ht := Lib.hid ht
  have b0 : (0 : Int) ≤ (i : Int) := by omega
  have b1 : (i : Int) < (L.length : Int) := by omega
  clear hr ht
  go_enter Try.func26, Try.ntmps26
  go_wp2_with fail
  refine (HU.out w Hr.out.1 Hr.out.2.1 Hr.out.2.2).mono ?_
  rintro e w1 ⟨a1, a2, b1⟩
  obtain ⟨g, cc, rfl, hc, _, hF⟩ := a1 Ht.out
  obtain ⟨g', hx, _, hF⟩ := hF (by omega)
  have hg : g = g' := by
    have := Option.some.inj hx
    injection this
  subst hg
  have B1 := Lib.hid b1
  have HF := Lib.hid hF
  clear a1 a2 b1 hF hx
  go_wp2
  go_ret
  exact ⟨g, cc, rfl, hc, HF.out, B1.out⟩

theorem end_none (i : Int) (x : Option Addr) (c : Nat) (L : List Nd) (w : World) (hr : Nw w x L) (h : ¬ (0 ≤ i ∧ i < (L.length : Int) ∧ TM L)) :
    Calls Try.prog 11 #[.slice x L.length c, .int .i64 i] w fun e w' => e = .returned (.int .i64 (-1)) ∧ Below w.heap.size w w' := by
  have HU := Lib.hid (upsFor_none i x c L w hr h)
  clear hr h
  have hnil := nil_eq
  go_enter Try.func11, Try.ntmps11
  go_wp2_with fail
  refine HU.out.mono ?_
  rintro e w1 ⟨rfl, b1⟩
  have B1 := Lib.hid b1
  clear b1
  go_wp2
  go_ret
  exact ⟨rfl, B1.out⟩
theorem up_none (i : Int) (x : Option Addr) (c : Nat) (L : List Nd) (w : World) (hr : Nw w x L) (h : ¬ (0 ≤ i ∧ i < (L.length : Int) ∧ TM L)) :
    Calls Try.prog 12 #[.slice x L.length c, .int .i64 i] w fun e w' => e = .returned (.int .i64 (-1)) ∧ Below w.heap.size w w' := by
  have HU := Lib.hid (upsFor_none i x c L w hr h)
  clear hr h
  have hnil := nil_eq
  go_enter Try.func12, Try.ntmps12
  go_wp2_with fail
  refine HU.out.mono ?_
  rintro e w1 ⟨rfl, b1⟩
  have B1 := Lib.hid b1
  clear b1
  go_wp2
  go_ret
  exact ⟨rfl, B1.out⟩
theorem up_some (i : Nat) (x : Option Addr) (c : Nat) (L : List Nd) (w : World) (hr : Nw w x L) (hi : i < L.length) (ht : TM L) :
    Calls Try.prog 12 #[.slice x L.length c, .int .i64 (i : Int)] w fun e w' => e = .returned (.int .i64 (upL L i)) ∧ Below w.heap.size w w' := by
  have HU := Lib.hid (upsFor_some i x c L w hr hi ht)
  have b0 : (0 : Int) ≤ (i : Int) := by omega
  have b1 : (i : Int) < (L.length : Int) := by omega
  clear hr ht
  have hnil := nil_eq
  go_enter Try.func12, Try.ntmps12
  go_wp2_with fail
  refine HU.out.mono ?_
  rintro e w1 ⟨g, c2, rfl, hc, hF, b1⟩
  have h1 := hF i hi
  have B1 := Lib.hid b1
  obtain ⟨U, hU⟩ : ∃ U, upL L i = U := ⟨_, rfl⟩
  rw [hU] at h1
  have HU2 := Lib.hid hU
  clear b1 hF hU
  go_wp2
  go_ret
  exact ⟨by rw [HU2.out]; rfl, B1.out⟩

set_option maxHeartbeats 2000000 in
theorem end_some (i : Nat) (x : Option Addr) (c : Nat) (L : List Nd) (w : World) (hr : Nw w x L) (hi : i < L.length) (ht : TM L) :
    Calls Try.prog 11 #[.slice x L.length c, .int .i64 (i : Int)] w fun e w' => e = .returned (.int .i64 (enL L i : Int)) ∧ Below w.heap.size w w' := by
  have HU := Lib.hid (upsFor_some i x c L w hr hi ht)
  have Hin := Lib.hid (fun j h1 h2 => ht.1.up_in hi (j := j) h1 h2)
  have Hout := Lib.hid (ht.1.up_out hi)
  have hbd := ht.1.all hi
  have e1 : i < enL L i := hbd.2.1
  have e2 : enL L i ≤ L.length := hbd.2.2.1
  have hll := hr.2.1
  have hlb : L.length ≤ 4611686018427387904 := by omega
  change Hid (∀ j, i < j → j < enL L i → (i : Int) ≤ upL L j) at Hin
  change Hid (enL L i < L.length → upL L (enL L i) < (i : Int)) at Hout
  generalize enL L i = EN at *
  clear hbd hr ht hll
  have hnil := nil_eq
  go_enter Try.func11, Try.ntmps11
  go_wp2_with fail
  refine HU.out.mono ?_
  rintro e w1 ⟨g, c2, rfl, hc, hF, b1⟩
  have B1 := Lib.hid b1
  have HF := Lib.hid hF
  clear b1 hF
  go_wp2
  go_loopw [6] (fun jv wr => ∃ j : Nat, i < j ∧ j ≤ EN ∧ jv = .int .i64 (j : Int) ∧ wr = w1) (fun jv _ => L.length - (intOf jv).toNat)
  case atStart => exact ⟨i + 1, by omega, by omega, by go_num, rfl⟩
  case round =>
    obtain ⟨j, h1, h2, rfl, rfl⟩ := hrel
    by_cases hj : j < EN
    · have b0 : (0 : Int) ≤ (j : Int) := by omega
      have b1 : (j : Int) < (L.length : Int) := by omega
      have d1 := HF.out j (by omega)
      have d2 := Hin.out j h1 hj
      generalize upL L j = U at d1 d2
      go_wp2
      go_roundw
      case rel => exact ⟨j + 1, by omega, by omega, by go_num, by first | rfl | trivial⟩
      case measure => simp [intOf]; omega
    · have hje : j = EN := by omega
      subst hje
      by_cases hl : j < L.length
      · have b0 : (0 : Int) ≤ (j : Int) := by omega
        have b1 : (j : Int) < (L.length : Int) := by omega
        have d1 := HF.out j hl
        have d2 := Hout.out hl
        generalize upL L j = U at d1 d2
        go_wp2
        go_ret
        exact ⟨rfl, B1.out⟩
      · have b1 : ¬ (j : Int) < (L.length : Int) := by omega
        go_wp2
        go_ret
        exact ⟨rfl, B1.out⟩
end Go.Proofs.Ytklmiabgalanhaa
