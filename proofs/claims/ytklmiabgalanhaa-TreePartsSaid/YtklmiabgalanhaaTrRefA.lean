/- Contracts of the reference's End and Ends of layer 10. -/
import Derived.Test.YtklmiabgalanhaaTrMem
namespace Go.Proofs.Ytklmiabgalanhaa
open Go.RowKit Km Tm
set_option maxRecDepth 100000
set_option linter.unusedVariables false

def endV (o : Option Nat) : Int := match o with | some e => (e : Int) | none => -1
/-- Nodes that are not too many for the reference. -/
def Nr (w : World) (x : Option Addr) (L : List Nd) : Prop := NdI w x L ∧ L.length ≤ 100000
theorem Nr.keep {w w' : World} {x : Option Addr} {L : List Nd} (h : Nr w x L) (hb : Below w.heap.size w w') : Nr w' x L := ⟨h.1.keep hb, h.2⟩

set_option maxHeartbeats 4000000 in
theorem rend_any (i : Nat) (x : Option Addr) (c : Nat) (L : List Nd) (w : World) (hr : Nr w x L) (hi : i ≤ L.length) :
    Calls Try.prog 20 #[.slice x L.length c, .int .i64 (i : Int)] w fun e w' => e = .returned (.int .i64 (endV (W L.length (Kx (nthN L)) i 1))) ∧ w' = w := by
  have Hr := Lib.hid hr.1
  have hlb := hr.2
  clear hr
  go_enter Try.func20, Try.ntmps20
  go_wp2
  go_loopw [1, 5] (fun jv mv wr => ∃ (j m : Nat), j ≤ L.length ∧ m ≤ 1 + j * 100000 ∧ jv = .int .i64 (j : Int) ∧ mv = .int .i64 (m : Int) ∧ Hid (W L.length (Kx (nthN L)) i 1 = W L.length (Kx (nthN L)) j m) ∧ wr = w) (fun jv _ _ => L.length - (intOf jv).toNat)
  case atStart => exact ⟨i, 1, hi, by omega, rfl, rfl, Lib.hid rfl, rfl⟩
  case round =>
    obtain ⟨j, m, hj, hm, rfl, rfl, HW, rfl⟩ := hrel
    cases m with
    | zero =>
      have Hfin := Lib.hid (HW.out.trans (W_zero j))
      go_wp2
      go_ret
      exact ⟨by rw [Hfin.out]; rfl, rfl⟩
    | succ m =>
      have p0 : (0 : Int) < ((m + 1 : Nat) : Int) := by omega
      have b0 : (0 : Int) ≤ (j : Int) := by omega
      by_cases hlt : j < L.length
      · have b1 : (j : Int) < (L.length : Int) := by omega
        obtain ⟨g, o, rfl, hg, hat⟩ := Hr.out.at (Below.refl _ _) hlt
        have d1 := hat.2.1
        have hK : Kx (nthN L) j = (nthN L j).c := rfl
        have HK := Lib.hid hK
        clear hat hK
        generalize (nthN L j).c = C at d1 HK
        by_cases h1 : C < 0
        · have Hfin := Lib.hid (HW.out.trans (W_no (m := m) (.inr (.inl (by rw [HK.out]; exact h1)))))
          go_wp2
          go_ret
          exact ⟨by rw [Hfin.out]; rfl, rfl⟩
        · by_cases h2 : (L.length : Int) < C
          · have Hfin := Lib.hid (HW.out.trans (W_no (m := m) (.inr (.inr (by rw [HK.out]; exact h2)))))
            go_wp2
            go_ret
            exact ⟨by rw [Hfin.out]; rfl, rfl⟩
          · have Hst := Lib.hid (HW.out.trans (W_go (m := m) hlt (by rw [HK.out]; omega) (by rw [HK.out]; omega)))
            obtain ⟨D, rfl⟩ : ∃ D : Nat, C = (D : Int) := ⟨C.toNat, by omega⟩
            have e3 : IntKind.i64.wrap (((m + 1 : Nat) : Int) - 1) = (m : Int) := by rw [IntKind.wrap_i64]; omega
            have h3 : D ≤ L.length := by omega
            go_wp2
            go_roundw
            case rel => exact ⟨j + 1, m + D, by omega, by omega, by go_num, by go_num, Lib.hid (by rw [Hst.out, HK.out]; rfl), by first | rfl | trivial⟩
            case measure => simp [intOf]; omega
      · have b1 : ¬ (j : Int) < (L.length : Int) := by omega
        have Hfin := Lib.hid (HW.out.trans (W_no (m := m) (.inl (by omega))))
        go_wp2
        go_ret
        exact ⟨by rw [Hfin.out]; rfl, rfl⟩
end Go.Proofs.Ytklmiabgalanhaa
