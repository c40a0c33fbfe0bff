/- The walk of the law TermShows. -/
import Derived.Test.YtklmiabgalanhaaGreatDoorTeTree
import Derived.Test.YtklmiabgalanhaaGreatDoorTeLawC
namespace Go.Proofs.YtklmiabgalanhaaGreatDoor
open Go.Shelf Go.RowKit Em Tx Km
set_option maxRecDepth 100000
set_option linter.unusedVariables false
set_option linter.unusedSimpArgs false

/-- What both Shows answer. -/
def ShO (f : FuncId) (x : Option Addr) (c : Nat) (L : List Pt) (S : ByteArray) (E : Int) : Prop :=
  ∀ w, Pw w x L → Snt w → Calls Tryz.prog f #[.slice x L.length c] w fun e w' => e = .returned (.tuple #[.string S, .int .i64 E]) ∧ Below w.heap.size w w'
theorem both_show (x : Option Addr) (c : Nat) (L : List Pt) (hK : ∀ i, i < L.length → (nthP L i).k < 256) (hX : ∀ i, i < L.length → (nthP L i).x.size ≤ 140737488355328) (hs : L.length + wsum L ≤ 2000) :
    ∃ (S : ByteArray) (E : Int), ShO 24 x c L S E ∧ ShO 25 x c L S E := by
  by_cases hw : We L
  · obtain ⟨a, ks, h1, h2, h3⟩ := txL_tree hw hK
    refine ⟨txt (txL L), 0, fun w hr hn => ?_, fun w hr _ => rshow_ok x c L w hr hw hK hs⟩
    have := show_any x c L w hr hw hK hX hn
    rw [shV_ok (by rw [h2]; omega)] at this
    exact this
  · refine ⟨ByteArray.empty, 8, fun w hr _ => ?_, fun w hr _ => ?_⟩
    · exact (show_bad x c L w hr hw).mono fun e w' ⟨p, q⟩ => ⟨p, by rw [q]; exact Below.refl _ _⟩
    · exact (rshow_bad x c L w hr hw).mono fun e w' ⟨p, q⟩ => ⟨p, by rw [q]; exact Below.refl _ _⟩
set_option maxHeartbeats 4000000 in
/-- TermShows. -/
theorem walk_TermShows (a : Option Addr) (len cap : Nat) (Z : List Pt) (w : World) (h : PtArg w a len cap Z) (hz : cap * 32 ≤ 140737488351232 ∧ ∀ i, i < Z.length → (nthP Z i).x.size ≤ 140737488351232) (hs : Snt w) :
    Calls Tryz.prog 6 #[.slice a len cap] w fun e w' => e = .returned (.bool true) ∧ Below w.heap.size w w' := by
  have hl := h.len_eq
  have hR := h.read
  have hlc := h.2.1
  have hk8 := arg_kinds h
  have hx := arg_words h hz.2
  have hx1 : ∀ i, i < (Z.take len).length → (nthP (Z.take len) i).x.size ≤ 140737488351232 := fun i hi => by
    rw [nthP_take (by omega)]; exact hz.2 i (by have := h.1; omega)
  obtain ⟨L, hL⟩ : ∃ L, Z.take len = L := ⟨_, rfl⟩
  rw [hL] at hl hR hk8 hx hx1
  subst hl
  have HGr := Lib.hid (great_any a cap L w hR (by omega) hx1)
  have HS := Lib.hid hs
  have HR := Lib.hid hR
  by_cases hb : 2000 < L.length + wsum L
  · rw [decide_eq_true hb] at HGr
    clear h hz hR hk8 hx hx1 hs hL hb
    go_enter Tryz.func6, Tryz.ntmps6
    go_wp2_with fail
    refine HGr.out.mono ?_
    rintro e w1 ⟨rfl, rfl⟩
    go_wp2_with fail
    refine (fixed11_any _ HS.out).mono ?_
    rintro e w2 ⟨rfl, g2⟩
    have HG := Lib.hid g2
    clear g2
    go_wp2
    go_ret
    exact ⟨rfl, HG.out⟩
  · rw [decide_eq_false hb] at HGr
    obtain ⟨S, E, hA, hB⟩ := both_show a cap L hk8 hx (by omega)
    have HA := Lib.hid hA
    have HB := Lib.hid hB
    have hll : L.length ≤ 2097152 := by omega
    have t1 : (E == E) = true := beq_self_eq_true _
    have t2 : (S.toList == S.toList) = true := beq_self_eq_true _
    clear h hz hR hk8 hx hx1 hs hL hb hA hB
    go_enter Tryz.func6, Tryz.ntmps6
    go_wp2_with fail
    refine HGr.out.mono ?_
    rintro e w1 ⟨rfl, rfl⟩
    go_wp2_with fail
    refine (HA.out _ ⟨HR.out, hll⟩ HS.out).mono ?_
    rintro e w2 ⟨rfl, g2⟩
    have G2 := Lib.hid g2
    clear g2
    go_wp2_with fail
    refine (HB.out _ ⟨HR.out.keep G2.out, hll⟩ (HS.out.keep G2.out)).mono ?_
    rintro e w3 ⟨rfl, g3⟩
    have G3 := Lib.hid (G2.out.trans (g3.mono G2.out.size))
    clear g3
    go_wp2_with fail
    refine (fixed11_any _ (HS.out.keep G3.out)).mono ?_
    rintro e w4 ⟨rfl, g4⟩
    have G4 := Lib.hid (G3.out.trans (g4.mono G3.out.size))
    clear g4
    go_wp2
    go_ret
    exact ⟨rfl, G4.out⟩
end Go.Proofs.YtklmiabgalanhaaGreatDoor
