/- Parts in memory; contracts of term.behind, Well, hasPart, End and of the reference's End, Well. -/
import Derived.Test.YtklmiabgalanhaaGreatDoorGen
namespace Go.Proofs.YtklmiabgalanhaaGreatDoor
open Go.RowKit Km
set_option maxRecDepth 100000
set_option linter.unusedVariables false

/-- A part: its kind, how many kids, its word. -/
structure Pt where
  k : Nat
  c : Int
  x : ByteArray
instance : Inhabited Pt := ⟨⟨0, 0, ByteArray.empty⟩⟩
/-- The part of a place. -/
def nthP (L : List Pt) (i : Nat) : Pt := L.getD i ⟨0, 0, ByteArray.empty⟩
theorem nthP_get {L : List Pt} {i : Nat} (h : i < L.length) : nthP L i = L[i] := by simp [nthP, h]
def ptV (p : Pt) : Value := .agg #[.int .u8 (p.k : Int), .int .i64 p.c, .string p.x]
/-- A part at an address. -/
def At3 (w : World) (g o : Nat) (p : Pt) : Prop :=
  w.cell? ⟨g, o, none⟩ = some (.int .u8 (p.k : Int)) ∧ w.cell? ⟨g, o + 1, none⟩ = some (.int .i64 p.c) ∧ w.cell? ⟨g, o + 2, none⟩ = some (.string p.x)
theorem At3.keep {w w' : World} {g o : Nat} {p : Pt} {B : Nat} (h : At3 w g o p) (hb : Below B w w') (hg : g < B) : At3 w' g o p :=
  ⟨(hb.cell hg).trans h.1, (hb.cell hg).trans h.2.1, (hb.cell hg).trans h.2.2⟩
/-- Parts in memory, as they are read. -/
def PtI (w : World) (x : Option Addr) (L : List Pt) : Prop :=
  0 < L.length → ∃ g o, x = some ⟨g, o, none⟩ ∧ g < w.heap.size ∧ ∀ i, i < L.length → At3 w g (o + i * 3) (nthP L i)
theorem PtI.keep {w w' : World} {x : Option Addr} {L : List Pt} (h : PtI w x L) (hb : Below w.heap.size w w') : PtI w' x L := by
  intro hn
  obtain ⟨g, o, hx, hg, hc⟩ := h hn
  exact ⟨g, o, hx, Nat.lt_of_lt_of_le hg hb.size, fun i hi => (hc i hi).keep hb hg⟩
theorem PtI.at {w wr : World} {x : Option Addr} {L : List Pt} (h : PtI w x L) (hb : Below w.heap.size w wr) {k : Nat} (hk : k < L.length) :
    ∃ g o, x = some ⟨g, o, none⟩ ∧ g < w.heap.size ∧ At3 wr g (o + k * 3) (nthP L k) := by
  obtain ⟨g, o, hx, hg, hc⟩ := h (by omega)
  exact ⟨g, o, hx, hg, (hc k hk).keep hb hg⟩
/-- The numbers of kids. -/
def Kp (L : List Pt) : Nat → Int := fun i => (nthP L i).c
/-- Parts that are not too many. -/
def Pw (w : World) (x : Option Addr) (L : List Pt) : Prop := PtI w x L ∧ L.length ≤ 2097152
theorem Pw.keep {w w' : World} {x : Option Addr} {L : List Pt} (h : Pw w x L) (hb : Below w.heap.size w w') : Pw w' x L := ⟨h.1.keep hb, h.2⟩
/-- The list is well. -/
def We (L : List Pt) : Prop := Wl L.length (Kp L)
instance (L : List Pt) : Decidable (We L) := by unfold We; infer_instance

set_option maxHeartbeats 4000000 in
theorem behind_any (i : Nat) (x : Option Addr) (c : Nat) (L : List Pt) (w : World) (hr : Pw w x L) (hi : i ≤ L.length) :
    Calls Tryz.prog 33 #[.slice x L.length c, .int .i64 (i : Int)] w fun e w' => e = .returned (.int .i64 (endV (W L.length (Kp L) i 1))) ∧ w' = w := by
  have Hr := Lib.hid hr.1
  have hlb := hr.2
  clear hr
  go_enter Tryz.func33, Tryz.ntmps33
  go_wp2
  go_loopw [1, 5] (fun jv mv wr => ∃ (j m : Nat), j ≤ L.length ∧ m ≤ 1 + j * 2097152 ∧ jv = .int .i64 (j : Int) ∧ mv = .int .i64 (m : Int) ∧ Hid (W L.length (Kp L) i 1 = W L.length (Kp L) j m) ∧ wr = w) (fun jv _ _ => L.length - (intOf jv).toNat)
  case atStart => exact ⟨i, 1, hi, by omega, rfl, rfl, Lib.hid rfl, rfl⟩
  case round =>
    obtain ⟨j, m, hj, hm, rfl, rfl, HW, rfl⟩ := hrel
    cases m with
    | zero =>
      have Hfin := Lib.hid (HW.out.trans (W_zero j))
      go_wp2
      go_ret
      exact ⟨by rw [Hfin.out]; rfl, rfl⟩
    | succ m =>
      have p0 : (0 : Int) < ((m + 1 : Nat) : Int) := by omega
      have b0 : (0 : Int) ≤ (j : Int) := by omega
      by_cases hlt : j < L.length
      · have b1 : (j : Int) < (L.length : Int) := by omega
        have q1 : ((j : Int) == (L.length : Int)) = false := beq_eq_false_iff_ne.2 (by omega)
        have q2 : (j == L.length) = false := beq_eq_false_iff_ne.2 (by omega)
        obtain ⟨g, o, rfl, hg, hat⟩ := Hr.out.at (Below.refl _ _) hlt
        have d1 := hat.2.1
        have hK : Kp L j = (nthP L j).c := rfl
        have HK := Lib.hid hK
        clear hat hK
        generalize (nthP L j).c = C at d1 HK
        by_cases h1 : C < 0
        · have Hfin := Lib.hid (HW.out.trans (W_no (m := m) (.inr (.inl (by rw [HK.out]; exact h1)))))
          go_wp2
          go_ret
          exact ⟨by rw [Hfin.out]; rfl, rfl⟩
        · by_cases h2 : (L.length : Int) < C
          · have Hfin := Lib.hid (HW.out.trans (W_no (m := m) (.inr (.inr (by rw [HK.out]; exact h2)))))
            go_wp2
            go_ret
            exact ⟨by rw [Hfin.out]; rfl, rfl⟩
          · have Hst := Lib.hid (HW.out.trans (W_go (m := m) hlt (by rw [HK.out]; omega) (by rw [HK.out]; omega)))
            obtain ⟨D, rfl⟩ : ∃ D : Nat, C = (D : Int) := ⟨C.toNat, by omega⟩
            have h3 : D ≤ L.length := by omega
            go_wp2
            go_roundw
            case rel => exact ⟨j + 1, m + D, by omega, by omega, by go_num, by go_num, Lib.hid (by rw [Hst.out, HK.out]; rfl), by first | rfl | trivial⟩
            case measure => simp [intOf]; omega
      · have hje : j = L.length := by omega
        have q1 : ((j : Int) == (L.length : Int)) = true := beq_iff_eq.2 (by omega)
        have q2 : (j == L.length) = true := beq_iff_eq.2 (by omega)
        have Hfin := Lib.hid (HW.out.trans (W_no (m := m) (.inl (by omega))))
        subst hje
        go_wp2
        go_ret
        exact ⟨by rw [Hfin.out]; rfl, rfl⟩

theorem endV_well (L : List Pt) : decide (endV (W L.length (Kp L) 0 1) = (L.length : Int)) = decide (We L) := by
  apply decide_eq_decide.2
  unfold We Wl
  constructor
  · intro h
    cases hW : W L.length (Kp L) 0 1 with
    | none => rw [hW] at h; unfold endV at h; dsimp only at h; omega
    | some e => rw [hW] at h; unfold endV at h; dsimp only at h; congr 1; omega
  · intro h; rw [h]; rfl
theorem well_any (x : Option Addr) (c : Nat) (L : List Pt) (w : World) (hr : Pw w x L) :
    Calls Tryz.prog 13 #[.slice x L.length c] w fun e w' => e = .returned (.bool (decide (We L))) ∧ w' = w := by
  have H1 := Lib.hid (behind_any 0 x c L w hr (Nat.zero_le _))
  have He := endV_well L
  clear hr
  have HeB : Hid ((endV (W L.length (Kp L) 0 1) == (L.length : Int)) = decide (We L)) := Lib.hid (by rw [← He]; rfl)
  clear He
  generalize endV (W L.length (Kp L) 0 1) = EV at H1 HeB
  go_enter Tryz.func13, Tryz.ntmps13
  go_wp2_with fail
  refine H1.out.mono ?_
  rintro e w1 ⟨rfl, rfl⟩
  go_wp2
  go_ret
  exact ⟨by rw [← HeB.out]; rfl, rfl⟩
end Go.Proofs.YtklmiabgalanhaaGreatDoor
