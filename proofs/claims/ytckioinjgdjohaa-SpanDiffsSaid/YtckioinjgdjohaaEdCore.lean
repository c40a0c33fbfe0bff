/- Edits in memory; contracts of span.grown, span.stand, Check, check and of the reference's Stand, Check. -/
import Derived.Test.YtckioinjgdjohaaRows
import Derived.Test.YtckioinjgdjohaaEdMath
import Derived.WalkKit
import Derived.WalkSpells
import Derived.WalkLawsBesides
import Derived.Outline
import Derived.Lib.Hide
import Derived.BigQuiet
import Derived.Deep.QuietTactic
namespace Go.Proofs.Ytckioinjgdjohaa
open Go.RowKit Em

/-- The edit of a place. -/
def nthE (L : List Ed) (i : Nat) : Ed := L.getD i ⟨0, 0, ByteArray.empty⟩
theorem drop_nth {L : List Ed} {k : Nat} (h : k < L.length) : L.drop k = nthE L k :: L.drop (k + 1) := by
  rw [List.drop_eq_getElem_cons h]
  simp [nthE, h]

/-- Edits in memory, as they are read. -/
def EdI (w : World) (x : Option Addr) (L : List Ed) : Prop :=
  0 < L.length → ∃ g o, x = some ⟨g, o, none⟩ ∧ g < w.heap.size ∧ ∀ i, i < L.length →
    w.cell? ⟨g, o + i * 3, none⟩ = some (.int .i64 (nthE L i).f) ∧ w.cell? ⟨g, o + i * 3 + 1, none⟩ = some (.int .i64 (nthE L i).t) ∧ w.cell? ⟨g, o + i * 3 + 2, none⟩ = some (.string (nthE L i).x)

theorem EdI.below {w w' : World} {x : Option Addr} {L : List Ed} {B : Nat} (h : EdI w x L) (hb : Below B w w') (hB : ∀ g o, x = some ⟨g, o, none⟩ → g < B) : EdI w' x L := by
  intro hn
  obtain ⟨g, o, hx, hg, hc⟩ := h hn
  have hl := hB g o hx
  exact ⟨g, o, hx, Nat.lt_of_lt_of_le hg hb.size, fun i hi => ⟨(hb.cell hl).trans (hc i hi).1, (hb.cell hl).trans (hc i hi).2.1, (hb.cell hl).trans (hc i hi).2.2⟩⟩
theorem EdI.keep {w w' : World} {x : Option Addr} {L : List Ed} (h : EdI w x L) (hb : Below w.heap.size w w') : EdI w' x L := by
  intro hn
  obtain ⟨g, o, hx, hg, hc⟩ := h hn
  exact ⟨g, o, hx, Nat.lt_of_lt_of_le hg hb.size, fun i hi => ⟨(hb.cell hg).trans (hc i hi).1, (hb.cell hg).trans (hc i hi).2.1, (hb.cell hg).trans (hc i hi).2.2⟩⟩

theorem ret_int {k : IntKind} {a b : Int} (h : a = b) : Ending.returned (.int k a) = .returned (.int k b) := by rw [h]
theorem ret_bool {a b : Bool} (h : a = b) : Ending.returned (.bool a) = .returned (.bool b) := by rw [h]

/-- What stand answers. -/
def errS (n : Int) (L : List Ed) : Int := if sd n 0 L = true then 0 else 13

/-- The cells of a place, read later. -/
theorem EdI.at {w wr : World} {x : Option Addr} {L : List Ed} (h : EdI w x L) (hb : Below w.heap.size w wr) {k : Nat} (hk : k < L.length) :
    ∃ g o f t s, x = some ⟨g, o, none⟩ ∧ g < w.heap.size ∧ nthE L k = ⟨f, t, s⟩ ∧ wr.cell? ⟨g, o + k * 3, none⟩ = some (.int .i64 f) ∧ wr.cell? ⟨g, o + k * 3 + 1, none⟩ = some (.int .i64 t) ∧ wr.cell? ⟨g, o + k * 3 + 2, none⟩ = some (.string s) := by
  obtain ⟨g, o, hx, hg, hc⟩ := h (by omega)
  obtain ⟨c0, c1, c2⟩ := hc k hk
  exact ⟨g, o, _, _, _, hx, hg, rfl, (hb.cell hg).trans c0, (hb.cell hg).trans c1, (hb.cell hg).trans c2⟩

set_option maxHeartbeats 1000000 in
theorem stand_any (n : Int) (x : Option Addr) (c : Nat) (L : List Ed) (w : World) (hr : EdI w x L) (hl : L.length ≤ 4611686018427387904) :
    Calls Try.prog 24 #[.int .i64 n, .slice x L.length c] w fun e w' => e = .returned (.int .i64 (errS n L)) ∧ Below w.heap.size w w' := by
  have Hr := Lib.hid hr
  clear hr
  go_enter Try.func24, Try.ntmps24
  go_wp2
  go_loopw [5, 10] (fun e i wr => ∃ (k : Nat) (p : Int), k ≤ L.length ∧ i = .int .i64 k ∧ e = .int .i64 p ∧ sd n p (L.drop k) = sd n 0 L ∧ Below w.heap.size w wr) (fun _ i _ => L.length - (intOf i).toNat)
  case atStart => exact ⟨0, 0, by omega, rfl, rfl, rfl, Below.refl _ _⟩
  case round =>
    obtain ⟨k, p, hk, rfl, rfl, hsd, hb⟩ := hrel
    have Hsd := Lib.hid hsd
    clear hsd
    by_cases hlt : k < L.length
    · obtain ⟨g, o, f, t, s, rfl, hg, he, d0, d1, d2⟩ := Hr.out.at hb hlt
      have HE := Lib.hid (drop_nth hlt)
      rw [he] at HE
      have Hb := Lib.hid hb
      have hgs := hb.size
      clear hb he
      have b0 : (0 : Int) ≤ (k : Int) := by omega
      have b1 : (k : Int) < (L.length : Int) := by omega
      by_cases h1 : f < p
      · have hfin : errS n L = 13 := by unfold errS; rw [← Hsd.out, HE.out, sd_no (.inl h1)]; rfl
        have Hfin := Lib.hid hfin
        clear hfin
        go_wp2
        go_ret
        exact ⟨ret_int Hfin.out.symm, Hb.out.alloc hgs _⟩
      · by_cases h2 : t < f
        · have hfin : errS n L = 13 := by unfold errS; rw [← Hsd.out, HE.out, sd_no (.inr (.inl h2))]; rfl
          have Hfin := Lib.hid hfin
          clear hfin
          go_wp2
          go_ret
          exact ⟨ret_int Hfin.out.symm, Hb.out.alloc hgs _⟩
        · by_cases h3 : n < t
          · have hfin : errS n L = 13 := by unfold errS; rw [← Hsd.out, HE.out, sd_no (.inr (.inr h3))]; rfl
            have Hfin := Lib.hid hfin
            clear hfin
            go_wp2
            go_ret
            exact ⟨ret_int Hfin.out.symm, Hb.out.alloc hgs _⟩
          · have hst : sd n t (L.drop (k + 1)) = sd n 0 L := by
              rw [← Hsd.out, HE.out, sd_step (show p ≤ f by omega) (show f ≤ t by omega) (show t ≤ n by omega)]
            have Hst := Lib.hid hst
            clear hst
            go_wp2
            go_roundw
            case rel => exact ⟨k + 1, t, by omega, by go_num, rfl, Hst.out, Hb.out.alloc hgs _⟩
            case measure => simp [intOf]; omega
    · have hfin : errS n L = 0 := by
        have : L.drop k = [] := List.drop_of_length_le (by omega)
        unfold errS; rw [← Hsd.out, this]; rfl
      have Hfin := Lib.hid hfin
      clear hfin
      go_wp2
      go_ret
      exact ⟨ret_int Hfin.out.symm, hb⟩

theorem at_prev {L : List Ed} {k : Nat} {E : Ed} {t : Int} (h : nthE L k = E) (ht : E.t = t) : ∀ j, k + 1 = j + 1 → t = (nthE L j).t := fun j hj => by
  cases hj; rw [h]; exact ht.symm
theorem below_drew {B : Nat} {w wr : World} (h : Below B w wr) : Below B w wr.drew := ⟨h.os, h.tape, h.output, h.size, fun i hi => h.block i hi⟩
theorem below_draw {B : Nat} {w wr : World} (h : Below B w wr) (n : Nat) : Below B w (wr.drewN n) := ⟨h.os, h.tape, h.output, h.size, fun i hi => h.block i hi⟩

set_option maxHeartbeats 2000000 in
theorem rstand_any (n : Int) (x : Option Addr) (c : Nat) (L : List Ed) (w : World) (hr : EdI w x L) (hl : L.length ≤ 4611686018427387904) :
    Calls Try.prog 25 #[.int .i64 n, .slice x L.length c] w fun e w' => e = .returned (.bool (sd n 0 L)) ∧ Below w.heap.size w w' := by
  have Hr := Lib.hid hr
  clear hr
  go_enter Try.func25, Try.ntmps25
  go_wp2
  go_loopw [5] (fun i wr => ∃ (k : Nat) (p : Int), k ≤ L.length ∧ i = .int .i64 k ∧ 0 ≤ p ∧ (k = 0 → p = 0) ∧ (∀ j, k = j + 1 → p = (nthE L j).t) ∧ sd n p (L.drop k) = sd n 0 L ∧ Below w.heap.size w wr) (fun i _ => L.length - (intOf i).toNat)
  case atStart => exact ⟨0, 0, by omega, rfl, by omega, fun _ => rfl, fun j h => by omega, rfl, Below.refl _ _⟩
  case round =>
    obtain ⟨k, p, hk, rfl, hp, hp0, hpj, hsd, hb⟩ := hrel
    have Hsd := Lib.hid hsd
    have Hp0 := Lib.hid hp0
    have Hpj := Lib.hid hpj
    clear hsd hp0 hpj
    by_cases hlt : k < L.length
    · obtain ⟨g, o, f, t, s, rfl, hg, he, d0, d1, d2⟩ := Hr.out.at hb hlt
      have He := Lib.hid he
      have HE := Lib.hid (drop_nth hlt)
      rw [he] at HE
      have Hb := Lib.hid hb
      have hgs := hb.size
      have b0 : (0 : Int) ≤ (k : Int) := by omega
      have b1 : (k : Int) < (L.length : Int) := by omega
      clear he d2
      by_cases h1 : f < 0
      · have hfin : sd n 0 L = false := by rw [← Hsd.out, HE.out, sd_no (.inl (show f < p by omega))]
        have Hfin := Lib.hid hfin
        have e1 : decide (f < 0) = true := by simp [h1]
        clear hfin hb
        go_wp2
        go_quiet (fail)
        go_wp2
        go_ret
        exact ⟨ret_bool Hfin.out.symm, below_draw Hb.out _⟩
      · have e1 : decide (f < 0) = false := by simpa using h1
        by_cases h2 : t < f
        · have hfin : sd n 0 L = false := by rw [← Hsd.out, HE.out, sd_no (.inr (.inl h2))]
          have Hfin := Lib.hid hfin
          have e2 : decide (t < f) = true := by simp [h2]
          clear hfin hb
          go_wp2
          go_quiet (fail)
          go_wp2
          go_ret
          exact ⟨ret_bool Hfin.out.symm, below_draw Hb.out _⟩
        · have e2 : decide (t < f) = false := by simpa using h2
          by_cases h3 : n < t
          · have hfin : sd n 0 L = false := by rw [← Hsd.out, HE.out, sd_no (.inr (.inr h3))]
            have Hfin := Lib.hid hfin
            have e3 : decide (n < t) = true := by simp [h3]
            clear hfin hb
            go_wp2
            go_quiet (fail)
            go_wp2
            go_ret
            exact ⟨ret_bool Hfin.out.symm, below_draw Hb.out _⟩
          · have e3 : decide (n < t) = false := by simpa using h3
            cases k with
            | zero =>
              have hp0 := Hp0.out rfl
              have hst : sd n t (L.drop (0 + 1)) = sd n 0 L := by
                rw [← Hsd.out, HE.out, sd_step (show p ≤ f by omega) (show f ≤ t by omega) (show t ≤ n by omega)]
              have Hst := Lib.hid hst
              clear hst hb
              simp only [Nat.zero_mul, Nat.add_zero] at d0 d1
              go_wp2
              go_quiet (fail)
              go_wp2
              go_roundw
              case rel => exact ⟨1, t, by omega, by go_num, by omega, fun h => by omega, at_prev He.out rfl, Hst.out, below_draw Hb.out _⟩
              case measure => simp [intOf]; omega
            | succ j =>
              have hpj := Hpj.out j rfl
              obtain ⟨g', o', f', t', s', hx', hg', he', d0', d1', d2'⟩ := Hr.out.at Hb.out (show j < L.length by omega)
              have hx := Option.some.inj hx'
              injection hx with hx1 hx2
              subst hx1 hx2
              rw [he'] at hpj
              change p = t' at hpj
              subst hpj
              have j0 : (0 : Int) ≤ (j : Int) := by omega
              have j1 : (j : Int) < (L.length : Int) := by omega
              by_cases h4 : f < p
              · have hfin : sd n 0 L = false := by rw [← Hsd.out, HE.out, sd_no (.inl h4)]
                have Hfin := Lib.hid hfin
                have e4 : decide (f < p) = true := by simp [h4]
                clear hfin hb he' d0' d2' hx'
                go_wp2
                go_quiet (fail)
                go_wp2
                go_ret
                exact ⟨ret_bool Hfin.out.symm, below_draw Hb.out _⟩
              · have e4 : decide (f < p) = false := by simpa using h4
                have hst : sd n t (L.drop (j + 1 + 1)) = sd n 0 L := by
                  rw [← Hsd.out, HE.out, sd_step (show p ≤ f by omega) (show f ≤ t by omega) (show t ≤ n by omega)]
                have Hst := Lib.hid hst
                clear hst hb he' d0' d2' hx'
                go_wp2
                go_quiet (fail)
                go_wp2
                go_roundw
                case rel => exact ⟨j + 1 + 1, t, by omega, by go_num, by omega, fun h => by omega, at_prev He.out rfl, Hst.out, below_draw Hb.out _⟩
                case measure => simp [intOf]; omega
    · have hfin : sd n 0 L = true := by
        have : L.drop k = [] := List.drop_of_length_le (by omega)
        rw [← Hsd.out, this]; rfl
      have Hfin := Lib.hid hfin
      clear hfin
      go_wp2
      go_ret
      exact ⟨ret_bool Hfin.out.symm, hb⟩
end Go.Proofs.Ytckioinjgdjohaa
