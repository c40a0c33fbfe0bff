/- Contract of the reference's Ends of layer 10. -/
import Derived.Test.YtklmiabgalanhaaTrRefA
namespace Go.Proofs.Ytklmiabgalanhaa
open Go.RowKit Km Tm
set_option maxRecDepth 100000
set_option linter.unusedVariables false

/-- What Ends answers. -/
def EndsP (L : List Nd) (w : World) (e : Ending) (w' : World) : Prop :=
  (Wl L.length (Kx (nthN L)) → ∃ g, e = .returned (.tuple #[.slice (some ⟨g, 0, none⟩) L.length L.length, .bool true]) ∧ w.heap.size ≤ g ∧ RI w' g 3 L.length (fun k => (E L.length (Kx (nthN L)) k : Int)))
  ∧ (¬ Wl L.length (Kx (nthN L)) → e = .returned (.tuple #[.slice none 0 0, .bool false])) ∧ Below w.heap.size w w'

set_option maxHeartbeats 8000000 in
theorem rends_any (x : Option Addr) (c : Nat) (L : List Nd) (w : World) (hr : Nr w x L) :
    Calls Try.prog 29 #[.slice x L.length c] w (EndsP L w) := by
  have H1 := Lib.hid (fun w h => rend_any 0 x c L w h (Nat.zero_le _))
  have Hr := Lib.hid hr
  have hlb := hr.2
  clear hr
  by_cases h0 : L.length = 0
  · have hn : ¬ Wl L.length (Kx (nthN L)) := fun h => by have := h.pos; omega
    have Hn := Lib.hid hn
    have e0 : ((L.length : Int) == 0) = true := beq_iff_eq.2 (by omega)
    have e1 : (L.length == 0) = true := beq_iff_eq.2 h0
    clear hn h0
    go_enter Try.func29, Try.ntmps29
    go_wp2
    refine bodyPost_ret (v := .tuple #[.slice none 0 0, .bool false]) ?_ rfl ⟨fun h => absurd h Hn.out, fun _ => rfl, Below.refl _ _⟩
    simp [results, Try.results29, go_sem]
  · have e0 : ((L.length : Int) == 0) = false := beq_eq_false_iff_ne.2 (by omega)
    have e1 : (L.length == 0) = false := beq_eq_false_iff_ne.2 h0
    by_cases hw : Wl L.length (Kx (nthN L))
    · have Hw := Lib.hid hw
      have H1 := fun w h => H1.out w h
      rw [show W L.length (Kx (nthN L)) 0 1 = some L.length from hw] at H1
      have e2 : ((L.length : Int) != (L.length : Int)) = false := by simp
      have hmk := fun w => run_make_row' (P := Try.prog) 30 3 (.int .i64 0) 8 Try.underlying30 (by kernel_rfl) rfl .i64 .i64 L.length (by omega) (by omega) w
      have H1 := Lib.hid H1
      have R0 : Hid (RI (w.alloc (.cells (madeCells #[.int .i64 0] L.length) 3)) w.heap.size 3 L.length (fun _ => 0)) := by
        refine Lib.hid ⟨_, heap_alloc_new w _, by rw [size_madeCells], fun k hk => ?_⟩
        rw [← Array.getElem?_toList, toList_madeCells_one, List.getElem?_replicate, if_pos hk]
      have B0 := Lib.hid ((Below.refl w.heap.size w).alloc (Nat.le_refl _) (.cells (madeCells #[.int .i64 0] L.length) 3))
      clear hw
      unfold endV at H1
      dsimp only at H1
      go_enter Try.func29, Try.ntmps29
      go_wp2_with fail
      refine (H1.out w (by exact Hr.out)).mono ?_
      rintro e w1 ⟨rfl, rfl⟩
      go_wp2
      generalize w1.alloc (.cells (madeCells #[.int .i64 0] L.length) 3) = w2 at R0 B0 ⊢
      generalize hg : w1.heap.size = g at R0 ⊢
      have Hg := Lib.hid hg
      clear hg
      go_loopw [5] (fun iv wr => ∃ (r : Nat) (q : Nat → Int), r ≤ L.length ∧ iv = .int .i64 ((r : Int) - 1) ∧ Hid (RI wr g 3 L.length q) ∧ Hid (∀ k, r ≤ k → k < L.length → q k = (E L.length (Kx (nthN L)) k : Int)) ∧ Hid (Below w1.heap.size w1 wr)) (fun iv _ => (intOf iv + 1).toNat)
      case atStart => exact ⟨L.length, _, Nat.le_refl _, by go_num, R0, Lib.hid (fun k a b => by omega), B0⟩
      case round =>
        obtain ⟨r, q, hr, rfl, HR, HQ, HB⟩ := hrel
        cases r with
        | zero =>
          have b0 : ¬ (0 : Int) ≤ ((0 : Nat) : Int) - 1 := by omega
          have HF := Lib.hid (HR.out.cong (q' := fun k => (E L.length (Kx (nthN L)) k : Int)) fun k hk => HQ.out k (Nat.zero_le _) hk)
          go_wp2
          refine bodyPost_ret (v := .tuple #[.slice (some ⟨g, 0, none⟩) L.length L.length, .bool true]) ?_ rfl ⟨fun _ => ⟨g, rfl, by rw [← Hg.out]; exact Nat.le_refl _, HF.out⟩, fun h => absurd Hw.out h, HB.out⟩
          simp [results, Try.results29, go_sem]
        | succ i =>
          have hi : i < L.length := by omega
          rw [show ((i + 1 : Nat) : Int) - 1 = (i : Int) by omega]
          have b0 : (0 : Int) ≤ (i : Int) := by omega
          have b1 : (i : Int) < (L.length : Int) := by omega
          have ha := Hw.out.all hi
          have hK : Kx (nthN L) i = (nthN L i).c := rfl
          rw [hK] at ha
          obtain ⟨g1, o1, rfl, hg1, hat⟩ := Hr.out.1.at HB.out hi
          have d1 := hat.2.1
          obtain ⟨D, hD⟩ : ∃ D : Nat, (nthN L i).c = (D : Int) := ⟨(nthN L i).c.toNat, by omega⟩
          rw [hD] at ha d1
          have hDn : D ≤ L.length := by omega
          have HA := Lib.hid ha.2.2.2.2.2
          rw [Int.toNat_natCast] at HA
          clear ha hK hat hD
          go_wp2
          go_loopw [6, 7] (fun kv nv wr2 => ∃ (m p : Nat), m ≤ D ∧ kv = .int .i64 (p : Int) ∧ nv = .int .i64 (m : Int) ∧ Hid (W L.length (Kx (nthN L)) (i + 1) m = some p) ∧ wr2 = wr) (fun _ nv _ => D - (intOf nv).toNat)
          case atStart => exact ⟨0, i + 1, Nat.zero_le _, by go_num, rfl, Lib.hid (W_zero _), rfl⟩
          case round =>
            obtain ⟨m, p, hm, rfl, rfl, HW, rfl⟩ := hrel
            by_cases hmD : m < D
            · have b2 : (m : Int) < (D : Int) := by omega
              have hsplit := W_cat (b := D - m) HW.out
              rw [show m + (D - m) = D by omega, HA.out, show D - m = (D - m - 1) + 1 by omega] at hsplit
              obtain ⟨s1, s2, s3, s4⟩ := Hw.out.step hsplit.symm
              have hge := W_ge HW.out
              have hst := W_cat (b := 1) HW.out
              rw [(Hw.out.all s1).1] at hst
              have hq := HQ.out p (by omega) s1
              have d2 := HR.out.cell s1
              rw [hq] at d2
              have b3 : (0 : Int) ≤ (p : Int) := by omega
              have b4 : (p : Int) < (L.length : Int) := by omega
              have HS := Lib.hid hst
              clear hsplit s2 s3 s4 hge hst hq
              generalize E L.length (Kx (nthN L)) p = EP at d2 HS
              go_wp2
              go_roundw
              case rel => exact ⟨m + 1, EP, by omega, rfl, by go_num, HS, by first | rfl | trivial⟩
              case measure => simp [intOf]; omega
            · have hme : m = D := by omega
              subst hme
              have b2 : ¬ (m : Int) < (m : Int) := by omega
              have hp : p = E L.length (Kx (nthN L)) i := by
                have := HW.out.symm.trans HA.out
                injection this
              have z1 := HR.out.free i
              have R3 := Lib.hid (HR.out.set i (p : Int))
              have Q3 : Hid (∀ k, i ≤ k → k < L.length → upd q i (p : Int) k = (E L.length (Kx (nthN L)) k : Int)) := Lib.hid fun k a b => by
                by_cases e : k = i
                · subst e; rw [upd_same, hp]
                · rw [upd_far _ _ e]; exact HQ.out k (by omega) b
              have B3 := Lib.hid (HB.out.setCell (p := ⟨g, i, none⟩) (by rw [Hg.out]; exact Nat.le_refl _) (.int .i64 (p : Int)))
              have d3 := HR.out.cell hi
              clear hp
              go_wp2
              go_roundw
              case rel => exact ⟨i, _, by omega, by go_num, R3, Q3, B3⟩
              case measure => first | (simp [intOf]; done) | (simp [intOf]; omega)
    · have Hw := Lib.hid hw
      have H1 := fun w h => H1.out w h
      have hne : ¬ endV (W L.length (Kx (nthN L)) 0 1) = (L.length : Int) := fun h => hw (by
        unfold Wl
        cases hW : W L.length (Kx (nthN L)) 0 1 with
        | none => rw [hW] at h; unfold endV at h; dsimp only at h; omega
        | some e => rw [hW] at h; unfold endV at h; dsimp only at h; congr 1; omega)
      generalize endV (W L.length (Kx (nthN L)) 0 1) = EV at H1 hne
      have e2 : (EV != (L.length : Int)) = true := by rw [bne, beq_eq_false_iff_ne.2 hne]; rfl
      have H1 := Lib.hid H1
      clear hw hne
      go_enter Try.func29, Try.ntmps29
      go_wp2_with fail
      refine (H1.out w (by exact Hr.out)).mono ?_
      rintro e w1 ⟨rfl, rfl⟩
      go_wp2
      refine bodyPost_ret (v := .tuple #[.slice none 0 0, .bool false]) ?_ rfl ⟨fun h => absurd h Hw.out, fun _ => rfl, Below.refl _ _⟩
      simp [results, Try.results29, go_sem]
end Go.Proofs.Ytklmiabgalanhaa
