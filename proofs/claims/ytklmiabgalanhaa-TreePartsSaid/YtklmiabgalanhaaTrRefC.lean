/- Contract of the reference's Tree and Check of layer 10. -/
import Derived.Test.YtklmiabgalanhaaTrRefB
namespace Go.Proofs.Ytklmiabgalanhaa
open Go.RowKit Km Tm
set_option maxRecDepth 100000
set_option linter.unusedVariables false

/-- What the reference asks of a node by itself. -/
def Pf (x : Nd) (N : Int) : Prop := x.k ≤ 68 ∧ 0 ≤ x.f ∧ x.f ≤ x.t ∧ x.t ≤ N ∧ (x.w = -1 ∨ (x.f ≤ x.w ∧ x.w < x.t))
instance (x : Nd) (N : Int) : Decidable (Pf x N) := by unfold Pf; infer_instance
theorem fits_pf {x : Nd} {N : Int} (h : 0 ≤ x.c) : fits x N ↔ Pf x N := ⟨fun a => ⟨a.1, a.2.2⟩, fun a => ⟨a.1, h, a.2⟩⟩
/-- What it asks of a kid. -/
def Pk (y p : Nd) (a : Int) : Prop := a ≤ y.f ∧ y.f ≤ y.t ∧ y.t ≤ p.t ∧ ¬ (y.f ≤ p.w ∧ p.w < y.t)
instance (y p : Nd) (a : Int) : Decidable (Pk y p a) := by unfold Pk; infer_instance

/-- What Tree answers. -/
def RtP (L : List Nd) (N : Int) (w : World) (e : Ending) (w' : World) : Prop := ∃ b, e = .returned (.bool b) ∧ (b = true ↔ Tr L.length (nthN L) N) ∧ Below w.heap.size w w'
set_option maxHeartbeats 16000000 in
theorem rtree_any (N : Int) (x : Option Addr) (c : Nat) (L : List Nd) (w : World) (hr : Nr w x L) :
    Calls Try.prog 17 #[.slice x L.length c, .int .i64 N] w (RtP L N w) := by
  have H1 := Lib.hid (fun w h => rends_any x c L w h)
  have Hr := Lib.hid hr
  have hlb := hr.2
  clear hr
  by_cases hw : Wl L.length (Kx (nthN L))
  · have Hw := Lib.hid hw
    clear hw
    go_enter Try.func17, Try.ntmps17
    go_wp2_with fail
    refine (H1.out w (by exact Hr.out)).mono ?_
    rintro e w1 ⟨a1, a2, b1⟩
    obtain ⟨g, rfl, hg, hR⟩ := a1 Hw.out
    have R1 := Lib.hid (Hr.out.keep b1)
    have B1 := Lib.hid b1
    have HE := Lib.hid hR
    clear a1 a2 b1 hR
    go_wp2
    go_loopw [7] (fun iv wr => ∃ i : Nat, i ≤ L.length ∧ iv = .int .i64 (i : Int) ∧ Hid (∀ k, k < i → fits (nthN L k) N ∧ KO L.length (nthN L) k) ∧ Hid (Below w1.heap.size w1 wr)) (fun iv _ => L.length - (intOf iv).toNat)
    case atStart => exact ⟨0, Nat.zero_le _, rfl, Lib.hid (fun k hk => by omega), Lib.hid (Below.refl _ _)⟩
    case round =>
      obtain ⟨i, hi, rfl, HI, HB⟩ := hrel
      by_cases hlt : i < L.length
      · have b0 : (0 : Int) ≤ (i : Int) := by omega
        have b1 : (i : Int) < (L.length : Int) := by omega
        have ha := Hw.out.all hlt
        obtain ⟨g1, o1, rfl, hg1, hat⟩ := R1.out.1.at HB.out hlt
        have HE2 := Lib.hid (HE.out.keep HB.out)
        have de := HE2.out.cell hlt
        have Hc0 : Hid (0 ≤ (nthN L i).c) := Lib.hid ha.2.2.2.1
        have HKO : Hid (KO L.length (nthN L) i ↔ ko (nthN L) (nthN L i) (nthN L i).f (chain (E L.length (Kx (nthN L))) (E L.length (Kx (nthN L)) i) L.length (i + 1)) = true) := Lib.hid Iff.rfl
        have Hfp := Lib.hid (fits_pf (x := nthN L i) (N := N) Hc0.out)
        obtain ⟨X, hX⟩ : ∃ X, X = nthN L i := ⟨_, rfl⟩
        rw [← hX] at hat HKO Hfp
        have HX := Lib.hid hX
        obtain ⟨xk, xc, xw, xf, xt⟩ := X
        obtain ⟨d0, d1, d2, d3, d4⟩ := hat
        dsimp only at d0 d1 d2 d3 d4 HKO
        have hs0 := HB.out.size
        have hbx := nbox_new wr ⟨xk, xc, xw, xf, xt⟩
        have HBX := Lib.hid hbx
        have HB2 := Lib.hid (HB.out.alloc hs0 (.cells #[.int .u8 (xk : Int), .int .i64 xc, .int .i64 xw, .int .i64 xf, .int .i64 xt] 35))
        dsimp only at HBX
        clear hX ha hs0 hbx
        go_upto_region 8 with fail
        go_cut [68] from 29 to 68 (fun b wx => b = .bool (decide (¬ Pf ⟨xk, xc, xw, xf, xt⟩ N)) ∧ wx = wr.alloc (.cells #[.int .u8 (xk : Int), .int .i64 xc, .int .i64 xw, .int .i64 xf, .int .i64 xt] 35))
        case first =>
          have r0 := HBX.out.c0
          have r2 := HBX.out.c2
          have r3 := HBX.out.c3
          have r4 := HBX.out.c4
          dsimp only at r0 r2 r3 r4
          clear d0 d1 d2 d3 d4
          by_cases h1 : (68 : Int) < (xk : Int)
          · have Hd := Lib.hid (show decide (¬ Pf ⟨xk, xc, xw, xf, xt⟩ N) = true from decide_eq_true (fun h => by have := h.1; dsimp only at this; omega))
            go_wp2_with fail
            go_meet
            case rel => exact ⟨by rw [Hd.out], rfl⟩
          · by_cases h2 : xf < 0
            · have Hd := Lib.hid (show decide (¬ Pf ⟨xk, xc, xw, xf, xt⟩ N) = true from decide_eq_true (fun h => by have := h.2.1; dsimp only at this; omega))
              go_wp2_with fail
              go_meet
              case rel => exact ⟨by rw [Hd.out], rfl⟩
            · by_cases h3 : xt < xf
              · have Hd := Lib.hid (show decide (¬ Pf ⟨xk, xc, xw, xf, xt⟩ N) = true from decide_eq_true (fun h => by have := h.2.2.1; dsimp only at this; omega))
                go_wp2_with fail
                go_meet
                case rel => exact ⟨by rw [Hd.out], rfl⟩
              · by_cases h4 : N < xt
                · have Hd := Lib.hid (show decide (¬ Pf ⟨xk, xc, xw, xf, xt⟩ N) = true from decide_eq_true (fun h => by have := h.2.2.2.1; dsimp only at this; omega))
                  go_wp2_with fail
                  go_meet
                  case rel => exact ⟨by rw [Hd.out], rfl⟩
                · by_cases h5 : xw = -1
                  · subst h5
                    have Hd := Lib.hid (show decide (¬ Pf ⟨xk, xc, -1, xf, xt⟩ N) = false from decide_eq_false (fun h => h ⟨by dsimp only; omega, by dsimp only; omega, by dsimp only; omega, by dsimp only; omega, .inl rfl⟩))
                    go_wp2_with fail
                    go_meet
                    case rel => exact ⟨by rw [Hd.out], rfl⟩
                  · have e5 : (xw != -1) = true := by rw [bne, beq_eq_false_iff_ne.2 h5]; rfl
                    by_cases h6 : xw < xf
                    · have Hd := Lib.hid (show decide (¬ Pf ⟨xk, xc, xw, xf, xt⟩ N) = true from decide_eq_true (fun h => by have := h.2.2.2.2; dsimp only at this; omega))
                      go_wp2_with fail
                      go_meet
                      case rel => exact ⟨by rw [Hd.out], rfl⟩
                    · by_cases h7 : xt ≤ xw
                      · have Hd := Lib.hid (show decide (¬ Pf ⟨xk, xc, xw, xf, xt⟩ N) = true from decide_eq_true (fun h => by have := h.2.2.2.2; dsimp only at this; omega))
                        go_wp2_with fail
                        go_meet
                        case rel => exact ⟨by rw [Hd.out], rfl⟩
                      · have Hd := Lib.hid (show decide (¬ Pf ⟨xk, xc, xw, xf, xt⟩ N) = false from decide_eq_false (fun h => h ⟨by dsimp only; omega, by dsimp only; omega, by dsimp only; omega, by dsimp only; omega, .inr ⟨by dsimp only; omega, by dsimp only; omega⟩⟩))
                        go_wp2_with fail
                        go_meet
                        case rel => exact ⟨by rw [Hd.out], rfl⟩
        case rest =>
          obtain ⟨rfl, rfl⟩ := hcut
          by_cases hp : Pf ⟨xk, xc, xw, xf, xt⟩ N
          · have hfit := Hfp.out.2 hp
            rw [HX.out] at hfit
            have Hfit := Lib.hid hfit
            rw [show decide (¬ Pf ⟨xk, xc, xw, xf, xt⟩ N) = false from decide_eq_false (fun h => h hp)]
            clear hp hfit
            have r3 := HBX.out.c3
            dsimp only at r3
            have hEi : E L.length (Kx (nthN L)) i ≤ L.length := (Hw.out.all hlt).2.2.1
            have HEi := Lib.hid hEi
            generalize hw3 : wr.alloc (.cells #[.int .u8 (xk : Int), .int .i64 xc, .int .i64 xw, .int .i64 xf, .int .i64 xt] 35) = w3 at HBX HB2 r3 ⊢
            generalize wr.heap.size = bb at HBX r3 ⊢
            clear hw3 de d0 d1 d2 d3 d4 hEi
            go_wp2
            go_loopw [9, 10] (fun av kv wr2 => ∃ (a : Int) (k : Nat), i < k ∧ k ≤ L.length ∧ av = .int .i64 a ∧ kv = .int .i64 (k : Int)
              ∧ Hid (KO L.length (nthN L) i ↔ ko (nthN L) ⟨xk, xc, xw, xf, xt⟩ a (chain (E L.length (Kx (nthN L))) (E L.length (Kx (nthN L)) i) L.length k) = true) ∧ Hid (NBox wr2 bb ⟨xk, xc, xw, xf, xt⟩) ∧ Hid (Below w1.heap.size w1 wr2)) (fun _ kv _ => L.length - (intOf kv).toNat)
            case atStart => exact ⟨xf, i + 1, by omega, by omega, rfl, by go_num, HKO, HBX, HB2⟩
            case round =>
              obtain ⟨a, k, hik, hkn, rfl, rfl, HK, HBX, HB3⟩ := hrel
              have HE3 := Lib.hid (HE.out.keep HB3.out)
              have de := HE3.out.cell hlt
              by_cases hkE : k < E L.length (Kx (nthN L)) i
              · have hk : k < L.length := by have := HEi.out; omega
                have b2 : (0 : Int) ≤ (k : Int) := by omega
                have b3 : (k : Int) < (L.length : Int) := by omega
                have b4 : (k : Int) < (E L.length (Kx (nthN L)) i : Int) := by omega
                have hak := Hw.out.all hk
                have hEE : ∀ c, c < E L.length (Kx (nthN L)) i → c < E L.length (Kx (nthN L)) c := fun c hc => (Hw.out.all (by have := HEi.out; omega)).2.1
                have hch := chain_step (e := E L.length (Kx (nthN L)) i) (f := L.length) hEE hkE (by have := HEi.out; omega)
                have HK2 := HK.out
                rw [hch] at HK2
                obtain ⟨g2, o2, hx2, hg2, hat⟩ := R1.out.1.at HB3.out hk
                injection hx2 with hx2
                injection hx2 with hx3 hx4
                subst hx3 hx4
                have dk := HE3.out.cell hk
                have hkEn : k < E L.length (Kx (nthN L)) k := hak.2.1
                have hEkn : E L.length (Kx (nthN L)) k ≤ L.length := hak.2.2.1
                have HK3 : Hid (KO L.length (nthN L) i ↔ Pk (nthN L k) ⟨xk, xc, xw, xf, xt⟩ a ∧ ko (nthN L) ⟨xk, xc, xw, xf, xt⟩ (nthN L k).t (chain (E L.length (Kx (nthN L))) (E L.length (Kx (nthN L)) i) L.length (E L.length (Kx (nthN L)) k)) = true) := by
                  refine Lib.hid (HK2.trans ?_)
                  show (decide _ && _) = true ↔ _
                  rw [Bool.and_eq_true, decide_eq_true_eq]
                  exact Iff.rfl
                obtain ⟨Y, hY⟩ : ∃ Y, Y = nthN L k := ⟨_, rfl⟩
                rw [← hY] at hat HK3
                obtain ⟨yk, yc, yw, yf, yt⟩ := Y
                obtain ⟨d0, d1, d2, d3, d4⟩ := hat
                dsimp only at d0 d1 d2 d3 d4 HK3
                obtain ⟨EK, hEK⟩ : ∃ EK, E L.length (Kx (nthN L)) k = EK := ⟨_, rfl⟩
                rw [hEK] at dk HK3 hkEn hEkn
                have HEKe := Lib.hid hEK
                clear hEK
                have HYX := Lib.hid (nbox_new wr ⟨yk, yc, yw, yf, yt⟩)
                have HXX := Lib.hid (HBX.out.alloc (.cells #[.int .u8 (yk : Int), .int .i64 yc, .int .i64 yw, .int .i64 yf, .int .i64 yt] 35))
                have hs0 := HB3.out.size
                have HB4 := Lib.hid (HB3.out.alloc hs0 (.cells #[.int .u8 (yk : Int), .int .i64 yc, .int .i64 yw, .int .i64 yf, .int .i64 yt] 35))
                have HE4 := Lib.hid (HE.out.keep HB4.out)
                dsimp only at HYX
                have q2 := HXX.out.c2
                have q4 := HXX.out.c4
                have r3 := HYX.out.c3
                have r4 := HYX.out.c4
                have dk4 := HE4.out.cell hk
                dsimp only at q2 q4 r3 r4
                clear HK2 hch hEE hak hs0 hY dk4
                go_upto_region 15 with fail
                go_cut [118] from 87 to 118 (fun b wx => b = .bool (decide (¬ Pk ⟨yk, yc, yw, yf, yt⟩ ⟨xk, xc, xw, xf, xt⟩ a)) ∧ wx = wr.alloc (.cells #[.int .u8 (yk : Int), .int .i64 yc, .int .i64 yw, .int .i64 yf, .int .i64 yt] 35))
                case first =>
                  clear d0 d1 d2 d3 d4 de dk
                  by_cases h1 : yf < a
                  · have Hd := Lib.hid (show decide (¬ Pk ⟨yk, yc, yw, yf, yt⟩ ⟨xk, xc, xw, xf, xt⟩ a) = true from decide_eq_true (fun h => by have := h.1; dsimp only at this; omega))
                    go_wp2_with fail
                    go_meet
                    case rel => exact ⟨by rw [Hd.out], rfl⟩
                  · by_cases h2 : yt < yf
                    · have Hd := Lib.hid (show decide (¬ Pk ⟨yk, yc, yw, yf, yt⟩ ⟨xk, xc, xw, xf, xt⟩ a) = true from decide_eq_true (fun h => by have := h.2.1; dsimp only at this; omega))
                      go_wp2_with fail
                      go_meet
                      case rel => exact ⟨by rw [Hd.out], rfl⟩
                    · by_cases h3 : xt < yt
                      · have Hd := Lib.hid (show decide (¬ Pk ⟨yk, yc, yw, yf, yt⟩ ⟨xk, xc, xw, xf, xt⟩ a) = true from decide_eq_true (fun h => by have := h.2.2.1; dsimp only at this; omega))
                        go_wp2_with fail
                        go_meet
                        case rel => exact ⟨by rw [Hd.out], rfl⟩
                      · by_cases h4 : yf ≤ xw
                        · by_cases h5 : xw < yt
                          · have Hd := Lib.hid (show decide (¬ Pk ⟨yk, yc, yw, yf, yt⟩ ⟨xk, xc, xw, xf, xt⟩ a) = true from decide_eq_true (fun h => h.2.2.2 ⟨h4, h5⟩))
                            go_wp2_with fail
                            go_meet
                            case rel => exact ⟨by rw [Hd.out], rfl⟩
                          · have Hd := Lib.hid (show decide (¬ Pk ⟨yk, yc, yw, yf, yt⟩ ⟨xk, xc, xw, xf, xt⟩ a) = false from decide_eq_false (fun h => h ⟨by dsimp only; omega, by dsimp only; omega, by dsimp only; omega, by dsimp only; omega⟩))
                            go_wp2_with fail
                            go_meet
                            case rel => exact ⟨by rw [Hd.out], rfl⟩
                        · have Hd := Lib.hid (show decide (¬ Pk ⟨yk, yc, yw, yf, yt⟩ ⟨xk, xc, xw, xf, xt⟩ a) = false from decide_eq_false (fun h => h ⟨by dsimp only; omega, by dsimp only; omega, by dsimp only; omega, by dsimp only; omega⟩))
                          go_wp2_with fail
                          go_meet
                          case rel => exact ⟨by rw [Hd.out], rfl⟩
                case rest =>
                  obtain ⟨rfl, rfl⟩ := hcut
                  have dk4 := HE4.out.cell hk
                  have HEK2 := Lib.hid (And.intro hkEn hEkn)
                  by_cases hp : Pk ⟨yk, yc, yw, yf, yt⟩ ⟨xk, xc, xw, xf, xt⟩ a
                  · rw [show decide (¬ Pk ⟨yk, yc, yw, yf, yt⟩ ⟨xk, xc, xw, xf, xt⟩ a) = false from decide_eq_false (fun h => h hp)]
                    have HK4 := Lib.hid (HK3.out.trans ⟨fun h => h.2, fun h => ⟨hp, h⟩⟩)
                    have hh := HEK2.out
                    rw [show E L.length (Kx (nthN L)) k = EK from HEKe.out] at dk4
                    clear hp de dk d0 d1 d2 d3 d4 q2 q4
                    go_wp2
                    go_roundw
                    case rel => exact ⟨yt, EK, by omega, by omega, rfl, rfl, HK4, HXX, HB4⟩
                    case measure => simp [intOf]; omega
                  · rw [show decide (¬ Pk ⟨yk, yc, yw, yf, yt⟩ ⟨xk, xc, xw, xf, xt⟩ a) = true from decide_eq_true hp]
                    have HN := Lib.hid (fun (h : Tr L.length (nthN L) N) => hp (HK3.out.1 (h.2 i hlt).2).1)
                    clear hp de dk d0 d1 d2 d3 d4 q2 q4 r3 r4 dk4
                    go_wp2
                    go_ret
                    exact ⟨false, rfl, ⟨fun h => (by cases h), fun h => absurd h HN.out⟩, B1.out.trans (HB4.out.mono B1.out.size)⟩
              · have HKd : Hid (KO L.length (nthN L) i) := Lib.hid (HK.out.2 (by rw [chain_done (by omega)]; rfl))
                have b4 : ¬ (k : Int) < (E L.length (Kx (nthN L)) i : Int) := by omega
                have HI2 : Hid (∀ j, j < i + 1 → fits (nthN L j) N ∧ KO L.length (nthN L) j) := Lib.hid fun j hj => by
                  by_cases e : j = i
                  · subst e; exact ⟨Hfit.out, HKd.out⟩
                  · exact HI.out j (by omega)
                go_wp2
                go_roundw
                case rel => exact ⟨i + 1, by omega, by go_num, HI2, HB3⟩
                case measure => simp [intOf]; omega
          · rw [show decide (¬ Pf ⟨xk, xc, xw, xf, xt⟩ N) = true from decide_eq_true hp]
            have HN := Lib.hid (fun (h : Tr L.length (nthN L) N) => hp (Hfp.out.1 (by rw [HX.out]; exact (h.2 i hlt).1)))
            clear hp de d0 d1 d2 d3 d4
            go_wp2
            go_ret
            exact ⟨false, rfl, ⟨fun h => (by cases h), fun h => absurd h HN.out⟩, B1.out.trans (HB2.out.mono B1.out.size)⟩
      · have hie : i = L.length := by omega
        subst hie
        have b1 : ¬ (L.length : Int) < (L.length : Int) := by omega
        go_wp2
        go_ret
        exact ⟨true, rfl, ⟨fun _ => ⟨Hw.out, HI.out⟩, fun _ => rfl⟩, B1.out.trans (HB.out.mono B1.out.size)⟩
  · have Hw := Lib.hid hw
    clear hw
    go_enter Try.func17, Try.ntmps17
    go_wp2_with fail
    refine (H1.out w (by exact Hr.out)).mono ?_
    rintro e w1 ⟨a1, a2, b1⟩
    obtain rfl := a2 Hw.out
    have B1 := Lib.hid b1
    clear a1 a2 b1
    go_wp2
    go_ret
    exact ⟨false, rfl, ⟨fun h => (by cases h), fun h => absurd h.1 Hw.out⟩, B1.out⟩
end Go.Proofs.Ytklmiabgalanhaa
