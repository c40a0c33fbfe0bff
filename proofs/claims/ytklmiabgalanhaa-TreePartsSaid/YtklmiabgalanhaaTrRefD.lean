/- Contracts of the reference's Check, Kids, Up, Over of layer 10. -/
import Derived.Test.YtklmiabgalanhaaTrRefC
namespace Go.Proofs.Ytklmiabgalanhaa
open Go.RowKit Km Tm
set_option maxRecDepth 100000
set_option linter.unusedVariables false

/-- What Check answers. -/
def RcP (L : List Nd) (n : Int) (w : World) (e : Ending) (w' : World) : Prop :=
  ((n < 0 ∨ 131072 < n) → e = .returned (.int .i64 1)) ∧ (0 ≤ n → n ≤ 131072 → Tr L.length (nthN L) n → e = .returned (.int .i64 0)) ∧ (0 ≤ n → n ≤ 131072 → ¬ Tr L.length (nthN L) n → e = .returned (.int .i64 8)) ∧ Below w.heap.size w w'
theorem rcheck_any (n : Int) (x : Option Addr) (c : Nat) (L : List Nd) (w : World) (hr : Nr w x L) :
    Calls Try.prog 9 #[.slice x L.length c, .int .i64 n] w (RcP L n w) := by
  by_cases h1 : n < 0
  · have Hf : Hid (∀ w', Below w.heap.size w w' → RcP L n w (.returned (.int .i64 1)) w') := Lib.hid fun w' hb => ⟨fun _ => rfl, fun a => by omega, fun a => by omega, hb⟩
    clear hr
    go_enter Try.func9, Try.ntmps9
    go_wp2
    go_ret
    exact Hf.out _ (Below.refl _ _)
  · by_cases h2 : 131072 < n
    · have Hf : Hid (∀ w', Below w.heap.size w w' → RcP L n w (.returned (.int .i64 1)) w') := Lib.hid fun w' hb => ⟨fun _ => rfl, fun a b => by omega, fun a b => by omega, hb⟩
      clear hr
      go_enter Try.func9, Try.ntmps9
      go_wp2
      go_ret
      exact Hf.out _ (Below.refl _ _)
    · have HT := Lib.hid (rtree_any n x c L w hr)
      have Hn := Lib.hid (And.intro (show 0 ≤ n by omega) (show n ≤ 131072 by omega))
      clear hr
      go_enter Try.func9, Try.ntmps9
      go_wp2_with fail
      refine HT.out.mono ?_
      rintro e w1 ⟨b, rfl, hb, b1⟩
      have B1 := Lib.hid b1
      cases b with
      | true =>
        have Hb := Lib.hid (hb.1 rfl)
        clear hb b1
        go_wp2
        go_ret
        exact ⟨fun h => by have := Hn.out; omega, fun _ _ _ => rfl, fun _ _ h => absurd Hb.out h, B1.out⟩
      | false =>
        have Hb := Lib.hid (fun h => (by have := hb.2 h; cases this) : ¬ Tr L.length (nthN L) n)
        clear hb b1
        go_wp2
        go_ret
        exact ⟨fun h => by have := Hn.out; omega, fun _ _ h => absurd h Hb.out, fun _ _ _ => rfl, B1.out⟩

theorem rup_any (i : Nat) (x : Option Addr) (c : Nat) (L : List Nd) (w : World) (hr : Nr w x L) (hi : i < L.length) (hw : Wl L.length (Kx (nthN L))) :
    Calls Try.prog 21 #[.slice x L.length c, .int .i64 (i : Int)] w fun e w' => e = .returned (.int .i64 (up L.length (Kx (nthN L)) i)) ∧ Below w.heap.size w w' := by
  have H1 := Lib.hid (rends_any x c L w hr)
  have hlb := hr.2
  have Hw := Lib.hid hw
  clear hr hw
  go_enter Try.func21, Try.ntmps21
  go_wp2_with fail
  refine H1.out.mono ?_
  rintro e w1 ⟨a1, a2, b1⟩
  obtain ⟨g, rfl, hg, hR⟩ := a1 Hw.out
  have B1 := Lib.hid b1
  have HE := Lib.hid hR
  clear a1 a2 b1 hR
  go_wp2
  go_loopw [7] (fun jv wr => ∃ r : Nat, r ≤ i ∧ jv = .int .i64 ((r : Int) - 1) ∧ Hid (up L.length (Kx (nthN L)) i = upF (E L.length (Kx (nthN L))) i r) ∧ wr = w1) (fun jv _ => (intOf jv + 1).toNat)
  case atStart => exact ⟨i, Nat.le_refl _, by go_num, Lib.hid rfl, rfl⟩
  case round =>
    obtain ⟨r, hr, rfl, HU, rfl⟩ := hrel
    cases r with
    | zero =>
      have b0 : ¬ (0 : Int) ≤ ((0 : Nat) : Int) - 1 := by omega
      go_wp2
      go_ret
      exact ⟨by rw [HU.out]; rfl, B1.out⟩
    | succ k =>
      rw [show ((k + 1 : Nat) : Int) - 1 = (k : Int) by omega]
      have b0 : (0 : Int) ≤ (k : Int) := by omega
      have b1 : (k : Int) < (L.length : Int) := by omega
      have d1 := HE.out.cell (k := k) (by omega)
      by_cases hk : i < E L.length (Kx (nthN L)) k
      · have Hv : Hid (up L.length (Kx (nthN L)) i = (k : Int)) := Lib.hid (HU.out.trans (if_pos hk))
        have b2 : (i : Int) < (E L.length (Kx (nthN L)) k : Int) := by omega
        generalize (E L.length (Kx (nthN L)) k : Int) = EK at d1 b2
        clear hk
        go_wp2
        go_ret
        exact ⟨by rw [Hv.out]; rfl, B1.out⟩
      · have Hv : Hid (up L.length (Kx (nthN L)) i = upF (E L.length (Kx (nthN L))) i k) := Lib.hid (HU.out.trans (if_neg hk))
        have b2 : ¬ (i : Int) < (E L.length (Kx (nthN L)) k : Int) := by omega
        generalize (E L.length (Kx (nthN L)) k : Int) = EK at d1 b2
        clear hk
        go_wp2
        go_roundw
        case rel => exact ⟨k, by omega, by go_num, Hv, by first | rfl | trivial⟩
        case measure => first | (simp [intOf]; done) | (simp [intOf]; omega)

set_option maxHeartbeats 4000000 in
theorem rover_any (t : Int) (x : Option Addr) (c : Nat) (L : List Nd) (w : World) (hr : Nr w x L) :
    Calls Try.prog 18 #[.slice x L.length c, .int .i64 t] w fun e w' => e = .returned (.int .i64 (over (nthN L) t L.length)) ∧ w' = w := by
  have Hr := Lib.hid hr.1
  have hlb := hr.2
  clear hr
  go_enter Try.func18, Try.ntmps18
  go_wp2
  go_loopw [5, 6] (fun ov jv wr => ∃ j : Nat, j ≤ L.length ∧ jv = .int .i64 (j : Int) ∧ ov = .int .i64 (over (nthN L) t j) ∧ wr = w) (fun _ jv _ => L.length - (intOf jv).toNat)
  case atStart => exact ⟨0, by omega, rfl, rfl, rfl⟩
  case round =>
    obtain ⟨j, hj, rfl, rfl, rfl⟩ := hrel
    by_cases hlt : j < L.length
    · have b0 : (0 : Int) ≤ (j : Int) := by omega
      have b1 : (j : Int) < (L.length : Int) := by omega
      obtain ⟨g1, o1, rfl, hg1, hat⟩ := Hr.out.at (Below.refl _ _) hlt
      have Hov : Hid (over (nthN L) t (j + 1) = if has (nthN L j) t then (j : Int) else over (nthN L) t j) := Lib.hid rfl
      obtain ⟨X, hX⟩ : ∃ X, X = nthN L j := ⟨_, rfl⟩
      rw [← hX] at hat Hov
      obtain ⟨xk, xc, xw, xf, xt⟩ := X
      obtain ⟨d0, d1, d2, d3, d4⟩ := hat
      dsimp only at d0 d1 d2 d3 d4
      clear hX d0 d1 d2
      by_cases h1 : xf ≤ t
      · by_cases h2 : t < xt
        · have HV := Lib.hid (Hov.out.trans (if_pos ⟨h1, h2⟩))
          generalize over (nthN L) t j = O at HV ⊢
          go_wp2
          go_roundw
          case rel => exact ⟨j + 1, by omega, by go_num, by rw [HV.out], by first | rfl | trivial⟩
          case measure => simp [intOf]; omega
        · have HV := Lib.hid (Hov.out.trans (if_neg fun h => h2 h.2))
          rw [← HV.out]
          go_wp2
          go_roundw
          case rel => exact ⟨j + 1, by omega, by go_num, rfl, by first | rfl | trivial⟩
          case measure => simp [intOf]; omega
      · have HV := Lib.hid (Hov.out.trans (if_neg fun h => h1 h.1))
        rw [← HV.out]
        go_wp2
        go_roundw
        case rel => exact ⟨j + 1, by omega, by go_num, rfl, by first | rfl | trivial⟩
        case measure => simp [intOf]; omega
    · have hie : j = L.length := by omega
      subst hie
      have b1 : ¬ (L.length : Int) < (L.length : Int) := by omega
      generalize hO : over (nthN L) t L.length = O
      have HO := Lib.hid hO
      clear hO
      go_wp2
      go_ret
      exact ⟨by rw [HO.out]; rfl, rfl⟩

set_option maxHeartbeats 4000000 in
theorem rkids_any (i : Nat) (x : Option Addr) (c : Nat) (L : List Nd) (w : World) (hr : Nr w x L) (hi : i < L.length) (hw : Wl L.length (Kx (nthN L))) :
    Calls Try.prog 23 #[.slice x L.length c, .int .i64 (i : Int)] w fun e w' => ∃ v, e = .returned v ∧ w'.ownsRow w.heap.size 3 1 v (kids L.length (Kx (nthN L)) i).length (iRow ((kids L.length (Kx (nthN L)) i).map fun (k : Nat) => (k : Int))) ∧ Below w.heap.size w w' := by
  have H1 := Lib.hid (rends_any x c L w hr)
  have hlb := hr.2
  have Hw := Lib.hid hw
  have hch : ∀ c, c < E L.length (Kx (nthN L)) i → c < E L.length (Kx (nthN L)) c := fun c hc => (hw.all (by have := (hw.all hi).2.2.1; omega)).2.1
  have hEi := (hw.all hi).2.2.1
  have hi1 := (hw.all hi).2.1
  have Hch := Lib.hid hch
  clear hr hw hch
  go_enter Try.func23, Try.ntmps23
  go_wp2_with fail
  refine H1.out.mono ?_
  rintro e w1 ⟨a1, a2, b1⟩
  obtain ⟨g, rfl, hg, hR⟩ := a1 Hw.out
  have B1 := Lib.hid b1
  have HE := Lib.hid hR
  clear a1 a2 b1 hR
  go_wp2
  go_loopw [7, 8] (fun ov kv wr => ∃ (k : Nat) (l : List Nat), i < k ∧ k ≤ E L.length (Kx (nthN L)) i ∧ kv = .int .i64 (k : Int) ∧ Hid (kids L.length (Kx (nthN L)) i = l ++ chain (E L.length (Kx (nthN L))) (E L.length (Kx (nthN L)) i) L.length k) ∧ l.length ≤ k
    ∧ Hid (wr.ownsRow w1.heap.size 3 1 ov (l.map fun (k : Nat) => (k : Int)).length (iRow (l.map fun (k : Nat) => (k : Int)))) ∧ Hid (Below w1.heap.size w1 wr)) (fun _ kv _ => L.length - (intOf kv).toNat)
  case atStart => exact ⟨i + 1, [], by omega, by omega, by go_num, Lib.hid rfl, by simp, Lib.hid (World.ownsRow_nil _ _ _ _), Lib.hid (Below.refl _ _)⟩
  case round =>
    obtain ⟨k, l, hik, hkE, rfl, HK, hl, HO, HB⟩ := hrel
    obtain ⟨y, cy, hv, _⟩ := owns_form HO.out
    subst hv
    have HE2 := Lib.hid (HE.out.keep HB.out)
    have de := HE2.out.cell hi
    have c0 : (0 : Int) ≤ (i : Int) := by omega
    have c1 : (i : Int) < (L.length : Int) := by omega
    by_cases hlt : k < E L.length (Kx (nthN L)) i
    · have b0 : (0 : Int) ≤ (k : Int) := by omega
      have b1 : (k : Int) < (L.length : Int) := by omega
      have b2 : (k : Int) < (E L.length (Kx (nthN L)) i : Int) := by omega
      have hk : k < L.length := by omega
      have hkn := Hch.out k hlt
      have hlam := Hw.out.lam hi hik hlt
      have hst := chain_step (f := L.length) Hch.out hlt (by omega)
      have HK2 : Hid (kids L.length (Kx (nthN L)) i = (l ++ [k]) ++ chain (E L.length (Kx (nthN L))) (E L.length (Kx (nthN L)) i) L.length (E L.length (Kx (nthN L)) k)) := Lib.hid (by rw [HK.out, hst, List.append_assoc]; rfl)
      obtain ⟨y2, c3, w3, hrun, hown, hgrow⟩ := push_int HO.out (k : Int) (by rw [List.length_map]; omega) HB.out.size
      have hb3 := Lib.hid ((HB.out.alloc HB.out.size _).grown hgrow (by have := HB.out.size; simp; omega) (fun k e => (HO.out.lt k e).1))
      have HE3 := Lib.hid (HE.out.keep hb3.out)
      have dk := HE3.out.cell hk
      have hown : w3.ownsRow w1.heap.size 3 1 (.slice y2 ((l.map fun (k : Nat) => (k : Int)).length + 1) c3) ((l ++ [k]).map fun (k : Nat) => (k : Int)).length (iRow ((l ++ [k]).map fun (k : Nat) => (k : Int))) := by
        rw [List.map_append]; exact hown
      have Hown := Lib.hid hown
      have Hrun := Lib.hid hrun
      have hl2 : (l ++ [k]).length ≤ k + 1 := by simp; omega
      have HL2 := Lib.hid hl2
      have hEk : E L.length (Kx (nthN L)) k ≤ E L.length (Kx (nthN L)) i := hlam
      have HH := Lib.hid (And.intro hEk hkn)
      clear hgrow hown hrun hst HK HO HB HE2 hl hl2 hEk hlam hkn
      generalize (l.map fun (k : Nat) => (k : Int)).length = Q at Hrun Hown ⊢
      go_wp2_with (at_builtin; refine wpList_app_run rfl _ _ _ _ rfl rfl rfl Hrun.out ?_)
      go_roundw
      case rel => exact ⟨_, l ++ [k], by have := HH.out; omega, HH.out.1, rfl, HK2, by have := HH.out; have := HL2.out; omega, Hown, hb3⟩
      case measure => have := HH.out; simp [intOf]; omega
    · have b2 : ¬ (k : Int) < (E L.length (Kx (nthN L)) i : Int) := by omega
      have hkl : kids L.length (Kx (nthN L)) i = l := by rw [HK.out, chain_done (by omega), List.append_nil]
      have HO2 := HO.out
      have hm : (l.map fun (k : Nat) => (k : Int)).length = l.length := by simp
      rw [hm] at HO2 ⊢
      have HO3 := Lib.hid HO2
      have Hkl := Lib.hid hkl
      clear HO2 hm hkl
      go_wp2
      go_ret
      exact ⟨_, rfl, by rw [Hkl.out]; exact owns_le HO3.out B1.out.size, B1.out.trans (HB.out.mono B1.out.size)⟩
end Go.Proofs.Ytklmiabgalanhaa
