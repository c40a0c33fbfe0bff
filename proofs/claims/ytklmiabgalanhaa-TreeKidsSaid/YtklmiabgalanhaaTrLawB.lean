/- The walk of the law TreeKids. -/
import Derived.Test.YtklmiabgalanhaaTrArg
import Derived.Test.YtklmiabgalanhaaTrFix
namespace Go.Proofs.Ytklmiabgalanhaa
open Go.RowKit Km Tm
set_option maxRecDepth 100000
set_option linter.unusedVariables false

theorem chain_get {n : Nat} {K : Nat → Int} (h : Wl n K) {e : Nat} : ∀ (m f c k : Nat), W n K c m = some e → e ≤ f + c → k < m → ∃ p, W n K c k = some p ∧ p < n ∧ (chain (E n K) e f c)[k]? = some p
  | 0, f, c, k, hw, hf, hk => by omega
  | m + 1, f, c, k, hw, hf, hk => by
    obtain ⟨h1, h2, h3, h4⟩ := h.step hw
    obtain ⟨f, rfl⟩ : ∃ k, f = k + 1 := ⟨f - 1, by omega⟩
    unfold chain
    rw [if_pos (by omega)]
    cases k with
    | zero => exact ⟨c, W_zero c, h1, rfl⟩
    | succ k =>
      obtain ⟨p, p1, p2, p3⟩ := chain_get h m f (E n K c) k h4 (by omega) (by omega)
      refine ⟨p, ?_, p2, by rw [List.getElem?_cons_succ]; exact p3⟩
      rw [show k + 1 = 1 + k by omega, W_cat (h.all h1).1]
      exact p1

set_option maxHeartbeats 8000000 in
theorem walk_TreeKids (a : Option Addr) (len cap : Nat) (Z : List Nd) (w : World) (h : NdArg w a len cap Z) (hz : cap * 40 ≤ 140737488351232) :
    Calls Try.prog 6 #[.slice a len cap] w fun e w' => e = .returned (.bool true) ∧ Below w.heap.size w w' := by
  have hl := h.len_eq
  have hn := h.nw hz
  generalize Z.take len = L at hl hn
  subst hl
  clear h hz
  by_cases hbig : 100 < L.length
  · have b1 : (100 : Int) < (L.length : Int) := by omega
    clear hn hbig
    go_enter Try.func6, Try.ntmps6
    go_wp2_with fail
    refine (fixed_any w).mono ?_
    rintro e w1 ⟨rfl, hb1⟩
    have B1 := Lib.hid hb1
    clear hb1
    go_wp2
    go_ret
    exact ⟨rfl, B1.out⟩
  · have b1 : ¬ (100 : Int) < (L.length : Int) := by omega
    have HN := Lib.hid hn
    have hlb : L.length ≤ 100 := by omega
    clear hbig
    by_cases ht : TM L
    · have HT := Lib.hid ht
      have h0 : 0 < L.length := ht.1.pos
      clear ht hn
      go_enter Try.func6, Try.ntmps6
      go_wp2_with fail
      refine (check_yes 131072 a cap L w (by omega) (by omega) HN.out HT.out).mono ?_
      rintro e w1 ⟨rfl, hb1⟩
      have B1 := Lib.hid hb1
      clear hb1
      go_wp2
      go_loopw [3] (fun iv wr => ∃ i : Nat, i ≤ L.length ∧ iv = .int .i64 (i : Int) ∧ Hid (Below w.heap.size w wr)) (fun iv _ => L.length - (intOf iv).toNat)
      case atStart => exact ⟨0, by omega, rfl, B1⟩
      case round =>
        obtain ⟨i, hi, rfl, HB⟩ := hrel
        by_cases hlt : i < L.length
        · have b0 : (0 : Int) ≤ (i : Int) := by omega
          have b2 : (i : Int) < (L.length : Int) := by omega
          have HC := Lib.hid (kids_some i a cap L wr (HN.out.keep HB.out) hlt HT.out)
          go_wp2_with fail
          refine HC.out.mono ?_
          rintro e w2 ⟨v, rfl, ho, hb2⟩
          obtain ⟨y, cy, hv, _⟩ := owns_form ho
          subst hv
          have B2 := Lib.hid (HB.out.trans (hb2.mono HB.out.size))
          have hsl := (show ∀ k, k < (kidL L i).length → ∃ g, y = some ⟨g, 0, none⟩ ∧ g < w2.heap.size ∧ w2.cell? ⟨g, k, none⟩ = some (.int .i64 (((kidL L i).getD k 0 : Nat) : Int)) from fun k hk => by
            rcases ho.2 with ⟨hv, h0⟩ | ⟨g, cap', cur, hv, a1, a2, _⟩
            · omega
            · injection hv with v1 v2 v3
              subst v1
              exact ⟨g, rfl, (Array.getElem?_eq_some_iff.1 a2).1, owns_cell ho (iRow_get (by rw [List.getElem?_map, List.getElem?_eq_getElem hk]; simp [hk]))⟩)
          have HSl := Lib.hid hsl
          have hkl := kids_len HT.out.1 hlt
          have HKL := Lib.hid hkl
          obtain ⟨g1, o1, rfl, hg1, hat⟩ := HN.out.1.at B2.out hlt
          have d1 := hat.2.1
          obtain ⟨D, hD⟩ : ∃ D, (kidL L i).length = D := ⟨_, rfl⟩
          have HD := Lib.hid hD
          have hkl2 : ((kidL L i).length : Int) = (nthN L i).c := hkl
          rw [← hkl2, hD] at d1
          rw [hD]
          have e1 : ((D : Int) != (D : Int)) = false := by simp
          have e2 : ((D : Int) == (D : Int)) = true := by simp
          have hW := (HT.out.1.all hlt).2.2.2.2.2
          have hKx : Kx (nthN L) i = (D : Int) := by rw [← hD]; exact hkl.symm
          have hKD : (Kx (nthN L) i).toNat = D := by rw [hKx]; exact Int.toNat_natCast D
          rw [hKD] at hW
          have HW := Lib.hid hW
          have hEi := HT.out.1.all hlt
          have HE := Lib.hid hEi
          have hDb : D ≤ 100 := by have := W_ge hW; have := hEi.2.2.1; omega
          clear ho hb2 hsl hkl hkl2 hat hW hKD hKx hD hEi HC
          go_wp2
          clear d1
          go_loopw [5, 6] (fun av kv wr2 => ∃ (k p : Nat), k ≤ D ∧ av = .int .i64 (p : Int) ∧ kv = .int .i64 (k : Int) ∧ Hid (W L.length (Kx (nthN L)) (i + 1) k = some p) ∧ Hid (Below w2.heap.size w2 wr2)) (fun _ kv _ => D - (intOf kv).toNat)
          case atStart => exact ⟨0, i + 1, by omega, by go_num, rfl, Lib.hid (W_zero _), Lib.hid (Below.refl _ _)⟩
          case round =>
            obtain ⟨k, p, hk, rfl, rfl, HWk, HB3⟩ := hrel
            by_cases hkD : k < D
            · have c0 : (0 : Int) ≤ (k : Int) := by omega
              have c1 : (k : Int) < (D : Int) := by omega
              obtain ⟨p', q1, q2, q3⟩ := chain_get HT.out.1 D L.length (i + 1) k HW.out (by have := HE.out.2.2.1; omega) hkD
              have hpp : p' = p := by
                have := q1.symm.trans HWk.out
                injection this
              subst hpp
              have hget : (kidL L i).getD k 0 = p' := by
                have : (kidL L i)[k]? = some p' := q3
                rw [List.getD_eq_getElem?_getD, this]; rfl
              obtain ⟨g, rfl, hg, hc⟩ := HSl.out k (by rw [HD.out]; exact hkD)
              rw [hget] at hc
              have hc3 := (HB3.out.cell (p := ⟨g, k, none⟩) hg).trans hc
              have hmem : p' ∈ kidL L i := List.mem_of_getElem? q3
              have hup : upL L p' = (i : Int) := ((kids_mem HT.out.1 hlt).1 hmem).2
              have Hup := Lib.hid hup
              have Hp := Lib.hid q2
              have B4 := Lib.hid (B2.out.trans (HB3.out.mono B2.out.size))
              have HC4 := up_some p' (some ⟨g1, o1, none⟩) cap L wr (HN.out.keep B4.out) q2 HT.out
              rw [hup] at HC4
              have HC4 := Lib.hid HC4
              have e3 : ((p' : Int) != (p' : Int)) = false := by simp
              have e4 : ((p' : Int) == (p' : Int)) = true := by simp
              have e5 : ((i : Int) != (i : Int)) = false := by simp
              have e6 : ((i : Int) == (i : Int)) = true := by simp
              have hW2 : W L.length (Kx (nthN L)) (i + 1) (k + 1) = some (E L.length (Kx (nthN L)) p') := by
                rw [W_cat HWk.out]; exact (HT.out.1.all q2).1
              have HW2 := Lib.hid hW2
              clear hget hc hmem hup q1 q3 hW2 q2
              go_wp2_with fail
              refine HC4.out.mono ?_
              rintro e w5 ⟨rfl, hb5⟩
              have B5 := Lib.hid (HB3.out.trans (hb5.mono HB3.out.size))
              have B6 := Lib.hid (B4.out.trans (hb5.mono B4.out.size))
              clear hb5 hc3
              go_wp2_with fail
              refine (end_some p' (some ⟨g1, o1, none⟩) cap L w5 (HN.out.keep B6.out) Hp.out HT.out).mono ?_
              rintro e w7 ⟨rfl, hb7⟩
              have B7 := Lib.hid (B5.out.trans (hb7.mono B5.out.size))
              clear hb7
              go_wp2
              go_roundw
              case rel => exact ⟨k + 1, _, by omega, rfl, by go_num, HW2, B7⟩
              case measure => simp [intOf]; omega
            · have hke : k = D := by omega
              subst hke
              have c1 : ¬ (k : Int) < (k : Int) := by omega
              have hpe : p = E L.length (Kx (nthN L)) i := by
                have := HWk.out.symm.trans HW.out
                injection this
              have B4 := Lib.hid (B2.out.trans (HB3.out.mono B2.out.size))
              have HC4 := end_some i (some ⟨g1, o1, none⟩) cap L wr (HN.out.keep B4.out) hlt HT.out
              rw [show enL L i = p from hpe.symm] at HC4
              have HC4 := Lib.hid HC4
              have e3 : ((p : Int) != (p : Int)) = false := by simp
              have e4 : ((p : Int) == (p : Int)) = true := by simp
              clear hpe
              go_wp2_with fail
              refine HC4.out.mono ?_
              rintro e w5 ⟨rfl, hb5⟩
              have B5 := Lib.hid (B4.out.trans (hb5.mono B4.out.size))
              clear hb5
              go_wp2
              go_roundw
              case rel => exact ⟨i + 1, by omega, by go_num, B5⟩
              case measure => simp [intOf]; omega
        · have hie : i = L.length := by omega
          subst hie
          have b2 : ¬ (L.length : Int) < (L.length : Int) := by omega
          have HE0 : Hid (enL L 0 = L.length) := Lib.hid HT.out.1.root
          go_wp2_with fail
          refine (fixed_any wr).mono ?_
          rintro e w2 ⟨rfl, hb2⟩
          have B2 := Lib.hid (HB.out.trans (hb2.mono HB.out.size))
          clear hb2
          go_wp2_with fail
          refine (end_some 0 a cap L w2 (HN.out.keep B2.out) h0 HT.out).mono ?_
          rw [HE0.out]
          rintro e w3 ⟨rfl, hb3⟩
          have B3 := Lib.hid (B2.out.trans (hb3.mono B2.out.size))
          have e4 : ((L.length : Int) == (L.length : Int)) = true := by simp
          clear hb3
          go_wp2_with fail
          refine (up_some 0 a cap L w3 (HN.out.keep B3.out) h0 HT.out).mono ?_
          rw [show upL L 0 = -1 from rfl]
          rintro e w4 ⟨rfl, hb4⟩
          have B4 := Lib.hid (B3.out.trans (hb4.mono B3.out.size))
          clear hb4
          go_wp2
          go_ret
          exact ⟨rfl, B4.out⟩
    · have HT := Lib.hid ht
      clear ht hn
      go_enter Try.func6, Try.ntmps6
      go_wp2_with fail
      refine (check_no 131072 a cap L w (by omega) (by omega) HN.out HT.out).mono ?_
      rintro e w1 ⟨rfl, hb1⟩
      have B1 := Lib.hid hb1
      clear hb1
      go_wp2_with fail
      refine (fixed_any w1).mono ?_
      rintro e w2 ⟨rfl, hb2⟩
      have B2 := Lib.hid (B1.out.trans (hb2.mono B1.out.size))
      clear hb2
      go_wp2
      go_ret
      exact ⟨rfl, B2.out⟩
end Go.Proofs.Ytklmiabgalanhaa
