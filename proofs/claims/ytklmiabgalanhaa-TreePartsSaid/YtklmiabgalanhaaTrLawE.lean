/- The walk of the law TreeParts. -/
import Derived.Test.YtklmiabgalanhaaTrLawD
namespace Go.Proofs.Ytklmiabgalanhaa
open Go.RowKit Km Tm
set_option maxRecDepth 100000
set_option linter.unusedVariables false

theorem nr_of {w : World} {x : Option Addr} {L : List Nd} (h : Nw w x L) (hl : L.length ≤ 200) : Nr w x L := ⟨h.1, by omega⟩
set_option maxHeartbeats 8000000 in
theorem walk_TreeParts (a : Option Addr) (len cap : Nat) (Z : List Nd) (i token : Int) (w : World) (h : NdArg w a len cap Z) (hz : cap * 40 ≤ 140737488351232) (_ : (Lit.int .i64 i).wf = true) (_ : (Lit.int .i64 token).wf = true) :
    Calls Try.prog 4 #[.slice a len cap, .int .i64 i, .int .i64 token] w fun e w' => e = .returned (.bool true) ∧ Below w.heap.size w w' := by
  have hl := h.len_eq
  have hn := h.nw hz
  generalize Z.take len = L at hl hn
  subst hl
  have HW := Lib.hid (wide_any a cap L w hn)
  have HN := Lib.hid hn
  clear h hz hn
  have hcase : (¬ TM L) ∨ (TM L ∧ ¬ (0 ≤ i ∧ i < (L.length : Int))) ∨ (TM L ∧ ∃ k : Nat, k < L.length ∧ i = (k : Int)) := by
    by_cases h1 : TM L
    · by_cases h2 : 0 ≤ i ∧ i < (L.length : Int)
      · exact .inr (.inr ⟨h1, i.toNat, by omega, by omega⟩)
      · exact .inr (.inl ⟨h1, h2⟩)
    · exact .inl h1
  rcases hcase with ht | ⟨ht, hi⟩ | ⟨ht, k, hk, rfl⟩
  · have HT := Lib.hid ht
    have HI := Lib.hid (fun (h : 0 ≤ i ∧ i < (L.length : Int) ∧ TM L) => ht h.2.2)
    clear ht
    go_enter Try.func4, Try.ntmps4
    go_wp2_with fail
    refine HW.out.mono ?_
    rintro e w1 ⟨b, rfl, hb, d, rfl⟩
    have hlb := Lib.hid hb
    have N1 := Lib.hid (HN.out.keep (below_draw (Below.refl w.heap.size w) d))
    have B1 := Lib.hid (below_draw (Below.refl w.heap.size w) d)
    clear hb
    generalize w.drewN d = w1 at N1 B1 ⊢
    cases b with
    | true =>
      go_wp2_with fail
      refine (fixed_any w1).mono ?_
      rintro e w2 ⟨rfl, hb2⟩
      have N2 := Lib.hid (N1.out.keep hb2)
      have B2 := Lib.hid (B1.out.trans (hb2.mono B1.out.size))
      clear hb2
      go_wp2
      go_ret
      exact ⟨rfl, B2.out⟩
    | false =>
      have hlc := Lib.hid (hlb.out rfl)
      clear hlb
      have hlb := hlc
      clear hlc
      go_wp2_with fail
      refine (end_none i a cap L w1 N1.out HI.out).mono ?_
      rintro e w2 ⟨rfl, hb2⟩
      have N2 := Lib.hid (N1.out.keep hb2)
      have B2 := Lib.hid (B1.out.trans (hb2.mono B1.out.size))
      clear hb2
      go_wp2_with fail
      refine (up_none i a cap L w2 N2.out HI.out).mono ?_
      rintro e w3 ⟨rfl, hb3⟩
      have N3 := Lib.hid (N2.out.keep hb3)
      have B3 := Lib.hid (B2.out.trans (hb3.mono B2.out.size))
      clear hb3
      go_wp2_with fail
      refine (over_none_t token a cap L w3 N3.out HT.out).mono ?_
      rintro e w4 ⟨rfl, hb4⟩
      have N4 := Lib.hid (N3.out.keep hb4)
      have B4 := Lib.hid (B3.out.trans (hb4.mono B3.out.size))
      clear hb4
      go_wp2_with fail
      refine (depth_none a cap L w4 N4.out HT.out).mono ?_
      rintro e w5 ⟨rfl, hb5⟩
      have N5 := Lib.hid (N4.out.keep hb5)
      have B5 := Lib.hid (B4.out.trans (hb5.mono B4.out.size))
      clear hb5
      go_wp2_with fail
      refine (kids_none i a cap L w5 N5.out HI.out).mono ?_
      rintro e w6 ⟨rfl, hb6⟩
      have N6 := Lib.hid (N5.out.keep hb6)
      have B6 := Lib.hid (B5.out.trans (hb6.mono B5.out.size))
      clear hb6
      go_wp2_with fail
      refine (own_none i a cap L w6 N6.out HI.out).mono ?_
      rintro e w7 ⟨rfl, hb7⟩
      have N7 := Lib.hid (N6.out.keep hb7)
      have B7 := Lib.hid (B6.out.trans (hb7.mono B6.out.size))
      clear hb7
      go_wp2_with fail
      refine (rtree_any 131072 a cap L w7 (nr_of N7.out hlb.out)).mono ?_
      rintro e w8 ⟨bt, rfl, hbi, hb8⟩
      have hbt : bt = false := by cases bt; rfl; exact absurd (hbi.1 rfl) HT.out
      subst hbt
      clear hbi
      have N8 := Lib.hid (N7.out.keep hb8)
      have B8 := Lib.hid (B7.out.trans (hb8.mono B7.out.size))
      clear hb8
      go_wp2_with fail
      refine (fixed_any w8).mono ?_
      rintro e w9 ⟨rfl, hb9⟩
      have N9 := Lib.hid (N8.out.keep hb9)
      have B9 := Lib.hid (B8.out.trans (hb9.mono B8.out.size))
      clear hb9
      go_wp2
      go_ret
      exact ⟨rfl, B9.out⟩
  · have HT := Lib.hid ht
    have HI := Lib.hid (fun (h : 0 ≤ i ∧ i < (L.length : Int) ∧ TM L) => hi ⟨h.1, h.2.1⟩)
    have hi2 : i < 0 ∨ (L.length : Int) ≤ i := by omega
    have HI2 := Lib.hid hi2
    clear ht hi hi2
    go_enter Try.func4, Try.ntmps4
    go_wp2_with fail
    refine HW.out.mono ?_
    rintro e w1 ⟨b, rfl, hb, d, rfl⟩
    have hlb := Lib.hid hb
    have N1 := Lib.hid (HN.out.keep (below_draw (Below.refl w.heap.size w) d))
    have B1 := Lib.hid (below_draw (Below.refl w.heap.size w) d)
    clear hb
    generalize w.drewN d = w1 at N1 B1 ⊢
    cases b with
    | true =>
      go_wp2_with fail
      refine (fixed_any w1).mono ?_
      rintro e w2 ⟨rfl, hb2⟩
      have N2 := Lib.hid (N1.out.keep hb2)
      have B2 := Lib.hid (B1.out.trans (hb2.mono B1.out.size))
      clear hb2
      go_wp2
      go_ret
      exact ⟨rfl, B2.out⟩
    | false =>
      have hlc := Lib.hid (hlb.out rfl)
      clear hlb
      have hlb := hlc
      clear hlc
      go_wp2_with fail
      refine (end_none i a cap L w1 N1.out HI.out).mono ?_
      rintro e w2 ⟨rfl, hb2⟩
      have N2 := Lib.hid (N1.out.keep hb2)
      have B2 := Lib.hid (B1.out.trans (hb2.mono B1.out.size))
      clear hb2
      go_wp2_with fail
      refine (up_none i a cap L w2 N2.out HI.out).mono ?_
      rintro e w3 ⟨rfl, hb3⟩
      have N3 := Lib.hid (N2.out.keep hb3)
      have B3 := Lib.hid (B2.out.trans (hb3.mono B2.out.size))
      clear hb3
      go_wp2_with fail
      refine (over_some token a cap L w3 N3.out HT.out).mono ?_
      rintro e w4 ⟨rfl, hb4⟩
      have N4 := Lib.hid (N3.out.keep hb4)
      have B4 := Lib.hid (B3.out.trans (hb4.mono B3.out.size))
      clear hb4
      go_wp2_with fail
      refine (depth_some a cap L w4 N4.out HT.out).mono ?_
      rintro e w5 ⟨rfl, hb5⟩
      have N5 := Lib.hid (N4.out.keep hb5)
      have B5 := Lib.hid (B4.out.trans (hb5.mono B4.out.size))
      clear hb5
      go_wp2_with fail
      refine (kids_none i a cap L w5 N5.out HI.out).mono ?_
      rintro e w6 ⟨rfl, hb6⟩
      have N6 := Lib.hid (N5.out.keep hb6)
      have B6 := Lib.hid (B5.out.trans (hb6.mono B5.out.size))
      clear hb6
      go_wp2_with fail
      refine (own_none i a cap L w6 N6.out HI.out).mono ?_
      rintro e w7 ⟨rfl, hb7⟩
      have N7 := Lib.hid (N6.out.keep hb7)
      have B7 := Lib.hid (B6.out.trans (hb7.mono B6.out.size))
      clear hb7
      go_wp2_with fail
      refine (rtree_any 131072 a cap L w7 (nr_of N7.out hlb.out)).mono ?_
      rintro e w8 ⟨bt, rfl, hbi, hb8⟩
      have hbt : bt = true := hbi.2 HT.out
      subst hbt
      clear hbi
      have N8 := Lib.hid (N7.out.keep hb8)
      have B8 := Lib.hid (B7.out.trans (hb8.mono B7.out.size))
      clear hb8
      go_wp2_with fail
      refine (rover_any token a cap L w8 (nr_of N8.out hlb.out)).mono ?_
      rintro e w9 ⟨rfl, hwhb9⟩
      have hb9 : Below w8.heap.size w8 w9 := by rw [hwhb9]; exact Below.refl _ _
      clear hwhb9
      have N9 := Lib.hid (N8.out.keep hb9)
      have B9 := Lib.hid (B8.out.trans (hb9.mono B8.out.size))
      clear hb9
      obtain ⟨OV, hOV⟩ : ∃ OV, over (nthN L) token L.length = OV := ⟨_, rfl⟩
      rw [hOV]
      have e1 : (OV != OV) = false := by simp
      have e2 : (OV == OV) = true := by simp
      clear hOV
      go_wp2_with fail
      refine (rdepth_any a cap L w9 (nr_of N9.out hlb.out) HT.out.1).mono ?_
      rintro e w10 ⟨rfl, hb10⟩
      have N10 := Lib.hid (N9.out.keep hb10)
      have B10 := Lib.hid (B9.out.trans (hb10.mono B9.out.size))
      clear hb10
      obtain ⟨DV, hDV⟩ : ∃ DV, (depL L : Int) = DV := ⟨_, rfl⟩
      rw [hDV]
      have e3 : (DV != DV) = false := by simp
      have e4 : (DV == DV) = true := by simp
      clear hDV
      rcases HI2.out with h1 | h1
      · skip
        go_wp2_with fail
        refine (fixed_any w10).mono ?_
        rintro e w11 ⟨rfl, hb11⟩
        have N11 := Lib.hid (N10.out.keep hb11)
        have B11 := Lib.hid (B10.out.trans (hb11.mono B10.out.size))
        clear hb11
        go_wp2
        go_ret
        exact ⟨rfl, B11.out⟩
      · skip
        go_wp2_with fail
        refine (fixed_any w10).mono ?_
        rintro e w11 ⟨rfl, hb11⟩
        have N11 := Lib.hid (N10.out.keep hb11)
        have B11 := Lib.hid (B10.out.trans (hb11.mono B10.out.size))
        clear hb11
        go_wp2
        go_ret
        exact ⟨rfl, B11.out⟩
  · have HT := Lib.hid ht
    have b0 : (0 : Int) ≤ (k : Int) := by omega
    have b1 : (k : Int) < (L.length : Int) := by omega
    have hkl : (kidL L k).length ≤ L.length := by
      have := kidT_len L k L.length
      rw [kidT_all hk ht, List.length_map] at this; exact this
    have hEnd : Hid (endV (W L.length (Kx (nthN L)) k 1) = (enL L k : Int)) := Lib.hid (by rw [(ht.1.all hk).1]; rfl)
    have hol0 := ownT_len L k ((nthN L k).t - (nthN L k).f).toNat
    have hol : (ownL L k).length ≤ 131072 := by
      have hfit := (ht.2 k hk).1
      have h1 := hfit.2.2.1; have h2 := hfit.2.2.2.1; have h3 := hfit.2.2.2.2.1
      unfold ownL; omega
    have HOl := Lib.hid hol
    have HKl := Lib.hid hkl
    clear ht hol hkl hol0
    go_enter Try.func4, Try.ntmps4
    go_wp2_with fail
    refine HW.out.mono ?_
    rintro e w1 ⟨b, rfl, hb, d, rfl⟩
    have hlb := Lib.hid hb
    have N1 := Lib.hid (HN.out.keep (below_draw (Below.refl w.heap.size w) d))
    have B1 := Lib.hid (below_draw (Below.refl w.heap.size w) d)
    clear hb
    generalize w.drewN d = w1 at N1 B1 ⊢
    cases b with
    | true =>
      go_wp2_with fail
      refine (fixed_any w1).mono ?_
      rintro e w2 ⟨rfl, hb2⟩
      have N2 := Lib.hid (N1.out.keep hb2)
      have B2 := Lib.hid (B1.out.trans (hb2.mono B1.out.size))
      clear hb2
      go_wp2
      go_ret
      exact ⟨rfl, B2.out⟩
    | false =>
      have hlc := Lib.hid (hlb.out rfl)
      clear hlb
      have hlb := hlc
      clear hlc
      go_wp2_with fail
      refine (end_some k a cap L w1 N1.out hk HT.out).mono ?_
      rintro e w2 ⟨rfl, hb2⟩
      have N2 := Lib.hid (N1.out.keep hb2)
      have B2 := Lib.hid (B1.out.trans (hb2.mono B1.out.size))
      clear hb2
      go_wp2_with fail
      refine (up_some k a cap L w2 N2.out hk HT.out).mono ?_
      rintro e w3 ⟨rfl, hb3⟩
      have N3 := Lib.hid (N2.out.keep hb3)
      have B3 := Lib.hid (B2.out.trans (hb3.mono B2.out.size))
      clear hb3
      go_wp2_with fail
      refine (over_some token a cap L w3 N3.out HT.out).mono ?_
      rintro e w4 ⟨rfl, hb4⟩
      have N4 := Lib.hid (N3.out.keep hb4)
      have B4 := Lib.hid (B3.out.trans (hb4.mono B3.out.size))
      clear hb4
      go_wp2_with fail
      refine (depth_some a cap L w4 N4.out HT.out).mono ?_
      rintro e w5 ⟨rfl, hb5⟩
      have N5 := Lib.hid (N4.out.keep hb5)
      have B5 := Lib.hid (B4.out.trans (hb5.mono B4.out.size))
      clear hb5
      obtain ⟨KS, hKS⟩ : ∃ KS : List Int, ((kidL L k).map fun (k : Nat) => (k : Int)) = KS := ⟨_, rfl⟩
      have hKSl : (kidL L k).length = KS.length := by rw [← hKS, List.length_map]
      have HKS := Lib.hid hKS
      have HKSl := Lib.hid hKSl
      clear hKS hKSl
      go_wp2_with fail
      refine (kids_some k a cap L w5 N5.out hk HT.out).mono ?_
      rintro e w6 ⟨kv, rfl, hok, hb6⟩
      rw [HKS.out, HKSl.out] at hok
      obtain ⟨yk, ck, hkv, himp⟩ := owns_form hok
      subst hkv
      clear himp
      have N6 := Lib.hid (N5.out.keep hb6)
      have B6 := Lib.hid (B5.out.trans (hb6.mono B5.out.size))
      have K1 := Lib.hid hok
      clear hok
      clear hb6
      go_wp2_with fail
      refine (own_some k a cap L w6 N6.out hk HT.out).mono ?_
      rintro e w7 ⟨ov, rfl, hoo, hb7⟩
      obtain ⟨yo, co, hov, himp⟩ := owns_form hoo
      subst hov
      clear himp
      have N7 := Lib.hid (N6.out.keep hb7)
      have B7 := Lib.hid (B6.out.trans (hb7.mono B6.out.size))
      have K2 := Lib.hid (owns_keep K1.out hb7)
      have O2 := Lib.hid hoo
      clear hoo
      clear hb7
      go_wp2_with fail
      refine (rtree_any 131072 a cap L w7 (nr_of N7.out hlb.out)).mono ?_
      rintro e w8 ⟨bt, rfl, hbi, hb8⟩
      have hbt : bt = true := hbi.2 HT.out
      subst hbt
      clear hbi
      have N8 := Lib.hid (N7.out.keep hb8)
      have B8 := Lib.hid (B7.out.trans (hb8.mono B7.out.size))
      have K2 := Lib.hid (owns_keep K2.out hb8)
      have O2 := Lib.hid (owns_keep O2.out hb8)
      clear hb8
      go_wp2_with fail
      refine (rover_any token a cap L w8 (nr_of N8.out hlb.out)).mono ?_
      rintro e w9 ⟨rfl, hwhb9⟩
      have hb9 : Below w8.heap.size w8 w9 := by rw [hwhb9]; exact Below.refl _ _
      clear hwhb9
      have N9 := Lib.hid (N8.out.keep hb9)
      have B9 := Lib.hid (B8.out.trans (hb9.mono B8.out.size))
      have K2 := Lib.hid (owns_keep K2.out hb9)
      have O2 := Lib.hid (owns_keep O2.out hb9)
      clear hb9
      obtain ⟨OV, hOV⟩ : ∃ OV, over (nthN L) token L.length = OV := ⟨_, rfl⟩
      rw [hOV]
      have e1 : (OV != OV) = false := by simp
      have e2 : (OV == OV) = true := by simp
      clear hOV
      go_wp2_with fail
      refine (rdepth_any a cap L w9 (nr_of N9.out hlb.out) HT.out.1).mono ?_
      rintro e w10 ⟨rfl, hb10⟩
      have N10 := Lib.hid (N9.out.keep hb10)
      have B10 := Lib.hid (B9.out.trans (hb10.mono B9.out.size))
      have K2 := Lib.hid (owns_keep K2.out hb10)
      have O2 := Lib.hid (owns_keep O2.out hb10)
      clear hb10
      obtain ⟨DV, hDV⟩ : ∃ DV, (depL L : Int) = DV := ⟨_, rfl⟩
      rw [hDV]
      have e3 : (DV != DV) = false := by simp
      have e4 : (DV == DV) = true := by simp
      clear hDV
      go_wp2_with fail
      refine (fixed_any w10).mono ?_
      rintro e w11 ⟨rfl, hb11⟩
      have N11 := Lib.hid (N10.out.keep hb11)
      have B11 := Lib.hid (B10.out.trans (hb11.mono B10.out.size))
      have K2 := Lib.hid (owns_keep K2.out hb11)
      have O2 := Lib.hid (owns_keep O2.out hb11)
      clear hb11
      go_wp2_with fail
      refine (rend_any k a cap L w11 (nr_of N11.out hlb.out) (by omega)).mono ?_
      rw [hEnd.out]
      rintro e w12 ⟨rfl, hwhb12⟩
      have hb12 : Below w11.heap.size w11 w12 := by rw [hwhb12]; exact Below.refl _ _
      clear hwhb12
      have N12 := Lib.hid (N11.out.keep hb12)
      have B12 := Lib.hid (B11.out.trans (hb12.mono B11.out.size))
      have K2 := Lib.hid (owns_keep K2.out hb12)
      have O2 := Lib.hid (owns_keep O2.out hb12)
      clear hb12
      obtain ⟨EV, hEV⟩ : ∃ EV, (enL L k : Int) = EV := ⟨_, rfl⟩
      rw [hEV]
      have e5 : (EV == EV) = true := by simp
      clear hEV
      go_wp2_with fail
      refine (rup_any k a cap L w12 (nr_of N12.out hlb.out) hk HT.out.1).mono ?_
      rintro e w13 ⟨rfl, hb13⟩
      have N13 := Lib.hid (N12.out.keep hb13)
      have B13 := Lib.hid (B12.out.trans (hb13.mono B12.out.size))
      have K2 := Lib.hid (owns_keep K2.out hb13)
      have O2 := Lib.hid (owns_keep O2.out hb13)
      clear hb13
      rw [show up L.length (Kx (nthN L)) k = upL L k from rfl]
      obtain ⟨UV, hUV⟩ : ∃ UV, upL L k = UV := ⟨_, rfl⟩
      rw [hUV]
      have e6 : (UV == UV) = true := by simp
      clear hUV
      go_wp2_with fail
      refine (rkids_any k a cap L w13 (nr_of N13.out hlb.out) hk HT.out.1).mono ?_
      rintro e w14 ⟨kv2, rfl, hok2, hb14⟩
      change World.ownsRow _ _ _ _ _ (kidL L k).length (iRow ((kidL L k).map fun (k : Nat) => (k : Int))) at hok2
      rw [HKS.out, HKSl.out] at hok2
      obtain ⟨yk2, ck2, hkv2, himp⟩ := owns_form hok2
      subst hkv2
      clear himp
      have N14 := Lib.hid (N13.out.keep hb14)
      have B14 := Lib.hid (B13.out.trans (hb14.mono B13.out.size))
      have K2 := Lib.hid (owns_keep K2.out hb14)
      have O2 := Lib.hid (owns_keep O2.out hb14)
      have K3 := Lib.hid hok2
      clear hok2
      clear hb14
      go_wp2_with fail
      refine (ints_same yk yk2 ck ck2 KS _ _ w14 K2.out K3.out (by have := HKl.out; have := hlb.out; have := HKSl.out; omega)).mono ?_
      rintro e w15 ⟨rfl, dd, hwhb15⟩
      have hb15 : Below w14.heap.size w14 w15 := by rw [hwhb15]; exact below_draw (Below.refl _ _) _
      clear hwhb15
      have N15 := Lib.hid (N14.out.keep hb15)
      have B15 := Lib.hid (B14.out.trans (hb15.mono B14.out.size))
      have K2 := Lib.hid (owns_keep K2.out hb15)
      have O2 := Lib.hid (owns_keep O2.out hb15)
      clear hb15
      go_wp2_with fail
      refine (rown_any k a cap L w15 (nr_of N15.out hlb.out) hk HT.out).mono ?_
      rintro e w16 ⟨ov2, rfl, hoo2, hb16⟩
      obtain ⟨yo2, co2, hov2, himp⟩ := owns_form hoo2
      subst hov2
      clear himp
      have N16 := Lib.hid (N15.out.keep hb16)
      have B16 := Lib.hid (B15.out.trans (hb16.mono B15.out.size))
      have K2 := Lib.hid (owns_keep K2.out hb16)
      have O2 := Lib.hid (owns_keep O2.out hb16)
      have O3 := Lib.hid hoo2
      clear hoo2
      clear hb16
      go_wp2_with fail
      refine (ints_same yo yo2 co co2 (ownL L k) _ _ w16 O2.out O3.out (by have := HOl.out; omega)).mono ?_
      rintro e w17 ⟨rfl, dd2, hwhb17⟩
      have hb17 : Below w16.heap.size w16 w17 := by rw [hwhb17]; exact below_draw (Below.refl _ _) _
      clear hwhb17
      have N17 := Lib.hid (N16.out.keep hb17)
      have B17 := Lib.hid (B16.out.trans (hb17.mono B16.out.size))
      clear hb17
      go_wp2
      go_ret
      exact ⟨rfl, B17.out⟩
end Go.Proofs.Ytklmiabgalanhaa
