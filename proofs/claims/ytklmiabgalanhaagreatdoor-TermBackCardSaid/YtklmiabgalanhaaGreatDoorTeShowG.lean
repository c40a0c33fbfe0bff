/- Contract of term.Show for lists of any length. -/
import Derived.Test.YtklmiabgalanhaaGreatDoorTeLawE
namespace Go.Proofs.YtklmiabgalanhaaGreatDoor
open Go.Shelf Go.RowKit Em Tx Km
set_option maxRecDepth 100000
set_option linter.unusedVariables false
set_option linter.unusedSimpArgs false
/-- Each part has a byte at least. -/
theorem sF_ge : ∀ (l : List (La × Nat)) (s : List Nat × List UInt8), l.length + s.2.length ≤ (sF txA l s).2.length
  | [], s => by simp [sF]
  | p :: l, s => by
    have h1 := sF_ge l (Tx.step txA p s)
    have h2 := step_len txA p s
    have h3 := txA_size p.1
    show _ ≤ (sF txA l (Tx.step txA p s)).2.length
    rw [List.length_cons]; omega
set_option maxHeartbeats 8000000 in
theorem show_gen (x : Option Addr) (c : Nat) (L : List Pt) (w : World) (hr : PtI w x L) (hlb : L.length ≤ 4398046511104) (hW : Calls Tryz.prog 13 #[.slice x L.length c] w fun e w' => (∃ b : Bool, e = .returned (.bool b) ∧ (b = true → ∀ i, i < L.length → 0 ≤ Kp L i ∧ Kp L i ≤ (L.length : Int))) ∧ w' = w) (hk8 : ∀ i, i < L.length → (nthP L i).k < 256) (hx : ∀ i, i < L.length → (nthP L i).x.size ≤ 140737488355328) (hs : Snt w) :
    Calls Tryz.prog 24 #[.slice x L.length c] w fun e w' => (e = .returned (shV L) ∨ e = .returned (.tuple #[.string ByteArray.empty, .int .i64 8])) ∧ Below w.heap.size w w' := by
  have HW := Lib.hid hW
  have Hr := Lib.hid hr
  have HK := Lib.hid hk8
  have HX := Lib.hid hx
  have HS := Lib.hid hs
  clear hr hW hk8 hx hs
  go_enter Tryz.func24, Tryz.ntmps24
  go_wp2_with fail
  refine HW.out.mono ?_
  rintro e w1 ⟨⟨b, rfl, hb⟩, rfl⟩
  cases b with
  | false =>
    go_wp2
    refine bodyPost_ret (v := .tuple #[.string ByteArray.empty, .int .i64 8]) ?_ rfl ⟨.inr rfl, Below.refl _ _⟩
    simp [results, Tryz.results24, go_sem]
    rfl
  | true =>
  have HWE := Lib.hid (hb rfl)
  clear hb
  obtain ⟨B, hB⟩ : ∃ B, w1.heap.size = B := ⟨_, rfl⟩
  have Hst : Hid (ShI B w1 (w1.alloc (.cells #[.pointer none, .slice none 0 0] 58)) (.slice none 0 0) [] []) := Lib.hid ⟨by rw [← hB]; exact Lib.IsBuilderF.of (Lib.fresh_isBuilder _ _ _), World.ownsRow_nil _ _ _ _, by rw [← hB]; exact (Below.refl _ _).alloc (Nat.le_refl _) _, by rw [← hB]; simp⟩
  have HBs := Lib.hid hB
  go_wp2
  go_loopw [5, 13] (fun lv kv wr => ∃ (k : Nat) (st : List Nat) (out : List UInt8), k ≤ L.length ∧ kv = .int .i64 (k : Int) ∧ Hid (sF txA ((L.map ofP).take k) ([], []) = (st, out)) ∧ st.length ≤ k ∧ out.length ≤ 9000000 ∧ Hid (∀ n ∈ st, n ≤ 4398046511104) ∧ Hid (ShI B w1 wr lv st out)) (fun _ kv _ => L.length - (intOf kv).toNat)
  case atStart => exact ⟨0, [], [], by omega, rfl, Lib.hid rfl, by simp, by simp, Lib.hid (fun n h => by simp at h), Hst⟩
  case round =>
    obtain ⟨k, st, out, hk, rfl, HF, hst, hout, HSB, HI⟩ := hrel
    obtain ⟨y, cy, hv, hnil⟩ := owns_form HI.out.row
    subst hv
    clear hnil
    obtain ⟨sl, hsl⟩ : ∃ sl, st.length = sl := ⟨_, rfl⟩
    have HSL := Lib.hid hsl
    rw [hsl] at HI hst ⊢
    clear hsl
    have HLn : Hid (∀ wx, ShI B w1 wx (.slice y sl cy) st out → Calls Tryz.prog 41 #[.pointer (some ⟨B, 0, none⟩)] wx fun e w' => e = .returned (.int .i64 (out.length : Int)) ∧ w' = wx) := Lib.hid fun wx hx => by
      have h := bld_len B B (Lib.byteCells out) wx hx.bld
      rw [bc_len] at h
      exact h
    by_cases hlt : k < L.length
    · have b0 : (0 : Int) ≤ (k : Int) := by omega
      have b1 : (k : Int) < (L.length : Int) := by omega
      obtain ⟨g, o, rfl, hg, d0, d1, d2⟩ := Hr.out.at (by rw [HBs.out]; exact HI.out.bel) hlt
      have hko : k ≤ out.length := by
        have := sF_ge ((L.map ofP).take k) ([], [])
        rw [HF.out, List.length_take, List.length_map] at this
        dsimp only [List.length_nil] at this
        omega
      have hwe := HWE.out k hlt
      have hkc : Kp L k = (nthP L k).c := rfl
      rw [hkc] at hwe
      obtain ⟨D, hD⟩ : ∃ D : Nat, (nthP L k).c = (D : Int) := ⟨(nthP L k).c.toNat, by omega⟩
      have h8 := HK.out k hlt
      have hxx := HX.out k hlt
      have hge := txL_ge hlt HF.out
      have hstep : sF txA ((L.map ofP).take (k + 1)) ([], []) = closes (D :: decr st) (out ++ gap st ++ txA ((nthP L k).k, (nthP L k).x)) := by
        rw [offP_get hlt, sF_snoc, HF.out]
        unfold Tx.step ofP
        rw [hD, Int.toNat_natCast]
      have htop : ∀ n st2, st = n :: st2 → 0 < n := fun n st2 e => sF_top (tx := txA) (l := (L.map ofP).take k) (st2 := st2) (by rw [HF.out, e])
      have hDl : D ≤ L.length := by omega
      rw [hD] at d1
      have hle := txA_le (a := ((nthP L k).k, (nthP L k).x)) h8
      dsimp only at hle
      have htx : txA ((nthP L k).k, (nthP L k).x) = 40 :: (Lib.decDigits (nthP L k).k ++ wdL (nthP L k).x) := rfl
      clear hwe hkc hD
      generalize (nthP L k).k = K8 at d0 h8 hstep hle htx
      generalize (nthP L k).x = X at d2 hxx hge hstep hle htx
      have HG := Lib.hid hge
      have HST := Lib.hid hstep
      have HTP := Lib.hid htop
      have HTX := Lib.hid htx
      clear hge hstep htop htx
      go_upto_region 8 with fail
      have HP0 : Hid ((wr.alloc (.cells #[.int .u8 (K8 : Int), .int .i64 (D : Int), .string X] 28)).heap[wr.heap.size]? = some (.cells #[.int .u8 (K8 : Int), .int .i64 (D : Int), .string X] 28 (0, 0))) := Lib.hid (heap_alloc_new wr _)
      have HI1 := Lib.hid (HI.out.keep ((Below.refl _ _).alloc (Nat.le_refl _) (.cells #[.int .u8 (K8 : Int), .int .i64 (D : Int), .string X] 28)))
      clear d0 d1 d2
      generalize wr.alloc (.cells #[.int .u8 (K8 : Int), .int .i64 (D : Int), .string X] 28) = wp at HP0 HI1 ⊢
      generalize wr.heap.size = P at HP0 ⊢
      have p2 : wp.cell? ⟨P, 2, none⟩ = some (.string X) := by rw [cell_of_row wp P 2 _ _ _ HP0.out]; rfl
      by_cases hlong : 1048576 < out.length + X.size
      · have hl2 : (1048576 : Int) < (out.length : Int) + (X.size : Int) := by omega
        have HVl := Lib.hid (shV_long (L := L) (by have := HG.out; omega))
        go_quiet ((go_at_call 41; exact Calls.quiet_of_same (HLn.out _ (HI1.out.draw _))))
        go_wp2
        refine bodyPost_ret (v := .tuple #[.string ByteArray.empty, .int .i64 2]) ?_ rfl ⟨.inl (by rw [HVl.out]), ?_⟩
        · simp [results, Tryz.results24, go_sem]; rfl
        · rw [HBs.out]; exact (HI1.out.draw _).bel
      · have hl2 : ¬ (1048576 : Int) < (out.length : Int) + (X.size : Int) := by omega
        go_quiet ((go_at_call 41; exact Calls.quiet_of_same (HLn.out _ (HI1.out.draw _))))
        go_upto_if 25 with fail
        go_cut [5] from 14 to 72 (fun lv wx => (∃ y2 cy2, lv = .slice y2 sl cy2) ∧ Hid (ShI B w1 wx lv (decr st) (out ++ gap st)) ∧ Hid (wx.heap[P]? = some (.cells #[.int .u8 (K8 : Int), .int .i64 (D : Int), .string X] 28 (0, 0))))
        case first =>
          clear p2
          by_cases hz : 0 < sl
          · obtain ⟨n, st2, rfl⟩ : ∃ n st2, st = n :: st2 := by
              cases st with
              | nil => have := HSL.out; simp at this; omega
              | cons n st2 => exact ⟨n, st2, rfl⟩
            obtain ⟨q, rfl⟩ : ∃ q, n = q + 1 := ⟨n - 1, by have := HTP.out n st2 rfl; omega⟩
            obtain ⟨m, hm⟩ : ∃ m, st2.length = m := ⟨_, rfl⟩
            have hms : m + 1 = sl := by have := HSL.out; simp at this; omega
            obtain ⟨gr, cap, hv, hgr, _, _, _⟩ := row_slot HI1.out.row
            injection hv with v1 v2 v3
            subst v1 v3
            clear v2
            have HI2 : Hid (∀ d, ShI B w1 (wp.drewN d) (.slice (some ⟨gr, 0, none⟩) sl cy) ((q + 1) :: st2) out) := Lib.hid fun d => HI1.out.draw d
            have hqb : q ≤ 4398046511104 := by have := HSB.out (q + 1) (by simp); omega
            have HM := Lib.hid hm
            clear hm
            have t0 : (0 : Int) < (sl : Int) := by omega
            have a1 : (0 : Int) ≤ (m : Int) := by omega
            have a2 : (m : Int) < (sl : Int) := by omega
            have e1 : IntKind.i64.wrap ((sl : Int) - 1) = (m : Int) := by rw [IntKind.wrap_i64]; omega
            go_wp2_with fail
            refine (bld_byte B B (Lib.byteCells out) 32 _ (HI2.out _).bld (by rw [bc_len]; omega) (HI2.out _).low).mono ?_
            rintro e w3 ⟨rfl, i3, f3, o3⟩
            have e3 : Lib.byteCells out ++ [Value.int .u8 32] = Lib.byteCells (out ++ [32]) := bc_snoc out 32 (by omega)
            rw [e3] at i3
            have HI3 := Lib.hid ((HI2.out _).wrote i3 f3 o3)
            have HP3 := Lib.hid (block_oth (w := wp.drewN nq) HP0.out (HI2.out nq).bld o3 (by decide) (by decide))
            clear i3 f3 o3 e3
            obtain ⟨gr', cap', hv', _, hc, hf, hblk⟩ := row_slot HI3.out.row
            injection hv' with v1 v2 v3
            injection v1 with v1
            injection v1 with v1
            subst v1 v3
            clear v2
            have HBK := Lib.hid hblk
            rw [HM.out] at hc hf
            clear hblk
            go_wp2_with fail
            go_meet
            case rel =>
              refine ⟨⟨_, _, rfl⟩, Lib.hid ?_, Lib.hid ?_⟩
              · have h9 := HI3.out
                have := HM.out
                subst this
                rw [← hms] at h9 ⊢
                exact ShI.set (m := q) h9
              · exact KpI.setCell (p := ⟨gr, m, none⟩) _ (by obtain ⟨c, hc2⟩ := HBK.out; exact ⟨c, _, hc2⟩) P _ HP3.out (fun c fz e => by injection e with _ e _; exact absurd e (by decide))
          · have hn : st = [] := List.eq_nil_of_length_eq_zero (by have := HSL.out; omega)
            subst hn
            have hfin : ∀ d, ShI B w1 (wp.drewN d) (.slice y sl cy) (decr []) (out ++ gap []) := fun d => by
              have := HI1.out.draw d
              rw [show out ++ gap [] = out from List.append_nil out]
              exact this
            have HFin := Lib.hid hfin
            have t0 : ¬ (0 : Int) < (sl : Int) := by omega
            clear hfin
            go_wp2_with fail
            go_meet
            case rel => exact ⟨⟨_, _, rfl⟩, Lib.hid (HFin.out _), Lib.hid HP0.out⟩
        case rest =>
          obtain ⟨⟨y2, cy2, rfl⟩, HI2, HP2⟩ := hcut
          have hdl : (decr st).length = sl := by rw [← HSL.out]; cases st <;> simp [decr]
          have hgl : (gap st).length ≤ 1 := by cases st <;> simp [gap]
          have hol : (out ++ gap st).length ≤ out.length + 1 := by rw [List.length_append]; omega
          have hdb : ∀ n ∈ decr st, n ≤ 4398046511104 := fun n hn => by
            cases st with
            | nil => simp [decr] at hn
            | cons a st2 =>
              simp only [decr, List.mem_cons] at hn
              rcases hn with rfl | hn
              · have := HSB.out a (by simp); omega
              · exact HSB.out n (by simp [hn])
          have HDB := Lib.hid hdb
          clear hdb hgl p2
          obtain ⟨st1, hst1⟩ : ∃ st1, decr st = st1 := ⟨_, rfl⟩
          obtain ⟨out1, hout1⟩ : ∃ out1, out ++ gap st = out1 := ⟨_, rfl⟩
          rw [hst1, hout1] at HI2
          rw [hst1, hout1] at HST
          rw [hst1] at hdl HDB
          rw [hout1] at hol
          clear hst1 hout1 HLn HI1 HP0
          have p0 : wc.cell? ⟨P, 0, none⟩ = some (.int .u8 (K8 : Int)) := by rw [cell_of_row wc P 0 _ _ _ HP2.out]; rfl
          have hs0 : Snt wc := HS.out.keep (by rw [HBs.out]; exact HI2.out.bel)
          have HIT := Lib.hid (itoa_k K8 (by omega) wc hs0)
          have hS3 : (⟨(Lib.decDigits K8).toArray⟩ : ByteArray).size ≤ 3 := by
            have := dec_len3 h8
            show (Lib.decDigits K8).toArray.size ≤ 3
            simpa using this
          have hSb : bl (⟨(Lib.decDigits K8).toArray⟩ : ByteArray) = Lib.decDigits K8 := txt_bl _
          have HSb := Lib.hid hSb
          clear hs0 hSb
          generalize (⟨(Lib.decDigits K8).toArray⟩ : ByteArray) = S at HIT hS3 HSb
          have hk0 : (0 : Int) ≤ (K8 : Int) := by omega
          have hk9 : (K8 : Int) ≤ 255 := by omega
          go_wp2_with fail
          refine HIT.out.mono ?_
          rintro e wa ⟨rfl, ga⟩
          have HI3 := Lib.hid (HI2.out.keep ga)
          have HP3 : Hid (wa.heap[P]? = some (.cells #[.int .u8 (K8 : Int), .int .i64 (D : Int), .string X] 28 (0, 0))) := Lib.hid (KpI.below ga P _ HP2.out (fun c fz e => by injection e with _ e _; exact absurd e (by decide)))
          clear ga HIT p0
          have hlen4 : (Lib.byteCells out1).length + ((⟨#[40]⟩ : ByteArray) ++ S).size ≤ 140737488355328 := by
            rw [bc_len, Um.size_append]
            have : (⟨#[40]⟩ : ByteArray).size = 1 := rfl
            omega
          have HWS := Lib.hid (bld_str B B (Lib.byteCells out1) ((⟨#[40]⟩ : ByteArray) ++ S) wa HI3.out.bld hlen4 HI3.out.low)
          clear hlen4
          go_wp2_with fail
          refine HWS.out.mono ?_
          rintro e w4 ⟨rfl, i4, f4, o4⟩
          rw [bc_str, bl_append, HSb.out, show bl (⟨#[40]⟩ : ByteArray) = [40] from rfl] at i4
          have HI4 := Lib.hid (HI3.out.wrote i4 f4 o4)
          have HP4 := Lib.hid (block_oth HP3.out HI3.out.bld o4 (by decide) (by decide))
          clear i4 f4 o4 HI3 HP3 HI2 HP2
          have hp4 : w4.cell? ⟨P, 2, none⟩ = some (.string X) := by rw [cell_of_row w4 P 2 _ _ _ HP4.out]; rfl
          obtain ⟨out2, hout2⟩ : ∃ out2, out1 ++ ([40] ++ Lib.decDigits K8) = out2 := ⟨_, rfl⟩
          have HO2 := Lib.hid hout2
          have hl2' : out2.length ≤ out1.length + 4 := by
            have := dec_len3 h8
            rw [← hout2, List.length_append, List.length_append]; simp; omega
          rw [hout2] at HI4
          clear hout2 HWS HSb hS3
          obtain ⟨bx, hbx⟩ : ∃ bx : Bool, X.toList.isEmpty = bx := ⟨_, rfl⟩
          go_upto_if 43 with fail
          have hbx2 : bx = decide (X.size = 0) := by rw [← emp_iff]; exact hbx.symm
          have HBX := Lib.hid hbx2
          clear hbx hbx2
          go_cut [5] from 14 to 72 (fun lv wx => lv = .slice y2 sl cy2 ∧ Hid (ShI B w1 wx lv st1 (out2 ++ wdL X)) ∧ Hid (wx.heap[P]? = some (.cells #[.int .u8 (K8 : Int), .int .i64 (D : Int), .string X] 28 (0, 0))))
          case first =>
            cases bx with
            | true =>
              have hx0 : X.size = 0 := of_decide_eq_true HBX.out.symm
              have hfin : ShI B w1 w4 (.slice y2 sl cy2) st1 (out2 ++ wdL X) := by
                unfold wdL
                rw [if_pos hx0, List.append_nil]
                exact HI4.out
              have HFin := Lib.hid hfin
              clear hfin hx0
              go_wp2_with fail
              go_meet
              case rel => exact ⟨rfl, HFin, HP4⟩
            | false =>
              have hx0 : ¬ X.size = 0 := of_decide_eq_false HBX.out.symm
              have HQ := Lib.hid (quote_any X w4 (by omega))
              have hqb : bl (txt (quoteL (bl X))) = quoteL (bl X) := txt_bl _
              have hqs : (txt (quoteL (bl X))).size ≤ 4 * X.size + 2 := by
                have := quoteL_len (bl X)
                rw [bl_size] at this
                rw [txt_size]; exact this
              have hwd : wdL X = [32] ++ quoteL (bl X) := by unfold wdL; rw [if_neg hx0]; rfl
              have HWD := Lib.hid hwd
              have HQB := Lib.hid hqb
              clear hwd hqb hx0
              generalize txt (quoteL (bl X)) = T at HQ HQB hqs
              go_wp2_with fail
              refine HQ.out.mono ?_
              rintro e w5 ⟨rfl, g5⟩
              have HI5 := Lib.hid (HI4.out.keep g5)
              have HP5 : Hid (w5.heap[P]? = some (.cells #[.int .u8 (K8 : Int), .int .i64 (D : Int), .string X] 28 (0, 0))) := Lib.hid (KpI.below g5 P _ HP4.out (fun c fz e => by injection e with _ e _; exact absurd e (by decide)))
              have hlen5 : (Lib.byteCells out2).length + ((⟨#[32]⟩ : ByteArray) ++ T).size ≤ 140737488355328 := by
                rw [bc_len, Um.size_append]
                have : (⟨#[32]⟩ : ByteArray).size = 1 := rfl
                omega
              have HWS := Lib.hid (bld_str B B (Lib.byteCells out2) ((⟨#[32]⟩ : ByteArray) ++ T) w5 HI5.out.bld hlen5 HI5.out.low)
              have hTs : T.size ≤ 4194306 := by omega
              clear hlen5 g5 HQ hp4
              go_wp2_with fail
              refine HWS.out.mono ?_
              rintro e w6 ⟨rfl, i6, f6, o6⟩
              rw [bc_str, bl_append, HQB.out, show bl (⟨#[32]⟩ : ByteArray) = [32] from rfl, ← HWD.out] at i6
              have HI6 := Lib.hid (HI5.out.wrote i6 f6 o6)
              have HP6 := Lib.hid (block_oth HP5.out HI5.out.bld o6 (by decide) (by decide))
              clear i6 f6 o6
              go_wp2_with fail
              go_meet
              case rel => exact ⟨rfl, HI6, HP6⟩
          case rest =>
          obtain ⟨rfl, HI6, HP6⟩ := hcut
          have hst2 : sF txA ((L.map ofP).take (k + 1)) ([], []) = closes (D :: st1) (out2 ++ wdL X) := by
            rw [HST.out, HTX.out, ← HO2.out]
            congr 1
            simp
          have HST2 := Lib.hid hst2
          have hwl : (wdL X).length ≤ 4 * X.size + 3 := by
            unfold wdL
            split
            · simp
            · have := quoteL_len (bl X)
              rw [bl_size] at this
              rw [List.length_cons]; omega
          obtain ⟨out3, hout3⟩ : ∃ out3, out2 ++ wdL X = out3 := ⟨_, rfl⟩
          have hl3 : out3.length ≤ 5242900 := by rw [← hout3, List.length_append]; omega
          rw [hout3] at HI6 HST2
          have p1 : wc.cell? ⟨P, 1, none⟩ = some (.int .i64 (D : Int)) := by rw [cell_of_row wc P 1 _ _ _ HP6.out]; rfl
          obtain ⟨y3, c3, w7, hrun, hI7, _⟩ := HI6.out.push D (by rw [hdl]; omega)
          rw [hdl] at hrun hI7
          have Hrun := Lib.hid hrun
          have HI7 := Lib.hid hI7
          clear hst2 hwl hrun hI7 hout3 HST HTX HO2 HG hle HP6
          go_wp2_with (at_builtin; refine wpList_app_run rfl _ _ _ _ rfl rfl rfl Hrun.out ?_)
          clear p1
          go_loopw [5] (fun lv wr => ∃ (st' : List Nat) (out' : List UInt8), Hid (closes st' out' = closes (D :: st1) out3) ∧ out'.length + st'.length ≤ 8000000 ∧ st'.length ≤ k + 1 ∧ Hid (∀ n ∈ st', n ≤ 4398046511104) ∧ Hid (ShI B w1 wr lv st' out')) (fun lv _ => lenV lv)
          case atStart => exact ⟨D :: st1, out3, Lib.hid rfl, by rw [List.length_cons, hdl]; omega, by rw [List.length_cons, hdl]; omega, Lib.hid (fun n hn => by
            rw [List.mem_cons] at hn
            rcases hn with rfl | hn
            · omega
            · exact HDB.out n hn), HI7⟩
          case round =>
            obtain ⟨st', out', HC, hlen, hsk, HSB', HI'⟩ := hrel
            obtain ⟨y', cy', hv, _⟩ := owns_form HI'.out.row
            subst hv
            obtain ⟨s', hs'⟩ : ∃ s', st'.length = s' := ⟨_, rfl⟩
            have HSL2 := Lib.hid hs'
            rw [hs'] at HI' hlen hsk ⊢
            clear hs'
            by_cases hz : 0 < s'
            · obtain ⟨n, st2, rfl⟩ : ∃ n st2, st' = n :: st2 := by
                cases st' with
                | nil => have := HSL2.out; simp at this; omega
                | cons n st2 => exact ⟨n, st2, rfl⟩
              obtain ⟨m, hm⟩ : ∃ m, st2.length = m := ⟨_, rfl⟩
              have hms : m + 1 = s' := by have := HSL2.out; simp at this; omega
              obtain ⟨gr, cap, hv, hgr, hc, hf, _⟩ := row_slot HI'.out.row
              injection hv with v1 v2 v3
              subst v1 v3
              clear v2
              rw [hm] at hc
              have hqb : n ≤ 4398046511104 := HSB'.out n (by simp)
              have HM := Lib.hid hm
              clear hm hf
              have t0 : (0 : Int) < (s' : Int) := by omega
              have a1 : (0 : Int) ≤ (m : Int) := by omega
              have a2 : (m : Int) < (s' : Int) := by omega
              have e1 : IntKind.i64.wrap ((s' : Int) - 1) = (m : Int) := by rw [IntKind.wrap_i64]; omega
              cases n with
              | zero =>
                have a3 : (0 : Int) ≤ (m : Int) := by omega
                have hrow := HI'.out.row
                rw [show (0 :: st2).length = s' from HSL2.out] at hrow
                have hcap := owns_cap hrow
                have a4 : (m : Int) ≤ (cy' : Int) := by omega
                have a5 : m ≤ cy' := by omega
                have hc0 : wr.cell? ⟨gr, m, none⟩ = some (.int .i64 0) := hc
                have HW1 := Lib.hid (bld_byte B B (Lib.byteCells out') 41 wr HI'.out.bld (by rw [bc_len]; omega) HI'.out.low)
                have hz0 : ((0 : Int) == 0) = true := rfl
                clear hc hrow hcap
                go_wp2_with fail
                refine HW1.out.mono ?_
                rintro e w8 ⟨rfl, i8, f8, o8⟩
                have e8 : Lib.byteCells out' ++ [Value.int .u8 41] = Lib.byteCells (out' ++ [41]) := bc_snoc out' 41 (by omega)
                rw [e8] at i8
                have HI8 := Lib.hid (HI'.out.wrote i8 f8 o8)
                have hc8 : closes st2 (out' ++ [41]) = closes (D :: st1) out3 := by rw [← HC.out, closes_zero]
                have HC8 := Lib.hid hc8
                have hpop : ShI B w1 w8 (.slice (some ⟨gr, 0, none⟩) m cy') st2 (out' ++ [41]) := by
                  have h9 := HI8.out
                  have := HM.out
                  subst this
                  rw [← hms] at h9
                  exact h9.pop
                have HPP := Lib.hid hpop
                clear i8 f8 o8 e8 hc8 hpop HW1
                go_wp2
                go_roundw
                case rel => exact ⟨st2, out' ++ [41], HC8, by rw [List.length_append]; have := HM.out; simp; omega, by have := HM.out; omega, Lib.hid (fun n hn => HSB'.out n (by simp [hn])), HPP⟩
                case measure => simp [lenV]; omega
              | succ q =>
                have hne : (((q + 1 : Nat) : Int) == 0) = false := beq_eq_false_iff_ne.2 (by omega)
                have hne2 : (((q : Nat) : Int) + 1 == 0) = false := beq_eq_false_iff_ne.2 (by omega)
                have hfin : sF txA ((L.map ofP).take (k + 1)) ([], []) = ((q + 1) :: st2, out') := by rw [HST2.out, ← HC.out, closes_pos (by omega)]
                have HFin := Lib.hid hfin
                clear hfin
                go_wp2
                go_roundw
                case rel => exact ⟨k + 1, _, out', by omega, by go_num, HFin, by have := HSL2.out; omega, by omega, HSB', HI'⟩
                case measure => simp [intOf]; omega
            · have hn : st' = [] := List.eq_nil_of_length_eq_zero (by have := HSL2.out; omega)
              subst hn
              have t0 : ¬ (0 : Int) < (s' : Int) := by omega
              have hfin : sF txA ((L.map ofP).take (k + 1)) ([], []) = ([], out') := by rw [HST2.out, ← HC.out, closes_nil]
              have HFin := Lib.hid hfin
              clear hfin
              go_wp2
              go_roundw
              case rel => exact ⟨k + 1, _, out', by omega, by go_num, HFin, by have := HSL2.out; omega, by omega, HSB', HI'⟩
              case measure => simp [intOf]; omega
    · have hkl : k = L.length := by omega
      have b1 : ¬ (k : Int) < (L.length : Int) := by omega
      have htx : txL L = out := by
        unfold txL
        have := HF.out
        rw [hkl, List.take_of_length_le (by simp)] at this
        rw [this]
      have HBe : Hid (Below w1.heap.size w1 wr) := Lib.hid (by rw [HBs.out]; exact HI.out.bel)
      by_cases hlong : 1048576 < out.length
      · have hl2 : (1048576 : Int) < (out.length : Int) := by omega
        have HVl := Lib.hid (shV_long (L := L) (by rw [htx]; exact hlong))
        have HLc := Lib.hid (HLn.out wr HI.out)
        clear htx HLn
        go_wp2_with fail
        refine HLc.out.mono ?_
        rintro e w2 ⟨rfl, rfl⟩
        go_wp2
        refine bodyPost_ret (v := .tuple #[.string ByteArray.empty, .int .i64 2]) ?_ rfl ⟨.inl (by rw [HVl.out]), HBe.out⟩
        simp [results, Tryz.results24, go_sem]; rfl
      · have hl2 : ¬ (1048576 : Int) < (out.length : Int) := by omega
        have HVl := Lib.hid (shV_ok (L := L) (by rw [htx]; exact hlong))
        have HTx := Lib.hid htx
        have HLc := Lib.hid (HLn.out wr HI.out)
        have HSt := Lib.hid (bld_string B B out wr HI.out.bld HI.out.low)
        clear htx HLn
        go_wp2_with fail
        refine HLc.out.mono ?_
        rintro e w2 ⟨rfl, rfl⟩
        go_wp2_with fail
        refine HSt.out.mono ?_
        rintro e w3 ⟨rfl, g3⟩
        have HB3 : Hid (Below w1.heap.size w1 w3) := Lib.hid (HBe.out.trans (by rw [HBs.out]; exact g3))
        clear g3
        go_wp2
        refine bodyPost_ret (v := .tuple #[.string ⟨out.toArray⟩, .int .i64 0]) ?_ rfl ⟨.inl (by rw [HVl.out, HTx.out]; rfl), HB3.out⟩
        simp [results, Tryz.results24, go_sem]

/-- All numbers of kids may be. -/
def InR (L : List Pt) (n : Nat) : Prop := ∀ i, i < n → 0 ≤ Kp L i ∧ Kp L i ≤ (L.length : Int)
set_option maxHeartbeats 4000000 in
theorem behind_weak (x : Option Addr) (c : Nat) (L : List Pt) (w : World) (hr : PtI w x L) (hlb : L.length ≤ 4398046511104) :
    Calls Tryz.prog 33 #[.slice x L.length c, .int .i64 0] w fun e w' => (∃ V : Int, e = .returned (.int .i64 V) ∧ (V = (L.length : Int) → InR L L.length)) ∧ w' = w := by
  have Hr := Lib.hid hr
  clear hr
  go_enter Tryz.func33, Tryz.ntmps33
  go_wp2
  go_loopw [1, 5] (fun jv mv wr => ∃ (j : Nat) (m : Int), j ≤ L.length ∧ jv = .int .i64 (j : Int) ∧ mv = .int .i64 m ∧ Hid (InR L j) ∧ wr = w) (fun jv _ _ => L.length - (intOf jv).toNat)
  case atStart => exact ⟨0, 1, by omega, rfl, rfl, Lib.hid (fun i h => by omega), rfl⟩
  case round =>
    obtain ⟨j, m, hj, rfl, rfl, HW, rfl⟩ := hrel
    by_cases h0 : 0 < m
    · by_cases hlt : j < L.length
      · have b0 : (0 : Int) ≤ (j : Int) := by omega
        have b1 : (j : Int) < (L.length : Int) := by omega
        have q1 : ((j : Int) == (L.length : Int)) = false := beq_eq_false_iff_ne.2 (by omega)
        have q2 : (j == L.length) = false := beq_eq_false_iff_ne.2 (by omega)
        obtain ⟨g, o, rfl, hg, hat⟩ := Hr.out.at (Below.refl _ _) hlt
        have d1 := hat.2.1
        have hK : Kp L j = (nthP L j).c := rfl
        have HK := Lib.hid hK
        clear hat hK
        generalize (nthP L j).c = C at d1 HK
        by_cases h1 : C < 0
        · go_wp2
          go_ret
          exact ⟨⟨-1, rfl, fun h => by omega⟩, rfl⟩
        · by_cases h2 : (L.length : Int) < C
          · go_wp2
            go_ret
            exact ⟨⟨-1, rfl, fun h => by omega⟩, rfl⟩
          · have HN : Hid (InR L (j + 1)) := Lib.hid (fun i hi => by
              by_cases e : i = j
              · subst e; rw [HK.out]; omega
              · exact HW.out i (by omega))
            go_wp2
            go_roundw
            case rel => exact ⟨j + 1, _, by omega, by go_num, rfl, HN, by first | rfl | trivial⟩
            case measure => simp [intOf]; omega
      · have hje : j = L.length := by omega
        have q1 : ((j : Int) == (L.length : Int)) = true := beq_iff_eq.2 (by omega)
        have q2 : (j == L.length) = true := beq_iff_eq.2 (by omega)
        subst hje
        go_wp2
        go_ret
        exact ⟨⟨-1, rfl, fun h => by omega⟩, rfl⟩
    · have hfin : Hid ((j : Int) = (L.length : Int) → InR L L.length) := Lib.hid (fun h i hi => HW.out i (by omega))
      go_wp2
      go_ret
      exact ⟨⟨(j : Int), rfl, hfin.out⟩, rfl⟩
theorem well_weak (x : Option Addr) (c : Nat) (L : List Pt) (w : World) (hr : PtI w x L) (hlb : L.length ≤ 4398046511104) :
    Calls Tryz.prog 13 #[.slice x L.length c] w fun e w' => (∃ b : Bool, e = .returned (.bool b) ∧ (b = true → ∀ i, i < L.length → 0 ≤ Kp L i ∧ Kp L i ≤ (L.length : Int))) ∧ w' = w := by
  have H1 := Lib.hid (behind_weak x c L w hr hlb)
  clear hr
  go_enter Tryz.func13, Tryz.ntmps13
  go_wp2_with fail
  refine H1.out.mono ?_
  rintro e w1 ⟨⟨V, rfl, hV⟩, rfl⟩
  have HV := Lib.hid hV
  clear hV
  go_wp2
  go_ret
  exact ⟨⟨V == (L.length : Int), rfl, fun h => HV.out (beq_iff_eq.1 h)⟩, rfl⟩
theorem sha_any (x : Option Addr) (c : Nat) (L : List Pt) (hl : L.length ≤ 4398046511104) (hK : ∀ i, i < L.length → (nthP L i).k < 256) (hX : ∀ i, i < L.length → (nthP L i).x.size ≤ 140737488355328) : ShA x c L := by
  by_cases h : L.length ≤ 2097152
  · exact sha_short x c L h hK hX
  · intro w hr hs
    refine (show_gen x c L w hr hl (well_weak x c L w hr hl) hK hX hs).mono fun e w' ⟨p, q⟩ => ⟨?_, q⟩
    have hlong : 1048576 < (txL L).length := by
      have := sF_ge (L.map ofP) ([], [])
      rw [List.length_map] at this
      dsimp only [List.length_nil] at this
      unfold txL; omega
    rcases p with p | p
    · rw [shV_long hlong] at p
      exact ⟨_, _, p, fun h => by cases h⟩
    · exact ⟨_, _, p, fun h => by cases h⟩
/-- TermBack. -/
theorem walk_TermBack (a : Option Addr) (len cap : Nat) (Z : List Pt) (s : ByteArray) (w : World) (h : PtArg w a len cap Z) (hz : cap * 32 ≤ 140737488351232 ∧ ∀ i, i < Z.length → (nthP Z i).x.size ≤ 140737488351232) (h47 : s.size ≤ 140737488351232) (hs : Snt w) :
    Calls Tryz.prog 8 #[.slice a len cap, .string s] w fun e w' => e = .returned (.bool true) ∧ Below w.heap.size w w' := by
  have hl := h.len_eq
  have hR := h.read
  have hlc := h.2.1
  have hk8 := arg_kinds h
  have hx := arg_words h hz.2
  obtain ⟨L, hL⟩ : ∃ L, Z.take len = L := ⟨_, rfl⟩
  rw [hL] at hl hR hk8 hx
  subst hl
  exact back_law a cap L s w hs hR (by omega) (sha_any a cap L (by omega) hk8 hx) hk8
end Go.Proofs.YtklmiabgalanhaaGreatDoor
