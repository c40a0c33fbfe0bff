/- Contract of tree.ups: the walk. -/
import Derived.Test.YtklmiabgalanhaaTrUps
namespace Go.Proofs.Ytklmiabgalanhaa
open Go.RowKit Km Tm
set_option maxRecDepth 100000
set_option linter.unusedVariables false

/-- A row of integers that is only read. -/
def IsF (w : World) (x : Option Addr) (n : Nat) (p : Nat → Int) : Prop := 0 < n → ∃ g, x = some ⟨g, 0, none⟩ ∧ g < w.heap.size ∧ ∀ i, i < n → w.cell? ⟨g, i, none⟩ = some (.int .i64 (p i))
theorem IsF.keep {w w' : World} {x : Option Addr} {n : Nat} {p : Nat → Int} (h : IsF w x n p) (hb : Below w.heap.size w w') : IsF w' x n p := by
  intro hn
  obtain ⟨g, hx, hg, hc⟩ := h hn
  exact ⟨g, hx, Nat.lt_of_lt_of_le hg hb.size, fun i hi => (hb.cell hg).trans (hc i hi)⟩
/-- What ups answers. -/
def UpsP (L : List Nd) (N : Int) (w : World) (e : Ending) (w' : World) : Prop :=
  (Tr L.length (nthN L) N → ∃ g c, e = .returned (.slice (some ⟨g, 0, none⟩) L.length c) ∧ L.length ≤ c ∧ w.heap.size ≤ g ∧ IsF w' (some ⟨g, 0, none⟩) L.length (up L.length (Kx (nthN L))))
  ∧ (¬ Tr L.length (nthN L) N → e = .returned (.slice none 0 0)) ∧ Below w.heap.size w w'

def abos (L : List Nd) (N : Int) (i : Nat) : List Int := (List.range i).map (abo (nthN L) N)
theorem abos_len (L : List Nd) (N : Int) (i : Nat) : (abos L N i).length = i := by simp [abos]
theorem abos_snoc (L : List Nd) (N : Int) (i : Nat) : abos L N (i + 1) = abos L N i ++ [abo (nthN L) N i] := by simp [abos, List.range_succ]

def lenV : Value → Nat
  | .slice _ n _ => n
  | _ => 0
/-- The state at the head of a round. -/
def UpI (L : List Nd) (N : Int) (w wr : World) (i : Nat) (st : List Fr) (v5 v6 : Value) : Prop := uA (nthN L) N i = some st ∧ UpM w wr none v5 v6 (abos L N i) st

theorem ups_no {L : List Nd} {N : Int} {w w' : World} (h : ¬ Tr L.length (nthN L) N) (hb : Below w.heap.size w w') : UpsP L N w (.returned (.slice none 0 0)) w' := ⟨fun t => absurd t h, fun _ => rfl, hb⟩

set_option maxHeartbeats 16000000 in
theorem ups_any (N : Int) (x1 : Option Addr) (c1 : Nat) (L : List Nd) (w : World) (hr : NdI w x1 L) (hl : (L.length + 1) * 24 ≤ 140737488355328) (hk : ∀ i, i < L.length → (nthN L i).c ≤ 9223372036854775807) :
    Calls Try.prog 25 #[.slice x1 L.length c1, .int .i64 N] w (UpsP L N w) := by
  have Hr := Lib.hid hr
  have Hk := Lib.hid hk
  clear hr hk
  have Hl := Lib.hid hl
  have hmk := fun w => run_make_room (P := Try.prog) 30 3 (.int .i64 0) 8 Try.underlying30 (by kernel_rfl) rfl .i64 .i64 L.length (by omega) (by omega) w
  have U0 : Hid (UpI L N w (w.alloc (.cells (madeCells #[.int .i64 0] L.length) 3)) 0 [] (.slice (some ⟨w.heap.size, 0, none⟩) 0 L.length) (.slice none 0 0)) := by
    refine Lib.hid ⟨rfl, World.ownsRow_made w _ L.length (Nat.le_refl _) (by unfold maxLen; omega) (by rw [size_madeCells]; simp), World.ownsRow_nil _ _ _ _, (Below.refl _ _).alloc (Nat.le_refl _) _, fun b x e => by cases e⟩
  clear hl
  go_enter Try.func25, Try.ntmps25
  go_wp2
  go_loopw [5, 6, 16] (fun v5 v6 iv wr => ∃ (i : Nat) (st : List Fr), i ≤ L.length ∧ iv = .int .i64 i ∧ Hid (UpI L N w wr i st v5 v6)) (fun _ _ iv _ => L.length - (intOf iv).toNat)
  case atStart => exact ⟨0, [], by omega, rfl, U0⟩
  case round =>
    obtain ⟨i, st, hi, rfl, HU⟩ := hrel
    obtain ⟨y5, c5, hv5, hy5⟩ := owns_form HU.out.2.up
    obtain ⟨y6, c6, hv6, hy6⟩ := owns_form HU.out.2.sk
    subst hv5 hv6
    rw [abos_len] at HU hy5 ⊢
    by_cases hlt : i < L.length
    · obtain ⟨g, o, rfl, hg, hat⟩ := Hr.out.at HU.out.2.be hlt
      have M1 := Lib.hid (HU.out.2.box (nthN L i))
      have HA := Lib.hid HU.out.1
      have Hf := fun w => fits_any (nthN L i) N w
      have hK : Kx (nthN L) i = (nthN L i).c := rfl
      obtain ⟨d0, d1, d2, d3, d4⟩ := hat
      have hlen := abos_len L N i
      have Hst := Lib.hid (stU_no (x := nthN L) (N := N) (i := i) (st := st))
      have Hcr := Lib.hid (fun t r => stU_cross (x := nthN L) (N := N) (i := i) (t := t) (r := r))
      have Hfi := Lib.hid (fun t r => stU_fin (x := nthN L) (N := N) (i := i) (t := t) (r := r))
      have Hfst := Lib.hid (fun (e : i = 0) => (by subst e; exact stU_first (x := nthN L) (N := N) : fits (nthN L i) N → stU (nthN L) N i [] = some (popz [⟨i, (nthN L i).c, (nthN L i).f⟩])))
      obtain ⟨X, hX⟩ : ∃ X, X = nthN L i := ⟨_, rfl⟩
      rw [← hX] at M1 Hf d0 d1 d2 d3 d4 Hst Hcr Hfi Hfst
      have HX := Lib.hid hX
      clear hX hK
      have k0 := (M1.out.bo _ _ rfl).1.c0
      have k1 := (M1.out.bo _ _ rfl).1.c1
      have k2 := (M1.out.bo _ _ rfl).1.c2
      have k3 := (M1.out.bo _ _ rfl).1.c3
      have k4 := (M1.out.bo _ _ rfl).1.c4
      obtain ⟨xk, xc, xw, xf, xt⟩ := X
      dsimp only at k0 k1 k2 k3 k4 d0 d1 d2 d3 d4 M1
      have b0 : (0 : Int) ≤ (i : Int) := by omega
      have b1 : (i : Int) < (L.length : Int) := by omega
      unfold ndV at Hf
      dsimp only at Hf
      have h0 : 0 < L.length := by omega
      have Hno := Lib.hid (fun (w' : World) (h : stU (nthN L) N i st = none) (hb : Below w.heap.size w w') => (ups_no (tr_no h0 ((uA_succ HA.out).trans h) (by omega)) hb : UpsP L N w (.returned (.slice none 0 0)) w'))
      cases hB : decide (fits ⟨xk, xc, xw, xf, xt⟩ N) with
      | false =>
        have hfit := of_decide_eq_false hB
        have Hs := Lib.hid (Hst.out hfit)
        rw [hB] at Hf
        have Hf := Lib.hid Hf
        clear hfit hB
        go_wp2_with fail
        refine (Hf.out _).mono ?_
        rintro e w3 ⟨rfl, b3⟩
        have M3 := Lib.hid (M1.out.keep b3)
        clear b3 k0 k1 k2 k3 k4 d0 d1 d2 d3 d4 M1
        go_wp2
        go_ret
        exact Hno.out _ Hs.out M3.out.be
      | true =>
        have Hfit := Lib.hid (of_decide_eq_true hB)
        rw [hB] at Hf
        have Hf := Lib.hid Hf
        clear hB
        go_wp2_with fail
        refine (Hf.out _).mono ?_
        rintro e w3 ⟨rfl, b3⟩
        have M3 := Lib.hid (M1.out.keep b3)
        have hBB := b3.size
        clear b3 k0 k1 k2 k3 k4 d0 d1 d2 d3 d4 M1
        have k0 := (M3.out.bo _ _ rfl).1.c0
        have k1 := (M3.out.bo _ _ rfl).1.c1
        have k2 := (M3.out.bo _ _ rfl).1.c2
        have k3 := (M3.out.bo _ _ rfl).1.c3
        have k4 := (M3.out.bo _ _ rfl).1.c4
        dsimp only at k0 k1 k2 k3 k4
        generalize wr.heap.size = bb at M3 k0 k1 k2 k3 k4 ⊢
        go_upto_if 26 with fail
        go_cut [6, 9, 16] from 17 to 93 (fun v6' v9 v16 wx => ∃ (a : Int) (st1 : List Fr), v9 = .int .i64 a ∧ v16 = .int .i64 (i : Int) ∧ Hid (abo (nthN L) N i = a) ∧ Hid (uA (nthN L) N (i + 1) = some (popz (⟨i, xc, xf⟩ :: st1))) ∧ Hid (UpM w wx (some (bb, ⟨xk, xc, xw, xf, xt⟩)) (.slice y5 i c5) v6' (abos L N i) st1) ∧ st1.length ≤ L.length)
        case first =>
          by_cases hi0 : i = 0
          · subst hi0
            have hst : st = [] := by have := HA.out; unfold uA at this; injection this with this; exact this.symm
            subst hst
            have Hs := Lib.hid ((uA_succ HA.out).trans (Hfst.out rfl Hfit.out))
            have Ha := Lib.hid (abo_nil HA.out)
            go_wp2_with fail
            go_meet
            case rel => exact ⟨-1, [], rfl, rfl, Ha, Hs, M3, by simp⟩
          · have g0 : (0 : Int) < (i : Int) := by omega
            cases st with
            | nil =>
              have Hs := Lib.hid (stU_empty (x := nthN L) (N := N) (i := i) (by omega))
              rw [List.length_nil]
              go_wp2
              go_ret
              exact Hno.out _ Hs.out M3.out.be
            | cons t r =>
              obtain ⟨gs, cs, hv, hcap, hgs, t0, t1, t2, tf⟩ := M3.out.top
              injection hv with hv1 hv2 hv3
              subst hv1 hv3
              have htp := uA_lt HA.out t (List.mem_cons_self ..)
              have hlen2 := uA_len HA.out
              have hlb := uA_bnd (fun k hk => Hk.out k (by omega)) HA.out t (List.mem_cons_self ..)
              have hlb0 := (uA_top HA.out).2 t r rfl
              rw [List.length_cons] at hlen2
              have htn : t.p < L.length := by omega
              obtain ⟨g2, o2, hx2, hg2, hat2⟩ := Hr.out.at M3.out.be htn
              injection hx2 with hx2
              injection hx2 with hx3 hx4
              subst hx3 hx4
              have Hab := Lib.hid (abo_cons HA.out)
              obtain ⟨P, hP⟩ : ∃ P, P = nthN L t.p := ⟨_, rfl⟩
              have Hcr' := Hcr.out t r
              have Hfi' := Hfi.out t r
              rw [← hP] at hat2 Hcr' Hfi'
              obtain ⟨pk, pc, pw, pf, pt⟩ := P
              obtain ⟨tp, tl, tb⟩ := t
              dsimp only at t0 t1 t2 htp htn hat2 Hcr' Hfi' Hab M3 hlb hlb0
              obtain ⟨p0, p1, p2, p3, p4⟩ := id hat2
              dsimp only at p0 p1 p2 p3 p4
              have HFI := fun w h0 h1 h2 h3 h4 h5 h6 => fin_held ⟨xk, xc, xw, xf, xt⟩ ⟨pk, pc, pw, pf, pt⟩ tb w bb g (o + tp * 5) gs (r.length * 3 + 2) h0 h1 h2 h3 h4 h5 h6
              unfold ndV At5 at HFI
              dsimp only at HFI
              have Hcr' := Lib.hid Hcr'
              have Hfi' := Lib.hid Hfi'
              have HP := Lib.hid hP
              clear hP hat2 hv2
              obtain ⟨Ln, hLn⟩ : ∃ Ln, r.length = Ln := ⟨_, rfl⟩
              have HLn := Lib.hid hLn
              have M3' := M3.out
              rw [hLn] at t0 t1 t2 hcap hlen2 HFI
              rw [List.length_cons, hLn] at M3'
              rw [List.length_cons, hLn]
              have M3 := Lib.hid M3'
              clear M3' hLn hmk U0 Hst Hcr Hfi Hfst HX HU hy6 hBB hlen hy5
              have e0 : (0 : Int) ≤ (Ln : Int) := by omega
              have e1 : (Ln : Int) < (Ln : Int) + 1 := by omega
              have e2 : ((Ln : Int) + 1 == 0) = false := beq_eq_false_iff_ne.2 (by omega)
              have e3 : IntKind.i64.wrap ((Ln : Int) + 1 - 1) = (Ln : Int) := by rw [IntKind.wrap_i64]; have := Hl.out; omega
              have e6 : wrap64 (Ln : Int) = (Ln : Int) := by unfold wrap64; have := Hl.out; omega
              have e4 : (0 : Int) ≤ (tp : Int) := by omega
              have e5 : (tp : Int) < (L.length : Int) := by omega
              push_cast
              cases hF : decide (fin ⟨xk, xc, xw, xf, xt⟩ ⟨pk, pc, pw, pf, pt⟩ tb) with
              | false =>
                have Hs := Lib.hid (Hcr'.out (of_decide_eq_false hF))
                rw [hF] at HFI
                have HFI := Lib.hid HFI
                clear hF Hcr' Hfi'
                go_upto_region 14 with fail
                go_region_held3 (fun w' => w'.cell? ⟨bb, 0, none⟩ = some (.int .u8 (xk : Int)) ∧ w'.cell? ⟨bb, 1, none⟩ = some (.int .i64 xc) ∧ w'.cell? ⟨bb, 2, none⟩ = some (.int .i64 xw) ∧ w'.cell? ⟨bb, 3, none⟩ = some (.int .i64 xf) ∧ w'.cell? ⟨bb, 4, none⟩ = some (.int .i64 xt)
                    ∧ w'.cell? ⟨g, o + tp * 5, none⟩ = some (.int .u8 (pk : Int)) ∧ w'.cell? ⟨g, o + tp * 5 + 1, none⟩ = some (.int .i64 pc) ∧ w'.cell? ⟨g, o + tp * 5 + 2, none⟩ = some (.int .i64 pw) ∧ w'.cell? ⟨g, o + tp * 5 + 3, none⟩ = some (.int .i64 pf) ∧ w'.cell? ⟨g, o + tp * 5 + 4, none⟩ = some (.int .i64 pt)
                    ∧ w'.cell? ⟨gs, Ln * 3 + 2, none⟩ = some (.int .i64 tb))
                  (go_keep)
                  ((go_at_call 31; refine (HFI.out _ (by assumption) (by assumption) (by assumption) (by assumption) (by assumption) ⟨by assumption, by assumption, by assumption, by assumption, by assumption⟩ (by assumption)).mono ?_; rintro e w4 ⟨rfl, j0, j1, j2, j3, j4, j5, j6, j7, j8, j9, j10, b4⟩))
                have M4 := Lib.hid (M3.out.drew.keep b4)
                clear b4
                go_wp2
                go_ret
                exact Hno.out _ Hs.out M4.out.be
              | true =>
                have Hs := Lib.hid ((uA_succ HA.out).trans (Hfi'.out Hfit.out (of_decide_eq_true hF)))
                rw [hF] at HFI
                have HFI := Lib.hid HFI
                clear hF Hcr' Hfi'
                go_upto_region 14 with fail
                go_region_held3 (fun w' => w'.cell? ⟨bb, 0, none⟩ = some (.int .u8 (xk : Int)) ∧ w'.cell? ⟨bb, 1, none⟩ = some (.int .i64 xc) ∧ w'.cell? ⟨bb, 2, none⟩ = some (.int .i64 xw) ∧ w'.cell? ⟨bb, 3, none⟩ = some (.int .i64 xf) ∧ w'.cell? ⟨bb, 4, none⟩ = some (.int .i64 xt)
                    ∧ w'.cell? ⟨g, o + tp * 5, none⟩ = some (.int .u8 (pk : Int)) ∧ w'.cell? ⟨g, o + tp * 5 + 1, none⟩ = some (.int .i64 pc) ∧ w'.cell? ⟨g, o + tp * 5 + 2, none⟩ = some (.int .i64 pw) ∧ w'.cell? ⟨g, o + tp * 5 + 3, none⟩ = some (.int .i64 pf) ∧ w'.cell? ⟨g, o + tp * 5 + 4, none⟩ = some (.int .i64 pt)
                    ∧ w'.cell? ⟨gs, Ln * 3 + 2, none⟩ = some (.int .i64 tb))
                  (go_keep)
                  ((go_at_call 31; refine (HFI.out _ (by assumption) (by assumption) (by assumption) (by assumption) (by assumption) ⟨by assumption, by assumption, by assumption, by assumption, by assumption⟩ (by assumption)).mono ?_; rintro e w4 ⟨rfl, j0, j1, j2, j3, j4, j5, j6, j7, j8, j9, j10, b4⟩))
                have M4 := Lib.hid (M3.out.drew.keep b4)
                have q0 := (M4.out.bo _ _ rfl).1
                have q1 := (M4.out.bo _ _ rfl).2
                have hne : ¬ bb = gs := fun e => nbox_apart q0 M4.out.sk kinds_apart2 (by rw [e]; rfl)
                have hne2 : ¬ gs = bb := fun e => hne e.symm
                obtain ⟨gs', cs', hv, _, _, t0', t1', t2', tf'⟩ := M4.out.top
                injection hv with hv1 hv2 hv3
                have hv4 : gs = gs' := by
                  have := Option.some.inj hv1
                  injection this
                subst hv4
                dsimp only at t0' t1' t2'
                rw [HLn.out] at t0' t1' t2'
                have e7 : IntKind.i64.wrap (tl - 1) = tl - 1 := by rw [IntKind.wrap_i64]; omega
                have M4' := M4.out
                rw [← HLn.out] at M4'
                have M5' := (UpM.behind (UpM.left M4' (tl - 1)) xt)
                rw [HLn.out] at M5'
                dsimp only at M5'
                have M5 := Lib.hid M5'
                clear M5'
                have f1 := tf' (Ln * 3 + 1)
                have f2 := tf' (Ln * 3 + 2)
                clear M4' q0 q1 hv1 hv2 hv3 b4 k0 k1 k2 k3 k4 p0 p1 p2 p3 p4 t0 t1 t2 tf tf' hgs j5 j6 j7 j8 j9 j10 Hf HFI
                go_wp2_with fail
                go_meet
                case rel => exact ⟨tp, ⟨tp, tl - 1, xt⟩ :: r, rfl, rfl, Hab, Hs, M5, by rw [List.length_cons, HLn.out]; omega⟩
        case rest =>
          obtain ⟨a, st1, rfl, rfl, Ha, Hs, M4, hl1⟩ := hcut
          have hll := Hl.out
          obtain ⟨y6, c6, hv6, _⟩ := owns_form M4.out.sk
          subst hv6
          obtain ⟨y7, c7, w7, hrun7, hM7⟩ := M4.out.pushU a (by rw [abos_len]; omega)
          rw [abos_len] at hrun7 hM7
          obtain ⟨y8, c8, w8, hrun8, hM8⟩ := hM7.pushS ⟨i, xc, xf⟩ (by omega)
          rw [← Ha.out, ← abos_snoc] at hM8
          have k1 := (hM7.bo _ _ rfl).1.c1
          have k3 := (hM7.bo _ _ rfl).1.c3
          dsimp only at k1 k3 hrun8
          have M8 := Lib.hid hM8
          clear hM8 hM7 hlen hy5 hy6 Hf Hst Hcr Hfi Hfst HX HU M3 Hno hmk U0 hBB
          have Hr7 := Lib.hid hrun7
          have Hr8 := Lib.hid hrun8
          clear hrun7 hrun8
          go_upto_region 19 with (at_builtin; refine wpList_app_run rfl _ _ _ _ rfl rfl rfl Hr7.out ?_)
          go_wp2_with (at_builtin; refine wpList_app_run rfl _ _ _ _ rfl rfl rfl Hr8.out ?_)
          generalize w8 = wz at M8 ⊢
          go_loopw [6] (fun v6 wr => ∃ (st2 : List Fr), st2.length ≤ L.length + 1 ∧ Hid (popz st2 = popz (⟨i, xc, xf⟩ :: st1)) ∧ Hid (UpM w wr (some (bb, ⟨xk, xc, xw, xf, xt⟩)) (.slice y7 (i + 1) c7) v6 (abos L N (i + 1)) st2)) (fun v6 _ => lenV v6)
          case atStart => exact ⟨_, by rw [List.length_cons]; omega, Lib.hid rfl, M8⟩
          case round =>
            obtain ⟨st2, hl2, HP, M9⟩ := hrel
            cases st2 with
            | nil =>
              obtain ⟨y6, c6, hv6, _⟩ := owns_form M9.out.sk
              subst hv6
              rw [List.length_nil]
              have Hs' := Lib.hid (Hs.out.trans (congrArg some HP.out.symm))
              have M10 := Lib.hid (M9.out.none)
              go_wp2
              go_roundw
              case rel => exact ⟨i + 1, [], by omega, by go_num, Lib.hid ⟨Hs'.out, M10.out⟩⟩
              case measure => simp [intOf]; omega
            | cons f r =>
              obtain ⟨gs, cs, hv, hcap, hgs, t0, t1, t2, tf⟩ := M9.out.top
              subst hv
              obtain ⟨Ln, hLn⟩ : ∃ Ln, r.length = Ln := ⟨_, rfl⟩
              have HLn := Lib.hid hLn
              have M10 := Lib.hid M9.out.pop
              have M11 := Lib.hid M9.out.none
              rw [List.length_cons] at hl2
              rw [hLn] at t0 t1 t2 hcap hl2 M10 M11 ⊢
              clear hLn M9
              obtain ⟨fp, fl, fb⟩ := f
              dsimp only at t0 t1 t2
              have e0 : (0 : Int) ≤ (Ln : Int) := by omega
              have e1 : (Ln : Int) < (Ln : Int) + 1 := by omega
              have e2 : (0 : Int) < (Ln : Int) + 1 := by omega
              have hb9 : Ln ≤ 4611686018427387904 := by omega
              have e7 : Ln ≤ Ln + 1 := by omega
              have e8 : (Ln : Int) ≤ (cs : Int) := by omega
              have e9 : Ln ≤ L.length + 1 := by omega
              have hi1 : i + 1 ≤ L.length := by omega
              have hbi : i + 1 ≤ 4611686018427387904 := by omega
              have H9 := Lib.hid (And.intro hi1 e9)
              push_cast
              clear e7 e9 hi1 e1 hl2 hcap tf hgs hll hl1
              by_cases hf : fl = 0
              · have hfb : (fl == 0) = true := beq_iff_eq.2 hf
                have HP' := Lib.hid ((popz_more (f := ⟨fp, fl, fb⟩) (r := r) hf).symm.trans HP.out)
                clear hf HP t0 t2
                go_wp2
                go_roundw
                case rel => exact ⟨r, by rw [HLn.out]; exact H9.out.2, HP', M10⟩
                case measure => simp [lenV]
              · have hfb : (fl == 0) = false := beq_eq_false_iff_ne.2 hf
                have Hs' := Lib.hid (Hs.out.trans (congrArg some (HP.out.symm.trans (popz_done (f := ⟨fp, fl, fb⟩) (r := r) hf))))
                clear hf HP t0 t2
                go_wp2
                go_roundw
                case rel =>
                  have hll := Hl.out
                  have hh := H9.out
                  exact ⟨i + 1, _, H9.out.1, by go_num, Lib.hid ⟨Hs'.out, M11.out⟩⟩
                case measure => have hll := Hl.out; have hh := H9.out; simp [intOf]; omega
    · have hie : i = L.length := by omega
      subst hie
      have b1 : ¬ (L.length : Int) < (L.length : Int) := by omega
      have HA := Lib.hid HU.out.1
      have HM := Lib.hid HU.out.2
      clear HU
      by_cases h0 : L.length = 0
      · have hno : ¬ Tr L.length (nthN L) N := by rw [h0]; exact not_tr_nil
        have Hno := Lib.hid hno
        have h0b : ((L.length : Int) == 0) = true := beq_iff_eq.2 (by omega)
        have h0c : (L.length == 0) = true := beq_iff_eq.2 h0
        clear hno h0
        go_wp2
        go_ret
        exact ups_no Hno.out HM.out.be
      · have h0b : ((L.length : Int) == 0) = false := beq_eq_false_iff_ne.2 (by omega)
        have h0c : (L.length == 0) = false := beq_eq_false_iff_ne.2 h0
        cases st with
        | cons t r =>
          have Hno := Lib.hid (tr_left (by omega) HA.out)
          have e2 : (0 : Int) < (((t :: r).length : Nat) : Int) := by rw [List.length_cons]; omega
          generalize (t :: r).length = Q at e2 ⊢
          go_wp2
          go_ret
          exact ups_no Hno.out HM.out.be
        | nil =>
          have Htr := Lib.hid (tr_of_uA (by omega) HA.out)
          obtain ⟨g5, rfl⟩ := hy5 (by omega)
          have hcap := owns_cap (by have := HM.out.up; rwa [abos_len] at this)
          have hcell : IsF wr (some ⟨g5, 0, none⟩) L.length (up L.length (Kx (nthN L))) := fun hn => ⟨g5, rfl, hcap.2.2, fun j hj => by
            have h1 := HM.out.up
            rw [abos_len] at h1
            refine owns_cell h1 (iRow_get ?_)
            unfold abos
            rw [List.getElem?_map, List.getElem?_range hj, Option.map_some, abo_up Htr.out hj]⟩
          have HF := Lib.hid hcell
          have HB := Lib.hid HM.out.be
          have Hcap := Lib.hid hcap
          rw [List.length_nil]
          clear hcell hcap HM hy5 hy6
          go_wp2
          go_ret
          exact ⟨fun _ => ⟨g5, c5, rfl, Hcap.out.1, Hcap.out.2.1, HF.out⟩, fun h => absurd Htr.out h, HB.out⟩
end Go.Proofs.Ytklmiabgalanhaa
