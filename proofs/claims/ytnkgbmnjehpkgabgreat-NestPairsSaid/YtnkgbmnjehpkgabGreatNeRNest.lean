/- Contract of the reference's Nest. -/
import Derived.Test.YtnkgbmnjehpkgabGreatNeRMem
import Derived.Deep.CutRange
import Derived.Deep.RegionWith
import Derived.Deep.RegionHeld3
namespace Go.Proofs.YtnkgbmnjehpkgabGreat
open Go.RowKit Em
set_option maxRecDepth 100000
set_option linter.unusedVariables false

theorem wpList_app_run {P : Program} {ops : Array Oper} {rest : List Oper} {o : Oper} {a : Act} {w : World} {Q : Exit → Act → World → Prop}
    (hg : o.guard = none) (d x : Operand) (dT sT : TypeId) (hop : o.op = Op.call { callee := Callee.builtin Builtin.append, args := #[d, x], argTypes := #[dT, sT] })
    {v u r : Value} {w' : World} (hd : a.eval d = v) (hx : a.eval x = u) (hrun : (Builtin.append_ #[dT, sT] o.type #[v, u]).run P w = .ok r w') (hK : wpList P ops Q rest (a.put o.dst r) w') :
    wpList P ops Q (o :: rest) a w := by
  refine wpList_plain hg fun K hK' => ?_
  unfold Oper.wp
  simp [execOp, hop, resolve, invoke, builtin, hd, hx, hrun, Result.andThen]
  exact hK' _ _ hK

theorem brk_small (x : List UInt8) : -3 ≤ brk x ∧ brk x ≤ 3 := by
  rcases brk_cases x with ⟨h, _⟩ | ⟨_, ⟨_, h⟩ | ⟨_, h⟩ | ⟨_, h⟩⟩ | ⟨_, ⟨_, h⟩ | ⟨_, h⟩ | ⟨_, h⟩⟩ <;> omega
/-- What the reference's Nest answers. -/
def RnP (s : ByteArray) (w : World) (e : Ending) (w' : World) : Prop :=
  ∃ (x1 : Option Addr) (c1 : Nat) (x2 : Option Addr) (c2 : Nat), e = .returned (.tuple #[.slice x1 (nestT s).length c1, .slice x2 (nestT s).length c2, .int .i64 (nestM s : Int), fauV (nestE s) (nestF s)]) ∧ TkI w' x1 (nestT s) ∧ IsF w' x2 (nestT s).length (nestP s) ∧ Below w.heap.size w w'

theorem rnest_none (s : ByteArray) (w : World) (h : (semA s).2.1 ≠ 0) : Calls Tryz.prog 7 #[.string s] w (RnP s w) := by
  have H1 := fun w => rsemi_any s w
  unfold SemP at H1
  obtain ⟨n1, n2, n3, n4⟩ := nest_fault h
  unfold RnP
  rw [n1, n2, n3, n4]
  have e1 : ((semA s).2.1 == 0) = false := beq_eq_false_iff_ne.2 h
  have e2 : ((semA s).2.1 != 0) = true := by rw [bne, e1]; rfl
  dsimp only [fauV] at H1
  generalize (semA s).2.1 = E at H1 e1 e2 h ⊢
  generalize (semA s).2.2 = D at H1 ⊢
  generalize (semA s).1 = T at H1
  have H1 := Lib.hid H1
  have b0 := (Below.refl w.heap.size w).alloc (Nat.le_refl _) (.cells #[.int .i64 0, .int .i64 0] 27)
  have F0 : Hid (FBox (w.alloc (.cells #[.int .i64 0, .int .i64 0] 27)) w.heap.size 0 0) := Lib.hid (heap_alloc_new w _)
  have B0 := Lib.hid b0
  clear b0 n1 n2 n3 n4
  go_enter Tryz.func7, Tryz.ntmps7
  go_wp2_with fail
  refine (H1.out _).mono ?_
  rintro e w1 ⟨v1, rfl, o1, b1⟩
  obtain ⟨x1, c1, rfl, i1, _⟩ := tkI_of_owns o1
  have hsz := b1.size
  simp at hsz
  have bb := B0.out.trans (b1.mono B0.out.size)
  have B1 := Lib.hid (bb.alloc bb.size (.cells #[.int .i64 E, .int .i64 D] 27))
  have T1 : Hid (FBox (w1.alloc (.cells #[.int .i64 E, .int .i64 D] 27)) w1.heap.size E D) := Lib.hid (heap_alloc_new w1 _)
  have F1 := Lib.hid ((F0.out.keep b1).alloc (.cells #[.int .i64 E, .int .i64 D] 27))
  have p0 := T1.out.c0
  have p1 := T1.out.c1
  have z0 := F1.out.free 0
  have z1 := F1.out.free 1
  have r0 := F1.out.c0
  have r1 := F1.out.c1
  have hbf := F1.out.set E D
  have k0 := hbf.c0
  have k1 := hbf.c1
  clear b1 o1 i1 bb hbf
  go_wp2
  go_region
  go_wp2
  refine bodyPost_ret (v := .tuple #[.slice none 0 0, .slice none 0 0, .int .i64 0, fauV E D]) ?_ ?_ ?_
  · simp [fauV, results, Tryz.results7, go_sem, k0, k1]
  · rfl
  · exact ⟨none, 0, none, 0, rfl, fun h => by simp at h, fun h => by simp at h, below_draw' (bset2 B1.out (Nat.le_refl _) _ _) 1⟩

set_option maxHeartbeats 16000000 in
theorem rnest_good (s : ByteArray) (w : World) (h : (semA s).2.1 = 0) : Calls Tryz.prog 7 #[.string s] w (RnP s w) := by
  have H1 := fun w => rsemi_any s w
  unfold SemP at H1
  have h2 := semA_two s h
  have hA := semA_all h
  have hino : InO s.size (semA s).1 := by rw [← refS_all s hA]; exact (refS_ino s _ s.size (allA_ord s) _ (Nat.le_refl _)).1
  have hlenT := semA_len h
  have hsrt := fun i hi => nb_srt h (i := i) hi
  rw [h, h2] at H1
  dsimp only [fauV] at H1
  have Hok := Lib.hid (fun st p m => nest_ok (s := s) (st := st) (p := p) (m := m) h)
  have Hbad := Lib.hid (fun c k => nest_bad (s := s) (c := c) (k := k) h)
  generalize (semA s).1 = T at *
  have H1 := Lib.hid H1
  have Hino := Lib.hid hino
  have Hsrt := Lib.hid hsrt
  have b0 := (Below.refl w.heap.size w).alloc (Nat.le_refl _) (.cells #[.int .i64 0, .int .i64 0] 27)
  have F0 : Hid (FBox (w.alloc (.cells #[.int .i64 0, .int .i64 0] 27)) w.heap.size 0 0) := Lib.hid (heap_alloc_new w _)
  have B0 := Lib.hid b0
  clear b0 hino h h2 hA hsrt
  have hmk := fun w => run_make_row' (P := Tryz.prog) 24 3 (.int .i64 0) 8 Tryz.underlying24 (by kernel_rfl) rfl .i64 .i64 T.length (by omega) (by omega) w
  go_enter Tryz.func7, Tryz.ntmps7
  go_wp2_with fail
  refine (H1.out _).mono ?_
  rintro e w1 ⟨v1, rfl, o1, b1⟩
  obtain ⟨x1, c1, rfl, i1, hb1⟩ := tkI_of_owns o1
  have hsz := b1.size
  simp at hsz
  have bb := B0.out.trans (b1.mono B0.out.size)
  have B1 := Lib.hid (bb.alloc bb.size (.cells #[.int .i64 0, .int .i64 0] 27))
  have T1 : Hid (FBox (w1.alloc (.cells #[.int .i64 0, .int .i64 0] 27)) w1.heap.size 0 0) := Lib.hid (heap_alloc_new w1 _)
  have F1 := Lib.hid ((F0.out.keep b1).alloc (.cells #[.int .i64 0, .int .i64 0] 27))
  have I1 := Lib.hid (i1.alloc (.cells #[.int .i64 0, .int .i64 0] 27))
  have p0 := T1.out.c0
  have p1 := T1.out.c1
  have hx1 : 0 < T.length → ∀ g, x1 = some ⟨g, 0, none⟩ → w.heap.size < g ∧ g < w1.heap.size + 1 := by
    intro hn g hg
    obtain ⟨g', hx, hg', _⟩ := i1 hn
    have h1 := hb1 g 0 hg
    simp at h1
    have : g = g' := by
      rw [hg] at hx
      have := Option.some.inj hx
      injection this
    omega
  have M0 : Hid (NeR w ((w1.alloc (.cells #[.int .i64 0, .int .i64 0] 27)).alloc (.cells (madeCells #[.int .i64 0] T.length) 3)) w.heap.size x1 T (w1.heap.size + 1) (w1.heap.size + 1 + 1) (fun _ => 0) (.slice none 0 0) []) := by
    refine Lib.hid ⟨(I1.out.alloc _), (F1.out.alloc _), ?_, World.ownsRow_nil _ _ _ _, B1.out.alloc B1.out.size _, Nat.le_refl _, by omega, by omega, by simp, hx1⟩
    have ha := heap_alloc_new (w1.alloc (.cells #[.int .i64 0, .int .i64 0] 27)) (.cells (madeCells #[.int .i64 0] T.length) 3)
    rw [World.size_alloc] at ha
    refine ⟨_, ha, by rw [size_madeCells], fun k hk => ?_⟩
    rw [← Array.getElem?_toList, toList_madeCells_one, List.getElem?_replicate, if_pos hk]
  clear b1 o1 i1 bb hx1 hb1 hsz
  go_wp2
  clear p0 p1
  generalize w1.heap.size + 1 + 1 = base at M0
  generalize w1.heap.size + 1 = bp at M0 ⊢
  generalize (w1.alloc (.cells #[.int .i64 0, .int .i64 0] 27)).alloc (.cells (madeCells #[.int .i64 0] T.length) 3) = w0 at M0 ⊢
  go_loopw [9] (fun iv wr => ∃ i : Nat, i ≤ T.length ∧ iv = .int .i64 i ∧ Hid (NeR w wr w.heap.size x1 T bp base (fun k => if k < i then -1 else 0) (.slice none 0 0) [])) (fun iv _ => T.length - (intOf iv).toNat)
  case atStart => exact ⟨0, by omega, rfl, Lib.hid (M0.out.congP fun k _ => by simp)⟩
  case round =>
    obtain ⟨i, hi, rfl, HM⟩ := hrel
    by_cases hlt : i < T.length
    · have b0 : (0 : Int) ≤ (i : Int) := by omega
      have b1 : (i : Int) < (T.length : Int) := by omega
      have z1 := HM.out.pr.cell hlt
      have z2 := HM.out.pr.free i
      have M3 := Lib.hid ((HM.out.setP i (-1)).congP (q' := fun k => if k < i + 1 then -1 else 0) (by
        intro k _
        by_cases e : k = i
        · subst e; rw [upd_same, if_pos (by omega)]
        · rw [upd_far _ _ e]
          by_cases h : k < i
          · rw [if_pos h, if_pos (by omega)]
          · rw [if_neg h, if_neg (by omega)]))
      go_wp2
      go_roundw
      case rel => exact ⟨i + 1, by omega, by go_num, M3⟩
      case measure => simp [intOf]; omega
    · have hie : i = T.length := by omega
      subst hie
      have b1 : ¬ (T.length : Int) < (T.length : Int) := by omega
      have M1 := Lib.hid (HM.out.congP (q' := fun _ => -1) fun k hk => if_pos hk)
      clear HM
      go_wp2
      generalize wr = w2 at M1 ⊢
      go_loopw [10, 11, 12] (fun ov mv iv wr => ∃ (i : Nat) (st : List Nat) (p : Nat → Int) (m : Nat), i ≤ T.length ∧ iv = .int .i64 i ∧ mv = .int .i64 (m : Int) ∧ Hid (nAt (nb s T) i = .ok st p m) ∧ Hid (NeR w wr w.heap.size x1 T bp base p ov st)) (fun _ _ iv _ => T.length - (intOf iv).toNat)
      case atStart => exact ⟨0, [], fun _ => -1, 0, by omega, rfl, rfl, Lib.hid rfl, M1⟩
      case round =>
        obtain ⟨i, st, p, m, hi, rfl, rfl, HA, HM⟩ := hrel
        have hNI := ni_at _ _ _ _ _ HA.out
        have hm100 := hNI.hm
        have HNI := Lib.hid hNI
        clear hNI
        by_cases hlt : i < T.length
        · obtain ⟨g, rfl, hg, d0, d1, d2⟩ := HM.out.tk.cells (i := i) hlt
          obtain ⟨yo, co, hv⟩ := own_slice HM.out.ow
          subst hv
          have hat := ino_at Hino.out hlt
          have hsr := Hsrt.out i hlt
          have hnext := nAt_ok HA.out
          have b0 : (0 : Int) ≤ (i : Int) := by omega
          have b1 : (i : Int) < (T.length : Int) := by omega
          generalize hTe : nthT T i = X at d0 d1 d2 hat hsr
          obtain ⟨K, F, U⟩ := X
          dsimp only at d0 d1 d2 hat hsr
          have HTe := Lib.hid hTe
          have HS := fun w => sort_any s K F U w hat.1 hat.2
          rw [hsr] at HS
          have hfault : ∀ (c : Nat) (w4 : World), nAt (nb s T) (i + 1) = .bad c i → Below w.heap.size w w4 → RnP s w (.returned (.tuple #[.slice none 0 0, .slice none 0 0, .int .i64 0, fauV c F])) w4 := by
            intro c w4 h hb
            have hf : nFin (nb s T) T.length = .bad c i := by unfold nFin; rw [nAt_bad h T.length hlt]
            obtain ⟨a1, a2, a3, a4⟩ := Hbad.out c i hf
            rw [hTe] at a4
            unfold RnP
            rw [a1, a2, a3, a4]
            exact ⟨none, 0, none, 0, rfl, fun h => absurd h (by simp), fun h => absurd h (by simp), hb⟩
          have HFault := Lib.hid hfault
          have HS := Lib.hid HS
          clear hfault hTe hat hsr
          go_wp2_with fail
          refine (HS.out _).mono ?_
          rintro e w3 ⟨rfl, b3⟩
          have M3 := Lib.hid (HM.out.keep b3)
          clear b3 d0 d1 d2 hg HM
          obtain ⟨g', hx', hg', d0, d1, d2⟩ := M3.out.tk.cells (i := i) hlt
          have hgg : g = g' := by
            have := Option.some.inj hx'
            injection this
          subst hgg
          rw [HTe.out] at d0 d1 d2
          dsimp only at d0 d1 d2
          clear hx'
          have r0 := M3.out.fb.c0
          have r1 := M3.out.fb.c1
          have z0 := M3.out.fb.free 0
          have z1 := M3.out.fb.free 1
          have hvs := brk_small (cutT s (nthT T i).f (nthT T i).t)
          have hvs : -3 ≤ nb s T i ∧ nb s T i ≤ 3 := hvs
          rcases Int.lt_trichotomy (nb s T i) 0 with hb | hb | hb
          · have t1 : ¬ (0 : Int) < nb s T i := by omega
            cases st with
            | nil =>
              have Hn := Lib.hid (hnext.trans (step_none hb))
              have hbf := M3.out.fb.set 5 F
              have k0 := hbf.c0
              have k1 := hbf.c1
              have Hb4 := Lib.hid (below_draw' (bset2 M3.out.be M3.out.o1 (.int .i64 5) (.int .i64 F)) 1)
              rw [List.length_nil]
              generalize nb s T i = V at hb t1 ⊢
              clear hbf hnext hvs
              go_wp2
              go_region
              go_wp2
              refine bodyPost_ret (v := .tuple #[.slice none 0 0, .slice none 0 0, .int .i64 0, fauV 5 F]) ?_ rfl (HFault.out 5 _ Hn.out Hb4.out)
              simp [fauV, results, Tryz.results7, go_sem, k0, k1]
            | cons j r =>
              obtain ⟨hj1, hj2, hj3⟩ := HNI.out.s1 j (by simp)
              have hjT : j < T.length := by omega
              obtain ⟨g2, c2, hv, hcap, htop, hcs⟩ := M3.out.top
              injection hv with hv1 hv2 hv3
              subst hv1; subst hv3
              have hatj := ino_at Hino.out hjT
              have hsrj := Hsrt.out j hjT
              obtain ⟨g', hx', hg2, f0, f1, f2⟩ := M3.out.tk.cells (i := j) hjT
              have hgg : g = g' := by
                have := Option.some.inj hx'
                injection this
              subst hgg
              clear hx' hv2
              have hvj := brk_small (cutT s (nthT T j).f (nthT T j).t)
              have hvj : -3 ≤ nb s T j ∧ nb s T j ≤ 3 := hvj
              generalize nthT T j = Y at f0 f1 f2 hatj hsrj
              obtain ⟨Kj, Fj, Uj⟩ := Y
              dsimp only at f0 f1 f2 hatj hsrj
              have HSj := fun w => sort_any s Kj Fj Uj w hatj.1 hatj.2
              rw [hsrj] at HSj
              have HSj := Lib.hid HSj
              obtain ⟨L, hL⟩ : ∃ L, r.length = L := ⟨_, rfl⟩
              have HL := Lib.hid hL
              have hL100 : L ≤ 100 := by have := hm100.1; have := hm100.2; rw [List.length_cons] at *; omega
              have M3' := M3.out
              rw [hL] at htop
              rw [show (j :: r).length = L + 1 by rw [List.length_cons, hL]] at M3' ⊢
              have c0 : (0 : Int) ≤ (L : Int) := by omega
              have c1' : (L : Int) < (L : Int) + 1 := by omega
              have c2' : ((L : Int) + 1 == 0) = false := beq_eq_false_iff_ne.2 (by omega)
              have c3 : IntKind.i64.wrap ((L : Int) + 1 - 1) = (L : Int) := by rw [IntKind.wrap_i64]; omega
              have c4 : (0 : Int) ≤ (j : Int) := by omega
              have c5 : (j : Int) < (T.length : Int) := by omega
              have c6 : L + 1 ≤ co := by omega
              have c7 : (L : Int) ≤ (co : Int) := by omega
              have c8 : IntKind.i64.wrap (nb s T j + nb s T i) = nb s T j + nb s T i := by rw [IntKind.wrap_i64]; omega
              have M3 := Lib.hid M3'
              clear hatj hsrj hcs M3' hcap
              push_cast
              go_wp2_with fail
              refine (HSj.out _).mono ?_
              rintro e w4 ⟨rfl, b4⟩
              have M4 := Lib.hid (M3.out.keep b4)
              clear b4 r0 r1 z0 z1 d0 d1 d2 f0 f1 f2 htop hg' hg2
              obtain ⟨g', hx', hg', d0, d1, d2⟩ := M4.out.tk.cells (i := i) hlt
              have hgg : g = g' := by
                have := Option.some.inj hx'
                injection this
              subst hgg
              rw [HTe.out] at d0 d1 d2
              dsimp only at d0 d1 d2
              clear hx'
              have r0 := M4.out.fb.c0
              have r1 := M4.out.fb.c1
              have z0 := M4.out.fb.free 0
              have z1 := M4.out.fb.free 1
              obtain ⟨g3, c9, hv, hcap, htop, hcs⟩ := M4.out.top
              injection hv with hv1 hv2 hv3
              have hg23 : g2 = g3 := by
                have := Option.some.inj hv1
                injection this
              subst hg23
              subst hv3
              clear hv1 hv2
              rw [HL.out] at htop
              by_cases hz : nb s T j + nb s T i = 0
              · have Hn := Lib.hid (hnext.trans (step_shut hb hz))
                have u1 : (nb s T j + nb s T i == 0) = true := by rw [hz]; rfl
                have u2 : (nb s T j + nb s T i != 0) = false := by rw [bne, u1]; rfl
                have M4p := M4.out
                rw [← HL.out] at M4p
                obtain ⟨y5, c5', w5, hrun, hM5⟩ := M4p.pop (by rw [HL.out]; omega) hcs
                rw [HL.out] at hrun hM5
                have M5 := Lib.hid hM5
                have k0 := M5.out.pr.cell (k := i) hlt
                have k1 := M5.out.pr.free i
                have M6 := Lib.hid (M5.out.setP i (j : Int))
                have k2 := M6.out.pr.cell (k := j) hjT
                have k3 := M6.out.pr.free j
                have M7 := Lib.hid (M6.out.setP j (i : Int))
                generalize nb s T j = Vj at u1 u2 c8 hz hvj ⊢
                generalize hVi : nb s T i = V at hb t1 u1 u2 c8 hz hvj ⊢
                have hz' : Vj + V = 0 := hz
                clear hnext hvs hM5 M4p hcs hcap hz hvj hj3
                go_wp2_with (at_builtin; refine wpList_app_run rfl _ _ _ _ rfl rfl rfl hrun ?_)
                all_goals (
                  go_roundw
                  case rel => exact ⟨i + 1, r, _, m, by omega, by go_num, rfl, Hn, M7⟩
                  case measure => simp [intOf]; omega)
              · have Hn := Lib.hid (hnext.trans (step_wrong hb hz))
                have u1 : (nb s T j + nb s T i == 0) = false := beq_eq_false_iff_ne.2 hz
                have u2 : (nb s T j + nb s T i != 0) = true := by rw [bne, u1]; rfl
                have hbf := M4.out.fb.set 5 F
                have k0 := hbf.c0
                have k1 := hbf.c1
                have Hb4 := Lib.hid (below_draw' (bset2 M4.out.be M4.out.o1 (.int .i64 5) (.int .i64 F)) 1)
                generalize nb s T j = Vj at u1 u2 c8 hz hvj ⊢
                generalize nb s T i = V at hb t1 u1 u2 c8 hz hvj ⊢
                clear hbf hnext hvs hcs hcap hz hvj hj3 htop
                go_wp2
                go_region
                go_wp2
                refine bodyPost_ret (v := .tuple #[.slice none 0 0, .slice none 0 0, .int .i64 0, fauV 5 F]) ?_ rfl (HFault.out 5 _ Hn.out Hb4.out)
                simp [fauV, results, Tryz.results7, go_sem, k0, k1]
          · have Hn := Lib.hid (hnext.trans (step_rest hb))
            rw [hb]
            clear hnext hvs
            go_wp2
            go_roundw
            case rel => exact ⟨i + 1, st, p, m, by omega, by go_num, rfl, Hn, M3⟩
            case measure => simp [intOf]; omega
          · have t1 : ¬ nb s T i < 0 := by omega
            obtain ⟨L, hL⟩ : ∃ L, st.length = L := ⟨_, rfl⟩
            have HL := Lib.hid hL
            by_cases hl : st.length = 100
            · have Hn := Lib.hid (hnext.trans (step_deep hb hl))
              have l100 : (100 : Int) ≤ (L : Int) := by omega
              have hbf := M3.out.fb.set 6 F
              have k0 := hbf.c0
              have k1 := hbf.c1
              have Hb4 := Lib.hid (below_draw' (bset2 M3.out.be M3.out.o1 (.int .i64 6) (.int .i64 F)) 1)
              rw [hL]
              generalize nb s T i = V at hb t1 ⊢
              clear hbf hnext hvs hl
              go_wp2
              go_region
              go_wp2
              refine bodyPost_ret (v := .tuple #[.slice none 0 0, .slice none 0 0, .int .i64 0, fauV 6 F]) ?_ rfl (HFault.out 6 _ Hn.out Hb4.out)
              simp [fauV, results, Tryz.results7, go_sem, k0, k1]
            · have Hn := Lib.hid (hnext.trans (step_open hb hl))
              have l100 : ¬ (100 : Int) ≤ (L : Int) := by omega
              have hL9 : L ≤ 100 := by omega
              obtain ⟨y5, c5', w5, hrun, hM5⟩ := M3.out.push i (by omega)
              rw [hL] at hrun hM5 ⊢
              have M5 := Lib.hid hM5
              generalize nb s T i = V at hb t1 ⊢
              clear hnext hvs hl hM5
              go_wp2_with (at_builtin; refine wpList_app_run rfl _ _ _ _ rfl rfl rfl hrun ?_)
              all_goals (
                go_roundw
                case rel => exact ⟨i + 1, i :: st, p, _, by omega, by go_num, by rw [HL.out]; congr 1; omega, Hn, M5⟩
                case measure => simp [intOf]; omega)
        · have hie : i = T.length := by omega
          subst hie
          have b1 : ¬ (T.length : Int) < (T.length : Int) := by omega
          obtain ⟨yo, co, hv⟩ := own_slice HM.out.ow
          subst hv
          have r0 := HM.out.fb.c0
          have r1 := HM.out.fb.c1
          have z0 := HM.out.fb.free 0
          have z1 := HM.out.fb.free 1
          cases st with
          | nil =>
            have hf : nFin (nb s T) T.length = .ok [] p m := by unfold nFin; rw [HA.out]
            obtain ⟨a1, a2, a3, a4, a5⟩ := Hok.out [] p m hf
            have HR := Lib.hid (fun w' (h1 : TkI w' x1 T) (h2 : IsF w' (some ⟨bp, 0, none⟩) T.length p) (h3 : Below w.heap.size w w') => (by unfold RnP; rw [a1, a2, a3, a4, a5]; exact ⟨x1, c1, some ⟨bp, 0, none⟩, T.length, rfl, h1, h2, h3⟩ : RnP s w (.returned (.tuple #[.slice x1 T.length c1, .slice (some ⟨bp, 0, none⟩) T.length T.length, .int .i64 (m : Int), fauV 0 0])) w'))
            have hbf := HM.out.fb.set 0 0
            have k0 := hbf.c0
            have k1 := hbf.c1
            have e4 := HM.out.o1; have e2 := HM.out.o2; have e3 := HM.out.o3; have e5 := HM.out.o4
            have Hb4 := Lib.hid (bset2 HM.out.be HM.out.o1 (.int .i64 0) (.int .i64 0))
            have HT4 := Lib.hid ((HM.out.tk.far (p := ⟨w.heap.size, 0, none⟩) (fun hn g hg => by have := e5 hn g hg; show g ≠ w.heap.size; omega) (.int .i64 0)).far (p := ⟨w.heap.size, 1, none⟩) (fun hn g hg => by have := e5 hn g hg; show g ≠ w.heap.size; omega) (.int .i64 0))
            have HP4 := Lib.hid (isF_of_ri ((HM.out.pr.far (p := ⟨w.heap.size, 0, none⟩) (show bp ≠ w.heap.size by omega) (.int .i64 0)).far (p := ⟨w.heap.size, 1, none⟩) (show bp ≠ w.heap.size by omega) (.int .i64 0)))
            rw [List.length_nil]
            clear hbf hf a1 a2 a3 a4 a5 e4 e2 e3 e5
            go_wp2
            refine bodyPost_ret (v := .tuple #[.slice x1 T.length c1, .slice (some ⟨bp, 0, none⟩) T.length T.length, .int .i64 (m : Int), fauV 0 0]) ?_ rfl (HR.out _ HT4.out HP4.out Hb4.out)
            simp [fauV, results, Tryz.results7, go_sem, k0, k1]
          | cons j r =>
            have hf : nFin (nb s T) T.length = .bad 5 j := by unfold nFin; rw [HA.out]
            obtain ⟨a1, a2, a3, a4⟩ := Hbad.out 5 j hf
            obtain ⟨hj1, hj2, hj3⟩ := HNI.out.s1 j (by simp)
            obtain ⟨g2, c2, hv, hcap, htop, hcs⟩ := HM.out.top
            injection hv with hv1 hv2 hv3
            subst hv1; subst hv3
            obtain ⟨g, rfl, hg, f0, f1, f2⟩ := HM.out.tk.cells (i := j) hj1
            generalize nthT T j = Y at f0 f1 f2 a4
            obtain ⟨Kj, Fj, Uj⟩ := Y
            dsimp only at f0 f1 f2 a4
            have HR := Lib.hid (fun w' (h3 : Below w.heap.size w w') => (by unfold RnP; rw [a1, a2, a3, a4]; exact ⟨none, 0, none, 0, rfl, fun h => absurd h (by simp), fun h => absurd h (by simp), h3⟩ : RnP s w (.returned (.tuple #[.slice none 0 0, .slice none 0 0, .int .i64 0, fauV 5 Fj])) w'))
            obtain ⟨L, hL⟩ : ∃ L, r.length = L := ⟨_, rfl⟩
            have hL100 : L ≤ 100 := by have := hm100.1; have := hm100.2; rw [List.length_cons] at *; omega
            rw [hL] at htop
            rw [show (j :: r).length = L + 1 by rw [List.length_cons, hL]]
            have c0 : (0 : Int) ≤ (L : Int) := by omega
            have c1' : (L : Int) < (L : Int) + 1 := by omega
            have c2' : (0 : Int) < (L : Int) + 1 := by omega
            have c3 : IntKind.i64.wrap ((L : Int) + 1 - 1) = (L : Int) := by rw [IntKind.wrap_i64]; omega
            have c4 : (0 : Int) ≤ (j : Int) := by omega
            have c5 : (j : Int) < (T.length : Int) := by omega
            have hbf := HM.out.fb.set 5 Fj
            have k0 := hbf.c0
            have k1 := hbf.c1
            have Hb4 := Lib.hid (below_draw' (bset2 HM.out.be HM.out.o1 (.int .i64 5) (.int .i64 Fj)) 1)
            clear hbf hf a1 a2 a3 a4 hj1 hj2 hj3 hcs hcap hv2
            push_cast
            go_wp2
            go_region
            go_wp2
            refine bodyPost_ret (v := .tuple #[.slice none 0 0, .slice none 0 0, .int .i64 0, fauV 5 Fj]) ?_ rfl (HR.out _ Hb4.out)
            simp [fauV, results, Tryz.results7, go_sem, k0, k1]
theorem rnest_any (s : ByteArray) (w : World) : Calls Tryz.prog 7 #[.string s] w (RnP s w) := by
  by_cases h : (semA s).2.1 = 0
  · exact rnest_good s w h
  · exact rnest_none s w h
end Go.Proofs.YtnkgbmnjehpkgabGreat

