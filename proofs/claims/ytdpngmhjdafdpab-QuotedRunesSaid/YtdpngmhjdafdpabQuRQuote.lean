/- Contract of the reference's Quote. -/
import Derived.Test.YtdpngmhjdafdpabQuLawC
namespace Go.Proofs.Ytdpngmhjdafdpab
open Go.Shelf Go.RowKit Em
set_option linter.unusedVariables false
set_option linter.unusedSimpArgs false

theorem wpList_append_run {P : Program} {ops : Array Oper} {rest : List Oper} {o : Oper} {a : Act} {w : World} {Q : Exit → Act → World → Prop}
    (hg : o.guard = none) (d x : Operand) (dT sT : TypeId) (hop : o.op = Op.call { callee := Callee.builtin Builtin.append, args := #[d, x], argTypes := #[dT, sT] })
    {v u r : Value} {w' : World} (hd : a.eval d = v) (hx : a.eval x = u) (hrun : (Builtin.append_ #[dT, sT] o.type #[v, u]).run P w = .ok r w') (hK : wpList P ops Q rest (a.put o.dst r) w') :
    wpList P ops Q (o :: rest) a w := by
  refine wpList_plain hg fun K hK' => ?_
  unfold Oper.wp
  simp [execOp, hop, resolve, invoke, builtin, hd, hx, hrun, Result.andThen]
  exact hK' _ _ hK

theorem own_app (w0 w : World) (B : Nat) (v : Value) (T : List UInt8) (X : List UInt8) (cs : List Value) (m : Nat) (hcs : cs = bCells X) (hm : X.length = m)
    (ho : w.ownsRow B 5 1 v T.length (bCells T)) (hlen : T.length + m ≤ 140737488355328) (hb : Below B w0 w) (hB : B ≤ w0.heap.size) :
    ∃ (x : Option Addr) (c : Nat) (w2 : World), (Builtin.append_ #[31, 31] 31 #[v, .slice (some ⟨w.heap.size, 0, none⟩) m m]).run Try.prog (w.alloc (.cells cs.toArray 5)) = .ok (.slice x (T.length + m) c) w2
      ∧ w2.ownsRow B 5 1 (.slice x (T ++ X).length c) (T ++ X).length (bCells (T ++ X)) ∧ Below B w0 w2 := by
  obtain ⟨i0, hi, hz0, hz1, hz2⟩ := info_parts info_u8
  have hbs : B ≤ w.heap.size := by have := hb.size; omega
  have hlt := ho.lt
  subst hm
  have hcl : cs.length = X.length := by rw [hcs, bCells_len]
  obtain ⟨v', w2, hrun, hown, hgrow, _⟩ := run_append_own (P := Try.prog) (w.alloc (.cells cs.toArray 5)) B 31 31 5 i0 (.int .u8 0) 1 1 Try.underlying31 hi hz0 hz1 hz2 rfl (by decide) v T.length (bCells T) (ho.alloc _) ⟨w.heap.size, 0, none⟩ X.length X.length cs
    (by rw [hcl, Nat.mul_one]) (fun j u hu => by
      have ea : (⟨w.heap.size, 0, none⟩ : Addr).add j = ⟨w.heap.size, j, none⟩ := by unfold Addr.add; split <;> simp_all
      have hh : (w.alloc (.cells cs.toArray 5)).heap[w.heap.size]? = some (.cells cs.toArray 5 (0, 0)) := heap_alloc_new w _
      rw [ea, cell_of_row _ w.heap.size j _ _ _ hh, List.getElem?_toArray]; exact hu)
    (fun u hu => by rw [hcs] at hu; unfold bCells at hu; obtain ⟨b, _, rfl⟩ := List.mem_map.1 hu; rfl) (by unfold maxLen; omega) (by omega) (by simp; omega)
  obtain ⟨x, c, rfl⟩ := own_slice hown
  rw [hcs, ← bCells_append] at hown
  refine ⟨x, c, w2, hrun, ?_, (hb.alloc hbs _).grown hgrow (by simp; omega) (fun q e => (hlt q e).1)⟩
  rw [List.length_append]; exact hown

theorem own_start (w : World) : (w.alloc (.cells #[.int .u8 34] 5)).ownsRow w.heap.size 5 1 (.slice (some ⟨w.heap.size, 0, none⟩) 1 1) 1 (bCells [34]) := by
  refine ⟨rfl, .inr ⟨w.heap.size, 1, #[.int .u8 34], rfl, Nat.le_refl _, heap_alloc_new w _, Nat.le_refl _, by unfold maxLen; omega, rfl, rfl⟩⟩

set_option maxRecDepth 100000 in
set_option maxHeartbeats 4000000 in
theorem rquote_any (s : ByteArray) (w : World) (hs : s.size ≤ 1048576) :
    Calls Try.prog 12 #[.string s] w fun e w' => e = .returned (.string (txt (quoteL (bl s)))) ∧ Below w.heap.size w w' := by
  have ho0 := own_start w
  have Ho0 := Lib.hid ho0
  clear ho0
  go_enter Try.func12, Try.ntmps12
  go_wp2
  go_loopw [4, 5] (fun u i wr => ∃ k : Nat, k ≤ s.size ∧ i = .int .i64 k ∧ wr.ownsRow w.heap.size 5 1 u (34 :: qs ((bl s).take k)).length (bCells (34 :: qs ((bl s).take k))) ∧ Below w.heap.size w wr) (fun _ i _ => s.size - (intOf i).toNat)
  case atStart => exact ⟨0, by omega, rfl, Ho0.out, (Below.refl _ _).alloc (Nat.le_refl _) _⟩
  case round =>
    obtain ⟨k, hk, rfl, ho, hb⟩ := hrel
    have hlen := qs_len ((bl s).take k)
    rw [List.length_take, bl_size] at hlen
    by_cases hlt : k < s.size
    · obtain ⟨c, hsn, hcB⟩ := take_snoc' s k hlt
      have e1 := byN_get s k hlt
      have l1 := byN_lt s k
      have b0 : (0 : Int) ≤ (k : Int) := by omega
      have b1 : (k : Int) < (s.size : Int) := by omega
      have hnext : 34 :: qs ((bl s).take (k + 1)) = (34 :: qs ((bl s).take k)) ++ qb c := by rw [hsn, qs_snoc]; rfl
      have HN := Lib.hid hnext
      have hL : (34 :: qs ((bl s).take k)).length ≤ 4 * k + 1 := by rw [List.length_cons]; omega
      clear hnext hsn hlen
      generalize 34 :: qs ((bl s).take k) = L at ho HN hL
      rw [← hcB] at e1 l1
      have hq : qb c = if c.toNat = 34 ∨ c.toNat = 92 then [92, c] else if c.toNat = 10 then [92, 110] else if 32 ≤ c.toNat ∧ c.toNat ≤ 126 then [c] else [92, 120, UInt8.ofNat (hxN (c.toNat / 16)), UInt8.ofNat (hxN (c.toNat % 16))] := rfl
      clear hcB
      by_cases h10 : c.toNat = 10
      · rw [if_neg (by omega), if_pos h10] at hq
        rw [h10] at e1
        obtain ⟨x, cc, w2, hrun, hown, hb2⟩ := own_app w wr w.heap.size u4 L [92, 110] [.int .u8 92, .int .u8 110] 2 rfl rfl ho (by omega) hb (Nat.le_refl _)
        rw [← hq, ← HN.out] at hown
        have hl2 : L.length + 2 = (34 :: qs ((bl s).take (k + 1))).length := by rw [HN.out, hq, List.length_append]; rfl
        rw [hl2] at hrun
        obtain ⟨N2, hN2⟩ : ∃ N2, (34 :: qs ((bl s).take (k + 1))).length = N2 := ⟨_, rfl⟩
        rw [hN2] at hrun hown
        have HN2 := Lib.hid hN2
        have Hown := Lib.hid hown
        have Hb2 := Lib.hid hb2
        clear ho hb hown hb2 hq hl2 hN2 h10 l1
        go_wp2_with (at_builtin; refine wpList_append_run rfl _ _ _ _ rfl rfl rfl hrun ?_)
        all_goals (
          go_roundw
          case rel => exact ⟨k + 1, by omega, by go_num, by rw [HN2.out]; exact Hown.out, Hb2.out⟩
          case measure => simp [intOf]; omega)
      · have d10 : ((c.toNat : Int) == 10) = false := beq_eq_false_iff_ne.2 (by omega)
        by_cases h34 : c.toNat = 34 ∨ c.toNat = 92
        · rw [if_pos h34] at hq
          rcases h34 with h | h
          · rw [h] at e1 d10
            obtain ⟨x, cc, w2, hrun, hown, hb2⟩ := own_app w wr w.heap.size u4 L [92, c] [.int .u8 92, .int .u8 34] 2 (by unfold bCells; rw [List.map_cons, List.map_cons, List.map_nil, h]; rfl) rfl ho (by omega) hb (Nat.le_refl _)
            rw [← hq, ← HN.out] at hown
            have hl2 : L.length + 2 = (34 :: qs ((bl s).take (k + 1))).length := by rw [HN.out, hq, List.length_append]; rfl
            rw [hl2] at hrun
            obtain ⟨N2, hN2⟩ : ∃ N2, (34 :: qs ((bl s).take (k + 1))).length = N2 := ⟨_, rfl⟩
            rw [hN2] at hrun hown
            have HN2 := Lib.hid hN2
            have Hown := Lib.hid hown
            have Hb2 := Lib.hid hb2
            clear ho hb hown hb2 hq hl2 hN2 h h10 l1 d10
            go_wp2_with (at_builtin; refine wpList_append_run rfl _ _ _ _ rfl rfl rfl hrun ?_)
            all_goals (
              go_roundw
              case rel => exact ⟨k + 1, by omega, by go_num, by rw [HN2.out]; exact Hown.out, Hb2.out⟩
              case measure => simp [intOf]; omega)
          · rw [h] at e1 d10
            obtain ⟨x, cc, w2, hrun, hown, hb2⟩ := own_app w wr w.heap.size u4 L [92, c] [.int .u8 92, .int .u8 92] 2 (by unfold bCells; rw [List.map_cons, List.map_cons, List.map_nil, h]; rfl) rfl ho (by omega) hb (Nat.le_refl _)
            rw [← hq, ← HN.out] at hown
            have hl2 : L.length + 2 = (34 :: qs ((bl s).take (k + 1))).length := by rw [HN.out, hq, List.length_append]; rfl
            rw [hl2] at hrun
            obtain ⟨N2, hN2⟩ : ∃ N2, (34 :: qs ((bl s).take (k + 1))).length = N2 := ⟨_, rfl⟩
            rw [hN2] at hrun hown
            have HN2 := Lib.hid hN2
            have Hown := Lib.hid hown
            have Hb2 := Lib.hid hb2
            clear ho hb hown hb2 hq hl2 hN2 h h10 l1 d10
            go_wp2_with (at_builtin; refine wpList_append_run rfl _ _ _ _ rfl rfl rfl hrun ?_)
            all_goals (
              go_roundw
              case rel => exact ⟨k + 1, by omega, by go_num, by rw [HN2.out]; exact Hown.out, Hb2.out⟩
              case measure => simp [intOf]; omega)
        · rw [if_neg h34, if_neg h10] at hq
          have d34 : ((c.toNat : Int) == 34) = false := beq_eq_false_iff_ne.2 (by omega)
          have d92 : ((c.toNat : Int) == 92) = false := beq_eq_false_iff_ne.2 (by omega)
          by_cases hpr : 32 ≤ c.toNat ∧ c.toNat ≤ 126
          · rw [if_pos hpr] at hq
            have p1 : (32 : Int) ≤ (c.toNat : Int) := by omega
            have p2 : (c.toNat : Int) ≤ 126 := by omega
            obtain ⟨C, hC⟩ : ∃ C, c.toNat = C := ⟨_, rfl⟩
            have hcs : [Value.int .u8 (C : Int)] = bCells [c] := by rw [← hC]; rfl
            rw [hC] at e1 l1 d34 d92 d10 p1 p2
            obtain ⟨x, cc, w2, hrun, hown, hb2⟩ := own_app w wr w.heap.size u4 L [c] [.int .u8 C] 1 hcs rfl ho (by omega) hb (Nat.le_refl _)
            rw [← hq, ← HN.out] at hown
            have hl2 : L.length + 1 = (34 :: qs ((bl s).take (k + 1))).length := by rw [HN.out, hq, List.length_append]; rfl
            rw [hl2] at hrun
            obtain ⟨N2, hN2⟩ : ∃ N2, (34 :: qs ((bl s).take (k + 1))).length = N2 := ⟨_, rfl⟩
            rw [hN2] at hrun hown
            have HN2 := Lib.hid hN2
            have Hown := Lib.hid hown
            have Hb2 := Lib.hid hb2
            clear ho hb hown hb2 hq hl2 hN2 h34 h10 hpr hC hcs
            go_wp2_with (at_builtin; refine wpList_append_run rfl _ _ _ _ rfl rfl rfl hrun ?_)
            all_goals (
              go_roundw
              case rel => exact ⟨k + 1, by omega, by go_num, by rw [HN2.out]; exact Hown.out, Hb2.out⟩
              case measure => simp [intOf]; omega)
          · rw [if_neg hpr] at hq
            obtain ⟨C, hC⟩ : ∃ C, c.toNat = C := ⟨_, rfl⟩
            rw [hC] at e1 l1 d34 d92 d10 hpr hq
            have p1 : ¬ (32 : Int) ≤ (C : Int) ∨ ((32 : Int) ≤ (C : Int) ∧ ¬ (C : Int) ≤ 126) := by omega
            clear hpr
            obtain ⟨M1, hM1⟩ : ∃ M1, C / 16 = M1 := ⟨_, rfl⟩
            obtain ⟨M2, hM2⟩ : ∃ M2, C % 16 = M2 := ⟨_, rfl⟩
            have q1 : (C : Int).tdiv 16 = (M1 : Int) := by rw [Int.tdiv_eq_ediv_of_nonneg (by omega)]; omega
            have q2 : (C : Int).tmod 16 = (M2 : Int) := by rw [Int.tmod_eq_emod_of_nonneg (by omega)]; omega
            have hA : M1 < 16 := by omega
            have hB : M2 < 16 := by omega
            have q3 : IntKind.u8.wrap (M1 : Int) = (M1 : Int) := by rw [IntKind.wrap_u8]; omega
            have q4 : IntKind.u8.wrap (M2 : Int) = (M2 : Int) := by rw [IntKind.wrap_u8]; omega
            rw [hM1, hM2] at hq
            clear hM1 hM2
            have x1 := (byN_get ⟨#[48, 49, 50, 51, 52, 53, 54, 55, 56, 57, 97, 98, 99, 100, 101, 102]⟩ M1 hA).trans (hx_at ⟨M1, hA⟩)
            have x2 := (byN_get ⟨#[48, 49, 50, 51, 52, 53, 54, 55, 56, 57, 97, 98, 99, 100, 101, 102]⟩ M2 hB).trans (hx_at ⟨M2, hB⟩)
            have y1 : hxN M1 < 256 := by unfold hxN; split <;> omega
            have y2 : hxN M2 < 256 := by unfold hxN; split <;> omega
            simp only [] at x1 x2
            generalize hxN M1 = X1 at x1 y1 hq
            generalize hxN M2 = X2 at x2 y2 hq
            have a1 : (0 : Int) ≤ (M1 : Int) := by omega
            have a2 : (M1 : Int) < 16 := by omega
            have a3 : (0 : Int) ≤ (M2 : Int) := by omega
            have a4 : (M2 : Int) < 16 := by omega
            have hcs : [Value.int .u8 92, .int .u8 120, .int .u8 (X1 : Int), .int .u8 (X2 : Int)] = bCells [92, 120, UInt8.ofNat X1, UInt8.ofNat X2] := by
              unfold bCells
              simp only [List.map_cons, List.map_nil, Um.toNat_ofNat y1, Um.toNat_ofNat y2]; rfl
            obtain ⟨x, cc, w2, hrun, hown, hb2⟩ := own_app w wr.drew w.heap.size u4 L [92, 120, UInt8.ofNat X1, UInt8.ofNat X2] [.int .u8 92, .int .u8 120, .int .u8 X1, .int .u8 X2] 4 hcs rfl ho (by omega) (below_drw hb 1) (Nat.le_refl _)
            rw [← hq, ← HN.out] at hown
            have hl2 : L.length + 4 = (34 :: qs ((bl s).take (k + 1))).length := by rw [HN.out, hq, List.length_append]; rfl
            rw [hl2] at hrun
            obtain ⟨N2, hN2⟩ : ∃ N2, (34 :: qs ((bl s).take (k + 1))).length = N2 := ⟨_, rfl⟩
            rw [hN2] at hrun hown
            have HN2 := Lib.hid hN2
            have Hown := Lib.hid hown
            have Hb2 := Lib.hid hb2
            clear ho hb hown hb2 hq hl2 hN2 h34 h10 hC hcs
            rcases p1 with p1 | ⟨p1, p2⟩
            all_goals (
              go_wp2
              go_region_law (refine step_append_run rfl _ _ _ _ (by rfl) (by rfl) (by rfl) hrun ?_)
              all_goals go_wp2)
            all_goals (
              go_roundw
              case rel => exact ⟨k + 1, by omega, by go_num, by rw [HN2.out]; exact Hown.out, Hb2.out⟩
              case measure => simp [intOf]; omega)
    · obtain rfl : k = s.size := by omega
      have ht : (bl s).take s.size = bl s := List.take_of_length_le (by rw [bl_size]; omega)
      rw [ht] at ho
      have hlq := qs_len (bl s)
      rw [bl_size] at hlq
      have hLL : (34 :: qs (bl s)).length ≤ 4194305 := by rw [List.length_cons]; omega
      obtain ⟨x, cc, w2, hrun, hown, hb2⟩ := own_app w wr w.heap.size u4 (34 :: qs (bl s)) [34] [.int .u8 34] 1 rfl rfl ho (by omega) hb (Nat.le_refl _)
      obtain ⟨x', cc', e', hc⟩ := conv_own hown
      obtain ⟨rfl, rfl⟩ : x = x' ∧ cc = cc' := by cases e'; exact ⟨rfl, rfl⟩
      have hcv := hc 0
      simp only [World.drewN_zero] at hcv
      have hq : (34 :: qs (bl s)) ++ [34] = quoteL (bl s) := rfl
      have hl2 : (34 :: qs (bl s)).length + 1 = (quoteL (bl s)).length := by rw [← hq, List.length_append]; rfl
      rw [hq] at hcv
      rw [hl2] at hrun
      have Hb2 := Lib.hid hb2
      clear ho hb hown hb2 hc hq hl2 hLL hlq ht hlen e'
      generalize (quoteL (bl s)).length = N2 at hrun hcv
      obtain ⟨Y, hY⟩ : ∃ Y, txt (quoteL (bl s)) = Y := ⟨_, rfl⟩
      rw [hY] at hcv
      have HY := Lib.hid hY
      clear hY
      go_wp2_with (at_builtin; refine wpList_append_run rfl _ _ _ _ rfl rfl rfl hrun ?_)
      go_wp2
      go_ret
      exact ⟨by rw [HY.out]; rfl, Hb2.out⟩
end Go.Proofs.Ytdpngmhjdafdpab
