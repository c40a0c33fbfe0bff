/- Contracts of quoted's reader: say, number. -/
import Derived.Test.YtdpngmhjdafdpaaQuRd
import Derived.Shelf.Abstract
namespace Go.Proofs.Ytdpngmhjdafdpaa
open Go.RowKit Em Go.Shelf
set_option linter.unusedVariables false
set_option linter.unusedSimpArgs false

/-- Behind an append, and the store of what came of it. -/
theorem rd_put {w w2 : World} {g p : Nat} {s : ByteArray} {v v' : Value} {r T T' : List UInt8} (hh : w.heap[g]? = some (.cells #[.string s, .int .i64 p, v] 41 (0, 0)))
    (ho : w.ownsRow (g + 1) 5 1 v T.length (bCells T)) (h2 : w2.ownsRow (g + 1) 5 1 v' T'.length (bCells T')) (hg : w.grownBy w2 v.ownBlock) (hp : p ≤ s.size) (hr : (bl s).drop p = r) :
    w2.cell? ⟨g, 2, none⟩ = some v ∧ w2.frozen? ⟨g, 2, none⟩ = false ∧ Rd (w2.setCell ⟨g, 2, none⟩ v') g s r T' ∧ ∀ B, B ≤ g → Below B w (w2.setCell ⟨g, 2, none⟩ v') := by
  have hlt := (Array.getElem?_eq_some_iff.1 hh).1
  have hne : some g ≠ v.ownBlock := fun e => by have := (ho.lt _ e.symm).1; omega
  have hh2 : w2.heap[g]? = some (.cells #[.string s, .int .i64 p, v] 41 (0, 0)) := (hg.block g hlt hne).trans hh
  refine ⟨by rw [cell_of_row w2 g 2 _ _ _ hh2]; rfl, frozen_of_row w2 g 2 _ _ hh2, ⟨p, v', hp, hr, by rw [heap_setCell_same w2 g 2 _ _ _ hh2]; rfl, own_far h2 _ _ (by simp)⟩, fun B hB => ?_⟩
  exact ((Below.refl B w).grown hg (by omega) (fun k e => by have := (ho.lt _ e).1; omega)).setCell hB _

theorem own_slice {w : World} {base : Nat} {e : TypeId} {size : Nat} {v : Value} {n : Nat} {xs : List Value} (h : w.ownsRow base e size v n xs) : ∃ (x : Option Addr) (c : Nat), v = .slice x n c := by
  rcases h.2 with ⟨rfl, rfl⟩ | ⟨g, cap, cur, rfl, _⟩
  · exact ⟨_, _, rfl⟩
  · exact ⟨_, _, rfl⟩

theorem bCells_str (T : List UInt8) (x : ByteArray) : bCells T ++ Lib.strCells x = bCells (T ++ bl x) := by rw [bCells_append]; rfl

theorem step_append_run {P : Program} {ops : Array Oper} {o : Oper} {a : Act} {w : World} {K : Act → World → Prop} {Q : Exit → Act → World → Prop} {E : Prop}
    (hg : o.guard = none) (d x : Operand) (dT sT : TypeId) (hop : o.op = Op.call { callee := Callee.builtin Builtin.append, args := #[d, x], argTypes := #[dT, sT] })
    {v u r : Value} {w' : World} (hd : a.eval d = v) (hx : a.eval x = u) (hrun : (Builtin.append_ #[dT, sT] o.type #[v, u]).run P w = .ok r w') (hK : K (a.put o.dst r) w') :
    if Region.wanted o (yielded ops a.tmps) = true then Oper.wp P o a w K Q else E := by
  have hw : Region.wanted o (yielded ops a.tmps) = true := by simp [Region.wanted, hg]
  rw [if_pos hw]
  unfold Oper.wp
  simp [execOp, hop, resolve, invoke, builtin, hd, hx, hrun, Result.andThen]
  exact hK

theorem step_call_same {P : Program} {ops : Array Oper} {o : Oper} {a : Act} {w : World} {K : Act → World → Prop} {Q : Exit → Act → World → Prop} {E : Prop}
    (hg : o.guard = none) (f : FuncId) (x : Operand) (tx : TypeId) (hop : o.op = Op.call { callee := Callee.value (Operand.func f), args := #[x], argTypes := #[tx] })
    {u v : Value} (hx : a.eval x = u) (he : (callFunc f #[u]).run P w = .ok (.enter f #[u]) w) (hc : Calls P f #[u] w fun e w' => e = .returned v ∧ w = w') (hK : K (a.put o.dst v) w) :
    if Region.wanted o (yielded ops a.tmps) = true then Oper.wp P o a w K Q else E := by
  have hw : Region.wanted o (yielded ops a.tmps) = true := by simp [Region.wanted, hg]
  rw [if_pos hw]
  unfold Oper.wp
  have h1 : (execOp a.eval o).run P w = .ok (.enter f #[u]) w := by
    have hf : a.eval (Operand.func f) = Value.func (Fn.func f) #[] #[] := rfl
    simp [execOp, hop, resolve, invoke, hx, hf, he, Result.andThen, Deferred.ofValue]
  rw [h1, Oper.upon_enter]
  refine hc.mono ?_
  rintro e w' ⟨rfl, rfl⟩
  exact hK

set_option maxHeartbeats 2000000 in
/-- say -/
theorem say_any (g : Nat) (s : ByteArray) (r T : List UInt8) (c : Int) (w : World) (h : Rd w g s r T) (hT : T.length + 4 ≤ 140737488355328) (hF : (formOf c).size ≤ 4) :
    Calls Try.prog 64 #[.pointer (some ⟨g, 0, none⟩), .int .i32 c] w fun e w' => e = .returned (.tuple #[]) ∧ Rd w' g s r (T ++ bl (formOf c)) ∧ ∀ B, B ≤ g → Below B w w' := by
  obtain ⟨p, u, hp, hr, c0, c1, c2, f1, f2, ho, hh⟩ := h.cells
  have hlt := h.lt
  obtain ⟨i0, hi, hz0, hz1, hz2⟩ := info_parts info_u8
  have hod : w.drew.ownsRow (g + 1) 5 1 u T.length (bCells T) := ho
  obtain ⟨v', w2, hrun, hown2, hgrow, _⟩ := Lib.run_append_own_string (P := Try.prog) w.drew (g + 1) 38 9 38 5 i0 Try.underlying38 Try.underlying9 hi hz0 hz1 hz2 u T.length (bCells T) hod (formOf c) (by unfold maxLen; omega) (by omega) (by show g + 1 ≤ w.heap.size; omega)
  obtain ⟨x', c', rfl⟩ := own_slice hown2
  rw [bCells_str] at hown2
  have hlen : T.length + (formOf c).size = (T ++ bl (formOf c)).length := by rw [List.length_append, bl_size]
  rw [hlen] at hown2 hrun
  obtain ⟨k2, k3, K, B⟩ := rd_put (w := w.drew) hh hod hown2 hgrow hp hr
  obtain ⟨m, hm⟩ : ∃ m, (T ++ bl (formOf c)).length = m := ⟨_, rfl⟩
  rw [hm] at hrun K B
  have HK := Lib.hid K
  have HB := Lib.hid B
  clear h ho hod hown2 hgrow K B hlen hh hm
  go_enter Try.func64, Try.ntmps64
  go_wp2
  have eg : ∀ w, (callFunc 72 #[.int .i32 c]).run Try.prog w = .ok (.enter 72 #[.int .i32 c]) w := enters_of Try.func72 (by kernel_rfl) rfl _
  go_region_law (first
    | (refine step_call_same rfl 72 _ _ (by rfl) (by rfl) (eg _) (form_any c _) ?_)
    | (refine step_append_run rfl _ _ _ _ (by rfl) (by rfl) (by rfl) hrun ?_))
  all_goals (go_wp2; all_goals (go_end0; exact ⟨rfl, HK.out, fun B hB => (show Below B w w.drew from below_drw (Below.refl B w) 1).trans (HB.out B hB)⟩))

/-- Numbers as 32 bits have them. -/
def W32 (x : Int) : Int := (x + 2147483648) % 4294967296 - 2147483648
theorem W32_wrap (x : Int) : IntKind.i32.wrap x = W32 x := IntKind.wrap_i32 x
theorem W32_ex (x : Int) : ∃ t, W32 x = x + 4294967296 * t := ⟨-((x + 2147483648) / 4294967296), by unfold W32; omega⟩
theorem W32_add (x t : Int) : W32 (x + 4294967296 * t) = W32 x := by
  unfold W32
  rw [show x + 4294967296 * t + 2147483648 = (x + 2147483648) + 4294967296 * t by omega, Int.add_mul_emod_self_left]
theorem W32_step (n b d : Int) : W32 (n * b + d) = IntKind.i32.wrap (IntKind.i32.wrap (W32 n * b) + IntKind.i32.wrap d) := by
  rw [W32_wrap, W32_wrap, W32_wrap]
  obtain ⟨t1, h1⟩ := W32_ex n
  have e1 : W32 (W32 n * b) = W32 (n * b) := by rw [h1, Int.add_mul, Int.mul_assoc, W32_add]
  obtain ⟨t2, h2⟩ := W32_ex (n * b)
  obtain ⟨t3, h3⟩ := W32_ex d
  rw [e1, h2, h3, show n * b + 4294967296 * t2 + (d + 4294967296 * t3) = (n * b + d) + 4294967296 * (t2 + t3) by omega, W32_add]
theorem ret_rb {a c : Int} {b d : Bool} (h : a = c) (h' : b = d) : Ending.returned (.tuple #[.int .i32 a, .bool b]) = .returned (.tuple #[.int .i32 c, .bool d]) := by rw [h, h']

/-- What number answers: the number as 32 bits have it. -/
def numV (b k : Nat) (r : List UInt8) : Int := match Qm.numA b k 0 r with | some (v, _) => W32 v | none => 0

set_option maxRecDepth 100000 in
set_option maxHeartbeats 4000000 in
theorem number_8 (g : Nat) (s : ByteArray) (r T : List UInt8) (k : Nat) (w : World) (h : Rd w g s r T) (hk : k ≤ 8) (hs : s.size ≤ 4611686018427387000) :
    Calls Try.prog 71 #[.pointer (some ⟨g, 0, none⟩), .int .i64 k, .int .i64 8] w fun e w' =>
      e = .returned (.tuple #[.int .i32 (numV 8 k r), .bool (Qm.numA 8 k 0 r).isSome]) ∧ (∀ v q, Qm.numA 8 k 0 r = some (v, q) → Rd w' g s q T) ∧ ∀ B, B ≤ g → Below B w w' := by
  have H := Lib.hid h
  clear h
  go_enter Try.func71, Try.ntmps71
  go_wp2
  go_loopw [8, 13] (fun m i wr => ∃ (j n : Nat) (q : List UInt8), j ≤ k ∧ i = .int .i64 j ∧ m = .int .i32 (W32 n) ∧ Rd wr g s q T ∧ Qm.numA 8 (k - j) n q = Qm.numA 8 k 0 r ∧ ∀ B, B ≤ g → Below B w wr) (fun _ i _ => k - (intOf i).toNat)
  case atStart => exact ⟨0, 0, r, by omega, rfl, rfl, H.out, rfl, fun B _ => Below.refl _ _⟩
  case round =>
    obtain ⟨j, n, q, hj, rfl, rfl, hr, hn, hbel⟩ := hrel
    have Hn := Lib.hid hn
    have Hbel := Lib.hid hbel
    clear hn hbel
    by_cases hlt : j < k
    · have b1 : (j : Int) < (k : Int) := by omega
      obtain ⟨d, hd⟩ : ∃ d, k - j = d + 1 := ⟨k - j - 1, by omega⟩
      have hn2 := Hn.out
      rw [hd] at hn2
      match q, hr, hn2 with
      | [], hr, hn2 =>
        have hres : Qm.numA 8 k 0 r = none := hn2.symm
        have hN := fun w1 h1 => next_end g s T w1 h1 hs
        have hB := fun w => base_byte 0 (by omega) w
        have e0 : bsI 0 = -1 := by decide
        rw [e0] at hB
        have Hres := Lib.hid hres
        clear hn2 Hn hres
        go_wp2_with fail
        refine (hN _ hr).mono ?_
        rintro e w1 ⟨rfl, k1, b1⟩
        have Hk1 := Lib.hid k1
        have Hb1 := Lib.hid b1
        clear k1 b1
        go_wp2_with fail
        refine (hB _).mono ?_
        rintro e w2 ⟨rfl, rfl⟩
        go_wp2
        go_ret2
        refine ⟨ret_rb (by unfold numV; rw [Hres.out]) (by rw [Hres.out]; rfl), (fun v q h => by rw [Hres.out] at h; cases h), fun B hB => (Hbel.out B hB).trans (Hb1.out B hB)⟩
      | c :: q, hr, hn2 =>
        rw [Qm.numA] at hn2
        have hN := fun w1 h1 => next_some g s c q T w1 h1 hs
        have hcl := c.toNat_lt
        have hB := fun w => base_byte c.toNat hcl w
        have wc : IntKind.i32.wrap (c.toNat : Int) = (c.toNat : Int) := by rw [IntKind.wrap_i32]; omega
        by_cases hc : Nm.dg c < 8
        · rw [if_pos hc] at hn2
          have hX := (bsI_dg c).1 (by omega)
          have hd2 : k - (j + 1) = d := by omega
          rw [← hd2] at hn2
          have hw : W32 ((n * 8 + Nm.dg c : Nat) : Int) = IntKind.i32.wrap (IntKind.i32.wrap (W32 (n : Int) * 8) + IntKind.i32.wrap (bsI c.toNat)) := by
            rw [hX]
            have e1 : ((n * 8 + Nm.dg c : Nat) : Int) = (n : Int) * 8 + (Nm.dg c : Int) := by push_cast; rfl
            rw [e1]; exact W32_step _ 8 _
          have b4 : ¬ bsI c.toNat < 0 := by rw [hX]; omega
          have b5 : ¬ 8 ≤ bsI c.toNat := by rw [hX]; omega
          have vD : IntKind.i32.wrap (bsI c.toNat) = bsI c.toNat := by rw [IntKind.wrap_i32]; omega
          clear hd hd2 hX
          have Hn2 := Lib.hid hn2
          clear hn2 Hn hc
          generalize Nm.dg c = D at Hn2 hw
          generalize bsI c.toNat = X at hB b4 b5 vD hw
          generalize c.toNat = C at hN hB wc hcl
          generalize W32 (n : Int) = M at hw
          obtain ⟨X1, v1⟩ : ∃ x, IntKind.i32.wrap (M * 8) = x := ⟨_, rfl⟩
          obtain ⟨X2, v2⟩ : ∃ x, IntKind.i32.wrap (X1 + X) = x := ⟨_, rfl⟩
          rw [v1, vD, v2] at hw
          have Hw := Lib.hid hw
          clear hw
          go_wp2_with fail
          refine (hN _ hr).mono ?_
          rintro e w1 ⟨rfl, k1, b1⟩
          have Hk1 := Lib.hid k1
          have Hb1 := Lib.hid b1
          clear k1 b1
          go_wp2_with fail
          refine (hB _).mono ?_
          rintro e w2 ⟨rfl, rfl⟩
          have d1 : decide (X < 0) = false := decide_eq_false (by omega)
          have d2 : decide (8 ≤ X) = false := decide_eq_false (by omega)
          go_wp2
          go_roundw
          case rel => exact ⟨j + 1, n * 8 + D, q, by omega, by go_num, by rw [Hw.out], Hk1.out, Hn2.out, fun B hB => (Hbel.out B hB).trans (Hb1.out B hB)⟩
          case measure => simp [intOf]; omega
        · rw [if_neg hc] at hn2
          have hres : Qm.numA 8 k 0 r = none := hn2.symm
          have Hres := Lib.hid hres
          clear hn2 Hn hres
          have bad : bsI c.toNat < 0 ∨ (¬ bsI c.toNat < 0 ∧ 8 ≤ bsI c.toNat) := by
            by_cases h16 : Nm.dg c < 16
            · rw [(bsI_dg c).1 h16]; omega
            · rw [(bsI_dg c).2 h16]; omega
          generalize bsI c.toNat = X at hB bad
          generalize c.toNat = C at hN hB wc hcl
          rcases bad with bad | ⟨bad1, bad2⟩
          · go_wp2_with fail
            refine (hN _ hr).mono ?_
            rintro e w1 ⟨rfl, k1, b1⟩
            have Hk1 := Lib.hid k1
            have Hb1 := Lib.hid b1
            clear k1 b1
            go_wp2_with fail
            refine (hB _).mono ?_
            rintro e w2 ⟨rfl, rfl⟩
            go_wp2
            go_ret2
            refine ⟨ret_rb (by unfold numV; rw [Hres.out]) (by rw [Hres.out]; rfl), (fun v q h => by rw [Hres.out] at h; cases h), fun B hB => (Hbel.out B hB).trans (Hb1.out B hB)⟩
          · go_wp2_with fail
            refine (hN _ hr).mono ?_
            rintro e w1 ⟨rfl, k1, b1⟩
            have Hk1 := Lib.hid k1
            have Hb1 := Lib.hid b1
            clear k1 b1
            go_wp2_with fail
            refine (hB _).mono ?_
            rintro e w2 ⟨rfl, rfl⟩
            go_wp2
            go_ret2
            refine ⟨ret_rb (by unfold numV; rw [Hres.out]) (by rw [Hres.out]; rfl), (fun v q h => by rw [Hres.out] at h; cases h), fun B hB => (Hbel.out B hB).trans (Hb1.out B hB)⟩
    · have b1 : ¬ (j : Int) < (k : Int) := by omega
      have hd : k - j = 0 := by omega
      have hn2 := Hn.out
      rw [hd] at hn2
      have hres : Qm.numA 8 k 0 r = some (n, q) := hn2.symm
      have Hres := Lib.hid hres
      clear hn2 Hn hres
      go_wp2
      go_ret2
      refine ⟨ret_rb (by unfold numV; rw [Hres.out]) (by rw [Hres.out]; rfl), fun v q' h => ?_, Hbel.out⟩
      rw [Hres.out] at h
      obtain ⟨rfl, rfl⟩ := Prod.mk.inj (Option.some.inj h)
      exact hr

set_option maxRecDepth 100000 in
set_option maxHeartbeats 4000000 in
theorem number_16 (g : Nat) (s : ByteArray) (r T : List UInt8) (k : Nat) (w : World) (h : Rd w g s r T) (hk : k ≤ 8) (hs : s.size ≤ 4611686018427387000) :
    Calls Try.prog 71 #[.pointer (some ⟨g, 0, none⟩), .int .i64 k, .int .i64 16] w fun e w' =>
      e = .returned (.tuple #[.int .i32 (numV 16 k r), .bool (Qm.numA 16 k 0 r).isSome]) ∧ (∀ v q, Qm.numA 16 k 0 r = some (v, q) → Rd w' g s q T) ∧ ∀ B, B ≤ g → Below B w w' := by
  have H := Lib.hid h
  clear h
  go_enter Try.func71, Try.ntmps71
  go_wp2
  go_loopw [8, 13] (fun m i wr => ∃ (j n : Nat) (q : List UInt8), j ≤ k ∧ i = .int .i64 j ∧ m = .int .i32 (W32 n) ∧ Rd wr g s q T ∧ Qm.numA 16 (k - j) n q = Qm.numA 16 k 0 r ∧ ∀ B, B ≤ g → Below B w wr) (fun _ i _ => k - (intOf i).toNat)
  case atStart => exact ⟨0, 0, r, by omega, rfl, rfl, H.out, rfl, fun B _ => Below.refl _ _⟩
  case round =>
    obtain ⟨j, n, q, hj, rfl, rfl, hr, hn, hbel⟩ := hrel
    have Hn := Lib.hid hn
    have Hbel := Lib.hid hbel
    clear hn hbel
    by_cases hlt : j < k
    · have b1 : (j : Int) < (k : Int) := by omega
      obtain ⟨d, hd⟩ : ∃ d, k - j = d + 1 := ⟨k - j - 1, by omega⟩
      have hn2 := Hn.out
      rw [hd] at hn2
      match q, hr, hn2 with
      | [], hr, hn2 =>
        have hres : Qm.numA 16 k 0 r = none := hn2.symm
        have hN := fun w1 h1 => next_end g s T w1 h1 hs
        have hB := fun w => base_byte 0 (by omega) w
        have e0 : bsI 0 = -1 := by decide
        rw [e0] at hB
        have Hres := Lib.hid hres
        clear hn2 Hn hres
        go_wp2_with fail
        refine (hN _ hr).mono ?_
        rintro e w1 ⟨rfl, k1, b1⟩
        have Hk1 := Lib.hid k1
        have Hb1 := Lib.hid b1
        clear k1 b1
        go_wp2_with fail
        refine (hB _).mono ?_
        rintro e w2 ⟨rfl, rfl⟩
        go_wp2
        go_ret2
        refine ⟨ret_rb (by unfold numV; rw [Hres.out]) (by rw [Hres.out]; rfl), (fun v q h => by rw [Hres.out] at h; cases h), fun B hB => (Hbel.out B hB).trans (Hb1.out B hB)⟩
      | c :: q, hr, hn2 =>
        rw [Qm.numA] at hn2
        have hN := fun w1 h1 => next_some g s c q T w1 h1 hs
        have hcl := c.toNat_lt
        have hB := fun w => base_byte c.toNat hcl w
        have wc : IntKind.i32.wrap (c.toNat : Int) = (c.toNat : Int) := by rw [IntKind.wrap_i32]; omega
        by_cases hc : Nm.dg c < 16
        · rw [if_pos hc] at hn2
          have hX := (bsI_dg c).1 (by omega)
          have hd2 : k - (j + 1) = d := by omega
          rw [← hd2] at hn2
          have hw : W32 ((n * 16 + Nm.dg c : Nat) : Int) = IntKind.i32.wrap (IntKind.i32.wrap (W32 (n : Int) * 16) + IntKind.i32.wrap (bsI c.toNat)) := by
            rw [hX]
            have e1 : ((n * 16 + Nm.dg c : Nat) : Int) = (n : Int) * 16 + (Nm.dg c : Int) := by push_cast; rfl
            rw [e1]; exact W32_step _ 16 _
          have b4 : ¬ bsI c.toNat < 0 := by rw [hX]; omega
          have b5 : ¬ 16 ≤ bsI c.toNat := by rw [hX]; omega
          have vD : IntKind.i32.wrap (bsI c.toNat) = bsI c.toNat := by rw [IntKind.wrap_i32]; omega
          clear hd hd2 hX
          have Hn2 := Lib.hid hn2
          clear hn2 Hn hc
          generalize Nm.dg c = D at Hn2 hw
          generalize bsI c.toNat = X at hB b4 b5 vD hw
          generalize c.toNat = C at hN hB wc hcl
          generalize W32 (n : Int) = M at hw
          obtain ⟨X1, v1⟩ : ∃ x, IntKind.i32.wrap (M * 16) = x := ⟨_, rfl⟩
          obtain ⟨X2, v2⟩ : ∃ x, IntKind.i32.wrap (X1 + X) = x := ⟨_, rfl⟩
          rw [v1, vD, v2] at hw
          have Hw := Lib.hid hw
          clear hw
          go_wp2_with fail
          refine (hN _ hr).mono ?_
          rintro e w1 ⟨rfl, k1, b1⟩
          have Hk1 := Lib.hid k1
          have Hb1 := Lib.hid b1
          clear k1 b1
          go_wp2_with fail
          refine (hB _).mono ?_
          rintro e w2 ⟨rfl, rfl⟩
          have d1 : decide (X < 0) = false := decide_eq_false (by omega)
          have d2 : decide (16 ≤ X) = false := decide_eq_false (by omega)
          go_wp2
          go_roundw
          case rel => exact ⟨j + 1, n * 16 + D, q, by omega, by go_num, by rw [Hw.out], Hk1.out, Hn2.out, fun B hB => (Hbel.out B hB).trans (Hb1.out B hB)⟩
          case measure => simp [intOf]; omega
        · rw [if_neg hc] at hn2
          have hres : Qm.numA 16 k 0 r = none := hn2.symm
          have Hres := Lib.hid hres
          clear hn2 Hn hres
          have bad : bsI c.toNat < 0 ∨ (¬ bsI c.toNat < 0 ∧ 16 ≤ bsI c.toNat) := by
            by_cases h16 : Nm.dg c < 16
            · rw [(bsI_dg c).1 h16]; omega
            · rw [(bsI_dg c).2 h16]; omega
          generalize bsI c.toNat = X at hB bad
          generalize c.toNat = C at hN hB wc hcl
          rcases bad with bad | ⟨bad1, bad2⟩
          · go_wp2_with fail
            refine (hN _ hr).mono ?_
            rintro e w1 ⟨rfl, k1, b1⟩
            have Hk1 := Lib.hid k1
            have Hb1 := Lib.hid b1
            clear k1 b1
            go_wp2_with fail
            refine (hB _).mono ?_
            rintro e w2 ⟨rfl, rfl⟩
            go_wp2
            go_ret2
            refine ⟨ret_rb (by unfold numV; rw [Hres.out]) (by rw [Hres.out]; rfl), (fun v q h => by rw [Hres.out] at h; cases h), fun B hB => (Hbel.out B hB).trans (Hb1.out B hB)⟩
          · go_wp2_with fail
            refine (hN _ hr).mono ?_
            rintro e w1 ⟨rfl, k1, b1⟩
            have Hk1 := Lib.hid k1
            have Hb1 := Lib.hid b1
            clear k1 b1
            go_wp2_with fail
            refine (hB _).mono ?_
            rintro e w2 ⟨rfl, rfl⟩
            go_wp2
            go_ret2
            refine ⟨ret_rb (by unfold numV; rw [Hres.out]) (by rw [Hres.out]; rfl), (fun v q h => by rw [Hres.out] at h; cases h), fun B hB => (Hbel.out B hB).trans (Hb1.out B hB)⟩
    · have b1 : ¬ (j : Int) < (k : Int) := by omega
      have hd : k - j = 0 := by omega
      have hn2 := Hn.out
      rw [hd] at hn2
      have hres : Qm.numA 16 k 0 r = some (n, q) := hn2.symm
      have Hres := Lib.hid hres
      clear hn2 Hn hres
      go_wp2
      go_ret2
      refine ⟨ret_rb (by unfold numV; rw [Hres.out]) (by rw [Hres.out]; rfl), fun v q' h => ?_, Hbel.out⟩
      rw [Hres.out] at h
      obtain ⟨rfl, rfl⟩ := Prod.mk.inj (Option.some.inj h)
      exact hr
end Go.Proofs.Ytdpngmhjdafdpaa
