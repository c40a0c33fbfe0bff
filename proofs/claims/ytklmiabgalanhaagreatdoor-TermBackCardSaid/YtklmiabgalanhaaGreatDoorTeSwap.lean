/- Contract of term.Swap. -/
import Derived.Test.YtklmiabgalanhaaGreatDoorTeCopy
namespace Go.Proofs.YtklmiabgalanhaaGreatDoor
open Go.RowKit Km
set_option maxRecDepth 100000
set_option linter.unusedVariables false

theorem step_copy_run {P : Program} {ops : Array Oper} {o : Oper} {a : Act} {w : World} {K : Act → World → Prop} {Q : Exit → Act → World → Prop} {E : Prop}
    (hg : o.guard = none) (d x : Operand) (dT sT : TypeId) (hop : o.op = Op.call { callee := Callee.builtin Builtin.copy, args := #[d, x], argTypes := #[dT, sT] })
    {v u r : Value} {w' : World} (hd : a.eval d = v) (hx : a.eval x = u) (hrun : (Builtin.copy_ #[dT, sT] o.type #[v, u]).run P w = .ok r w') (hK : K (a.put o.dst r) w') :
    if Region.wanted o (yielded ops a.tmps) = true then Oper.wp P o a w K Q else E := by
  have hw : Region.wanted o (yielded ops a.tmps) = true := by simp [Region.wanted, hg]
  rw [if_pos hw]
  unfold Oper.wp
  simp [execOp, hop, resolve, invoke, builtin, hd, hx, hrun, Result.andThen]
  exact hK

theorem swap_tree (i n : Int) (xl xb : Option Addr) (cl cb : Nat) (L B : List Pt) (w : World) (hr : Pw w xl L) (hb : Pw w xb B) (h : ¬ We L ∨ ∀ m, ¬ Rw B m) :
    Calls Tryz.prog 30 #[.slice xl L.length cl, .int .i64 i, .int .i64 n, .slice xb B.length cb] w fun e w' => e = .returned (.tuple #[.slice none 0 0, .int .i64 8]) ∧ w' = w := by
  have HW := well_any xl cl L w hr
  by_cases hm : ∃ m, Rw B m
  · obtain ⟨m, hm⟩ := hm
    have HR := Lib.hid (row_some m xb cb B w hb hm)
    rw [decide_eq_false (h.resolve_right (fun h2 => h2 m hm))] at HW
    have HW := Lib.hid HW
    clear hr hb h hm
    go_enter Tryz.func30, Tryz.ntmps30
    go_wp2_with fail
    refine HR.out.mono ?_
    rintro e w1 ⟨rfl, rfl⟩
    go_wp2_with fail
    refine HW.out.mono ?_
    rintro e w1 ⟨rfl, rfl⟩
    go_wp2
    refine bodyPost_ret (v := .tuple #[.slice none 0 0, .int .i64 8]) ?_ rfl ⟨rfl, rfl⟩
    simp [results, Tryz.results30, go_sem]
  · have HR := Lib.hid (row_none xb cb B w hb fun m h2 => hm ⟨m, h2⟩)
    clear hr hb h hm
    cases hB : decide (We L) with
    | true =>
      rw [hB] at HW
      have HW := Lib.hid HW
      clear hB
      go_enter Tryz.func30, Tryz.ntmps30
      go_wp2_with fail
      refine HR.out.mono ?_
      rintro e w1 ⟨rfl, rfl⟩
      go_wp2_with fail
      refine HW.out.mono ?_
      rintro e w1 ⟨rfl, rfl⟩
      go_wp2
      refine bodyPost_ret (v := .tuple #[.slice none 0 0, .int .i64 8]) ?_ rfl ⟨rfl, rfl⟩
      simp [results, Tryz.results30, go_sem]
    | false =>
      rw [hB] at HW
      have HW := Lib.hid HW
      clear hB
      go_enter Tryz.func30, Tryz.ntmps30
      go_wp2_with fail
      refine HR.out.mono ?_
      rintro e w1 ⟨rfl, rfl⟩
      go_wp2_with fail
      refine HW.out.mono ?_
      rintro e w1 ⟨rfl, rfl⟩
      go_wp2
      refine bodyPost_ret (v := .tuple #[.slice none 0 0, .int .i64 8]) ?_ rfl ⟨rfl, rfl⟩
      simp [results, Tryz.results30, go_sem]

/-- The number that behindKids tells. -/
def toV (L : List Pt) (i n : Int) : Int := if n < 0 ∨ ¬ HasP L i then -1 else endV (bkO L i.toNat n.toNat)
theorem bk_any (i n : Int) (x : Option Addr) (c : Nat) (L : List Pt) (w : World) (hr : Pw w x L) :
    Calls Tryz.prog 54 #[.slice x L.length c, .int .i64 i, .int .i64 n] w fun e w' => e = .returned (.int .i64 (toV L i n)) ∧ w' = w := by
  unfold toV
  by_cases h : n < 0 ∨ ¬ HasP L i
  · rw [if_pos h]; exact bk_none i n x c L w hr h
  · rw [if_neg h]
    have hh : HasP L i := Classical.byContradiction fun h2 => h (.inr h2)
    obtain ⟨h1, h2, h3⟩ := hh
    obtain ⟨I, rfl⟩ : ∃ I : Nat, i = (I : Int) := ⟨i.toNat, by omega⟩
    obtain ⟨m, rfl⟩ : ∃ m : Nat, n = (m : Int) := ⟨n.toNat, by omega⟩
    rw [Int.toNat_natCast, Int.toNat_natCast]
    exact bk_some I m x c L w hr (by omega) h3
theorem swap_arg (i n : Int) (m : Nat) (xl xb : Option Addr) (cl cb : Nat) (L B : List Pt) (w : World) (hr : Pw w xl L) (hb : Pw w xb B) (hw : We L) (hm : Rw B m) (h : toV L i n = -1 ∨ (i = 0 ∧ (n ≠ 1 ∨ m ≠ 1))) :
    Calls Tryz.prog 30 #[.slice xl L.length cl, .int .i64 i, .int .i64 n, .slice xb B.length cb] w fun e w' => e = .returned (.tuple #[.slice none 0 0, .int .i64 1]) ∧ w' = w := by
  have HW := well_any xl cl L w hr
  rw [decide_eq_true hw] at HW
  have HW := Lib.hid HW
  have HR := Lib.hid (row_some m xb cb B w hb hm)
  have HT := bk_any i n xl cl L w hr
  have em : ((m : Int) == -1) = false := beq_eq_false_iff_ne.2 (by omega)
  clear hr hb hw hm
  by_cases h1 : toV L i n = -1
  · rw [h1] at HT
    have HT := Lib.hid HT
    clear h h1
    go_enter Tryz.func30, Tryz.ntmps30
    go_wp2_with fail
    refine HR.out.mono ?_
    rintro e w1 ⟨rfl, rfl⟩
    go_wp2_with fail
    refine HW.out.mono ?_
    rintro e w1 ⟨rfl, rfl⟩
    go_wp2_with fail
    refine HT.out.mono ?_
    rintro e w1 ⟨rfl, rfl⟩
    go_wp2
    refine bodyPost_ret (v := .tuple #[.slice none 0 0, .int .i64 1]) ?_ rfl ⟨rfl, rfl⟩
    simp [results, Tryz.results30, go_sem]
  · obtain ⟨rfl, h3⟩ := h.resolve_left h1
    have e1 : (toV L 0 n == -1) = false := beq_eq_false_iff_ne.2 h1
    have HT := Lib.hid HT
    generalize toV L 0 n = TV at HT e1
    clear h h1
    by_cases h4 : n = 1
    · have h5 : m ≠ 1 := h3.resolve_left (fun h => h h4)
      have e5 : ((m : Int) != 1) = true := by rw [bne, beq_eq_false_iff_ne.2 (by omega)]; rfl
      have e5' : (m == 1) = false := beq_eq_false_iff_ne.2 h5
      subst h4
      clear h3 h5
      go_enter Tryz.func30, Tryz.ntmps30
      go_wp2_with fail
      refine HR.out.mono ?_
      rintro e w1 ⟨rfl, rfl⟩
      go_wp2_with fail
      refine HW.out.mono ?_
      rintro e w1 ⟨rfl, rfl⟩
      go_wp2_with fail
      refine HT.out.mono ?_
      rintro e w1 ⟨rfl, rfl⟩
      go_wp2
      refine bodyPost_ret (v := .tuple #[.slice none 0 0, .int .i64 1]) ?_ rfl ⟨rfl, rfl⟩
      simp [results, Tryz.results30, go_sem]
    · have e4 : (n != 1) = true := by rw [bne, beq_eq_false_iff_ne.2 h4]; rfl
      have e4' : (n == 1) = false := beq_eq_false_iff_ne.2 h4
      clear h3 h4
      go_enter Tryz.func30, Tryz.ntmps30
      go_wp2_with fail
      refine HR.out.mono ?_
      rintro e w1 ⟨rfl, rfl⟩
      go_wp2_with fail
      refine HW.out.mono ?_
      rintro e w1 ⟨rfl, rfl⟩
      go_wp2_with fail
      refine HT.out.mono ?_
      rintro e w1 ⟨rfl, rfl⟩
      go_wp2
      refine bodyPost_ret (v := .tuple #[.slice none 0 0, .int .i64 1]) ?_ rfl ⟨rfl, rfl⟩
      simp [results, Tryz.results30, go_sem]
end Go.Proofs.YtklmiabgalanhaaGreatDoor
