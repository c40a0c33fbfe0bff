/- The walk of the law RunesJoins. -/
import Derived.Test.YtlmhcjomegiibaaJoin
import Derived.Test.YtlmhcjomegiibaaBulk
import Derived.Deep.AppendSrc
namespace Go.Proofs.Ytlmhcjomegiibaa
open Go.RowKit

theorem rowI_of_owns {w : World} {B : Nat} {e : TypeId} {v : Value} {l : List Int} (h : w.ownsRow B e 1 v l.length (l.map (Value.int .i32))) :
    ∃ (x : Option Addr) (c : Nat), v = .slice x l.length c ∧ RowI w x l := by
  obtain ⟨x, c, rfl, r⟩ := owns_shape h
  refine ⟨x, c, rfl, fun hn => ?_⟩
  obtain ⟨g, hx, _, hg, hc⟩ := r hn
  exact ⟨g, 0, hx, hg, fun i hi => by rw [Nat.zero_add]; exact hc i _ (by simp [nthI, hi])⟩

/-- What came in, as the walk uses it. -/
theorem rowI_of_row {w : World} {a : Option Addr} {len cap : Nat} {zs : List Int} (h : IsRow .i32 w a len cap zs) : (zs.take len).length = len ∧ RowI w a (zs.take len) := by
  rcases h with ⟨rfl, rfl, rfl, rfl⟩ | ⟨x, rfl, hl, _, hz, hc, _⟩
  · exact ⟨rfl, fun h => by simp at h⟩
  · have e : (zs.take len).length = len := by rw [List.length_take]; omega
    refine ⟨e, fun hn => ?_⟩
    obtain ⟨g, o, spot⟩ := x
    have hspot : spot = none := by simpa [Addr.add] using World.cell?_spot (hc 0 (by omega))
    subst hspot
    refine ⟨g, o, rfl, World.block_lt_of_cell? w _ (hc 0 (by omega)), fun i hi => ?_⟩
    have h1 := hc i (by omega)
    have e1 : nthI (zs.take len) i = zs.getD i 0 := by
      unfold nthI
      simp [List.getD, show i < len by omega]
    have e2 : (⟨g, o, none⟩ : Addr).add i = ⟨g, o + i, none⟩ := by unfold Addr.add; split <;> simp_all
    rw [e2] at h1
    rw [e1]
    exact h1

/-- 'append([]rune{}, l...)': the run, whatever came in. -/
theorem copy_run {w : World} {a : Option Addr} {len cap : Nat} {zs : List Int} (h : IsRow .i32 w a len cap zs) (hb : cap * 4 ≤ 140737488351232) :
    ∃ v w', (Builtin.append_ #[32, 32] 32 #[.slice (some ⟨w.heap.size, 0, none⟩) 0 0, .slice a len cap]).run Try.prog (w.alloc (.cells #[] 21)) = .ok v w' ∧
      w'.ownsRow w.heap.size 21 1 v (zs.take len).length ((zs.take len).map (Value.int .i32)) ∧ Below w.heap.size w w' := by
  obtain ⟨i0, hi, hz0, hz1, hz2⟩ := info_parts info_i32
  have hown := World.ownsRow_made (base := w.heap.size) (e := 21) (size := 1) w #[] 0 (Nat.le_refl _) (by unfold maxLen; omega) rfl
  have hb0 : Below w.heap.size w (w.alloc (.cells #[] 21)) := (Below.refl _ _).alloc (Nat.le_refl _) _
  rcases h with ⟨rfl, rfl, rfl, rfl⟩ | ⟨x, rfl, hl, hm, hz, hc, _⟩
  · have hr := run_append_room_src (P := Try.prog) (w := w.alloc (.cells #[] 21)) 32 32 32 21 i0 Try.underlying32 hi w.heap.size 0 0 0 (.slice none 0 0) 0 [] (Src.ofNil _ Try.underlying32 0) (Nat.le_refl _) (fun j hj => by simp at hj) (fun j hj => by simp at hj)
    exact ⟨_, _, hr, hown, hb0⟩
  · have e : (zs.take len).length = len := by rw [List.length_take]; omega
    obtain ⟨v, w', hr, h2, h3, _⟩ := run_append_own (P := Try.prog) (w := w.alloc (.cells #[] 21)) w.heap.size 32 32 21 i0 (.int .i32 0) 1 4 Try.underlying32 hi hz0 hz1 hz2 rfl (by decide) _ 0 [] hown x len cap ((zs.take len).map (Value.int .i32)) (by simp; omega)
      (fun j u hu => by
        have hj : j < len := by have := (List.getElem?_eq_some_iff.1 hu).1; rw [List.length_map, e] at this; exact this
        have h1 := hc j (by omega)
        have h2 := World.block_lt_of_cell? w _ h1
        rw [hb0.cell h2, h1]
        rw [List.getElem?_map, List.getElem?_take_of_lt hj, List.getElem?_eq_getElem (show j < zs.length by omega)] at hu
        rw [← Option.some.inj hu]
        simp [show j < zs.length by omega])
      (ints_oneCell .i32 _) (by unfold maxLen; omega) (by omega) (by simp)
    refine ⟨v, w', hr, ?_, hb0.grown h3 (by simp) (fun k hk => ?_)⟩
    · rw [e]
      simpa using h2
    · have := hown.lt k hk; omega

/-- An append whose run is known. -/
theorem wpList_append_run {P : Program} {w w' : World} {ops : Array Oper} {rest : List Oper} {o : Oper} {a : Act} {Q : Exit → Act → World → Prop} (hgd : o.guard = none) (s x : Operand) (t : TypeId)
    (ho : o.op = .call { callee := .builtin .append, args := #[s, x], argTypes := #[t, t] }) (vs vx v' : Value) (hs : a.eval s = vs) (hx : a.eval x = vx)
    (hr : (Builtin.append_ #[t, t] o.type #[vs, vx]).run P w = .ok v' w') (h : wpList P ops Q rest (a.put o.dst v') w') : wpList P ops Q (o :: rest) a w := by
  refine wpList_plain hgd fun K hK => ?_
  unfold Oper.wp execOp
  simp only [ho, resolve, invoke, builtin, Sem.run_bind, Sem.run_pure, Result.andThen_ok, List.map_toArray, List.map_cons, List.map_nil, hs, hx, hr]
  exact hK _ _ h

/-- The forms of a list, as one text. -/
def joinW (l : List Int) : ByteArray := ⟨(bytesJ l).toArray⟩
theorem joinW_snoc (l : List Int) (c : Int) : joinW l ++ formOf c = joinW (l ++ [c]) := by
  unfold joinW
  rw [bytesJ_snoc]
  apply Um.bytes_ext
  rw [ByteArray.data_append, Array.toList_append]
theorem joinW_le (l : List Int) : (joinW l).size ≤ 4 * l.length := by
  have := bytesJ_len l
  rw [Um.size_data]
  unfold joinW
  simpa using this
theorem allV_snoc (l : List Int) (c : Int) : allV (l ++ [c]) = (allV l && Utf8.valid c) := by unfold allV; rw [List.all_append]; simp

theorem form_small (c : Int) : (formOf c).size ≤ 4 := by
  have := formOf_le c
  rwa [Array.length_toList, ← Um.size_data] at this

set_option maxRecDepth 100000 in
set_option maxHeartbeats 2000000 in
theorem walk_RunesJoins (a : Option Addr) (len cap : Nat) (zs : List Int) (w : World) (hrow : IsRow .i32 w a len cap zs) (hb : cap * 4 ≤ 140737488351232) :
    Calls Try.prog 6 #[.slice a len cap] w fun e w' => e = .returned (.bool true) ∧ Below w.heap.size w w' := by
  obtain ⟨v, w1, hrun, hown, hb1⟩ := copy_run hrow hb
  obtain ⟨hlen, hra⟩ := rowI_of_row hrow
  have hcap : len ≤ cap := by
    rcases hrow with ⟨_, rfl, rfl, _⟩ | ⟨x, _, h, _⟩
    · omega
    · exact h
  have hwf : ∀ i, i < len → -2147483648 ≤ nthI (zs.take len) i ∧ nthI (zs.take len) i ≤ 2147483647 := by
    intro i hi
    have hm := nthI_mem (l := zs.take len) (k := i) (by omega)
    rcases hrow with ⟨_, rfl, _, _⟩ | ⟨x, _, _, _, _, _, hw⟩
    · omega
    · have := hw _ (List.mem_of_mem_take hm)
      simpa [Lit.wf, IntKind.min, IntKind.max, IntKind.signed, IntKind.bits] using this
  generalize zs.take len = l at hown hlen hra hwf
  obtain ⟨x, c, rfl, hrx⟩ := rowI_of_owns hown
  have Hra := Lib.hid hra
  have Hwf := Lib.hid hwf
  clear hrow hra hown hwf
  subst hlen
  go_enter Try.func6, Try.ntmps6
  have Hrun := Lib.hid hrun
  clear hrun
  go_wp2_with (at_builtin; refine wpList_append_run rfl _ _ 32 rfl _ _ _ rfl rfl Hrun.out ?_)
  refine (join_any x c l w1 hrx (by omega)).mono ?_
  rintro e w2 ⟨rfl, hb2⟩
  have hbw := hb1.trans (hb2.mono hb1.size)
  clear Hrun hb1 hb2 hrx
  go_wp2
  go_loopw [5, 6, 7] (fun want fine i wr => ∃ k : Nat, k ≤ l.length ∧ k ≤ 3000 ∧ i = .int .i64 k ∧ want = .string (joinW (l.take k)) ∧ fine = .bool (allV (l.take k)) ∧ Below w.heap.size w wr) (fun _ _ i _ => l.length - (intOf i).toNat)
  case atStart => exact ⟨0, by omega, by omega, rfl, rfl, rfl, hbw⟩
  case round =>
    obtain ⟨k, hk, hk3, rfl, rfl, rfl, hnx⟩ := hrel
    by_cases hlt : k < l.length ∧ k < 3000
    · obtain ⟨hl, h3⟩ := hlt
      obtain ⟨g, o, rfl, hg, hc⟩ := Hra.out (by omega)
      have hck : wr.cell? ⟨g, o + k, none⟩ = some (.int .i32 (nthI l k)) := (hnx.cell hg).trans (hc k hl)
      obtain ⟨lo, hi⟩ := Hwf.out k hl
      have hsn := take_snoc l k hl
      have e1 : allV (l.take (k + 1)) = (allV (l.take k) && Utf8.valid (nthI l k)) := by rw [hsn, allV_snoc]
      have e2 : joinW (l.take (k + 1)) = joinW (l.take k) ++ formOf (nthI l k) := by rw [hsn, joinW_snoc]
      have E1 := Lib.hid e1
      have E2 := Lib.hid e2
      have hle := joinW_le (l.take k)
      rw [List.length_take] at hle
      have hle2 : (joinW (l.take k)).size ≤ 12000 := by omega
      have hfs := form_small (nthI l k)
      have hsz := hnx.size
      clear hc hsn e1 e2 hle
      generalize nthI l k = r at hck lo hi E1 E2 hfs
      cases hv : allV (l.take k) with
      | true =>
        go_wp2_with fail
        refine (may_any _ _).mono ?_
        rintro e w3 ⟨rfl, rfl⟩
        go_wp2_with fail
        refine (rform_any _ _).mono ?_
        rintro e w3 ⟨rfl, hb3⟩
        go_wp2
        go_roundw
        case rel => exact ⟨k + 1, by omega, by omega, by go_num, by rw [E2.out], by rw [E1.out, hv]; rfl, hnx.trans (hb3.mono hsz)⟩
        case measure => simp [intOf]; omega
      | false =>
        go_wp2_with fail
        refine (rform_any _ _).mono ?_
        rintro e w3 ⟨rfl, hb3⟩
        go_wp2
        go_roundw
        case rel => exact ⟨k + 1, by omega, by omega, by go_num, by rw [E2.out], by rw [E1.out, hv]; rfl, hnx.trans (hb3.mono hsz)⟩
        case measure => simp [intOf]; omega
    · by_cases hbig : l.length ≤ 3000
      · obtain rfl : k = l.length := by omega
        rw [List.take_length] at *
        cases hv : allV l with
        | true =>
          have hj : joinS l = joinW l := joinS_yes hv
          have Hj := Lib.hid hj
          clear hj
          go_wp2_with fail
          refine (fixed_any _).mono ?_
          rintro e w3 ⟨rfl, hb3⟩
          go_wp2
          go_ret
          exact ⟨ret_bool (by rw [Hj.out]; exact beq_self_eq_true _), hnx.trans (hb3.mono hnx.size)⟩
        | false =>
          have hj : joinS l = ByteArray.empty := joinS_no hv
          have Hj := Lib.hid hj
          clear hj
          go_wp2_with fail
          refine (fixed_any _).mono ?_
          rintro e w3 ⟨rfl, hb3⟩
          go_wp2
          go_ret
          exact ⟨ret_bool (by rw [Hj.out, Um.toList_eq]; rfl), hnx.trans (hb3.mono hnx.size)⟩
      · have hk2 : ¬ k < 3000 := by omega
        have hl2 : k < l.length := by omega
        go_wp2_with fail
        refine (fixed_any _).mono ?_
        rintro e w3 ⟨rfl, hb3⟩
        go_wp2
        go_ret
        exact ⟨rfl, hnx.trans (hb3.mono hnx.size)⟩
end Go.Proofs.Ytlmhcjomegiibaa
