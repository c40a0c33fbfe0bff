/- Contract of scan.sign: how many bytes the longest sign has. -/
import Derived.Test.YtnkgbmnjehpkgabGreatGS
import Derived.Deep.LoopGhost
import Derived.Test.YtnkgbmnjehpkgabGreatGN
import Derived.Test.YtnkgbmnjehpkgabGreatGJ
namespace Go.Proofs.YtnkgbmnjehpkgabGreat
open Go.RowKit Em
set_option maxRecDepth 100000
set_option linter.unusedVariables false

def sgnA (i : Nat) : ByteArray := txt (Sc.signs.getD i [])
def sgnCells : List Value := Sc.signs.map fun v => .string ⟨v.toArray⟩
theorem sgn_cell {i : Nat} (h : i < 47) : sgnCells[i]? = some (.string (sgnA i)) := by
  unfold sgnCells sgnA
  have e : Sc.signs.length = 47 := by decide
  simp [e, h]
  rfl
theorem sgn_bl (i : Nat) : bl (sgnA i) = Sc.signs.getD i [] := txt_bl _

theorem sgnB_yes {n j : Nat} {l : List UInt8} (hj : j < 47) (h1 : (sgnA j).size = n) (h2 : (Sc.signs.getD j []).isPrefixOf l = true) : Sc.sgnB n l = true := by
  unfold Sc.sgnB
  rw [List.any_eq_true]
  have e : Sc.signs.length = 47 := by decide
  have h3 : (sgnA j).size = (Sc.signs.getD j []).length := txt_size _
  refine ⟨Sc.signs.getD j [], ?_, by rw [h2, Bool.and_true, decide_eq_true_eq]; omega⟩
  have : Sc.signs.getD j [] = Sc.signs[j]'(by omega) := by simp [e, hj]
  rw [this]
  exact List.getElem_mem _
theorem sgnB_no {n : Nat} {l : List UInt8} (h : ∀ j, j < 47 → (sgnA j).size = n → (Sc.signs.getD j []).isPrefixOf l = false) : Sc.sgnB n l = false := by
  unfold Sc.sgnB
  rw [List.any_eq_false]
  intro x hx
  obtain ⟨j, hj, rfl⟩ := List.getElem_of_mem hx
  have e : Sc.signs.length = 47 := by decide
  have hg : Sc.signs.getD j [] = Sc.signs[j] := by simp [hj]
  have h3 : (sgnA j).size = (Sc.signs.getD j []).length := txt_size _
  by_cases hl : Sc.signs[j].length = n
  · have := h j (by omega) (by rw [h3, hg]; exact hl)
    rw [hg] at this
    rw [this]; simp
  · simp [hl]
theorem sgn_of {n : Nat} {l : List UInt8} (hn : n ≤ 3) (h : ∀ m, n < m → m ≤ 3 → Sc.sgnB m l = false) (h1 : n = 0 ∨ Sc.sgnB n l = true) : Sc.sgn l = n := by
  unfold Sc.sgn
  match n, hn with
  | 0, _ => rw [h 3 (by omega) (by omega), h 2 (by omega) (by omega), h 1 (by omega) (by omega)]; rfl
  | 1, _ => rw [h 3 (by omega) (by omega), h 2 (by omega) (by omega), h1.resolve_left (by omega)]; rfl
  | 2, _ => rw [h 3 (by omega) (by omega), h1.resolve_left (by omega)]; rfl
  | 3, _ => rw [h1.resolve_left (by omega)]; rfl

theorem wpList_build' {P : Program} {ops : Array Oper} {rest : List Oper} {o : Oper} {a : Act} {w : World} {Q : Exit → Act → World → Prop} (hg : o.guard = none) (t : TypeId) (parts : Array (Nat × Operand)) (ho : o.op = .build t parts)
    (xs : Array Value) (hf : P.built t (parts.map fun (i, x) => (i, a.eval x)).toList = some xs) (h : wpList P ops Q rest (a.put o.dst (.agg xs)) w) : wpList P ops Q (o :: rest) a w := by
  refine wpList_build hg t parts ho (by rw [hf]; rfl) ?_
  rw [hf]; exact h
theorem signs_size : (Tryz.prog.info? 98).map (·.size) = some sgnCells.toArray.size := by kernel_rfl
theorem signs_one : sgnCells.toArray.all (·.oneCell') = true := by kernel_rfl
theorem signs_zero : (Tryz.prog.info? 98).map (fun i => (i.zero, i.size)) = some (some (.agg (Array.replicate 47 (.string ⟨#[]⟩))), 47) := by kernel_rfl

theorem run_index_array {P : Program} {w : World} (t e : TypeId) (n : Nat) (cs : Array Value) (i : Nat) (v : Value) (h : P.underlying t = some (.array n e)) (hi : i < n) (hz : ∀ w, (Go.sizeOf e).run P w = .ok 1 w) (ha : ∀ w, (isAgg e).run P w = .ok false w) (hv : cs[i]? = some v) :
    (Instr.index t (.agg cs) (.int .i64 (i : Int))).run P w = .ok v w := by
  have hn : 0 ≤ (i : Int) ∧ (i : Int) < (n : Int) := by omega
  have hn' : ¬ n ≤ i := by omega
  simp [Instr.index, run_underlying h, asIntOf, hn, hz, ha, hv, part, go_sem]
  omega

set_option maxHeartbeats 4000000 in
theorem sign_any (s : ByteArray) (w : World) :
    Calls Tryz.prog 53 #[.string s] w fun e w' => e = .returned (.int .i64 (Sc.sgn (bl s) : Nat)) ∧ Below w.heap.size w w' := by
  have hz := (zero_of_info signs_zero).1
  have hb : Below w.heap.size w (w.alloc (.cells sgnCells.toArray 98)) := (Below.refl _ _).alloc (Nat.le_refl _) _
  have hh : (w.alloc (.cells sgnCells.toArray 98)).heap[w.heap.size]? = some (.cells sgnCells.toArray 98 (0, 0)) := heap_alloc_new w _
  go_enter Tryz.func53, Tryz.ntmps53
  go_wp2
  go_step3
  go_wp2_with (first
    | (refine wpList_build' rfl 98 _ rfl sgnCells.toArray (by kernel_rfl) ?_)
    | (refine wpList_store_row rfl 98 _ _ rfl w.heap.size sgnCells.toArray rfl rfl 98 (Array.replicate 47 (.string ⟨#[]⟩)) (heap_alloc_new w _) signs_size rfl signs_one ?_; rw [World.setRow_alloc_new]))
  clear hz
  generalize w.alloc (.cells sgnCells.toArray 98) = W at hb hh ⊢
  have Hb := Lib.hid hb
  clear hb
  go_step3
  go_wp2
  go_loopw [4] (fun n wr => ∃ k : Nat, k ≤ 3 ∧ n = .int .i64 k ∧ wr = W ∧ Hid (∀ m, k < m → m ≤ 3 → Sc.sgnB m (bl s) = false)) (fun n _ => (intOf n).toNat)
  case atStart => exact ⟨3, by omega, rfl, rfl, Lib.hid fun m h1 h2 => by omega⟩
  case round =>
    obtain ⟨k, hk, rfl, rfl, hno⟩ := hrel
    by_cases h0 : 0 < k
    · go_wp2_with (first
        | (refine wpList_load_row rfl 98 _ rfl w.heap.size rfl 98 sgnCells.toArray (0, 0) (.array 47 9) hh Tryz.underlying98 rfl signs_size ?_))
      generalize hA : sgnCells.toArray = A
      go_loopw [13] (fun i wr' => ∃ j : Nat, j ≤ 47 ∧ i = .int .i64 j ∧ wr' = wr ∧ Hid (∀ i, i < j → (sgnA i).size = k → (Sc.signs.getD i []).isPrefixOf (bl s) = false)) (fun i _ => 47 - (intOf i).toNat)
      case atStart => exact ⟨0, by omega, rfl, rfl, Lib.hid fun i h => by omega⟩
      case round =>
        obtain ⟨j, hj, rfl, rfl, hpre⟩ := hrel
        by_cases hlt : j < 47
        · have hc : A[j]? = some (.string (sgnA j)) := by rw [← hA]; simpa using sgn_cell hlt
          have hidx := fun w => run_index_array (P := Tryz.prog) (w := w) 98 9 47 A j (.string (sgnA j)) Tryz.underlying98 hlt Tryz.sizeOf9 Tryz.isAgg9 hc
          have hlt' : (j : Int) < 47 := by omega
          have hs := fun w => hasprefix_any s (sgnA j) w
          have hsb : (sgnA j).data.toList = Sc.signs.getD j [] := sgn_bl j
          have hyes := fun h1 h2 => @sgnB_yes k j (bl s) hlt h1 h2
          have HY := Lib.hid hyes
          rw [hsb] at hs
          change ∀ w, Calls Tryz.prog 46 #[.string s, .string (sgnA j)] w fun e w' => e = .returned (.bool ((Sc.signs.getD j []).isPrefixOf (bl s))) ∧ w' = w at hs
          have HS := Lib.hid hs
          clear hA hc hsb hs hyes
          by_cases hsz : (sgnA j).size = k
          · have d1 : (((sgnA j).size : Int) == (k : Int)) = true := by simp; omega
            cases hp : (Sc.signs.getD j []).isPrefixOf (bl s) with
            | true =>
              have hfin := HY.out hsz hp
              have hfin2 : Sc.sgn (bl s) = k := sgn_of hk hno.out (.inr hfin)
              have Hf := Lib.hid hfin2
              rw [hp] at HS
              clear hp hfin hfin2
              generalize sgnA j = x at hidx HS HY d1 hsz
              go_wp2_with (go_at_call 46; refine (HS.out _).mono ?_; rintro e w' ⟨rfl, rfl⟩)
              rw [Exit.noGoto_ret]
              go_ret
              exact ⟨ret_nat Hf.out.symm, Hb.out⟩
            | false =>
              rw [hp] at HS
              have hnew : Hid (∀ i, i < j + 1 → (sgnA i).size = k → (Sc.signs.getD i []).isPrefixOf (bl s) = false) := Lib.hid fun i hi h1 => by
                by_cases e : i = j
                · subst e; exact hp
                · exact hpre.out i (by omega) h1
              clear hp
              generalize sgnA j = x at hidx HS HY d1 hsz
              go_wp2_with (go_at_call 46; refine (HS.out _).mono ?_; rintro e w' ⟨rfl, rfl⟩)
              go_roundw
              case rel => exact ⟨j + 1, by omega, by go_num, trivial, hnew⟩
              case measure => simp [intOf]; omega
          · have d1 : (((sgnA j).size : Int) == (k : Int)) = false := beq_eq_false_iff_ne.2 (by omega)
            have hnew : Hid (∀ i, i < j + 1 → (sgnA i).size = k → (Sc.signs.getD i []).isPrefixOf (bl s) = false) := Lib.hid fun i hi h1 => by
              by_cases e : i = j
              · subst e; exact absurd h1 hsz
              · exact hpre.out i (by omega) h1
            generalize sgnA j = x at hidx d1 hsz
            clear HY HS
            go_wp2
            go_roundw
            case rel => exact ⟨j + 1, by omega, by go_num, trivial, hnew⟩
            case measure => simp [intOf]; omega
        · have hlt' : ¬ (j : Int) < 47 := by omega
          have hnew : Hid (∀ m, k - 1 < m → m ≤ 3 → Sc.sgnB m (bl s) = false) := Lib.hid fun m h1 h2 => by
            by_cases e : m = k
            · subst e; exact sgnB_no fun i hi h3 => hpre.out i (by omega) h3
            · exact hno.out m (by omega) h2
          have hk1 : (k : Int) - 1 = ((k - 1 : Nat) : Int) := by omega
          have HA := Lib.hid hA
          clear hA hpre
          go_wp2
          go_roundw
          case rel => exact ⟨_, ⟨k - 1, by omega, rfl, hnew⟩, rfl, HA.out.symm⟩
          case measure => simp [intOf]; omega
    · have h0' : ¬ (0 : Int) < (k : Int) := by omega
      have hk0 : k = 0 := by omega
      have hfin : Sc.sgn (bl s) = k := sgn_of (by omega) hno.out (.inl hk0)
      have Hf := Lib.hid hfin
      clear hfin
      rw [hk0] at Hf
      go_wp2
      all_goals (try rw [Exit.noGoto_ret]); go_ret
      exact ⟨ret_nat Hf.out.symm, Hb.out⟩
end Go.Proofs.YtnkgbmnjehpkgabGreat

/- Contracts of scan.begin, lexeme: the lexeme that begins a text. -/
namespace Go.Proofs.YtnkgbmnjehpkgabGreat
open Go.RowKit Em
set_option maxRecDepth 100000
set_option linter.unusedVariables false

theorem lex_of {l : List UInt8} {c : Nat} {r : List UInt8} (h : Qm.rd l = some (c, r)) : Sc.lex isW l =
    if c = 65279 then (10, 3)
    else if Sc.blank c = true then (10, Sc.cnt Sc.blank l)
    else if [47, 47].isPrefixOf l = true then (11, Sc.cnt Sc.lineC l)
    else if [47, 42].isPrefixOf l = true then (12, Sc.blk l)
    else if Sc.letter c = true then (if isW (l.take (Sc.cnt Sc.wordC l)) = true then 2 else 1, Sc.cnt Sc.wordC l)
    else if c = 59 then (9, 1)
    else if Sc.mark c = true then (match Qm.whole l with | some (k, _, q) => (k, l.length - q.length) | none => (0, 0))
    else if Nm.begins l = true then (if Nm.kind (l.take (Nm.runOf l)) = 0 then (0, 0) else (Nm.kind (l.take (Nm.runOf l)), Nm.runOf l))
    else (8, Sc.sgn l) := by
  unfold Sc.lex; rw [h]; rfl

theorem chr_small {s : ByteArray} {p : Nat} (h : p < s.size) (hk : Um.okAt s p = true) (hc : Um.chr s p < 128) : byN s p = Um.chr s p := by
  have ho : Utf8.decode s p ≠ (65533, 1) := by unfold Um.okAt at hk; exact of_decide_eq_true hk
  obtain ⟨_, h2, _⟩ := Um.decode_at h ho
  change Um.At s p (Um.chr s p) at h2
  unfold Um.At at h2
  have e : byN s p = Um.byt s p := rfl
  rw [e]
  omega
theorem wid_len {s : ByteArray} {p : Nat} (h : p < s.size) (hk : Um.okAt s p = true) : Um.wid s p = Um.len (Um.chr s p) := by
  have ho : Utf8.decode s p ≠ (65533, 1) := by unfold Um.okAt at hk; exact of_decide_eq_true hk
  exact (Um.decode_at h ho).2.2

theorem ret_kn {k k' : Nat} {n n' : Int} (h1 : k = k') (h2 : n = n') : Ending.returned (.tuple #[.int .u8 (k : Int), .int .i64 n]) = .returned (.tuple #[.int .u8 (k' : Int), .int .i64 n']) := by rw [h1, h2]

/-- What begin answers. -/
def beginV (l : List UInt8) : Value := .tuple #[.int .u8 ((Sc.lex isW l).1 : Int), .int .i64 ((Sc.lex isW l).2 : Int)]
theorem beginV_of {l : List UInt8} {k : Nat} {n : Int} {x : Nat × Nat} (h : Sc.lex isW l = x) (h1 : x.1 = k) (h2 : (x.2 : Int) = n) : Value.tuple #[.int .u8 (k : Int), .int .i64 n] = beginV l := by
  unfold beginV; rw [h, h1, h2]

set_option maxHeartbeats 1000000 in
theorem beg_mark (t : ByteArray) (w : World) (wd : Int) 
    (HR : Hid (∀ w, Calls Tryz.prog 43 #[.string t, .int .i64 0] w fun e w' => e = .returned (.tuple #[.int .i32 65279, .int .i64 wd]) ∧ Below w.heap.size w w')) :
    Calls Tryz.prog 31 #[.string t] w fun e w' => e = .returned (.tuple #[.int .u8 10, .int .i64 wd]) ∧ Below w.heap.size w w' := by
  have B0 := Lib.hid (Below.refl w.heap.size w)
  go_enter Tryz.func31, Tryz.ntmps31
  go_wp2_with fail
  refine (HR.out _).mono ?_
  rintro e w1 ⟨rfl, b1⟩
  have B1 := Lib.hid (B0.out.trans (b1.mono B0.out.size))
  clear b1
  go_wp2
  go_ret2
  exact ⟨rfl, B1.out⟩

set_option maxHeartbeats 1000000 in
theorem beg_blank (t : ByteArray) (w : World) (wd : Int) (c n : Int)
    (n0 : (c == 65279) = false)
    (HR : Hid (∀ w, Calls Tryz.prog 43 #[.string t, .int .i64 0] w fun e w' => e = .returned (.tuple #[.int .i32 c, .int .i64 wd]) ∧ Below w.heap.size w w'))
    (HB : Hid (∀ w, Calls Tryz.prog 44 #[.int .i32 c] w fun e w' => e = .returned (.bool true) ∧ Below w.heap.size w w'))
    (HX : Hid (∀ w, Calls Tryz.prog 45 #[.string t, .func (.func 44) #[] #[]] w fun e w' => e = .returned (.int .i64 n) ∧ Below w.heap.size w w')) :
    Calls Tryz.prog 31 #[.string t] w fun e w' => e = .returned (.tuple #[.int .u8 10, .int .i64 n]) ∧ Below w.heap.size w w' := by
  have B0 := Lib.hid (Below.refl w.heap.size w)
  go_enter Tryz.func31, Tryz.ntmps31
  go_wp2_with fail
  refine (HR.out _).mono ?_
  rintro e w1 ⟨rfl, b1⟩
  have B1 := Lib.hid (B0.out.trans (b1.mono B0.out.size))
  clear b1
  go_wp2_with fail
  refine (HB.out _).mono ?_
  rintro e w2 ⟨rfl, b2⟩
  have B2 := Lib.hid (B1.out.trans (b2.mono B1.out.size))
  clear b2
  go_wp2_with fail
  refine (HX.out _).mono ?_
  rintro e w3 ⟨rfl, b3⟩
  have B3 := Lib.hid (B2.out.trans (b3.mono B2.out.size))
  clear b3
  go_wp2
  go_ret2
  exact ⟨rfl, B3.out⟩

set_option maxHeartbeats 1000000 in
theorem beg_line (t : ByteArray) (w : World) (wd : Int) (c n : Int)
    (n0 : (c == 65279) = false)
    (HR : Hid (∀ w, Calls Tryz.prog 43 #[.string t, .int .i64 0] w fun e w' => e = .returned (.tuple #[.int .i32 c, .int .i64 wd]) ∧ Below w.heap.size w w'))
    (HB : Hid (∀ w, Calls Tryz.prog 44 #[.int .i32 c] w fun e w' => e = .returned (.bool false) ∧ Below w.heap.size w w'))
    (HP1 : Hid (∀ w, Calls Tryz.prog 46 #[.string t, .string ⟨#[47, 47]⟩] w fun e w' => e = .returned (.bool true) ∧ w' = w))
    (HX : Hid (∀ w, Calls Tryz.prog 45 #[.string t, .func (.func 47) #[] #[]] w fun e w' => e = .returned (.int .i64 n) ∧ Below w.heap.size w w')) :
    Calls Tryz.prog 31 #[.string t] w fun e w' => e = .returned (.tuple #[.int .u8 11, .int .i64 n]) ∧ Below w.heap.size w w' := by
  have B0 := Lib.hid (Below.refl w.heap.size w)
  go_enter Tryz.func31, Tryz.ntmps31
  go_wp2_with fail
  refine (HR.out _).mono ?_
  rintro e w1 ⟨rfl, b1⟩
  have B1 := Lib.hid (B0.out.trans (b1.mono B0.out.size))
  clear b1
  go_wp2_with fail
  refine (HB.out _).mono ?_
  rintro e w2 ⟨rfl, b2⟩
  have B2 := Lib.hid (B1.out.trans (b2.mono B1.out.size))
  clear b2
  go_wp2_with fail
  refine (HP1.out _).mono ?_
  rintro e w3 ⟨rfl, rfl⟩
  go_wp2_with fail
  refine (HX.out _).mono ?_
  rintro e w4 ⟨rfl, b4⟩
  have B4 := Lib.hid (B2.out.trans (b4.mono B2.out.size))
  clear b4
  go_wp2
  go_ret2
  exact ⟨rfl, B4.out⟩

set_option maxHeartbeats 1000000 in
theorem beg_block (t : ByteArray) (w : World) (wd : Int) (c n : Int)
    (n0 : (c == 65279) = false)
    (hm : Mx w)
    (HR : Hid (∀ w, Calls Tryz.prog 43 #[.string t, .int .i64 0] w fun e w' => e = .returned (.tuple #[.int .i32 c, .int .i64 wd]) ∧ Below w.heap.size w w'))
    (HB : Hid (∀ w, Calls Tryz.prog 44 #[.int .i32 c] w fun e w' => e = .returned (.bool false) ∧ Below w.heap.size w w'))
    (HP1 : Hid (∀ w, Calls Tryz.prog 46 #[.string t, .string ⟨#[47, 47]⟩] w fun e w' => e = .returned (.bool false) ∧ w' = w))
    (HP2 : Hid (∀ w, Calls Tryz.prog 46 #[.string t, .string ⟨#[47, 42]⟩] w fun e w' => e = .returned (.bool true) ∧ w' = w))
    (HX : Hid (∀ w, Mx w → Calls Tryz.prog 48 #[.string t] w fun e w' => e = .returned (.int .i64 n) ∧ Below w.heap.size w w')) :
    Calls Tryz.prog 31 #[.string t] w fun e w' => e = .returned (.tuple #[.int .u8 12, .int .i64 n]) ∧ Below w.heap.size w w' := by
  have B0 := Lib.hid (Below.refl w.heap.size w)
  go_enter Tryz.func31, Tryz.ntmps31
  go_wp2_with fail
  refine (HR.out _).mono ?_
  rintro e w1 ⟨rfl, b1⟩
  have B1 := Lib.hid (B0.out.trans (b1.mono B0.out.size))
  clear b1
  go_wp2_with fail
  refine (HB.out _).mono ?_
  rintro e w2 ⟨rfl, b2⟩
  have B2 := Lib.hid (B1.out.trans (b2.mono B1.out.size))
  clear b2
  go_wp2_with fail
  refine (HP1.out _).mono ?_
  rintro e w3 ⟨rfl, rfl⟩
  go_wp2_with fail
  refine (HP2.out _).mono ?_
  rintro e w4 ⟨rfl, rfl⟩
  go_wp2_with fail
  refine (HX.out _ (hm.keep B2.out)).mono ?_
  rintro e w5 ⟨rfl, b5⟩
  have B5 := Lib.hid (B2.out.trans (b5.mono B2.out.size))
  clear b5
  go_wp2
  go_ret2
  exact ⟨rfl, B5.out⟩

set_option maxHeartbeats 1000000 in
theorem beg_word (t : ByteArray) (w : World) (wd : Int) (c k n : Int)
    (n0 : (c == 65279) = false)
    (HR : Hid (∀ w, Calls Tryz.prog 43 #[.string t, .int .i64 0] w fun e w' => e = .returned (.tuple #[.int .i32 c, .int .i64 wd]) ∧ Below w.heap.size w w'))
    (HB : Hid (∀ w, Calls Tryz.prog 44 #[.int .i32 c] w fun e w' => e = .returned (.bool false) ∧ Below w.heap.size w w'))
    (HP1 : Hid (∀ w, Calls Tryz.prog 46 #[.string t, .string ⟨#[47, 47]⟩] w fun e w' => e = .returned (.bool false) ∧ w' = w))
    (HP2 : Hid (∀ w, Calls Tryz.prog 46 #[.string t, .string ⟨#[47, 42]⟩] w fun e w' => e = .returned (.bool false) ∧ w' = w))
    (HL : Hid (∀ w, Calls Tryz.prog 49 #[.int .i32 c] w fun e w' => e = .returned (.bool true) ∧ Below w.heap.size w w'))
    (HX : Hid (∀ w, Calls Tryz.prog 50 #[.string t] w fun e w' => e = .returned (.tuple #[.int .u8 k, .int .i64 n]) ∧ Below w.heap.size w w')) :
    Calls Tryz.prog 31 #[.string t] w fun e w' => e = .returned (.tuple #[.int .u8 k, .int .i64 n]) ∧ Below w.heap.size w w' := by
  have B0 := Lib.hid (Below.refl w.heap.size w)
  go_enter Tryz.func31, Tryz.ntmps31
  go_wp2_with fail
  refine (HR.out _).mono ?_
  rintro e w1 ⟨rfl, b1⟩
  have B1 := Lib.hid (B0.out.trans (b1.mono B0.out.size))
  clear b1
  go_wp2_with fail
  refine (HB.out _).mono ?_
  rintro e w2 ⟨rfl, b2⟩
  have B2 := Lib.hid (B1.out.trans (b2.mono B1.out.size))
  clear b2
  go_wp2_with fail
  refine (HP1.out _).mono ?_
  rintro e w3 ⟨rfl, rfl⟩
  go_wp2_with fail
  refine (HP2.out _).mono ?_
  rintro e w4 ⟨rfl, rfl⟩
  go_wp2_with fail
  refine (HL.out _).mono ?_
  rintro e w5 ⟨rfl, b5⟩
  have B5 := Lib.hid (B2.out.trans (b5.mono B2.out.size))
  clear b5
  go_wp2_with fail
  refine (HX.out _).mono ?_
  rintro e w6 ⟨rfl, b6⟩
  have B6 := Lib.hid (B5.out.trans (b6.mono B5.out.size))
  clear b6
  go_wp2
  go_ret2
  exact ⟨rfl, B6.out⟩

set_option maxHeartbeats 1000000 in
theorem beg_semi (t : ByteArray) (w : World) (wd : Int) 
    (HR : Hid (∀ w, Calls Tryz.prog 43 #[.string t, .int .i64 0] w fun e w' => e = .returned (.tuple #[.int .i32 59, .int .i64 wd]) ∧ Below w.heap.size w w'))
    (HB : Hid (∀ w, Calls Tryz.prog 44 #[.int .i32 59] w fun e w' => e = .returned (.bool false) ∧ Below w.heap.size w w'))
    (HP1 : Hid (∀ w, Calls Tryz.prog 46 #[.string t, .string ⟨#[47, 47]⟩] w fun e w' => e = .returned (.bool false) ∧ w' = w))
    (HP2 : Hid (∀ w, Calls Tryz.prog 46 #[.string t, .string ⟨#[47, 42]⟩] w fun e w' => e = .returned (.bool false) ∧ w' = w))
    (HL : Hid (∀ w, Calls Tryz.prog 49 #[.int .i32 59] w fun e w' => e = .returned (.bool false) ∧ Below w.heap.size w w')) :
    Calls Tryz.prog 31 #[.string t] w fun e w' => e = .returned (.tuple #[.int .u8 9, .int .i64 wd]) ∧ Below w.heap.size w w' := by
  have B0 := Lib.hid (Below.refl w.heap.size w)
  go_enter Tryz.func31, Tryz.ntmps31
  go_wp2_with fail
  refine (HR.out _).mono ?_
  rintro e w1 ⟨rfl, b1⟩
  have B1 := Lib.hid (B0.out.trans (b1.mono B0.out.size))
  clear b1
  go_wp2_with fail
  refine (HB.out _).mono ?_
  rintro e w2 ⟨rfl, b2⟩
  have B2 := Lib.hid (B1.out.trans (b2.mono B1.out.size))
  clear b2
  go_wp2_with fail
  refine (HP1.out _).mono ?_
  rintro e w3 ⟨rfl, rfl⟩
  go_wp2_with fail
  refine (HP2.out _).mono ?_
  rintro e w4 ⟨rfl, rfl⟩
  go_wp2_with fail
  refine (HL.out _).mono ?_
  rintro e w5 ⟨rfl, b5⟩
  have B5 := Lib.hid (B2.out.trans (b5.mono B2.out.size))
  clear b5
  go_wp2
  go_ret2
  exact ⟨rfl, B5.out⟩

set_option maxHeartbeats 1000000 in
theorem beg_rune (t : ByteArray) (w : World) (wd : Int) (k n x : Int)
    (HR : Hid (∀ w, Calls Tryz.prog 43 #[.string t, .int .i64 0] w fun e w' => e = .returned (.tuple #[.int .i32 39, .int .i64 wd]) ∧ Below w.heap.size w w'))
    (HB : Hid (∀ w, Calls Tryz.prog 44 #[.int .i32 39] w fun e w' => e = .returned (.bool false) ∧ Below w.heap.size w w'))
    (HP1 : Hid (∀ w, Calls Tryz.prog 46 #[.string t, .string ⟨#[47, 47]⟩] w fun e w' => e = .returned (.bool false) ∧ w' = w))
    (HP2 : Hid (∀ w, Calls Tryz.prog 46 #[.string t, .string ⟨#[47, 42]⟩] w fun e w' => e = .returned (.bool false) ∧ w' = w))
    (HL : Hid (∀ w, Calls Tryz.prog 49 #[.int .i32 39] w fun e w' => e = .returned (.bool false) ∧ Below w.heap.size w w'))
    (HX : Hid (∀ w, Calls Tryz.prog 51 #[.string t, .int .i64 0] w fun e w' => e = .returned (.tuple #[.int .u8 k, .int .i64 n, .int .i64 x]) ∧ Below w.heap.size w w')) :
    Calls Tryz.prog 31 #[.string t] w fun e w' => e = .returned (.tuple #[.int .u8 k, .int .i64 n]) ∧ Below w.heap.size w w' := by
  have B0 := Lib.hid (Below.refl w.heap.size w)
  go_enter Tryz.func31, Tryz.ntmps31
  go_wp2_with fail
  refine (HR.out _).mono ?_
  rintro e w1 ⟨rfl, b1⟩
  have B1 := Lib.hid (B0.out.trans (b1.mono B0.out.size))
  clear b1
  go_wp2_with fail
  refine (HB.out _).mono ?_
  rintro e w2 ⟨rfl, b2⟩
  have B2 := Lib.hid (B1.out.trans (b2.mono B1.out.size))
  clear b2
  go_wp2_with fail
  refine (HP1.out _).mono ?_
  rintro e w3 ⟨rfl, rfl⟩
  go_wp2_with fail
  refine (HP2.out _).mono ?_
  rintro e w4 ⟨rfl, rfl⟩
  go_wp2_with fail
  refine (HL.out _).mono ?_
  rintro e w5 ⟨rfl, b5⟩
  have B5 := Lib.hid (B2.out.trans (b5.mono B2.out.size))
  clear b5
  go_wp2_with fail
  refine (HX.out _).mono ?_
  rintro e w6 ⟨rfl, b6⟩
  have B6 := Lib.hid (B5.out.trans (b6.mono B5.out.size))
  clear b6
  go_wp2
  go_ret2
  exact ⟨rfl, B6.out⟩

set_option maxHeartbeats 1000000 in
theorem beg_str (t : ByteArray) (w : World) (wd : Int) (k n x : Int)
    (HR : Hid (∀ w, Calls Tryz.prog 43 #[.string t, .int .i64 0] w fun e w' => e = .returned (.tuple #[.int .i32 34, .int .i64 wd]) ∧ Below w.heap.size w w'))
    (HB : Hid (∀ w, Calls Tryz.prog 44 #[.int .i32 34] w fun e w' => e = .returned (.bool false) ∧ Below w.heap.size w w'))
    (HP1 : Hid (∀ w, Calls Tryz.prog 46 #[.string t, .string ⟨#[47, 47]⟩] w fun e w' => e = .returned (.bool false) ∧ w' = w))
    (HP2 : Hid (∀ w, Calls Tryz.prog 46 #[.string t, .string ⟨#[47, 42]⟩] w fun e w' => e = .returned (.bool false) ∧ w' = w))
    (HL : Hid (∀ w, Calls Tryz.prog 49 #[.int .i32 34] w fun e w' => e = .returned (.bool false) ∧ Below w.heap.size w w'))
    (HX : Hid (∀ w, Calls Tryz.prog 51 #[.string t, .int .i64 0] w fun e w' => e = .returned (.tuple #[.int .u8 k, .int .i64 n, .int .i64 x]) ∧ Below w.heap.size w w')) :
    Calls Tryz.prog 31 #[.string t] w fun e w' => e = .returned (.tuple #[.int .u8 k, .int .i64 n]) ∧ Below w.heap.size w w' := by
  have B0 := Lib.hid (Below.refl w.heap.size w)
  go_enter Tryz.func31, Tryz.ntmps31
  go_wp2_with fail
  refine (HR.out _).mono ?_
  rintro e w1 ⟨rfl, b1⟩
  have B1 := Lib.hid (B0.out.trans (b1.mono B0.out.size))
  clear b1
  go_wp2_with fail
  refine (HB.out _).mono ?_
  rintro e w2 ⟨rfl, b2⟩
  have B2 := Lib.hid (B1.out.trans (b2.mono B1.out.size))
  clear b2
  go_wp2_with fail
  refine (HP1.out _).mono ?_
  rintro e w3 ⟨rfl, rfl⟩
  go_wp2_with fail
  refine (HP2.out _).mono ?_
  rintro e w4 ⟨rfl, rfl⟩
  go_wp2_with fail
  refine (HL.out _).mono ?_
  rintro e w5 ⟨rfl, b5⟩
  have B5 := Lib.hid (B2.out.trans (b5.mono B2.out.size))
  clear b5
  go_wp2_with fail
  refine (HX.out _).mono ?_
  rintro e w6 ⟨rfl, b6⟩
  have B6 := Lib.hid (B5.out.trans (b6.mono B5.out.size))
  clear b6
  go_wp2
  go_ret2
  exact ⟨rfl, B6.out⟩

set_option maxHeartbeats 1000000 in
theorem beg_raw (t : ByteArray) (w : World) (wd : Int) (k n x : Int)
    (HR : Hid (∀ w, Calls Tryz.prog 43 #[.string t, .int .i64 0] w fun e w' => e = .returned (.tuple #[.int .i32 96, .int .i64 wd]) ∧ Below w.heap.size w w'))
    (HB : Hid (∀ w, Calls Tryz.prog 44 #[.int .i32 96] w fun e w' => e = .returned (.bool false) ∧ Below w.heap.size w w'))
    (HP1 : Hid (∀ w, Calls Tryz.prog 46 #[.string t, .string ⟨#[47, 47]⟩] w fun e w' => e = .returned (.bool false) ∧ w' = w))
    (HP2 : Hid (∀ w, Calls Tryz.prog 46 #[.string t, .string ⟨#[47, 42]⟩] w fun e w' => e = .returned (.bool false) ∧ w' = w))
    (HL : Hid (∀ w, Calls Tryz.prog 49 #[.int .i32 96] w fun e w' => e = .returned (.bool false) ∧ Below w.heap.size w w'))
    (HX : Hid (∀ w, Calls Tryz.prog 51 #[.string t, .int .i64 0] w fun e w' => e = .returned (.tuple #[.int .u8 k, .int .i64 n, .int .i64 x]) ∧ Below w.heap.size w w')) :
    Calls Tryz.prog 31 #[.string t] w fun e w' => e = .returned (.tuple #[.int .u8 k, .int .i64 n]) ∧ Below w.heap.size w w' := by
  have B0 := Lib.hid (Below.refl w.heap.size w)
  go_enter Tryz.func31, Tryz.ntmps31
  go_wp2_with fail
  refine (HR.out _).mono ?_
  rintro e w1 ⟨rfl, b1⟩
  have B1 := Lib.hid (B0.out.trans (b1.mono B0.out.size))
  clear b1
  go_wp2_with fail
  refine (HB.out _).mono ?_
  rintro e w2 ⟨rfl, b2⟩
  have B2 := Lib.hid (B1.out.trans (b2.mono B1.out.size))
  clear b2
  go_wp2_with fail
  refine (HP1.out _).mono ?_
  rintro e w3 ⟨rfl, rfl⟩
  go_wp2_with fail
  refine (HP2.out _).mono ?_
  rintro e w4 ⟨rfl, rfl⟩
  go_wp2_with fail
  refine (HL.out _).mono ?_
  rintro e w5 ⟨rfl, b5⟩
  have B5 := Lib.hid (B2.out.trans (b5.mono B2.out.size))
  clear b5
  go_wp2_with fail
  refine (HX.out _).mono ?_
  rintro e w6 ⟨rfl, b6⟩
  have B6 := Lib.hid (B5.out.trans (b6.mono B5.out.size))
  clear b6
  go_wp2
  go_ret2
  exact ⟨rfl, B6.out⟩

set_option maxHeartbeats 1000000 in
theorem beg_number (t : ByteArray) (w : World) (wd : Int) (c k n x : Int)
    (n0 : (c == 65279) = false)
    (HR : Hid (∀ w, Calls Tryz.prog 43 #[.string t, .int .i64 0] w fun e w' => e = .returned (.tuple #[.int .i32 c, .int .i64 wd]) ∧ Below w.heap.size w w'))
    (HB : Hid (∀ w, Calls Tryz.prog 44 #[.int .i32 c] w fun e w' => e = .returned (.bool false) ∧ Below w.heap.size w w'))
    (HP1 : Hid (∀ w, Calls Tryz.prog 46 #[.string t, .string ⟨#[47, 47]⟩] w fun e w' => e = .returned (.bool false) ∧ w' = w))
    (HP2 : Hid (∀ w, Calls Tryz.prog 46 #[.string t, .string ⟨#[47, 42]⟩] w fun e w' => e = .returned (.bool false) ∧ w' = w))
    (n1 : (c == 59) = false)
    (n2 : (c == 39) = false)
    (n3 : (c == 34) = false)
    (n4 : (c == 96) = false)
    (HL : Hid (∀ w, Calls Tryz.prog 49 #[.int .i32 c] w fun e w' => e = .returned (.bool false) ∧ Below w.heap.size w w'))
    (HX : Hid (∀ w, Calls Tryz.prog 52 #[.string t, .int .i64 0] w fun e w' => e = .returned (.tuple #[.int .u8 k, .int .i64 n, .int .i64 x]) ∧ Below w.heap.size w w'))
    (hx : (x != 15) = true) :
    Calls Tryz.prog 31 #[.string t] w fun e w' => e = .returned (.tuple #[.int .u8 k, .int .i64 n]) ∧ Below w.heap.size w w' := by
  have B0 := Lib.hid (Below.refl w.heap.size w)
  go_enter Tryz.func31, Tryz.ntmps31
  go_wp2_with fail
  refine (HR.out _).mono ?_
  rintro e w1 ⟨rfl, b1⟩
  have B1 := Lib.hid (B0.out.trans (b1.mono B0.out.size))
  clear b1
  go_wp2_with fail
  refine (HB.out _).mono ?_
  rintro e w2 ⟨rfl, b2⟩
  have B2 := Lib.hid (B1.out.trans (b2.mono B1.out.size))
  clear b2
  go_wp2_with fail
  refine (HP1.out _).mono ?_
  rintro e w3 ⟨rfl, rfl⟩
  go_wp2_with fail
  refine (HP2.out _).mono ?_
  rintro e w4 ⟨rfl, rfl⟩
  go_wp2_with fail
  refine (HL.out _).mono ?_
  rintro e w5 ⟨rfl, b5⟩
  have B5 := Lib.hid (B2.out.trans (b5.mono B2.out.size))
  clear b5
  go_wp2_with fail
  refine (HX.out _).mono ?_
  rintro e w6 ⟨rfl, b6⟩
  have B6 := Lib.hid (B5.out.trans (b6.mono B5.out.size))
  clear b6
  go_wp2
  go_ret2
  exact ⟨rfl, B6.out⟩

set_option maxHeartbeats 1000000 in
theorem beg_sign (t : ByteArray) (w : World) (wd : Int) (c k m n : Int)
    (n0 : (c == 65279) = false)
    (HR : Hid (∀ w, Calls Tryz.prog 43 #[.string t, .int .i64 0] w fun e w' => e = .returned (.tuple #[.int .i32 c, .int .i64 wd]) ∧ Below w.heap.size w w'))
    (HB : Hid (∀ w, Calls Tryz.prog 44 #[.int .i32 c] w fun e w' => e = .returned (.bool false) ∧ Below w.heap.size w w'))
    (HP1 : Hid (∀ w, Calls Tryz.prog 46 #[.string t, .string ⟨#[47, 47]⟩] w fun e w' => e = .returned (.bool false) ∧ w' = w))
    (HP2 : Hid (∀ w, Calls Tryz.prog 46 #[.string t, .string ⟨#[47, 42]⟩] w fun e w' => e = .returned (.bool false) ∧ w' = w))
    (n1 : (c == 59) = false)
    (n2 : (c == 39) = false)
    (n3 : (c == 34) = false)
    (n4 : (c == 96) = false)
    (HL : Hid (∀ w, Calls Tryz.prog 49 #[.int .i32 c] w fun e w' => e = .returned (.bool false) ∧ Below w.heap.size w w'))
    (HX : Hid (∀ w, Calls Tryz.prog 52 #[.string t, .int .i64 0] w fun e w' => e = .returned (.tuple #[.int .u8 k, .int .i64 m, .int .i64 15]) ∧ Below w.heap.size w w'))
    (HS : Hid (∀ w, Calls Tryz.prog 53 #[.string t] w fun e w' => e = .returned (.int .i64 n) ∧ Below w.heap.size w w')) :
    Calls Tryz.prog 31 #[.string t] w fun e w' => e = .returned (.tuple #[.int .u8 8, .int .i64 n]) ∧ Below w.heap.size w w' := by
  have B0 := Lib.hid (Below.refl w.heap.size w)
  go_enter Tryz.func31, Tryz.ntmps31
  go_wp2_with fail
  refine (HR.out _).mono ?_
  rintro e w1 ⟨rfl, b1⟩
  have B1 := Lib.hid (B0.out.trans (b1.mono B0.out.size))
  clear b1
  go_wp2_with fail
  refine (HB.out _).mono ?_
  rintro e w2 ⟨rfl, b2⟩
  have B2 := Lib.hid (B1.out.trans (b2.mono B1.out.size))
  clear b2
  go_wp2_with fail
  refine (HP1.out _).mono ?_
  rintro e w3 ⟨rfl, rfl⟩
  go_wp2_with fail
  refine (HP2.out _).mono ?_
  rintro e w4 ⟨rfl, rfl⟩
  go_wp2_with fail
  refine (HL.out _).mono ?_
  rintro e w5 ⟨rfl, b5⟩
  have B5 := Lib.hid (B2.out.trans (b5.mono B2.out.size))
  clear b5
  go_wp2_with fail
  refine (HX.out _).mono ?_
  rintro e w6 ⟨rfl, b6⟩
  have B6 := Lib.hid (B5.out.trans (b6.mono B5.out.size))
  clear b6
  go_wp2_with fail
  refine (HS.out _).mono ?_
  rintro e w7 ⟨rfl, b7⟩
  have B7 := Lib.hid (B6.out.trans (b7.mono B6.out.size))
  clear b7
  go_wp2
  go_ret2
  exact ⟨rfl, B7.out⟩

theorem beginV_eq {l : List UInt8} {k n : Nat} (h : Sc.lex isW l = (k, n)) : beginV l = .tuple #[.int .u8 (k : Int), .int .i64 (n : Int)] := by unfold beginV; rw [h]

theorem quoted_at (t : ByteArray) (w : World) (h : 0 < t.size) (hm : mkN (byN t 0) = true) (hs : t.size < 4294967281) :
    ∃ (k : Nat) (n : Nat) (x : Int), (match Qm.whole (bl t) with | some (k, _, q) => (k, (bl t).length - q.length) | none => (0, 0)) = (k, n) ∧ ∀ w : World, Calls Tryz.prog 51 #[.string t, .int .i64 0] w fun e w' => e = .returned (.tuple #[.int .u8 (k : Int), .int .i64 (n : Int), .int .i64 x]) ∧ Below w.heap.size w w' := by
  have H := fun w => qscan_yes t 0 w h hm (by omega)
  rw [List.drop_zero] at H
  cases hq : Qm.whole (bl t) with
  | none =>
    refine ⟨0, 0, 4, rfl, ?_⟩
    have e1 : qK (bl t) = 0 := by unfold qK wholeK; rw [hq]
    have e2 : qT t.size (bl t) = 0 := by unfold qT; rw [hq]
    have e3 : qE (bl t) = 4 := by unfold qE; rw [hq]
    rw [e1, e2, e3] at H
    exact H
  | some x =>
    obtain ⟨k, v, q⟩ := x
    obtain ⟨m, y, hl, _⟩ := Qm.whole_split hq
    have hlen := congrArg List.length hl
    rw [List.length_cons, List.length_append, List.length_cons, bl_size] at hlen
    refine ⟨k, (bl t).length - q.length, 0, rfl, ?_⟩
    have e1 : qK (bl t) = k := by unfold qK wholeK; rw [hq]
    have e2 : qT t.size (bl t) = (((bl t).length - q.length : Nat) : Int) := by unfold qT; rw [hq, bl_size]; dsimp only; omega
    have e3 : qE (bl t) = 0 := by unfold qE; rw [hq]
    rw [e1, e2, e3] at H
    exact H

theorem number_at (t : ByteArray) (h : 0 < t.size) (hs : t.size < 4294967281) :
    (Nm.begins (bl t) = false ∧ ∀ w : World, Calls Tryz.prog 52 #[.string t, .int .i64 0] w fun e w' => e = .returned (.tuple #[.int .u8 0, .int .i64 0, .int .i64 15]) ∧ Below w.heap.size w w') ∨
    (Nm.begins (bl t) = true ∧ ∃ (k : Nat) (n : Nat) (x : Int), (if Nm.kind ((bl t).take (Nm.runOf (bl t))) = 0 then (0, 0) else (Nm.kind ((bl t).take (Nm.runOf (bl t))), Nm.runOf (bl t))) = (k, n) ∧ (x != 15) = true ∧ ∀ w : World, Calls Tryz.prog 52 #[.string t, .int .i64 0] w fun e w' => e = .returned (.tuple #[.int .u8 (k : Int), .int .i64 (n : Int), .int .i64 x]) ∧ Below w.heap.size w w') := by
  have H := fun w => scan_any t 0 w (by omega)
  have hb0 : begB t 0 = Nm.begins (bl t) := by
    unfold begB; rw [if_neg (by omega)]; rfl
  cases hb : Nm.begins (bl t) with
  | false =>
    rw [hb] at hb0
    have k0 : scanK t 0 = 0 := by unfold scanK; rw [hb0]; rfl
    have t0 : scanT t 0 = 0 := by unfold scanT; rw [if_pos k0]
    have e0 : scanE t 0 = 15 := by unfold scanE; rw [hb0]; rfl
    rw [k0, t0, e0] at H
    exact .inl ⟨rfl, H⟩
  | true =>
    rw [hb] at hb0
    have k0 : scanK t 0 = Nm.kind ((bl t).take (Nm.runOf (bl t))) := by unfold scanK; rw [hb0, if_pos rfl]; rfl
    have t0 : scanT t 0 = if scanK t 0 = 0 then 0 else 0 + ((Nm.runOf (bl t) : Nat) : Int) := rfl
    have e0 : scanE t 0 = if scanK t 0 = 0 then 4 else 0 := by unfold scanE; rw [hb0, if_pos rfl]
    rw [← k0]
    by_cases h0 : scanK t 0 = 0
    · rw [if_pos h0] at t0 e0
      rw [t0, e0, h0] at H
      rw [h0, if_pos rfl]
      exact .inr ⟨rfl, 0, 0, 4, rfl, rfl, H⟩
    · rw [if_neg h0, Int.zero_add] at t0
      rw [if_neg h0] at e0
      rw [t0, e0] at H
      rw [if_neg h0]
      exact .inr ⟨rfl, scanK t 0, Nm.runOf (bl t), 0, rfl, rfl, H⟩

theorem blank_one {c : Nat} (h : Sc.blank c = true) : c = 9 ∨ c = 10 ∨ c = 13 ∨ c = 32 := by
  unfold Sc.blank at h
  simp [Cm.inB, Cm.blanks] at h
  omega
theorem isPre_size {x : List UInt8} {t : ByteArray} (h : x.isPrefixOf (bl t) = true) : x.length ≤ t.size := by
  have := (List.isPrefixOf_iff_prefix.1 h).length_le
  rw [bl_size] at this; exact this

/-- scan.begin -/
theorem begin_any (t : ByteArray) (w : World) (h0 : 0 < t.size) (hs : t.size < 4294967281) (hw : Sc.Wf (bl t)) (hm : Mx w) :
    Calls Tryz.prog 31 #[.string t] w fun e w' => e = .returned (beginV (bl t)) ∧ Below w.heap.size w w' := by
  have hw' := hw
  rw [← List.drop_zero (l := bl t)] at hw'
  obtain ⟨hok, _⟩ := Sc.wf_at h0 hw'
  have hrd := Sc.rd_yes h0 hok
  rw [List.drop_zero, Nat.zero_add] at hrd
  have hl := lex_of hrd
  have HR0 := fun w => read_at t 0 w h0
  rw [(rd_ok hok).1, (rd_ok hok).2, wid_len h0 hok] at HR0
  have hsm := chr_small h0 hok
  obtain ⟨c, hc⟩ : ∃ c, Um.chr t 0 = c := ⟨_, rfl⟩
  rw [hc] at hl HR0 hsm
  clear hrd hok hw' hc
  have HB0 := fun w => blank_any c w
  change ∀ w : World, Calls Tryz.prog 44 #[.int .i32 c] w fun e w' => e = .returned (.bool (Sc.blank c)) ∧ Below w.heap.size w w' at HB0
  have HL0 := fun w => letter_any c w
  change ∀ w : World, Calls Tryz.prog 49 #[.int .i32 c] w fun e w' => e = .returned (.bool (Sc.letter c)) ∧ Below w.heap.size w w' at HL0
  have HP1 := fun w => hasprefix_any t ⟨#[47, 47]⟩ w
  change ∀ w : World, Calls Tryz.prog 46 #[.string t, .string ⟨#[47, 47]⟩] w fun e w' => e = .returned (.bool ([47, 47].isPrefixOf (bl t))) ∧ w' = w at HP1
  have HP2 := fun w => hasprefix_any t ⟨#[47, 42]⟩ w
  change ∀ w : World, Calls Tryz.prog 46 #[.string t, .string ⟨#[47, 42]⟩] w fun e w' => e = .returned (.bool ([47, 42].isPrefixOf (bl t))) ∧ w' = w at HP2
  by_cases h1 : c = 65279
  · subst h1
    rw [if_pos rfl] at hl
    rw [beginV_eq hl]
    exact beg_mark t w 3 (Lib.hid HR0)
  rw [if_neg h1] at hl
  have n0 : ((c : Int) == 65279) = false := beq_eq_false_iff_ne.2 (by omega)
  cases h2 : Sc.blank c with
  | true =>
    rw [h2] at hl HB0
    rw [if_pos rfl] at hl
    rw [beginV_eq hl]
    exact beg_blank t w _ c _ n0 (Lib.hid HR0) (Lib.hid HB0) (Lib.hid fun w => while_any t 44 #[] Sc.blank w (enters_of Tryz.func44 (by kernel_rfl) rfl) (sorts_blank w) hw)
  | false =>
    rw [h2] at hl HB0
    rw [if_neg (by simp)] at hl
    cases h3 : ([47, 47] : List UInt8).isPrefixOf (bl t) with
    | true =>
      rw [h3] at hl HP1
      rw [if_pos rfl] at hl
      rw [beginV_eq hl]
      exact beg_line t w _ c _ n0 (Lib.hid HR0) (Lib.hid HB0) (Lib.hid HP1) (Lib.hid fun w => while_any t 47 #[] Sc.lineC w (enters_of Tryz.func47 (by kernel_rfl) rfl) (sorts_line w) hw)
    | false =>
      rw [h3] at hl HP1
      rw [if_neg (by simp)] at hl
      cases h4 : ([47, 42] : List UInt8).isPrefixOf (bl t) with
      | true =>
        have h42 := isPre_size h4
        rw [h4] at hl HP2
        rw [if_pos rfl] at hl
        rw [beginV_eq hl]
        exact beg_block t w _ c _ n0 hm (Lib.hid HR0) (Lib.hid HB0) (Lib.hid HP1) (Lib.hid HP2) (Lib.hid fun w hm => block_any t w h42 hs hm)
      | false =>
        rw [h4] at hl HP2
        rw [if_neg (by simp)] at hl
        cases h5 : Sc.letter c with
        | true =>
          rw [h5] at hl HL0
          rw [if_pos rfl] at hl
          rw [beginV_eq hl]
          exact beg_word t w _ c _ _ n0 (Lib.hid HR0) (Lib.hid HB0) (Lib.hid HP1) (Lib.hid HP2) (Lib.hid HL0) (Lib.hid fun w => word_lex t w hw)
        | false =>
          rw [h5] at hl HL0
          rw [if_neg (by simp)] at hl
          by_cases h6 : c = 59
          · subst h6
            rw [if_pos rfl] at hl
            rw [beginV_eq hl]
            exact beg_semi t w 1 (Lib.hid HR0) (Lib.hid HB0) (Lib.hid HP1) (Lib.hid HP2) (Lib.hid HL0)
          · rw [if_neg h6] at hl
            by_cases h7 : c = 39 ∨ c = 34 ∨ c = 96
            · have hmk : Sc.mark c = true := decide_eq_true h7
              rw [if_pos hmk] at hl
              have hb := hsm (by omega)
              have hmk2 : mkN (byN t 0) = true := by rw [hb]; exact decide_eq_true h7
              obtain ⟨k, n, x, hq, HQ⟩ := quoted_at t w h0 hmk2 hs
              rw [beginV_eq (hl.trans hq)]
              clear hl hq hb hmk hmk2 hsm
              rcases h7 with rfl | rfl | rfl
              · exact beg_rune t w _ k n x (Lib.hid HR0) (Lib.hid HB0) (Lib.hid HP1) (Lib.hid HP2) (Lib.hid HL0) (Lib.hid HQ)
              · exact beg_str t w _ k n x (Lib.hid HR0) (Lib.hid HB0) (Lib.hid HP1) (Lib.hid HP2) (Lib.hid HL0) (Lib.hid HQ)
              · exact beg_raw t w _ k n x (Lib.hid HR0) (Lib.hid HB0) (Lib.hid HP1) (Lib.hid HP2) (Lib.hid HL0) (Lib.hid HQ)
            · have hmk : Sc.mark c = false := decide_eq_false h7
              rw [if_neg (by rw [hmk]; simp)] at hl
              have n1 : ((c : Int) == 59) = false := beq_eq_false_iff_ne.2 (by omega)
              have n2 : ((c : Int) == 39) = false := beq_eq_false_iff_ne.2 (by omega)
              have n3 : ((c : Int) == 34) = false := beq_eq_false_iff_ne.2 (by omega)
              have n4 : ((c : Int) == 96) = false := beq_eq_false_iff_ne.2 (by omega)
              rcases number_at t h0 hs with ⟨hb, HN⟩ | ⟨hb, k, n, x, hk, hx, HN⟩
              · rw [hb, if_neg (by simp)] at hl
                rw [beginV_eq hl]
                exact beg_sign t w _ c 0 0 _ n0 (Lib.hid HR0) (Lib.hid HB0) (Lib.hid HP1) (Lib.hid HP2) n1 n2 n3 n4 (Lib.hid HL0) (Lib.hid HN) (Lib.hid fun w => sign_any t w)
              · rw [hb, if_pos rfl] at hl
                rw [beginV_eq (hl.trans hk)]
                exact beg_number t w _ c k n x n0 (Lib.hid HR0) (Lib.hid HB0) (Lib.hid HP1) (Lib.hid HP2) n1 n2 n3 n4 (Lib.hid HL0) (Lib.hid HN) hx
end Go.Proofs.YtnkgbmnjehpkgabGreat

