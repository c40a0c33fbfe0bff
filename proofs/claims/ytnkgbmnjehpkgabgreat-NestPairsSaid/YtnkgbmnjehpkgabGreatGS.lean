/- The library's contracts of strings.HasPrefix, Cut, Contains (of one byte), laid at this dump. -/
import Derived.Shelf.Strings.Prefix
import Derived.Shelf.Strings.Cut
import Derived.Shelf.Strings.Search3
import Derived.Test.YtnkgbmnjehpkgabGreatRows
import Derived.Shelf.Vars
import Derived.WalkKit
import Derived.ProofKit
import Derived.OpenShut
import Derived.SizedLaws
import Derived.Below
import Derived.Test.YtnkgbmnjehpkgabGreatGR
import Derived.Test.YtnkgbmnjehpkgabGreatGE
import Derived.Test.YtnkgbmnjehpkgabGreatGM
import Derived.Lib.IndexBytes
namespace Go.Proofs.YtnkgbmnjehpkgabGreat
open Go.Shelf Go.RowKit
set_option maxRecDepth 100000

def hprRen : Go.Shelf.Ren := ⟨fun | 99 => 46 | 206 => 68 | n => n, fun | 3 => 3 | 4 => 4 | 9 => 9 | n => n, fun | n => n⟩
theorem hprLays : Go.Proofs.Lays.n99 Tryz.prog hprRen := {
  mixed := by kernel_rfl
  f99 := Tryz.func46.trans (congrArg some (by kernel_rfl))
  f206 := Tryz.func68.trans (congrArg some (by kernel_rfl))
  t3 := Tryz.underlying3
  a3 := Tryz.isAgg3
  z3 := Tryz.sizeOf3
  v3 := Tryz.zeroValue3
  t4 := Tryz.underlying4
  a4 := Tryz.isAgg4
  z4 := Tryz.sizeOf4
  v4 := Tryz.zeroValue4
  t9 := Tryz.underlying9
  a9 := Tryz.isAgg9
  z9 := Tryz.sizeOf9
  v9 := Tryz.zeroValue9 }

def cutRen : Go.Shelf.Ren := ⟨fun | 145 => 69 | 217 => 54 | 219 => 32 | 220 => 89 | 224 => 56 | 225 => 55 | 266 => 78 | 267 => 57 | 314 => 79 | n => n, fun | 3 => 3 | 4 => 4 | 5 => 5 | 9 => 9 | 46 => 75 | 51 => 99 | 59 => 90 | 146 => 100 | n => n, fun | 1 => 0 | n => n⟩
theorem cutLays : Go.Proofs.Lays.n145 Tryz.prog cutRen := {
  mixed := by kernel_rfl
  f145 := Tryz.func69.trans (congrArg some (by kernel_rfl))
  f217 := Tryz.func54.trans (congrArg some (by kernel_rfl))
  f219 := Tryz.func32.trans (congrArg some (by kernel_rfl))
  f220 := Tryz.func89.trans (congrArg some (by kernel_rfl))
  f224 := Tryz.func56.trans (congrArg some (by kernel_rfl))
  f225 := Tryz.func55.trans (congrArg some (by kernel_rfl))
  f266 := Tryz.func78.trans (congrArg some (by kernel_rfl))
  f267 := Tryz.func57.trans (congrArg some (by kernel_rfl))
  f314 := Tryz.func79.trans (congrArg some (by kernel_rfl))
  t3 := Tryz.underlying3
  a3 := Tryz.isAgg3
  z3 := Tryz.sizeOf3
  v3 := Tryz.zeroValue3
  t4 := Tryz.underlying4
  a4 := Tryz.isAgg4
  z4 := Tryz.sizeOf4
  v4 := Tryz.zeroValue4
  t5 := Tryz.underlying5
  a5 := Tryz.isAgg5
  z5 := Tryz.sizeOf5
  v5 := Tryz.zeroValue5
  t9 := Tryz.underlying9
  a9 := Tryz.isAgg9
  z9 := Tryz.sizeOf9
  v9 := Tryz.zeroValue9
  t46 := Tryz.underlying75
  a46 := Tryz.isAgg75
  z46 := Tryz.sizeOf75
  v46 := Tryz.zeroValue75
  t51 := Tryz.underlying99
  a51 := Tryz.isAgg99
  z51 := Tryz.sizeOf99
  v51 := Tryz.zeroValue99
  t59 := Tryz.underlying90
  a59 := Tryz.isAgg90
  z59 := Tryz.sizeOf90
  v59 := Tryz.zeroValue90
  t146 := Tryz.underlying100
  a146 := Tryz.isAgg100
  z146 := Tryz.sizeOf100
  v146 := Tryz.zeroValue100
  g1 := by kernel_rfl }

def conRen : Go.Shelf.Ren := ⟨fun | 143 => 27 | 144 => 18 | 217 => 54 | 219 => 32 | 224 => 56 | 225 => 55 | 266 => 78 | 267 => 57 | 314 => 79 | n => n, fun | 3 => 3 | 4 => 4 | 5 => 5 | 9 => 9 | 46 => 75 | 51 => 99 | 146 => 100 | n => n, fun | 1 => 0 | n => n⟩
theorem conLays : Go.Proofs.Lays.n144 Tryz.prog conRen := {
  mixed := by kernel_rfl
  f143 := Tryz.func27.trans (congrArg some (by kernel_rfl))
  f144 := Tryz.func18.trans (congrArg some (by kernel_rfl))
  f217 := Tryz.func54.trans (congrArg some (by kernel_rfl))
  f219 := Tryz.func32.trans (congrArg some (by kernel_rfl))
  f224 := Tryz.func56.trans (congrArg some (by kernel_rfl))
  f225 := Tryz.func55.trans (congrArg some (by kernel_rfl))
  f266 := Tryz.func78.trans (congrArg some (by kernel_rfl))
  f267 := Tryz.func57.trans (congrArg some (by kernel_rfl))
  f314 := Tryz.func79.trans (congrArg some (by kernel_rfl))
  t3 := Tryz.underlying3
  a3 := Tryz.isAgg3
  z3 := Tryz.sizeOf3
  v3 := Tryz.zeroValue3
  t4 := Tryz.underlying4
  a4 := Tryz.isAgg4
  z4 := Tryz.sizeOf4
  v4 := Tryz.zeroValue4
  t5 := Tryz.underlying5
  a5 := Tryz.isAgg5
  z5 := Tryz.sizeOf5
  v5 := Tryz.zeroValue5
  t9 := Tryz.underlying9
  a9 := Tryz.isAgg9
  z9 := Tryz.sizeOf9
  v9 := Tryz.zeroValue9
  t46 := Tryz.underlying75
  a46 := Tryz.isAgg75
  z46 := Tryz.sizeOf75
  v46 := Tryz.zeroValue75
  t51 := Tryz.underlying99
  a51 := Tryz.isAgg99
  z51 := Tryz.sizeOf99
  v51 := Tryz.zeroValue99
  t146 := Tryz.underlying100
  a146 := Tryz.isAgg100
  z146 := Tryz.sizeOf100
  v146 := Tryz.zeroValue100
  g1 := by kernel_rfl }

/-- strings.HasPrefix -/
theorem hasprefix_any (s p : ByteArray) (w : World) :
    Calls Tryz.prog 46 #[.string s, .string p] w fun e w' => e = .returned (.bool (Lib.hasPrefix s.data.toList p.data.toList)) ∧ w' = w := Any.strings_HasPrefix hprLays s p w

/-- What is known of bytealg.MaxLen: it holds some number. -/
def Mx (w : World) : Prop := ∃ m, w.cell? ⟨0, 0, none⟩ = some (.int .i64 m)
theorem Mx.keep {w w' : World} (h : Mx w) (hb : Below w.heap.size w w') : Mx w' := by
  obtain ⟨m, hm⟩ := h
  have hl : 0 < w.heap.size := by
    by_cases hl : 0 < w.heap.size
    · exact hl
    · exfalso
      unfold World.cell? at hm
      have : w.heap[0]? = none := Array.getElem?_eq_none (by omega)
      simp [this] at hm
  exact ⟨m, (hb.cell (p := ⟨0, 0, none⟩) hl).trans hm⟩

/-- strings.Cut -/
theorem cut_any (s sep : ByteArray) (w : World) (hs : s.size < 4294967281) (hm : Mx w) :
    Calls Tryz.prog 69 #[.string s, .string sep] w fun e w' => e = .returned (.tuple #[.string ⟨(Lib.cut s.data.toList sep.data.toList).1.toArray⟩, .string ⟨(Lib.cut s.data.toList sep.data.toList).2.1.toArray⟩, .bool (Lib.cut s.data.toList sep.data.toList).2.2]) ∧ ∃ n, w' = w.drewN n := by
  obtain ⟨m, hm⟩ := hm
  exact Any.strings_Cut cutLays s sep m w hs hm

/-- strings.Contains of one byte -/
theorem contains_one (s : ByteArray) (c : UInt8) (w : World) :
    Calls Tryz.prog 18 #[.string s, .string ⟨#[c]⟩] w fun e w' => e = .returned (.bool (decide (0 ≤ Lib.indexByte s.data.toList c))) ∧ w' = w := Any.strings_Contains_one conLays s c w
end Go.Proofs.YtnkgbmnjehpkgabGreat

/- What the world's shape says of bytealg.MaxLen: it holds some number. -/
namespace Go.Proofs.YtnkgbmnjehpkgabGreat
open Go.RowKit
set_option maxRecDepth 100000

theorem mx_of_shaped {W : World} (h : W.ShapedOpen Tryz.prog) : Mx W :=
  Go.Proofs.cell_of_shapedOpen_int (P := Tryz.prog) (g := 0) (t := 3) (zero := #[.int .i64 0]) h (of_decide_eq_true (by kernel_rfl)) (by kernel_rfl) rfl (by kernel_rfl) (by kernel_rfl) Tryz.underlying3
end Go.Proofs.YtnkgbmnjehpkgabGreat

/- What the second form's bound gives of each argument; what a walk is told of a slice of integers. -/
namespace Go.Proofs.YtnkgbmnjehpkgabGreat
open Go.ChangeShapes Go.WideShapes Go.ChangeAt Go.RowKit
set_option maxRecDepth 100000

/-- A slice of integers that came in: nil, or a row of 'cap' cells that hold the numbers zs, the first 'len' of them its elements. -/
def IsRow (k : IntKind) (w : World) (a : Option Addr) (len cap : Nat) (zs : List Int) : Prop :=
  (a = none ∧ len = 0 ∧ cap = 0 ∧ zs = []) ∨
  ∃ x, a = some x ∧ len ≤ cap ∧ cap ≤ maxLen ∧ zs.length = cap ∧ (∀ i, i < zs.length → w.cell? (x.add i) = some (.int k (zs.getD i 0))) ∧ ∀ n ∈ zs, (Lit.int k n).wf = true

theorem row_below {k : IntKind} {w w' : World} {a : Option Addr} {len cap : Nat} {zs : List Int} (h : IsRow k w a len cap zs) (hb : Below w.heap.size w w') : IsRow k w' a len cap zs := by
  rcases h with h | ⟨x, h1, h2, h3, h4, h5, h6⟩
  · exact .inl h
  · exact .inr ⟨x, h1, h2, h3, h4, fun i hi => (hb.cell (World.block_lt_of_cell? w _ (h5 i hi))).trans (h5 i hi), h6⟩

theorem bulk_pos {H : Type} (d : DataW H) : 1 ≤ Rows.uptoBulk d := by
  cases d with
  | lit l => cases l <;> simp [Rows.uptoBulk]
  | _ => simp [Rows.uptoBulk]

theorem bulk_mem {H : Type} {d : DataW H} : ∀ {l : List (DataW H)}, d ∈ l → Rows.uptoBulk d ≤ Rows.uptoBulkAll l
  | x :: r, h => by
    rw [Rows.uptoBulkAll]
    rcases List.mem_cons.1 h with rfl | h
    · omega
    · have := bulk_mem h; omega

theorem bulk_count {H : Type} : ∀ l : List (DataW H), l.length ≤ Rows.uptoBulkAll l
  | [] => by simp
  | x :: r => by
    have := bulk_pos x
    have := bulk_count r
    rw [Rows.uptoBulkAll, List.length_cons]
    omega

theorem bulk_bound {H : Type} {l : List (DataW H)} (hk : Rows.uptoSmall H l = true) : Rows.uptoBulkAll l ≤ 1048576 := of_decide_eq_true hk

theorem bulk_string {H : Type} {l : List (DataW H)} {s : ByteArray} (hk : Rows.uptoSmall H l = true) (hm : DataW.lit (.string s.data.toList) ∈ l) : s.size ≤ 1048576 := by
  have h1 := bulk_bound hk
  have h2 := bulk_mem hm
  rw [Rows.uptoBulk] at h2
  have e : s.data.toList.length = s.size := by rw [Array.length_toList]; rfl
  omega

theorem bulk_row {H : Type} {l : List (DataW H)} {d : DataW H} {k : IntKind} {w : World} {a : Option Addr} {len cap : Nat} {zs : List Int} (hr : IsRow k w a len cap zs)
    (he : (zs = [] ∧ d = .nil) ∨ d = .slice (lits k (zs.take len)) (lits k (zs.drop len))) (hk : Rows.uptoSmall H l = true) (hm : d ∈ l) : cap ≤ 1048576 := by
  have h1 := bulk_bound hk
  have h2 := bulk_mem hm
  rcases hr with ⟨_, _, rfl, _⟩ | ⟨x, _, hlc, _, hz, _⟩
  · omega
  · rcases he with ⟨rfl, _⟩ | rfl
    · simp at hz; omega
    · rw [Rows.uptoBulk] at h2
      have c1 := bulk_count (lits (H := H) k (zs.take len))
      have c2 := bulk_count (lits (H := H) k (zs.drop len))
      have e1 : (lits (H := H) k (zs.take len)).length = min len zs.length := by unfold lits; rw [List.length_map, List.length_take]
      have e2 : (lits (H := H) k (zs.drop len)).length = zs.length - len := by unfold lits; rw [List.length_map, List.length_drop]
      omega

theorem reach_string {H : Type} {P : Program} {ts : List TypeId} {ds : List (DataW H)} (h : (DataW.weightsEach P ts ds).all (· ≤ reachBytes) = true) {j : Nat} {t : TypeId} {s : ByteArray}
    (ht : ts[j]? = some t) (hd : ds[j]? = some (.lit (.string s.data.toList))) : s.size ≤ 140737488351232 := by
  have h1 := sized_string h ht hd
  have e : s.data.toList.length = s.size := by rw [Array.length_toList]; rfl
  unfold reachBytes at h1
  omega

theorem reach_row {H : Type} {P : Program} {ts : List TypeId} {ds : List (DataW H)} {d : DataW H} {k : IntKind} {w : World} {a : Option Addr} {len cap : Nat} {zs : List Int} (hr : IsRow k w a len cap zs)
    (he : (zs = [] ∧ d = .nil) ∨ d = .slice (lits k (zs.take len)) (lits k (zs.drop len))) (h : (DataW.weightsEach P ts ds).all (· ≤ reachBytes) = true) {j : Nat} {t e : TypeId} {n : Nat}
    (ht : ts[j]? = some t) (hd : ds[j]? = some d) (hu : P.underlying t = some (.slice e)) (hb : P.bytesOf e = n) : cap * n ≤ 140737488351232 := by
  rcases hr with ⟨_, _, rfl, _⟩ | ⟨x, _, hlc, _, hz, _⟩
  · omega
  · rcases he with ⟨rfl, _⟩ | rfl
    · simp at hz; subst hz; omega
    · have h1 := sized_slice h ht hd hu
      have e1 : (lits (H := H) k (zs.take len)).length = min len zs.length := by unfold lits; rw [List.length_map, List.length_take]
      have e2 : (lits (H := H) k (zs.drop len)).length = zs.length - len := by unfold lits; rw [List.length_map, List.length_drop]
      rw [e1, e2, hb, show min len zs.length + (zs.length - len) = cap by omega] at h1
      unfold reachBytes at h1
      exact h1
end Go.Proofs.YtnkgbmnjehpkgabGreat

/- Contracts of scan.while, word, block: how many bytes a lexeme has. -/
namespace Go.Proofs.YtnkgbmnjehpkgabGreat
open Go.RowKit Em
set_option maxRecDepth 100000
set_option linter.unusedVariables false

theorem ret_nat {a b : Nat} (h : a = b) : Ending.returned (.int .i64 (a : Int)) = .returned (.int .i64 (b : Int)) := by rw [h]

/-- What is asked of a test that is handed on: it tells characters of a sort. -/
def Sorts (g : Nat) (lb : Array Value) (P : Nat → Bool) (w : World) : Prop :=
  ∀ (W : World) (c : Nat), Below w.heap.size w W → Calls Tryz.prog g (#[.int .i32 (c : Int)] ++ lb) W fun e w' => e = .returned (.bool (P c)) ∧ Below W.heap.size W w'

set_option maxHeartbeats 1000000 in
theorem while_any (s : ByteArray) (g : Nat) (lb : Array Value) (P : Nat → Bool) (w : World) (eg : ∀ args w, (callFunc g args).run Tryz.prog w = .ok (.enter g args) w) (hp : Sorts g lb P w) (hw : Sc.Wf (bl s)) :
    Calls Tryz.prog 45 #[.string s, .func (.func g) #[] lb] w fun e w' => e = .returned (.int .i64 (Sc.cnt P (bl s) : Nat)) ∧ Below w.heap.size w w' := by
  have Hp := Lib.hid hp
  have hsl := bl_size s
  have Hs := Lib.hid hsl
  clear hp hsl
  go_enter Tryz.func45, Tryz.ntmps45
  go_wp2
  go_loopw [] (fun wr => ∃ pos : Nat, pos ≤ s.size ∧ wr.heap[w.heap.size]? = some (.stringIter s pos) ∧ Sc.Wf ((bl s).drop pos) ∧ Sc.left P ((bl s).drop pos) = Sc.left P (bl s) ∧ Below w.heap.size w wr) (fun wr => s.size - wr.iterPos w.heap.size)
  case atStart => exact ⟨0, by omega, World.iter_heap w s 0, hw, rfl, (Below.refl _ _).alloc (Nat.le_refl _) _⟩
  case round =>
    clear hw
    obtain ⟨pos, hps, hk, hwf, hl, hb⟩ := hrel
    have Hl := Lib.hid hl
    clear hl
    have hmu : wr.iterPos w.heap.size = pos := iterPos_of hk
    by_cases hlt : pos < s.size
    · obtain ⟨hok, hwf2⟩ := Sc.wf_at hlt hwf
      have hrd := Sc.rd_yes hlt hok
      have hfit := Um.ok_fits hlt hok
      have hwp := Um.wid_pos s pos
      have hnext : ∀ ty, (Instr.next (.pointer (some ⟨w.heap.size, 0, none⟩)) true ty).run Tryz.prog wr = .ok (.tuple #[.bool true, .int .i64 pos, .int .i32 (Um.chr s pos)]) (wr.iterAt w.heap.size s (pos + Um.wid s pos)) := fun ty => Lib.run_next_any_at wr w.heap.size s pos ty hk hlt
      have hk1 := Lib.iterAt_heap wr w.heap.size s pos (pos + Um.wid s pos) hk
      have hnx1 : Below w.heap.size w (wr.iterAt w.heap.size s (pos + Um.wid s pos)) := Lib.below_iterAt hb (Nat.le_refl _) s _
      generalize wr.iterAt w.heap.size s (pos + Um.wid s pos) = W1 at hnext hk1 hnx1
      have hcall := Hp.out W1 (Um.chr s pos) hnx1
      have hlt1 := (Array.getElem?_eq_some_iff.1 hk1).1
      have Hrd := Lib.hid hrd
      have Hwf2 := Lib.hid hwf2
      clear hrd hwf2 hwf hok
      cases hq : P (Um.chr s pos) with
      | true =>
        rw [hq] at hcall
        have Hq := Lib.hid hq
        clear hq
        go_wp2_with (go_at_fn g; refine hcall.mono ?_; rintro e w2 ⟨rfl, hb2⟩)
        go_roundw
        case rel => exact ⟨pos + Um.wid s pos, hfit, (hb2.block _ hlt1).trans hk1, Hwf2.out, by rw [← Hl.out, Sc.left_yes Hrd.out Hq.out], hnx1.trans (hb2.mono hnx1.size)⟩
        case measure =>
          have hmu2 : w2.iterPos w.heap.size = pos + Um.wid s pos := iterPos_of ((hb2.block _ hlt1).trans hk1)
          rw [hmu, hmu2]
          omega
      | false =>
        rw [hq] at hcall
        have hfin : Sc.cnt P (bl s) = pos := Sc.cnt_at (by rw [Hs.out]; exact hps) (by rw [← Hl.out, Sc.left_no Hrd.out hq])
        have Hfin := Lib.hid hfin
        clear hq hfin
        go_wp2_with (go_at_fn g; refine hcall.mono ?_; rintro e w2 ⟨rfl, hb2⟩)
        go_ret
        exact ⟨ret_nat Hfin.out.symm, hnx1.trans (hb2.mono hnx1.size)⟩
    · have hnext : ∀ ty, (Instr.next (.pointer (some ⟨w.heap.size, 0, none⟩)) true ty).run Tryz.prog wr = _ := fun ty => Lib.run_next_end_at wr w.heap.size s pos ty hk hlt
      have hfin : Sc.cnt P (bl s) = s.size := Sc.cnt_at (by rw [Hs.out]; omega) (by
        rw [← Hl.out, Sc.left_none (Sc.rd_end hlt), List.drop_of_length_le (by rw [Hs.out]; omega), List.drop_of_length_le (by rw [Hs.out]; omega)])
      have Hfin := Lib.hid hfin
      clear hfin hwf
      go_wp2
      go_ret
      exact ⟨ret_nat Hfin.out.symm, hb⟩

theorem sorts_blank (w : World) : Sorts 44 #[] Sc.blank w := fun W c hb => blank_any c W
theorem sorts_line (w : World) : Sorts 47 #[] Sc.lineC w := fun W c hb => by
  show Calls Tryz.prog 47 #[.int .i32 (c : Int)] W _
  by_cases h : c = 10
  · subst h
    have e : Sc.lineC 10 = false := by decide
    rw [e]
    go_enter Tryz.func47, Tryz.ntmps47
    go_wp2
    go_ret
    exact ⟨rfl, Below.refl _ _⟩
  · have e : Sc.lineC c = true := by unfold Sc.lineC; simpa using h
    have h2 : ((c : Int) != 10) = true := by simp; omega
    rw [e]
    clear e h
    go_enter Tryz.func47, Tryz.ntmps47
    go_wp2
    go_ret
    exact ⟨rfl, Below.refl _ _⟩
theorem sorts_word (w : World) : Sorts 70 #[] Sc.wordC w := fun W c hb => by
  show Calls Tryz.prog 70 #[.int .i32 (c : Int)] W _
  have H1 := Lib.hid (fun w => letter_any c w)
  have H2 := Lib.hid (fun w => digit_any c w)
  have e : Sc.wordC c = (Cm.inB Cm.letters c || Cm.inB Cm.digits c) := rfl
  rw [e]
  clear e
  cases h1 : Cm.inB Cm.letters c with
  | true =>
    rw [h1] at H1
    rw [Bool.true_or]
    clear h1
    go_enter Tryz.func70, Tryz.ntmps70
    go_wp2_with fail
    refine (H1.out _).mono ?_
    rintro e w1 ⟨rfl, b1⟩
    go_wp2
    go_ret
    exact ⟨rfl, b1⟩
  | false =>
    rw [h1] at H1
    rw [Bool.false_or]
    generalize Cm.inB Cm.digits c = D at H2 ⊢
    clear h1
    go_enter Tryz.func70, Tryz.ntmps70
    go_wp2_with fail
    refine (H1.out _).mono ?_
    rintro e w1 ⟨rfl, b1⟩
    go_wp2_with fail
    refine (H2.out _).mono ?_
    rintro e w2 ⟨rfl, b2⟩
    go_wp2
    go_ret
    exact ⟨rfl, b1.trans (b2.mono b1.size)⟩
end Go.Proofs.YtnkgbmnjehpkgabGreat

/- Contracts of scan.word, block. -/
namespace Go.Proofs.YtnkgbmnjehpkgabGreat
open Go.RowKit Em
set_option maxRecDepth 100000
set_option linter.unusedVariables false

/-- Is it a word of the language? -/
def isW (l : List UInt8) : Bool := isWord (txt l)
def wordK (l : List UInt8) : Nat := if isW (l.take (Sc.cnt Sc.wordC l)) = true then 2 else 1

theorem ext_take (s : ByteArray) (n : Nat) : s.extract 0 n = txt ((bl s).take n) := bl_inj (by rw [bl_extract, txt_bl, List.drop_zero])

theorem word_lex (s : ByteArray) (w : World) (hw : Sc.Wf (bl s)) :
    Calls Tryz.prog 50 #[.string s] w fun e w' => e = .returned (.tuple #[.int .u8 (wordK (bl s) : Nat), .int .i64 (Sc.cnt Sc.wordC (bl s) : Nat)]) ∧ Below w.heap.size w w' := by
  have HW := Lib.hid (fun w => while_any s 70 #[] Sc.wordC w (enters_of Tryz.func70 (by kernel_rfl) rfl) (sorts_word w) hw)
  have hle := Sc.cnt_le Sc.wordC (bl s)
  rw [bl_size] at hle
  have HX := Lib.hid (fun w => word_any (s.extract 0 (Sc.cnt Sc.wordC (bl s))) w)
  have hk : wordK (bl s) = if isWord (s.extract 0 (Sc.cnt Sc.wordC (bl s))) = true then 2 else 1 := by unfold wordK isW; rw [ext_take]
  rw [hk]
  clear hk hw
  generalize Sc.cnt Sc.wordC (bl s) = n at HW HX hle ⊢
  have b1 : (n : Int) ≤ (s.size : Int) := by omega
  cases h : isWord (s.extract 0 n) with
  | true =>
    rw [h] at HX
    rw [if_pos rfl]
    clear h
    go_enter Tryz.func50, Tryz.ntmps50
    go_wp2_with fail
    refine (HW.out _).mono ?_
    rintro e w1 ⟨rfl, h1⟩
    go_wp2_with fail
    refine (HX.out _).mono ?_
    rintro e w2 ⟨rfl, rfl⟩
    go_wp2
    go_ret2
    exact ⟨rfl, h1⟩
  | false =>
    rw [h] at HX
    rw [if_neg (by simp)]
    clear h
    go_enter Tryz.func50, Tryz.ntmps50
    go_wp2_with fail
    refine (HW.out _).mono ?_
    rintro e w1 ⟨rfl, h1⟩
    go_wp2_with fail
    refine (HX.out _).mono ?_
    rintro e w2 ⟨rfl, rfl⟩
    go_wp2
    go_ret2
    exact ⟨rfl, h1⟩

theorem below_draws (w : World) (n : Nat) : Below w.heap.size w (w.drewN n) := below_drw (Below.refl _ _) n

theorem block_any (s : ByteArray) (w : World) (h2 : 2 ≤ s.size) (hs : s.size < 4294967281) (hm : Mx w) :
    Calls Tryz.prog 48 #[.string s] w fun e w' => e = .returned (.int .i64 (Sc.blk (bl s) : Nat)) ∧ Below w.heap.size w w' := by
  have hsz : (s.extract 2 s.size).size = s.size - 2 := Lib.tail_size s 2
  have hd : (s.extract 2 s.size).data.toList = (bl s).drop 2 := by
    show bl (s.extract 2 s.size) = _
    rw [bl_extract, ← bl_size, List.take_length]
  have HC := cut_any (s.extract 2 s.size) ⟨#[42, 47]⟩ w (by omega) hm
  have e0 : (⟨#[42, 47]⟩ : ByteArray).data.toList = [42, 47] := rfl
  rw [hd, e0] at HC
  have b1 : (2 : Int) ≤ (s.size : Int) := by omega
  clear hd e0 hm
  by_cases h : 0 ≤ Lib.index ((bl s).drop 2) [42, 47]
  · have ec : Lib.cut ((bl s).drop 2) [42, 47] = (((bl s).drop 2).take (Lib.index ((bl s).drop 2) [42, 47]).toNat, ((bl s).drop 2).drop ((Lib.index ((bl s).drop 2) [42, 47]).toNat + 2), true) := by
      unfold Lib.cut; rw [if_pos h]; rfl
    have hlen : ((bl s).drop 2).length = s.size - 2 := by rw [List.length_drop, bl_size]
    have hi : (Lib.index ((bl s).drop 2) [42, 47]).toNat ≤ ((bl s).drop 2).length := by
      have := Lib.index_le ((bl s).drop 2) [42, 47]
      omega
    have eb : Sc.blk (bl s) = 2 + (Lib.index ((bl s).drop 2) [42, 47]).toNat + 2 := if_pos h
    rw [ec] at HC
    rw [eb]
    clear ec eb h
    have hB : ((⟨(((bl s).drop 2).take (Lib.index ((bl s).drop 2) [42, 47]).toNat).toArray⟩ : ByteArray).size : Nat) = (Lib.index ((bl s).drop 2) [42, 47]).toNat := by
      show (txt (((bl s).drop 2).take (Lib.index ((bl s).drop 2) [42, 47]).toNat)).size = _
      rw [txt_size, List.length_take]; omega
    generalize (⟨(((bl s).drop 2).take (Lib.index ((bl s).drop 2) [42, 47]).toNat).toArray⟩ : ByteArray) = B at HC hB
    generalize (Lib.index ((bl s).drop 2) [42, 47]).toNat = i at HC hB hi ⊢
    have b2 : (2 : Int) + (B.size : Int) + 2 = ((2 + i + 2 : Nat) : Int) := by omega
    have b3 : B.size ≤ 4294967281 := by omega
    have B2 := Lib.hid b2
    have HC' := Lib.hid HC
    clear HC hlen hi hB b2
    go_enter Tryz.func48, Tryz.ntmps48
    go_wp2_with fail
    refine HC'.out.mono ?_
    rintro e w1 ⟨rfl, n, rfl⟩
    go_wp2
    go_ret
    exact ⟨ret_int B2.out, below_draws w n⟩
  · have ec : Lib.cut ((bl s).drop 2) [42, 47] = ((bl s).drop 2, [], false) := by unfold Lib.cut; rw [if_neg h]
    have eb : Sc.blk (bl s) = 0 := if_neg h
    rw [ec] at HC
    rw [eb]
    have HC' := Lib.hid HC
    clear ec eb h HC
    go_enter Tryz.func48, Tryz.ntmps48
    go_wp2_with fail
    refine HC'.out.mono ?_
    rintro e w1 ⟨rfl, n, rfl⟩
    go_wp2
    go_ret
    exact ⟨rfl, below_draws w n⟩
end Go.Proofs.YtnkgbmnjehpkgabGreat

