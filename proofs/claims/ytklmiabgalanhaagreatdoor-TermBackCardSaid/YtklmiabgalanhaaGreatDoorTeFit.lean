/- Contracts of term.words, isLit, wordFits; of slices.Contains of strings. -/
import Derived.Test.YtklmiabgalanhaaGreatDoorTeRead
import Derived.Test.YtklmiabgalanhaaGreatDoorTeKids
import Derived.Test.YtklmiabgalanhaaGreatDoorGQ
import Derived.Test.YtklmiabgalanhaaGreatDoorGR
import Derived.Test.YtklmiabgalanhaaGreatDoorGI
namespace Go.Proofs.YtklmiabgalanhaaGreatDoor
open Go.Shelf Go.RowKit Em
set_option maxRecDepth 100000
set_option linter.unusedVariables false
set_option linter.unusedSimpArgs false


/-! Words. -/
def bsOf (l : List UInt8) : ByteArray := ⟨l.toArray⟩
/-- Which words a kind may have. -/
def wRow (k : Nat) : List ByteArray := if k = 3 then [⟨#[105, 109, 112, 111, 114, 116]⟩, ⟨#[99, 111, 110, 115, 116]⟩, ⟨#[118, 97, 114]⟩, ⟨#[116, 121, 112, 101]⟩] else if k = 4 then [⟨#[105, 109, 112, 111, 114, 116]⟩, ⟨#[99, 111, 110, 115, 116]⟩, ⟨#[118, 97, 114]⟩, ⟨#[116, 121, 112, 101]⟩] else if k = 5 then [⟨#[]⟩, ⟨#[46]⟩] else if k = 7 then [⟨#[]⟩, ⟨#[61]⟩] else if k = 15 then [⟨#[]⟩, ⟨#[46, 46, 46]⟩] else if k = 34 then [⟨#[]⟩, ⟨#[46, 46, 46]⟩] else if k = 36 then [⟨#[43]⟩, ⟨#[45]⟩, ⟨#[33]⟩, ⟨#[94]⟩, ⟨#[38]⟩, ⟨#[60, 45]⟩] else if k = 37 then [⟨#[124, 124]⟩, ⟨#[38, 38]⟩, ⟨#[61, 61]⟩, ⟨#[33, 61]⟩, ⟨#[60]⟩, ⟨#[60, 61]⟩, ⟨#[62]⟩, ⟨#[62, 61]⟩, ⟨#[43]⟩, ⟨#[45]⟩, ⟨#[124]⟩, ⟨#[94]⟩, ⟨#[42]⟩, ⟨#[47]⟩, ⟨#[37]⟩, ⟨#[60, 60]⟩, ⟨#[62, 62]⟩, ⟨#[38]⟩, ⟨#[38, 94]⟩] else if k = 45 then [⟨#[99, 104, 97, 110]⟩, ⟨#[99, 104, 97, 110, 60, 45]⟩, ⟨#[60, 45, 99, 104, 97, 110]⟩] else if k = 52 then [⟨#[43, 43]⟩, ⟨#[45, 45]⟩] else if k = 53 then [⟨#[61]⟩, ⟨#[58, 61]⟩, ⟨#[43, 61]⟩, ⟨#[45, 61]⟩, ⟨#[42, 61]⟩, ⟨#[47, 61]⟩, ⟨#[37, 61]⟩, ⟨#[38, 61]⟩, ⟨#[124, 61]⟩, ⟨#[94, 61]⟩, ⟨#[60, 60, 61]⟩, ⟨#[62, 62, 61]⟩, ⟨#[38, 94, 61]⟩] else if k = 57 then [⟨#[98, 114, 101, 97, 107]⟩, ⟨#[99, 111, 110, 116, 105, 110, 117, 101]⟩, ⟨#[103, 111, 116, 111]⟩, ⟨#[102, 97, 108, 108, 116, 104, 114, 111, 117, 103, 104]⟩] else if k = 66 then [⟨#[]⟩, ⟨#[61]⟩, ⟨#[58, 61]⟩] else [⟨#[]⟩]
def wCells (l : List ByteArray) : Array Value := (l.map Value.string).toArray
theorem words_3 (w : World) : Calls Tryz.prog 59 #[.int .u8 3] w fun e w' => e = .returned (.slice (some ⟨w.heap.size, 0, none⟩) (wRow 3).length (wRow 3).length) ∧ w' = w.alloc (.cells (wCells (wRow 3)) 9) := by
  go_enter Tryz.func59, Tryz.ntmps59
  go_wp2
  go_ret
  exact ⟨rfl, rfl⟩
theorem words_4 (w : World) : Calls Tryz.prog 59 #[.int .u8 4] w fun e w' => e = .returned (.slice (some ⟨w.heap.size, 0, none⟩) (wRow 4).length (wRow 4).length) ∧ w' = w.alloc (.cells (wCells (wRow 4)) 9) := by
  go_enter Tryz.func59, Tryz.ntmps59
  go_wp2
  go_ret
  exact ⟨rfl, rfl⟩
theorem words_5 (w : World) : Calls Tryz.prog 59 #[.int .u8 5] w fun e w' => e = .returned (.slice (some ⟨w.heap.size, 0, none⟩) (wRow 5).length (wRow 5).length) ∧ w' = w.alloc (.cells (wCells (wRow 5)) 9) := by
  go_enter Tryz.func59, Tryz.ntmps59
  go_wp2
  go_ret
  exact ⟨rfl, rfl⟩
theorem words_7 (w : World) : Calls Tryz.prog 59 #[.int .u8 7] w fun e w' => e = .returned (.slice (some ⟨w.heap.size, 0, none⟩) (wRow 7).length (wRow 7).length) ∧ w' = w.alloc (.cells (wCells (wRow 7)) 9) := by
  go_enter Tryz.func59, Tryz.ntmps59
  go_wp2
  go_ret
  exact ⟨rfl, rfl⟩
theorem words_15 (w : World) : Calls Tryz.prog 59 #[.int .u8 15] w fun e w' => e = .returned (.slice (some ⟨w.heap.size, 0, none⟩) (wRow 15).length (wRow 15).length) ∧ w' = w.alloc (.cells (wCells (wRow 15)) 9) := by
  go_enter Tryz.func59, Tryz.ntmps59
  go_wp2
  go_ret
  exact ⟨rfl, rfl⟩
theorem words_34 (w : World) : Calls Tryz.prog 59 #[.int .u8 34] w fun e w' => e = .returned (.slice (some ⟨w.heap.size, 0, none⟩) (wRow 34).length (wRow 34).length) ∧ w' = w.alloc (.cells (wCells (wRow 34)) 9) := by
  go_enter Tryz.func59, Tryz.ntmps59
  go_wp2
  go_ret
  exact ⟨rfl, rfl⟩
theorem words_36 (w : World) : Calls Tryz.prog 59 #[.int .u8 36] w fun e w' => e = .returned (.slice (some ⟨w.heap.size, 0, none⟩) (wRow 36).length (wRow 36).length) ∧ w' = w.alloc (.cells (wCells (wRow 36)) 9) := by
  go_enter Tryz.func59, Tryz.ntmps59
  go_wp2
  go_ret
  exact ⟨rfl, rfl⟩
theorem words_37 (w : World) : Calls Tryz.prog 59 #[.int .u8 37] w fun e w' => e = .returned (.slice (some ⟨w.heap.size, 0, none⟩) (wRow 37).length (wRow 37).length) ∧ w' = w.alloc (.cells (wCells (wRow 37)) 9) := by
  go_enter Tryz.func59, Tryz.ntmps59
  go_wp2
  go_ret
  exact ⟨rfl, rfl⟩
theorem words_45 (w : World) : Calls Tryz.prog 59 #[.int .u8 45] w fun e w' => e = .returned (.slice (some ⟨w.heap.size, 0, none⟩) (wRow 45).length (wRow 45).length) ∧ w' = w.alloc (.cells (wCells (wRow 45)) 9) := by
  go_enter Tryz.func59, Tryz.ntmps59
  go_wp2
  go_ret
  exact ⟨rfl, rfl⟩
theorem words_52 (w : World) : Calls Tryz.prog 59 #[.int .u8 52] w fun e w' => e = .returned (.slice (some ⟨w.heap.size, 0, none⟩) (wRow 52).length (wRow 52).length) ∧ w' = w.alloc (.cells (wCells (wRow 52)) 9) := by
  go_enter Tryz.func59, Tryz.ntmps59
  go_wp2
  go_ret
  exact ⟨rfl, rfl⟩
theorem words_53 (w : World) : Calls Tryz.prog 59 #[.int .u8 53] w fun e w' => e = .returned (.slice (some ⟨w.heap.size, 0, none⟩) (wRow 53).length (wRow 53).length) ∧ w' = w.alloc (.cells (wCells (wRow 53)) 9) := by
  go_enter Tryz.func59, Tryz.ntmps59
  go_wp2
  go_ret
  exact ⟨rfl, rfl⟩
theorem words_57 (w : World) : Calls Tryz.prog 59 #[.int .u8 57] w fun e w' => e = .returned (.slice (some ⟨w.heap.size, 0, none⟩) (wRow 57).length (wRow 57).length) ∧ w' = w.alloc (.cells (wCells (wRow 57)) 9) := by
  go_enter Tryz.func59, Tryz.ntmps59
  go_wp2
  go_ret
  exact ⟨rfl, rfl⟩
theorem words_66 (w : World) : Calls Tryz.prog 59 #[.int .u8 66] w fun e w' => e = .returned (.slice (some ⟨w.heap.size, 0, none⟩) (wRow 66).length (wRow 66).length) ∧ w' = w.alloc (.cells (wCells (wRow 66)) 9) := by
  go_enter Tryz.func59, Tryz.ntmps59
  go_wp2
  go_ret
  exact ⟨rfl, rfl⟩
theorem words_else (k : Nat) (w : World) (h : k ≠ 3 ∧ k ≠ 4 ∧ k ≠ 5 ∧ k ≠ 7 ∧ k ≠ 15 ∧ k ≠ 34 ∧ k ≠ 36 ∧ k ≠ 37 ∧ k ≠ 45 ∧ k ≠ 52 ∧ k ≠ 53 ∧ k ≠ 57 ∧ k ≠ 66) : Calls Tryz.prog 59 #[.int .u8 (k : Int)] w fun e w' => e = .returned (.slice (some ⟨w.heap.size, 0, none⟩) (wRow k).length (wRow k).length) ∧ w' = w.alloc (.cells (wCells (wRow k)) 9) := by
  have e : wRow k = [⟨#[]⟩] := by
    unfold wRow
    obtain ⟨h3, h4, h5, h7, h15, h34, h36, h37, h45, h52, h53, h57, h66⟩ := h
    rw [if_neg h3, if_neg h4, if_neg h5, if_neg h7, if_neg h15, if_neg h34, if_neg h36, if_neg h37, if_neg h45, if_neg h52, if_neg h53, if_neg h57, if_neg h66]
  rw [e]
  obtain ⟨h3, h4, h5, h7, h15, h34, h36, h37, h45, h52, h53, h57, h66⟩ := h
  have e3 : ((k : Int) == 3) = false := beq_eq_false_iff_ne.2 (by omega)
  have e4 : ((k : Int) == 4) = false := beq_eq_false_iff_ne.2 (by omega)
  have e5 : ((k : Int) == 5) = false := beq_eq_false_iff_ne.2 (by omega)
  have e7 : ((k : Int) == 7) = false := beq_eq_false_iff_ne.2 (by omega)
  have e15 : ((k : Int) == 15) = false := beq_eq_false_iff_ne.2 (by omega)
  have e34 : ((k : Int) == 34) = false := beq_eq_false_iff_ne.2 (by omega)
  have e36 : ((k : Int) == 36) = false := beq_eq_false_iff_ne.2 (by omega)
  have e37 : ((k : Int) == 37) = false := beq_eq_false_iff_ne.2 (by omega)
  have e45 : ((k : Int) == 45) = false := beq_eq_false_iff_ne.2 (by omega)
  have e52 : ((k : Int) == 52) = false := beq_eq_false_iff_ne.2 (by omega)
  have e53 : ((k : Int) == 53) = false := beq_eq_false_iff_ne.2 (by omega)
  have e57 : ((k : Int) == 57) = false := beq_eq_false_iff_ne.2 (by omega)
  have e66 : ((k : Int) == 66) = false := beq_eq_false_iff_ne.2 (by omega)
  clear e h3 h4 h5 h7 h15 h34 h36 h37 h45 h52 h53 h57 h66
  go_enter Tryz.func59, Tryz.ntmps59
  go_wp2
  go_ret
  exact ⟨rfl, rfl⟩
theorem pwords_any (k : Nat) (w : World) : Calls Tryz.prog 59 #[.int .u8 (k : Int)] w fun e w' => e = .returned (.slice (some ⟨w.heap.size, 0, none⟩) (wRow k).length (wRow k).length) ∧ w' = w.alloc (.cells (wCells (wRow k)) 9) := by
  by_cases h3 : k = 3
  · subst h3; exact words_3 w
  by_cases h4 : k = 4
  · subst h4; exact words_4 w
  by_cases h5 : k = 5
  · subst h5; exact words_5 w
  by_cases h7 : k = 7
  · subst h7; exact words_7 w
  by_cases h15 : k = 15
  · subst h15; exact words_15 w
  by_cases h34 : k = 34
  · subst h34; exact words_34 w
  by_cases h36 : k = 36
  · subst h36; exact words_36 w
  by_cases h37 : k = 37
  · subst h37; exact words_37 w
  by_cases h45 : k = 45
  · subst h45; exact words_45 w
  by_cases h52 : k = 52
  · subst h52; exact words_52 w
  by_cases h53 : k = 53
  · subst h53; exact words_53 w
  by_cases h57 : k = 57
  · subst h57; exact words_57 w
  by_cases h66 : k = 66
  · subst h66; exact words_66 w
  exact words_else k w ⟨h3, h4, h5, h7, h15, h34, h36, h37, h45, h52, h53, h57, h66⟩

/-- Is it among them? -/
def memB (x : ByteArray) (l : List ByteArray) : Bool := l.any fun y => decide (y = x)
theorem memB_iff {x : ByteArray} {l : List ByteArray} : memB x l = true ↔ x ∈ l := by
  unfold memB
  rw [List.any_eq_true]
  exact ⟨fun ⟨y, h1, h2⟩ => by rw [← of_decide_eq_true h2]; exact h1, fun h => ⟨x, h, decide_eq_true rfl⟩⟩
/-- Strings in a block. -/
def WI (w : World) (g : Nat) (l : List ByteArray) : Prop := w.heap[g]? = some (.cells (wCells l) 9 (0, 0))
theorem WI.cell {w : World} {g : Nat} {l : List ByteArray} (h : WI w g l) {j : Nat} (hj : j < l.length) : w.cell? ⟨g, j, none⟩ = some (.string (l[j]'hj)) := by
  rw [cell_of_row w g j _ _ _ h]
  unfold wCells
  simp [hj]
theorem str_eq (a b : ByteArray) : (a.toList == b.toList) = decide (a = b) := by
  rw [Lib.toList_data, Lib.toList_data]
  by_cases h : a = b
  · rw [decide_eq_true h, h]; simp
  · rw [decide_eq_false h]
    exact beq_eq_false_iff_ne.2 fun e => h (bl_inj e)
set_option maxHeartbeats 2000000 in
theorem sindex_any (g c : Nat) (l : List ByteArray) (x : ByteArray) (w : World) (h : WI w g l) (hl : l.length ≤ 1000) :
    Calls Tryz.prog 79 #[.slice (some ⟨g, 0, none⟩) l.length c, .string x] w fun e w' => ∃ i : Int, e = .returned (.int .i64 i) ∧ (0 ≤ i ↔ x ∈ l) ∧ w' = w := by
  have H := Lib.hid h
  clear h
  go_enter Tryz.func79, Tryz.ntmps79
  go_wp2
  go_loopw [8] (fun kv wr => ∃ k : Nat, k ≤ l.length ∧ kv = .int .i64 (k : Int) ∧ Hid (∀ j (h : j < l.length), j < k → l[j]'h ≠ x) ∧ wr = w) (fun kv _ => l.length - (intOf kv).toNat)
  case atStart => exact ⟨0, by omega, rfl, Lib.hid (fun j _ h => by omega), rfl⟩
  case round =>
    obtain ⟨k, hk, rfl, HN, rfl⟩ := hrel
    by_cases hlt : k < l.length
    · have b0 : (0 : Int) ≤ (k : Int) := by omega
      have b1 : (k : Int) < (l.length : Int) := by omega
      have c0 := H.out.cell hlt
      have hse := str_eq x (l[k]'hlt)
      by_cases he : x = l[k]'hlt
      · have hfin : (0 : Int) ≤ (k : Int) ↔ x ∈ l := ⟨fun _ => by rw [he]; exact List.getElem_mem hlt, fun _ => b0⟩
        have HF := Lib.hid hfin
        rw [decide_eq_true he] at hse
        generalize l[k]'hlt = y at c0 hse
        clear he hfin
        go_wp2
        go_ret
        exact ⟨(k : Int), rfl, HF.out, rfl⟩
      · have HN2 : Hid (∀ j (h : j < l.length), j < k + 1 → l[j]'h ≠ x) := Lib.hid fun j h hj => by
          by_cases e : j = k
          · subst e; exact fun e => he e.symm
          · exact HN.out j h (by omega)
        rw [decide_eq_false he] at hse
        generalize l[k]'hlt = y at c0 hse
        clear he
        go_wp2
        go_roundw
        case rel => exact ⟨k + 1, by omega, by go_num, HN2, by first | rfl | trivial⟩
        case measure => simp [intOf]; omega
    · have b1 : ¬ (k : Int) < (l.length : Int) := by omega
      have hfin : (0 : Int) ≤ (-1 : Int) ↔ x ∈ l := ⟨fun h => by omega, fun h => by
        obtain ⟨j, hj, e⟩ := List.getElem_of_mem h
        exact absurd e (HN.out j hj (by omega))⟩
      have HF := Lib.hid hfin
      clear hfin
      go_wp2
      go_ret
      exact ⟨-1, rfl, HF.out, rfl⟩
theorem scontains_any (g c : Nat) (l : List ByteArray) (x : ByteArray) (w : World) (h : WI w g l) (hl : l.length ≤ 1000) :
    Calls Tryz.prog 58 #[.slice (some ⟨g, 0, none⟩) l.length c, .string x] w fun e w' => e = .returned (.bool (memB x l)) ∧ w' = w := by
  have HI := Lib.hid (sindex_any g c l x w h hl)
  clear h
  go_enter Tryz.func58, Tryz.ntmps58
  go_wp2_with fail
  refine HI.out.mono ?_
  rintro e w1 ⟨i, rfl, hi, rfl⟩
  have hd : decide (0 ≤ i) = memB x l := by
    cases hm : memB x l with
    | true => exact decide_eq_true (hi.2 (memB_iff.1 hm))
    | false => exact decide_eq_false (fun h => by have := memB_iff.2 (hi.1 h); rw [hm] at this; cases this)
  have HD := Lib.hid hd
  clear hi hd
  go_wp2
  go_ret
  exact ⟨by rw [← HD.out]; rfl, rfl⟩

/-- A literal. -/
def litB (x : ByteArray) : Bool := decide (vE x = 0) || decide (Nm.kind (bl x) ≠ 0)
theorem islit_any (x : ByteArray) (w : World) (hx : x.size ≤ 140737488355300) :
    Calls Tryz.prog 57 #[.string x] w fun e w' => e = .returned (.bool (litB x)) ∧ Below w.heap.size w w' := by
  have HV := Lib.hid (value_any x w hx)
  have HK := Lib.hid (fun w => kind_any x w (by omega))
  by_cases h0 : vE x = 0
  · have hl : litB x = true := by unfold litB; rw [decide_eq_true h0]; rfl
    have HL := Lib.hid hl
    rw [h0] at HV
    clear h0 hl
    go_enter Tryz.func57, Tryz.ntmps57
    go_wp2_with fail
    refine HV.out.mono ?_
    rintro e w1 ⟨rfl, b1⟩
    go_wp2
    go_ret
    exact ⟨by rw [HL.out]; rfl, b1⟩
  · have hl : litB x = decide (Nm.kind (bl x) ≠ 0) := by unfold litB; rw [decide_eq_false h0]; rfl
    have HL := Lib.hid hl
    have t0 : (vE x == 0) = false := beq_eq_false_iff_ne.2 h0
    generalize vE x = V at HV t0
    generalize Nm.kind (bl x) = K at HK HL
    clear h0 hl
    go_enter Tryz.func57, Tryz.ntmps57
    go_wp2_with fail
    refine HV.out.mono ?_
    rintro e w1 ⟨rfl, b1⟩
    go_wp2_with fail
    refine (HK.out _).mono ?_
    rintro e w2 ⟨rfl, b2⟩
    have hb := b1.trans (b2.mono b1.size)
    by_cases hK : K = 0
    · subst hK
      go_wp2
      go_ret
      exact ⟨by rw [HL.out]; rfl, hb⟩
    · have t1 : ((K : Int) == 0) = false := beq_eq_false_iff_ne.2 (by omega)
      have t2 : ((K : Int) != 0) = true := by rw [bne, t1]; rfl
      go_wp2
      go_ret
      exact ⟨by rw [HL.out, decide_eq_true hK]; rfl, hb⟩
/-- May a kind have a word? -/
def wf (k : Nat) (x : ByteArray) : Bool := if k = 26 then nameB x else if k = 27 then litB x else memB x (wRow k)
theorem wRow_len (k : Nat) : (wRow k).length ≤ 1000 := by
  unfold wRow
  by_cases h3 : k = 3
  · rw [if_pos h3]; decide
  rw [if_neg h3]
  by_cases h4 : k = 4
  · rw [if_pos h4]; decide
  rw [if_neg h4]
  by_cases h5 : k = 5
  · rw [if_pos h5]; decide
  rw [if_neg h5]
  by_cases h7 : k = 7
  · rw [if_pos h7]; decide
  rw [if_neg h7]
  by_cases h15 : k = 15
  · rw [if_pos h15]; decide
  rw [if_neg h15]
  by_cases h34 : k = 34
  · rw [if_pos h34]; decide
  rw [if_neg h34]
  by_cases h36 : k = 36
  · rw [if_pos h36]; decide
  rw [if_neg h36]
  by_cases h37 : k = 37
  · rw [if_pos h37]; decide
  rw [if_neg h37]
  by_cases h45 : k = 45
  · rw [if_pos h45]; decide
  rw [if_neg h45]
  by_cases h52 : k = 52
  · rw [if_pos h52]; decide
  rw [if_neg h52]
  by_cases h53 : k = 53
  · rw [if_pos h53]; decide
  rw [if_neg h53]
  by_cases h57 : k = 57
  · rw [if_pos h57]; decide
  rw [if_neg h57]
  by_cases h66 : k = 66
  · rw [if_pos h66]; decide
  rw [if_neg h66]
  decide
theorem wordfits_any (k : Nat) (x : ByteArray) (w : World) (hx : x.size ≤ 140737488355300) :
    Calls Tryz.prog 36 #[.int .u8 (k : Int), .string x] w fun e w' => e = .returned (.bool (wf k x)) ∧ Below w.heap.size w w' := by
  unfold wf
  by_cases h26 : k = 26
  · subst h26
    rw [if_pos rfl]
    have HN := Lib.hid (name_any x w)
    go_enter Tryz.func36, Tryz.ntmps36
    go_wp2_with fail
    refine HN.out.mono ?_
    rintro e w1 ⟨rfl, b1⟩
    go_wp2
    go_ret
    exact ⟨rfl, b1⟩
  · rw [if_neg h26]
    by_cases h27 : k = 27
    · subst h27
      rw [if_pos rfl]
      have HN := Lib.hid (islit_any x w hx)
      go_enter Tryz.func36, Tryz.ntmps36
      go_wp2_with fail
      refine HN.out.mono ?_
      rintro e w1 ⟨rfl, b1⟩
      go_wp2
      go_ret
      exact ⟨rfl, b1⟩
    · rw [if_neg h27]
      have HN := Lib.hid (pwords_any k w)
      have HWI : Hid (WI (w.alloc (.cells (wCells (wRow k)) 9)) w.heap.size (wRow k)) := Lib.hid (heap_alloc_new w _)
      have HC := Lib.hid (scontains_any w.heap.size (wRow k).length (wRow k) x _ HWI.out (wRow_len k))
      have HB := Lib.hid ((Below.refl w.heap.size w).alloc (Nat.le_refl _) (.cells (wCells (wRow k)) 9))
      have e26 : ((k : Int) == 26) = false := beq_eq_false_iff_ne.2 (by omega)
      have e27 : ((k : Int) == 27) = false := beq_eq_false_iff_ne.2 (by omega)
      clear h26 h27
      generalize w.alloc (.cells (wCells (wRow k)) 9) = w2 at HN HWI HC HB
      generalize memB x (wRow k) = D at HC ⊢
      generalize (wRow k).length = N at HN HC
      go_enter Tryz.func36, Tryz.ntmps36
      go_wp2_with fail
      refine HN.out.mono ?_
      rintro e w1 ⟨rfl, rfl⟩
      go_wp2_with fail
      refine HC.out.mono ?_
      rintro e w3 ⟨rfl, rfl⟩
      go_wp2
      go_ret
      exact ⟨rfl, HB.out⟩
end Go.Proofs.YtklmiabgalanhaaGreatDoor
