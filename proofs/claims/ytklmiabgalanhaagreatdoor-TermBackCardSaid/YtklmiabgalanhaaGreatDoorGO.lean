/- A strings.Builder that the call has made (layer 6): copyCheck and String by the library's contracts, WriteString and WriteByte walked. -/
import Derived.Shelf.Strings.Builder1
import Derived.Test.YtklmiabgalanhaaGreatDoorGN
import Derived.Test.YtklmiabgalanhaaGreatDoorGL
import Derived.Test.YtklmiabgalanhaaGreatDoorBulk
import Derived.Test.YtklmiabgalanhaaGreatDoorGD
import Derived.Test.YtklmiabgalanhaaGreatDoorGA
namespace Go.Proofs.YtklmiabgalanhaaGreatDoor
open Go.Shelf Go.RowKit Em
set_option maxRecDepth 100000
set_option linter.unusedVariables false
set_option linter.unusedSimpArgs false

def strRen : Go.Shelf.Ren := ⟨fun | 169 => 46 | n => n, fun | 70 => 55 | 9 => 9 | 0 => 0 | 72 => 58 | 37 => 56 | 127 => 85 | 3 => 3 | 5 => 5 | n => n, fun | n => n⟩
theorem strLays : Go.Proofs.Lays.n169 Tryz.prog strRen := {
  mixed := by kernel_rfl
  f169 := Tryz.func46.trans (congrArg some (by kernel_rfl))
  t0 := Tryz.underlying0
  a0 := Tryz.isAgg0
  z0 := Tryz.sizeOf0
  v0 := Tryz.zeroValue0
  t3 := Tryz.underlying3
  a3 := Tryz.isAgg3
  z3 := Tryz.sizeOf3
  v3 := Tryz.zeroValue3
  t9 := Tryz.underlying9
  a9 := Tryz.isAgg9
  z9 := Tryz.sizeOf9
  v9 := Tryz.zeroValue9
  t37 := Tryz.underlying56
  a37 := Tryz.isAgg56
  z37 := Tryz.sizeOf56
  v37 := Tryz.zeroValue56
  t70 := Tryz.underlying55
  a70 := Tryz.isAgg55
  z70 := Tryz.sizeOf55
  v70 := Tryz.zeroValue55
  t72 := Tryz.underlying58
  a72 := Tryz.isAgg58
  z72 := Tryz.sizeOf58
  v72 := Tryz.zeroValue58
  t127 := Tryz.underlying85
  a127 := Tryz.isAgg85
  z127 := Tryz.sizeOf85
  v127 := Tryz.zeroValue85 }
theorem strExtra : Builder.Extra Tryz.prog strRen := {
  sizeBuilder := by kernel_rfl
  liesBuilder := by kernel_rfl
  t5 := Tryz.underlying5
  a5 := Tryz.isAgg5
  z5 := Tryz.sizeOf5
  v5 := Tryz.zeroValue5
  infoByte := by kernel_rfl
  cellsByte := by kernel_rfl
  sizeByte := by kernel_rfl
  neB5 := by decide }

/-- String, of whatever the builder holds. -/
theorem builder_string (B b : Nat) (l : List UInt8) (w : World) (h : Lib.IsBuilder 58 5 B b (Lib.byteCells l) w) (hBw : B ≤ w.heap.size) :
    Calls Tryz.prog 46 #[.pointer (some ⟨b, 0, none⟩)] w fun e w' => e = .returned (.string ⟨l.toArray⟩) ∧ Below B w w' := Any.Builder_String_any strLays strExtra B b l w h hBw

def chkRen : Go.Shelf.Ren := ⟨fun | 240 => 65 | 276 => 87 | n => n, fun | 70 => 55 | 9 => 9 | 0 => 0 | 72 => 58 | 37 => 56 | 4 => 4 | 20 => 20 | 164 => 102 | 5 => 5 | n => n, fun | n => n⟩
theorem chkLays : Go.Proofs.Lays.n240 Tryz.prog chkRen := {
  mixed := by kernel_rfl
  f240 := Tryz.func65.trans (congrArg some (by kernel_rfl))
  f276 := Tryz.func87.trans (congrArg some (by kernel_rfl))
  t0 := Tryz.underlying0
  a0 := Tryz.isAgg0
  z0 := Tryz.sizeOf0
  v0 := Tryz.zeroValue0
  t4 := Tryz.underlying4
  a4 := Tryz.isAgg4
  z4 := Tryz.sizeOf4
  v4 := Tryz.zeroValue4
  t9 := Tryz.underlying9
  a9 := Tryz.isAgg9
  z9 := Tryz.sizeOf9
  v9 := Tryz.zeroValue9
  t20 := Tryz.underlying20
  a20 := Tryz.isAgg20
  z20 := Tryz.sizeOf20
  v20 := Tryz.zeroValue20
  t70 := Tryz.underlying55
  a70 := Tryz.isAgg55
  z70 := Tryz.sizeOf55
  v70 := Tryz.zeroValue55
  t72 := Tryz.underlying58
  a72 := Tryz.isAgg58
  z72 := Tryz.sizeOf58
  v72 := Tryz.zeroValue58
  t164 := Tryz.underlying102
  a164 := Tryz.isAgg102
  z164 := Tryz.sizeOf102
  v164 := Tryz.zeroValue102 }
theorem chkExtra : Builder.X72 Tryz.prog chkRen := {
  sizeBuilder := by kernel_rfl
  liesBuilder := by kernel_rfl }

theorem check_any (B b : Nat) (bs : List Value) (w : World) (h : Lib.IsBuilder 58 5 B b bs w) :
    Calls Tryz.prog 65 #[.pointer (some ⟨b, 0, none⟩)] w fun e w' => e = .returned (.tuple #[]) ∧ Lib.BuilderAt 58 5 B b (.pointer (some ⟨b, 0, none⟩)) bs w' ∧ Below B w w' := Any.Builder_copyCheck chkLays chkExtra B b bs w h

theorem builder_write (B b : Nat) (bs : List Value) (s : ByteArray) (w : World) (h : Lib.IsBuilder 58 5 B b bs w) (hlen : bs.length + s.size ≤ 140737488355328) (hBw : B ≤ w.heap.size) :
    Calls Tryz.prog 43 #[.pointer (some ⟨b, 0, none⟩), .string s] w fun e w' => e = .returned (.tuple #[.int .i64 s.size, .nilIface]) ∧ Lib.IsBuilder 58 5 B b (bs ++ Lib.strCells s) w' ∧ Below B w w' := by
  obtain ⟨i0, hi, hz0, hz1, hz2⟩ := info_parts info_u8
  go_enter Tryz.func43, Tryz.ntmps43
  go_wp2_with fail
  refine (check_any B b bs _ h).mono ?_
  rintro e w1 ⟨rfl, h1, hb1⟩
  obtain ⟨hB, v, hbk, hown, hne⟩ := h1
  have c0 : w1.cell? ⟨b, 0, none⟩ = some (.pointer (some ⟨b, 0, none⟩)) := by rw [Lib.cell_of_heap hbk]; rfl
  have c1 : w1.cell? ⟨b, 1, none⟩ = some v := by rw [Lib.cell_of_heap hbk]; rfl
  go_wp2_with (at_builtin; refine Lib.wpList_append_own_string _ rfl _ _ 56 9 rfl B 5 i0 Tryz.underlying56 Tryz.underlying9 hi hz0 hz1 hz2 _ _ _ rfl hown s rfl ?c3 ?c4 ?c5 ?_)
  case c3 => unfold maxLen; omega
  case c4 => omega
  case c5 => have := hb1.size; omega
  intro v' w2 hown' hgrow _
  have hlt : b < w1.heap.size := Lib.BuilderAt.lt ⟨hB, v, hbk, hown, hne⟩
  have hb2 : w2.heap[b]? = some (.cells #[.pointer (some ⟨b, 0, none⟩), v] 58 (0, 0)) := by
    rw [hgrow.block b hlt (fun e => hne e.symm)]
    exact hbk
  have d0 : w2.cell? ⟨b, 0, none⟩ = some (.pointer (some ⟨b, 0, none⟩)) := by rw [Lib.cell_of_heap hb2]; rfl
  have d1 : w2.cell? ⟨b, 1, none⟩ = some v := by rw [Lib.cell_of_heap hb2]; rfl
  have f1 : w2.frozen? ⟨b, 1, none⟩ = false := Lib.frozen_of_heap hb2 1
  obtain ⟨ao, n', cap, rfl⟩ : ∃ ao n' cap, v' = .slice ao n' cap := by
    rcases hown'.2 with ⟨hv, _⟩ | ⟨g, cap, cur, hv, _⟩
    · exact ⟨_, _, _, hv⟩
    · exact ⟨_, _, _, hv⟩
  go_wp2
  go_ret2
  refine ⟨rfl, .inr ?_, ?_⟩
  · exact Lib.BuilderAt.put (T := 58) (e := 5) hB hb2 (bs' := bs ++ Lib.strCells s) (by simpa [Lib.strCells_length] using hown') (by decide)
  · exact (hb1.grown hgrow (by have := hb1.size; omega) (fun k hk => (hown.lt k hk).1)).setCell (p := ⟨b, 1, none⟩) hB _

theorem builder_byte (B b : Nat) (bs : List Value) (C : Int) (w : World) (h : Lib.IsBuilder 58 5 B b bs w) (hlen : bs.length + 1 ≤ 140737488355328) (hBw : B ≤ w.heap.size) :
    Calls Tryz.prog 42 #[.pointer (some ⟨b, 0, none⟩), .int .u8 C] w fun e w' => e = .returned .nilIface ∧ Lib.IsBuilder 58 5 B b (bs ++ [.int .u8 C]) w' ∧ Below B w w' := by
  obtain ⟨i0, hi, hz0, hz1, hz2⟩ := info_parts info_u8
  go_enter Tryz.func42, Tryz.ntmps42
  go_wp2_with fail
  refine (check_any B b bs _ h).mono ?_
  rintro e w1 ⟨rfl, h1, hb1⟩
  obtain ⟨hB, v, hbk, hown, hne⟩ := h1
  have c0 : w1.cell? ⟨b, 0, none⟩ = some (.pointer (some ⟨b, 0, none⟩)) := by rw [Lib.cell_of_heap hbk]; rfl
  have c1 : w1.cell? ⟨b, 1, none⟩ = some v := by rw [Lib.cell_of_heap hbk]; rfl
  have hlt : b < w1.heap.size := Lib.BuilderAt.lt ⟨hB, v, hbk, hown, hne⟩
  have hoa := hown.alloc (.cells #[.int .u8 C] 5)
  have hba : (w1.alloc (.cells #[.int .u8 C] 5)).heap[b]? = some (.cells #[.pointer (some ⟨b, 0, none⟩), v] 58 (0, 0)) := (Below.heap_alloc w1 _ b hlt).trans hbk
  have hB1 := hb1.size
  go_wp2_with (at_builtin; refine wpList_append_own _ rfl _ _ 56 rfl B 5 i0 (.int .u8 0) 1 1 Tryz.underlying56 hi hz0 hz1 hz2 rfl (by decide) _ _ _ rfl hoa ⟨w1.heap.size, 0, none⟩ 1 1 [.int .u8 C] rfl rfl ?c1 ?c2 ?c3 ?c4 ?c5 ?_)
  case c1 => exact one_cell2
  case c2 => intro u hu; simp at hu; subst hu; rfl
  case c3 => unfold maxLen; omega
  case c4 => omega
  case c5 => simp; omega
  intro v' w2 hown' hgrow _
  have hb2 : w2.heap[b]? = some (.cells #[.pointer (some ⟨b, 0, none⟩), v] 58 (0, 0)) := by
    rw [hgrow.block b (by simp; omega) (fun e => hne e.symm)]
    exact hba
  have d0 : w2.cell? ⟨b, 0, none⟩ = some (.pointer (some ⟨b, 0, none⟩)) := by rw [Lib.cell_of_heap hb2]; rfl
  have d1 : w2.cell? ⟨b, 1, none⟩ = some v := by rw [Lib.cell_of_heap hb2]; rfl
  have f1 : w2.frozen? ⟨b, 1, none⟩ = false := Lib.frozen_of_heap hb2 1
  obtain ⟨x', cap, rfl⟩ := own_slice hown'
  have hl : (bs ++ [Value.int .u8 C]).length = bs.length + 1 := by simp
  go_wp2
  go_ret
  refine ⟨rfl, .inr ?_, ?_⟩
  · exact Lib.BuilderAt.put (T := 58) (e := 5) hB hb2 (bs' := bs ++ [Value.int .u8 C]) (by rw [hl]; exact hown') (by decide)
  · exact ((hb1.alloc (Nat.le_trans hBw hB1) _).grown hgrow (by simp; omega) (fun k hk => (hown.lt k hk).1)).setCell (p := ⟨b, 1, none⟩) hB _
end Go.Proofs.YtklmiabgalanhaaGreatDoor

/- Contract of quoted.Quote. -/
namespace Go.Proofs.YtklmiabgalanhaaGreatDoor
open Go.Shelf Go.RowKit Em
set_option maxRecDepth 100000
set_option linter.unusedVariables false
set_option linter.unusedSimpArgs false

def hxN (k : Nat) : Nat := if k < 10 then 48 + k else 87 + k
theorem hx_at : ∀ k : Fin 16, byN ⟨#[48, 49, 50, 51, 52, 53, 54, 55, 56, 57, 97, 98, 99, 100, 101, 102]⟩ k.1 = hxN k.1 := by decide +kernel

/-- What a byte is put as. -/
def qb (c : UInt8) : List UInt8 :=
  if c.toNat = 34 ∨ c.toNat = 92 then [92, c] else if c.toNat = 10 then [92, 110] else if 32 ≤ c.toNat ∧ c.toNat ≤ 126 then [c]
  else [92, 120, UInt8.ofNat (hxN (c.toNat / 16)), UInt8.ofNat (hxN (c.toNat % 16))]
def qs (l : List UInt8) : List UInt8 := l.flatMap qb
def quoteL (l : List UInt8) : List UInt8 := 34 :: (qs l ++ [34])

theorem qb_len (c : UInt8) : (qb c).length ≤ 4 := by
  unfold qb
  repeat' split
  all_goals simp
theorem qs_len : ∀ l : List UInt8, (qs l).length ≤ 4 * l.length
  | [] => by simp [qs]
  | c :: l => by
    have h1 := qb_len c
    have h2 := qs_len l
    unfold qs at *
    rw [List.flatMap_cons, List.length_append, List.length_cons]; omega
theorem qs_snoc (l : List UInt8) (c : UInt8) : qs (l ++ [c]) = qs l ++ qb c := by simp [qs]

theorem take_snoc' (s : ByteArray) (k : Nat) (h : k < s.size) : ∃ c : UInt8, (bl s).take (k + 1) = (bl s).take k ++ [c] ∧ c.toNat = byN s k := by
  have hl : k < (bl s).length := by rw [bl_size]; exact h
  refine ⟨(bl s)[k], List.take_succ_eq_append_getElem hl, ?_⟩
  have := bl_get s k h
  rw [List.getElem?_eq_getElem hl] at this
  rw [Option.some.inj this, byN_get s k h]

theorem bc_snoc (l : List UInt8) (n : Nat) (h : n < 256) : Lib.byteCells l ++ [.int .u8 (n : Int)] = Lib.byteCells (l ++ [UInt8.ofNat n]) := by
  unfold Lib.byteCells
  rw [List.map_append, List.map_cons, List.map_nil, Um.toNat_ofNat h]
theorem bc_str (l : List UInt8) (x : ByteArray) : Lib.byteCells l ++ Lib.strCells x = Lib.byteCells (l ++ bl x) := by
  unfold Lib.byteCells Lib.strCells
  rw [List.map_append]; rfl
theorem bc_len (l : List UInt8) : (Lib.byteCells l).length = l.length := by simp [Lib.byteCells]

set_option maxRecDepth 100000 in
set_option maxHeartbeats 8000000 in
theorem quote_any (s : ByteArray) (w : World) (hs : s.size ≤ 1048576) :
    Calls Tryz.prog 45 #[.string s] w fun e w' => e = .returned (.string (txt (quoteL (bl s)))) ∧ Below w.heap.size w w' := by
  have hb0 : Lib.IsBuilder 58 5 w.heap.size w.heap.size [] (w.alloc (.cells #[.pointer none, .slice none 0 0] 58)) := Lib.fresh_isBuilder _ _ _
  have hb1 : Below w.heap.size w (w.alloc (.cells #[.pointer none, .slice none 0 0] 58)) := (Below.refl _ _).alloc (Nat.le_refl _) _
  have hW0 := builder_byte w.heap.size w.heap.size [] 34 _ hb0 (by simp) hb1.size
  have HW0 := Lib.hid hW0
  have Hb1 := Lib.hid hb1
  clear hb0 hW0 hb1
  go_enter Tryz.func45, Tryz.ntmps45
  go_wp2_with fail
  refine HW0.out.mono ?_
  rintro e w0 ⟨rfl, i0, b0⟩
  have hi0 : Lib.IsBuilder 58 5 w.heap.size w.heap.size (Lib.byteCells [34]) w0 := i0
  have Hi0 := Lib.hid hi0
  have Hb0 := Lib.hid (Hb1.out.trans b0)
  clear i0 b0 hi0
  go_wp2
  go_loopw [9] (fun i wr => ∃ k : Nat, k ≤ s.size ∧ i = .int .i64 k ∧ Lib.IsBuilder 58 5 w.heap.size w.heap.size (Lib.byteCells (34 :: qs ((bl s).take k))) wr ∧ Below w.heap.size w wr) (fun i _ => s.size - (intOf i).toNat)
  case atStart => exact ⟨0, by omega, rfl, Hi0.out, Hb0.out⟩
  case round =>
    obtain ⟨k, hk, rfl, hI, hb⟩ := hrel
    have hlen := qs_len ((bl s).take k)
    rw [List.length_take, bl_size] at hlen
    have hbs := hb.size
    have Hb := Lib.hid hb
    clear hb
    by_cases hlt : k < s.size
    · obtain ⟨c, hsn, hcB⟩ := take_snoc' s k hlt
      have e1 := byN_get s k hlt
      have l1 := byN_lt s k
      have b0 : (0 : Int) ≤ (k : Int) := by omega
      have b1 : (k : Int) < (s.size : Int) := by omega
      have hnext : 34 :: qs ((bl s).take (k + 1)) = (34 :: qs ((bl s).take k)) ++ qb c := by rw [hsn, qs_snoc]; rfl
      have HN := Lib.hid hnext
      have hL : (34 :: qs ((bl s).take k)).length ≤ 4 * k + 1 := by rw [List.length_cons]; omega
      clear hnext hsn hlen
      generalize 34 :: qs ((bl s).take k) = L at hI HN hL
      rw [← hcB] at e1 l1
      have hq : qb c = if c.toNat = 34 ∨ c.toNat = 92 then [92, c] else if c.toNat = 10 then [92, 110] else if 32 ≤ c.toNat ∧ c.toNat ≤ 126 then [c] else [92, 120, UInt8.ofNat (hxN (c.toNat / 16)), UInt8.ofNat (hxN (c.toNat % 16))] := rfl
      have hself : UInt8.ofNat c.toNat = c := by simp
      clear hcB
      by_cases h34 : c.toNat = 34 ∨ c.toNat = 92
      · rw [if_pos h34] at hq
        have hp1 := builder_byte w.heap.size w.heap.size (Lib.byteCells L) 92 wr hI (by rw [bc_len]; omega) hbs
        have HQ := Lib.hid hq
        have Hself := Lib.hid hself
        clear hI hq hself
        have ways : c.toNat = 34 ∨ c.toNat = 92 := h34
        obtain ⟨C, hC⟩ : ∃ C, c.toNat = C := ⟨_, rfl⟩
        rw [hC] at e1 l1 ways Hself
        clear h34 hC
        rcases ways with rfl | rfl
        · skip
          go_wp2_with fail
          refine hp1.mono ?_
          rintro e w1 ⟨rfl, i1, b1⟩
          have hp2 := builder_byte w.heap.size w.heap.size _ 34 w1 i1 (by rw [List.length_append, bc_len]; simp; omega) (by have := b1.size; omega)
          have Hb1 := Lib.hid b1
          clear hp1 i1 b1
          go_wp2_with fail
          refine hp2.mono ?_
          rintro e w2 ⟨rfl, i2, b2⟩
          have hfin : Lib.IsBuilder 58 5 w.heap.size w.heap.size (Lib.byteCells (34 :: qs ((bl s).take (k + 1)))) w2 := by
            rw [HN.out, HQ.out]
            have e1 : Lib.byteCells L ++ [Value.int .u8 92] = Lib.byteCells (L ++ [92]) := bc_snoc L 92 (by omega)
            have e2 : Lib.byteCells (L ++ [92]) ++ [Value.int .u8 34] = Lib.byteCells ((L ++ [92]) ++ [UInt8.ofNat 34]) := bc_snoc (L ++ [92]) 34 (by omega)
            rw [e1, e2, Hself.out, List.append_assoc] at i2
            exact i2
          have Hfin := Lib.hid hfin
          have Hb2 := Lib.hid ((Hb.out.trans (Hb1.out.mono (Nat.le_refl _))).trans b2)
          clear hp2 i2 b2 hfin
          go_wp2
          go_roundw
          case rel => exact ⟨k + 1, by omega, by go_num, Hfin.out, Hb2.out⟩
          case measure => simp [intOf]; omega
        · skip
          go_wp2_with fail
          refine hp1.mono ?_
          rintro e w1 ⟨rfl, i1, b1⟩
          have hp2 := builder_byte w.heap.size w.heap.size _ 92 w1 i1 (by rw [List.length_append, bc_len]; simp; omega) (by have := b1.size; omega)
          have Hb1 := Lib.hid b1
          clear hp1 i1 b1
          go_wp2_with fail
          refine hp2.mono ?_
          rintro e w2 ⟨rfl, i2, b2⟩
          have hfin : Lib.IsBuilder 58 5 w.heap.size w.heap.size (Lib.byteCells (34 :: qs ((bl s).take (k + 1)))) w2 := by
            rw [HN.out, HQ.out]
            have e1 : Lib.byteCells L ++ [Value.int .u8 92] = Lib.byteCells (L ++ [92]) := bc_snoc L 92 (by omega)
            have e2 : Lib.byteCells (L ++ [92]) ++ [Value.int .u8 92] = Lib.byteCells ((L ++ [92]) ++ [UInt8.ofNat 92]) := bc_snoc (L ++ [92]) 92 (by omega)
            rw [e1, e2, Hself.out, List.append_assoc] at i2
            exact i2
          have Hfin := Lib.hid hfin
          have Hb2 := Lib.hid ((Hb.out.trans (Hb1.out.mono (Nat.le_refl _))).trans b2)
          clear hp2 i2 b2 hfin
          go_wp2
          go_roundw
          case rel => exact ⟨k + 1, by omega, by go_num, Hfin.out, Hb2.out⟩
          case measure => simp [intOf]; omega
      · rw [if_neg h34] at hq
        have d34 : ((c.toNat : Int) == 34) = false := beq_eq_false_iff_ne.2 (by omega)
        have d92 : ((c.toNat : Int) == 92) = false := beq_eq_false_iff_ne.2 (by omega)
        by_cases h10 : c.toNat = 10
        · rw [if_pos h10] at hq
          have hp1 := builder_write w.heap.size w.heap.size (Lib.byteCells L) ⟨#[92, 110]⟩ wr hI (by rw [bc_len]; show L.length + 2 ≤ _; omega) hbs
          rw [h10] at e1
          have HQ := Lib.hid hq
          clear hI hq hself h34 h10 d34 d92 l1
          go_wp2_with fail
          refine hp1.mono ?_
          rintro e w2 ⟨rfl, i2, b2⟩
          have hfin : Lib.IsBuilder 58 5 w.heap.size w.heap.size (Lib.byteCells (34 :: qs ((bl s).take (k + 1)))) w2 := by
            rw [HN.out, HQ.out]
            rw [bc_str] at i2
            exact i2
          have Hfin := Lib.hid hfin
          have Hb2 := Lib.hid (Hb.out.trans b2)
          clear hp1 i2 b2 hfin
          go_wp2
          go_roundw
          case rel => exact ⟨k + 1, by omega, by go_num, Hfin.out, Hb2.out⟩
          case measure => simp [intOf]; omega
        · rw [if_neg h10] at hq
          have d10 : ((c.toNat : Int) == 10) = false := beq_eq_false_iff_ne.2 (by omega)
          by_cases hpr : 32 ≤ c.toNat ∧ c.toNat ≤ 126
          · rw [if_pos hpr] at hq
            have hp1 := builder_byte w.heap.size w.heap.size (Lib.byteCells L) c.toNat wr hI (by rw [bc_len]; omega) hbs
            have p1 : (32 : Int) ≤ (c.toNat : Int) := by omega
            have p2 : (c.toNat : Int) ≤ 126 := by omega
            have HQ := Lib.hid hq
            have Hself := Lib.hid hself
            have Hl1 := Lib.hid l1
            clear hI hq hself h34 h10 hpr
            obtain ⟨C, hC⟩ : ∃ C, c.toNat = C := ⟨_, rfl⟩
            rw [hC] at e1 l1 d34 d92 d10 p1 p2 hp1
            have HC := Lib.hid hC
            clear hC
            go_wp2_with fail
            refine hp1.mono ?_
            rintro e w2 ⟨rfl, i2, b2⟩
            have hfin : Lib.IsBuilder 58 5 w.heap.size w.heap.size (Lib.byteCells (34 :: qs ((bl s).take (k + 1)))) w2 := by
              rw [HN.out, HQ.out]
              rw [bc_snoc L C l1, ← HC.out, Hself.out] at i2
              exact i2
            have Hfin := Lib.hid hfin
            have Hb2 := Lib.hid (Hb.out.trans b2)
            clear hp1 i2 b2 hfin
            go_wp2
            go_roundw
            case rel => exact ⟨k + 1, by omega, by go_num, Hfin.out, Hb2.out⟩
            case measure => simp [intOf]; omega
          · rw [if_neg hpr] at hq
            have hp1 := builder_write w.heap.size w.heap.size (Lib.byteCells L) ⟨#[92, 120]⟩ wr hI (by rw [bc_len]; show L.length + 2 ≤ _; omega) hbs
            have HQ := Lib.hid hq
            obtain ⟨C, hC⟩ : ∃ C, c.toNat = C := ⟨_, rfl⟩
            rw [hC] at e1 l1 d34 d92 d10 hpr HQ
            clear hI hq hself h34 h10 hC
            have p1 : ¬ (32 : Int) ≤ (C : Int) ∨ ((32 : Int) ≤ (C : Int) ∧ ¬ (C : Int) ≤ 126) := by omega
            clear hpr
            have hA : C / 16 < 16 := by omega
            have hB : C % 16 < 16 := by omega
            have x1 := (byN_get ⟨#[48, 49, 50, 51, 52, 53, 54, 55, 56, 57, 97, 98, 99, 100, 101, 102]⟩ (C / 16) hA).trans (hx_at ⟨C / 16, hA⟩)
            have x2 := (byN_get ⟨#[48, 49, 50, 51, 52, 53, 54, 55, 56, 57, 97, 98, 99, 100, 101, 102]⟩ (C % 16) hB).trans (hx_at ⟨C % 16, hB⟩)
            have y1 : hxN (C / 16) < 256 := by unfold hxN; split <;> omega
            have y2 : hxN (C % 16) < 256 := by unfold hxN; split <;> omega
            simp only [] at x1 x2
            generalize hxN (C / 16) = X1 at x1 y1 HQ
            generalize hxN (C % 16) = X2 at x2 y2 HQ
            rcases p1 with p1 | ⟨p1, p2⟩
            all_goals (
              go_wp2_with fail
              refine hp1.mono ?_
              rintro e w1 ⟨rfl, i1, b1⟩
              rw [bc_str] at i1
              have hl2 : (L ++ bl ⟨#[92, 120]⟩).length = L.length + 2 := by rw [List.length_append]; rfl
              have hp2 := builder_byte w.heap.size w.heap.size _ (X1 : Int) w1 i1 (by rw [bc_len, hl2]; omega) (by have := b1.size; omega)
              have Hb1 := Lib.hid b1
              have hs1 := b1.size
              clear hp1 i1 b1
              go_wp2_with fail
              refine hp2.mono ?_
              rintro e w2 ⟨rfl, i2, b2⟩
              rw [bc_snoc _ X1 y1] at i2
              have hl3 : (L ++ bl ⟨#[92, 120]⟩ ++ [UInt8.ofNat X1]).length = L.length + 3 := by rw [List.length_append, hl2]; rfl
              have hp3 := builder_byte w.heap.size w.heap.size _ (X2 : Int) w2 i2 (by rw [bc_len, hl3]; omega) (by have := b2.size; omega)
              have Hb2 := Lib.hid b2
              clear hp2 i2 b2
              go_wp2_with fail
              refine hp3.mono ?_
              rintro e w3 ⟨rfl, i3, b3⟩
              rw [bc_snoc _ X2 y2] at i3
              have hfin : Lib.IsBuilder 58 5 w.heap.size w.heap.size (Lib.byteCells (34 :: qs ((bl s).take (k + 1)))) w3 := by
                rw [HN.out, HQ.out]
                have e9 : L ++ bl ⟨#[92, 120]⟩ ++ [UInt8.ofNat X1] ++ [UInt8.ofNat X2] = L ++ [92, 120, UInt8.ofNat X1, UInt8.ofNat X2] := by
                  have : bl ⟨#[92, 120]⟩ = [92, 120] := rfl
                  rw [this]; simp
                rw [e9] at i3
                exact i3
              have Hfin := Lib.hid hfin
              have Hb4 := Lib.hid (((Hb.out.trans Hb1.out).trans Hb2.out).trans b3)
              clear hp3 i3 b3 hfin
              go_wp2
              go_roundw
              case rel => exact ⟨k + 1, by omega, by go_num, Hfin.out, Hb4.out⟩
              case measure => simp [intOf]; omega)
    · obtain rfl : k = s.size := by omega
      have ht : (bl s).take s.size = bl s := List.take_of_length_le (by rw [bl_size]; omega)
      rw [ht] at hI hlen
      have hp1 := builder_byte w.heap.size w.heap.size _ 34 wr hI (by rw [bc_len, List.length_cons]; have := qs_len (bl s); rw [bl_size] at this; omega) hbs
      clear hI
      go_wp2_with fail
      refine hp1.mono ?_
      rintro e w1 ⟨rfl, i1, b1⟩
      have hsn : Lib.byteCells (34 :: qs (bl s)) ++ [Value.int .u8 34] = Lib.byteCells (quoteL (bl s)) := bc_snoc _ 34 (by omega)
      rw [hsn] at i1
      have hstr := builder_string w.heap.size w.heap.size _ w1 i1 (by have := b1.size; omega)
      have Hb1 := Lib.hid (Hb.out.trans b1)
      clear hp1 i1 b1 hsn
      go_wp2_with fail
      refine hstr.mono ?_
      rintro e w2 ⟨rfl, b2⟩
      have Hb2 := Lib.hid (Hb1.out.trans b2)
      go_wp2
      go_ret
      exact ⟨rfl, Hb2.out⟩
end Go.Proofs.YtklmiabgalanhaaGreatDoor

/- What is quoted is read again: plain mathematics of QuLawD. -/
namespace Go.Proofs.YtklmiabgalanhaaGreatDoor
open Go.Shelf Go.RowKit Em
set_option linter.unusedVariables false
set_option linter.unusedSimpArgs false

theorem dg_hx : ∀ k : Fin 16, Nm.dg (UInt8.ofNat (hxN k.1)) = k.1 := by decide +kernel

theorem strF_qb (f : Nat) (c : UInt8) (y l r : List UInt8) (ih : Qm.strF f y = some (l, r)) : Qm.strF (f + 1) (qb c ++ y) = some (c :: l, r) := by
  unfold qb
  have self : UInt8.ofNat c.toNat = c := by simp
  by_cases h1 : c.toNat = 34 ∨ c.toNat = 92
  · rw [if_pos h1]
    have he : Qm.esc 34 (c :: y) = some (c.toNat, true, y) := by rw [Qm.esc, if_pos h1]
    show Qm.strF (f + 1) (92 :: c :: y) = _
    rw [Qm.strF, if_neg (by decide), if_pos (by decide), he]
    simp only [ih, Option.map_some, Qm.sayS, if_pos rfl, self]
    rfl
  · rw [if_neg h1]
    by_cases h2 : c.toNat = 10
    · rw [if_pos h2]
      have he : Qm.esc 34 (110 :: y) = some (10, true, y) := by
        rw [Qm.esc, if_neg (by decide), if_neg (by decide), if_neg (by decide)]; rfl
      show Qm.strF (f + 1) (92 :: 110 :: y) = _
      rw [Qm.strF, if_neg (by decide), if_pos (by decide), he]
      have hc : c = 10 := UInt8.toNat_inj.1 h2
      subst hc
      simp only [ih, Option.map_some]
      rfl
    · rw [if_neg h2]
      by_cases h3 : 32 ≤ c.toNat ∧ c.toNat ≤ 126
      · rw [if_pos h3]
        show Qm.strF (f + 1) (c :: y) = _
        rw [Qm.strF, if_neg (fun h => h1 (.inl h)), if_neg (fun h => h1 (.inr h)), if_neg h2, ih]; rfl
      · rw [if_neg h3]
        have hl : c.toNat < 256 := c.toNat_lt
        have d1 := dg_hx ⟨c.toNat / 16, by omega⟩
        have d2 := dg_hx ⟨c.toNat % 16, by omega⟩
        simp only [] at d1 d2
        generalize UInt8.ofNat (hxN (c.toNat / 16)) = u at d1
        generalize UInt8.ofNat (hxN (c.toNat % 16)) = v at d2
        have hn : Qm.numA 16 2 0 (u :: v :: y) = some (c.toNat, y) := by
          rw [Qm.numA, if_pos (by omega), Qm.numA, if_pos (by omega), Qm.numA, d1, d2]
          congr 2
          omega
        have he : Qm.esc 34 (120 :: u :: v :: y) = some (c.toNat, true, y) := by
          rw [Qm.esc, if_neg (by decide), if_neg (by decide), if_pos (by decide)]
          have hw : Qm.wide (120 : UInt8).toNat = 2 := by decide
          rw [hw, hn]
          simp only []
          rw [if_pos (Qm.ok_small hl)]; rfl
        show Qm.strF (f + 1) (92 :: 120 :: u :: v :: y) = _
        rw [Qm.strF, if_neg (by decide), if_pos (by decide), he]
        simp only [ih, Option.map_some, Qm.sayS, if_pos rfl, self]
        rfl

theorem strF_qs : ∀ (l : List UInt8) (f : Nat) (r : List UInt8), l.length < f → Qm.strF f (qs l ++ 34 :: r) = some (l, r)
  | [], f + 1, r, _ => by
    show Qm.strF (f + 1) (34 :: r) = _
    rw [Qm.strF, if_pos (by decide)]
  | [], 0, r, h => by simp at h
  | c :: l, 0, r, h => by simp at h
  | c :: l, f + 1, r, h => by
    have ih := strF_qs l f r (by rw [List.length_cons] at h; omega)
    have e : qs (c :: l) ++ 34 :: r = qb c ++ (qs l ++ 34 :: r) := by simp [qs]
    rw [e]
    exact strF_qb f c _ l r ih

theorem qb_pos (c : UInt8) : 1 ≤ (qb c).length := by
  unfold qb
  repeat' split
  all_goals simp
theorem qs_ge : ∀ l : List UInt8, l.length ≤ (qs l).length
  | [] => by simp
  | c :: l => by
    have h1 := qb_pos c
    have h2 := qs_ge l
    unfold qs at *
    rw [List.flatMap_cons, List.length_append, List.length_cons]; omega

theorem whole_quote (l r : List UInt8) : Qm.whole (quoteL l ++ r) = some (7, l, r) := by
  have e : quoteL l ++ r = 34 :: (qs l ++ 34 :: r) := by unfold quoteL; simp
  have := qs_ge l
  rw [e, Qm.whole34, strF_qs l _ r (by rw [List.length_append]; omega)]; rfl

theorem quoteL_len (l : List UInt8) : (quoteL l).length ≤ 4 * l.length + 2 := by
  have := qs_len l
  unfold quoteL
  rw [List.length_cons, List.length_append, List.length_cons, List.length_nil]; omega

end Go.Proofs.YtklmiabgalanhaaGreatDoor

/- The document's examples; the walks of the laws QuotedFound, QuotedJoins. -/
namespace Go.Proofs.YtklmiabgalanhaaGreatDoor
open Go.Shelf Go.RowKit Em
set_option maxRecDepth 100000
set_option linter.unusedVariables false
set_option linter.unusedSimpArgs false

theorem ex_a : Qm.whole [39, 97, 39] = some (6, [97], []) := by
  rw [Qm.whole39]
  have h1 : Qm.rd [97, 39] = some (97, [39]) := by
    have := Qm.rd_form (c := 97) (Qm.ok_small (by omega)) [39]
    rw [Qm.fm_small (by omega)] at this
    exact this
  have h2 : Qm.rune [97, 39] = some ([97], []) := by
    unfold Qm.rune
    rw [if_neg (by decide), h1]
    simp only [if_neg (show ¬ ((97 : Nat) = 39 ∨ (97 : Nat) = 10) by omega)]
    rw [Qm.close_yes, Qm.fm_small (by omega)]
    rfl
  rw [h2]; rfl
theorem fm_255 : Qm.fm 255 = [195, 191] := by
  rw [Qm.fm_eq, Um.form_list (Qm.ok_small (by omega))]
  decide
theorem ex_b : Qm.whole [39, 92, 51, 55, 55, 39] = some (6, [195, 191], []) := by
  rw [Qm.whole39]
  have h1 : Qm.esc 39 [51, 55, 55, 39] = some (255, true, [39]) := by decide
  have h2 : Qm.rune [92, 51, 55, 55, 39] = some ([195, 191], []) := by
    unfold Qm.rune
    rw [if_pos (by decide)]
    show (match Qm.esc 39 [51, 55, 55, 39] with | some (n, _, r) => Qm.close 39 (Qm.fm n) r | none => none) = _
    rw [h1]
    simp only []
    rw [Qm.close_yes, fm_255]
  rw [h2]; rfl
theorem ex_c : Qm.whole [34, 92, 51, 55, 55, 34] = some (7, [255], []) := by decide
theorem ex_d : txt (quoteL (bl ⟨#[97, 10, 255]⟩)) = ⟨#[34, 97, 92, 110, 92, 120, 102, 102, 34]⟩ := by decide +kernel

theorem bl_b : bl ⟨#[39, 92, 51, 55, 55, 39]⟩ = [39, 92, 51, 55, 55, 39] := rfl
theorem bl_c : bl ⟨#[34, 92, 51, 55, 55, 34]⟩ = [34, 92, 51, 55, 55, 34] := rfl
theorem bl_a : (bl ⟨#[120, 39, 97, 39]⟩).drop 1 = [39, 97, 39] := rfl


end Go.Proofs.YtklmiabgalanhaaGreatDoor

/- Contracts of the reference's Base and number (quoted). -/
namespace Go.Proofs.YtklmiabgalanhaaGreatDoor
open Go.RowKit Em
set_option maxRecDepth 100000
set_option linter.unusedVariables false
set_option linter.unusedSimpArgs false

def upN (k : Nat) : Nat := if k < 10 then 48 + k else 55 + k
def loN (k : Nat) : Nat := if k < 10 then 48 + k else 87 + k
theorem up_at : ∀ k : Fin 16, Um.byt ⟨#[48, 49, 50, 51, 52, 53, 54, 55, 56, 57, 65, 66, 67, 68, 69, 70]⟩ k.1 = upN k.1 := by decide +kernel
theorem lo_at : ∀ k : Fin 16, Um.byt ⟨#[48, 49, 50, 51, 52, 53, 54, 55, 56, 57, 97, 98, 99, 100, 101, 102]⟩ k.1 = loN k.1 := by decide +kernel

theorem base_hit {r : Int} {k : Nat} (hk : k < 16) (h : (upN k : Int) = r ∨ (loN k : Int) = r) : Cm.base r = k := by
  unfold upN loN at h
  unfold Cm.base
  by_cases h10 : k < 10
  · rw [if_pos h10, if_pos h10] at h
    rw [if_pos (by omega)]; omega
  · rw [if_neg h10, if_neg h10] at h
    rw [if_neg (by omega)]
    rcases h with h | h
    · rw [if_pos (by omega)]; omega
    · rw [if_neg (by omega), if_pos (by omega)]; omega

theorem base_none {r : Int} (h : ∀ j, j < 16 → (upN j : Int) ≠ r ∧ (loN j : Int) ≠ r) : Cm.base r = -1 := by
  unfold Cm.base
  rw [if_neg, if_neg, if_neg]
  · intro hr
    have := (h (r - 87).toNat (by omega)).2
    unfold loN at this
    rw [if_neg (by omega)] at this
    omega
  · intro hr
    have := (h (r - 55).toNat (by omega)).1
    unfold upN at this
    rw [if_neg (by omega)] at this
    omega
  · intro hr
    have := (h (r - 48).toNat (by omega)).1
    unfold upN at this
    rw [if_pos (by omega)] at this
    omega

theorem qret_int {k : IntKind} {a b : Int} (h : a = b) : Ending.returned (.int k a) = .returned (.int k b) := by rw [h]

set_option maxRecDepth 100000 in
set_option maxHeartbeats 2000000 in
theorem rbase_any (r : Int) (w : World) :
    Calls Tryz.prog 158 #[.int .i64 r] w fun e w' => e = .returned (.int .i64 (Cm.base r)) ∧ w = w' := by
  go_enter Tryz.func158, Tryz.ntmps158
  go_wp2
  go_loop [5] (fun i => ∃ k : Nat, k ≤ 16 ∧ i = .int .i64 k ∧ ∀ j, j < k → (upN j : Int) ≠ r ∧ (loN j : Int) ≠ r) (fun i => 16 - (intOf i).toNat)
  case atStart => exact ⟨0, by omega, rfl, fun j hj => by omega⟩
  case round =>
    obtain ⟨k, hk, rfl, hno⟩ := hrel
    have Hno := Lib.hid hno
    clear hno
    by_cases hlt : k < 16
    · have e1 := (get_byt ⟨#[48, 49, 50, 51, 52, 53, 54, 55, 56, 57, 65, 66, 67, 68, 69, 70]⟩ k hlt).trans (up_at ⟨k, hlt⟩)
      have e2 := (get_byt ⟨#[48, 49, 50, 51, 52, 53, 54, 55, 56, 57, 97, 98, 99, 100, 101, 102]⟩ k hlt).trans (lo_at ⟨k, hlt⟩)
      have u1 : upN k < 256 := by unfold upN; split <;> omega
      have u2 : loN k < 256 := by unfold loN; split <;> omega
      have b0 : (0 : Int) ≤ (k : Int) := by omega
      have b1 : (k : Int) < 16 := by omega
      have d1 : decide ((k : Int) < 16) = true := by simp; omega
      cases hm : ((upN k : Int) == r) with
      | true =>
        have hfin : Cm.base r = k := base_hit hlt (.inl (beq_iff_eq.1 hm))
        have Hfin := Lib.hid hfin
        clear hfin
        generalize upN k = u at e1 u1 hm
        generalize loN k = v at e2 u2
        go_wp2
        go_ret
        exact ⟨qret_int Hfin.out.symm, rfl⟩
      | false =>
        cases hm2 : ((loN k : Int) == r) with
        | true =>
          have hfin : Cm.base r = k := base_hit hlt (.inr (beq_iff_eq.1 hm2))
          have Hfin := Lib.hid hfin
          clear hfin
          generalize upN k = u at e1 u1 hm
          generalize loN k = v at e2 u2 hm2
          go_wp2
          go_ret
          exact ⟨qret_int Hfin.out.symm, rfl⟩
        | false =>
          have hk2 : ∀ j, j < k + 1 → (upN j : Int) ≠ r ∧ (loN j : Int) ≠ r := by
            intro j hj
            by_cases e : j = k
            · subst e; exact ⟨beq_eq_false_iff_ne.1 hm, beq_eq_false_iff_ne.1 hm2⟩
            · exact Hno.out j (by omega)
          have Hk2 := Lib.hid hk2
          clear hk2 Hno
          generalize upN k = u at e1 u1 hm
          generalize loN k = v at e2 u2 hm2
          go_wp2
          go_round
          case rel => exact ⟨k + 1, by omega, by go_num, Hk2.out⟩
          case measure => simp [intOf]; omega
    · have hfin : Cm.base r = -1 := base_none fun j hj => Hno.out j (by omega)
      have Hfin := Lib.hid hfin
      clear hfin
      go_wp2
      go_ret
      exact ⟨qret_int Hfin.out.symm, rfl⟩

theorem rbase_byte (n : Nat) (w : World) :
    Calls Tryz.prog 158 #[.int .i64 n] w fun e w' => e = .returned (.int .i64 (bsI n)) ∧ w = w' := by
  have h := rbase_any n w
  have e : Cm.base (n : Int) = bsI n := by
    unfold Cm.base bsI
    repeat' split
    all_goals omega
  rw [e] at h
  exact h

/-- What the reference's number answers. -/
def rnumV (b k : Nat) (l : List UInt8) : Int := match Qm.numA b k 0 l with | some (n, _) => (n : Int) | none => -1
theorem numA_short {b : Nat} : ∀ (k v : Nat) (l : List UInt8), l.length < k → Qm.numA b k v l = none
  | 0, _, _, h => absurd h (Nat.not_lt_zero _)
  | k + 1, v, [], _ => rfl
  | k + 1, v, c :: l, h => by
    rw [Qm.numA]
    split
    · exact numA_short k _ l (by rw [List.length_cons] at h; omega)
    · rfl

theorem pow_le_32 {b i : Nat} (hb : b ≤ 16) (hi : i ≤ 8) : b ^ i ≤ 4294967296 :=
  Nat.le_trans (Nat.pow_le_pow_left hb i) (Nat.le_trans (Nat.pow_le_pow_right (by decide) hi) (by decide))

set_option maxHeartbeats 2000000 in
theorem rnum_any (s : ByteArray) (p k b : Nat) (w : World) (hp : p ≤ s.size) (hk : k ≤ 8) (hb : b = 8 ∨ b = 16) (hs : s.size ≤ 4611686018427387000) :
    Calls Tryz.prog 142 #[.string s, .int .i64 p, .int .i64 k, .int .i64 b] w fun e w' => e = .returned (.int .i64 (rnumV b k ((bl s).drop p))) ∧ w = w' := by
  by_cases hlong : s.size < p + k
  · have e1 : rnumV b k ((bl s).drop p) = -1 := by
      unfold rnumV
      rw [numA_short k 0 _ (by rw [List.length_drop, bl_size]; omega)]
    have c1 : (s.size : Int) - (p : Int) < (k : Int) := by omega
    have q1 : IntKind.i64.wrap ((s.size : Int) - (p : Int)) = (s.size : Int) - (p : Int) := IntWalk.i64_in _ (by omega)
    rw [e1]
    clear e1 hlong hb
    go_enter Tryz.func142, Tryz.ntmps142
    go_wp2
    go_ret
    exact ⟨rfl, rfl⟩
  · have c1 : ¬ (s.size : Int) - (p : Int) < (k : Int) := by omega
    have q1 : IntKind.i64.wrap ((s.size : Int) - (p : Int)) = (s.size : Int) - (p : Int) := IntWalk.i64_in _ (by omega)
    have hb' : b ≤ 16 ∧ 1 ≤ b := by omega
    obtain ⟨R, hR⟩ : ∃ R, rnumV b k ((bl s).drop p) = R := ⟨_, rfl⟩
    rw [hR]
    have HR := Lib.hid hR
    clear hR
    go_enter Tryz.func142, Tryz.ntmps142
    go_wp2
    go_loop [9, 10] (fun a i => ∃ j v : Nat, j ≤ k ∧ i = .int .i64 j ∧ a = .int .i64 v ∧ v < b ^ j ∧ Qm.numA b k 0 ((bl s).drop p) = Qm.numA b (k - j) v ((bl s).drop (p + j))) (fun _ i => k - (intOf i).toNat)
    case atStart => exact ⟨0, 0, by omega, rfl, rfl, by rw [Nat.pow_zero]; omega, rfl⟩
    case round =>
      obtain ⟨j, v, hj, rfl, rfl, hv, hn⟩ := hrel
      have h32 := pow_le_32 (i := j) hb'.1 (by omega)
      have b0 : (0 : Int) ≤ (j : Int) := by omega
      by_cases hlt : j < k
      · obtain ⟨X, hX⟩ : ∃ X, p + j = X := ⟨_, rfl⟩
        have hpj : X < s.size := by omega
        have hd := bl_drop' s X hpj
        have x0 : (p : Int) + (j : Int) = (X : Int) := by omega
        have x1 : IntKind.i64.wrap (X : Int) = (X : Int) := IntWalk.i64_in _ (by omega)
        have x2 : (0 : Int) ≤ (X : Int) := by omega
        have x3 : (X : Int) < (s.size : Int) := by omega
        have b1 : (j : Int) < (k : Int) := by omega
        obtain ⟨c, hc⟩ : ∃ c, s[X]'hpj = c := ⟨_, rfl⟩
        obtain ⟨C, hC⟩ : ∃ C, c.toNat = C := ⟨_, rfl⟩
        have e1 : (s[X]'hpj).toNat = C := by rw [hc, hC]
        have l1 : C < 256 := by rw [← hC]; exact c.toNat_lt
        have hbs := bsI_dg c
        rw [hC] at hbs
        have HB := fun w => rbase_byte C w
        have HIN : IntKind.i64.wrap (C : Int) = (C : Int) := IntWalk.i64_in _ (by omega)
        obtain ⟨m, hm⟩ : ∃ m, k - j = m + 1 := ⟨k - j - 1, by omega⟩
        rw [hX, hd, hc, hm] at hn
        simp only [Qm.numA] at hn
        by_cases hdg : Nm.dg c < b
        · rw [if_pos hdg] at hn
          rw [hbs.1 (by omega)] at HB
          obtain ⟨D, hD⟩ : ∃ D, Nm.dg c = D := ⟨_, rfl⟩
          rw [hD] at hdg hn HB
          obtain ⟨P, hP⟩ : ∃ P, v * b = P := ⟨_, rfl⟩
          obtain ⟨M, hM⟩ : ∃ M, P + D = M := ⟨_, rfl⟩
          rw [hP, hM] at hn
          have hPb : P ≤ 4294967296 * 16 := by rw [← hP]; exact Nat.mul_le_mul (by omega) hb'.1
          have hMb : M < b ^ (j + 1) := by
            have h1 : (v + 1) * b ≤ b ^ j * b := Nat.mul_le_mul_right b hv
            rw [Nat.pow_succ]
            rw [Nat.add_mul, Nat.one_mul] at h1
            omega
          have y0 : (v : Int) * (b : Int) = (P : Int) := by rw [← hP, Int.natCast_mul]
          have y1 : IntKind.i64.wrap (P : Int) = (P : Int) := IntWalk.i64_in _ (by omega)
          have y2 : IntKind.i64.wrap (D : Int) = (D : Int) := IntWalk.i64_in _ (by omega)
          have y3 : (P : Int) + (D : Int) = (M : Int) := by omega
          have y4 : IntKind.i64.wrap (M : Int) = (M : Int) := IntWalk.i64_in _ (by omega)
          have z1 : decide ((D : Int) < 0) = false := decide_eq_false (by omega)
          have z2 : decide ((b : Int) ≤ (D : Int)) = false := decide_eq_false (by omega)
          have Hrel := Lib.hid (show M < b ^ (j + 1) ∧ Qm.numA b k 0 ((bl s).drop p) = Qm.numA b (k - (j + 1)) M ((bl s).drop (p + (j + 1))) from ⟨hMb, by
            have t1 : k - (j + 1) = m := by omega
            have t2 : p + (j + 1) = X + 1 := by omega
            rw [hn, t1, t2]⟩)
          clear hn hM hP hMb hPb hv h32 hbs hD hd hm hC hc hb hX hlong
          go_wp2_with fail
          refine (HB _).mono ?_
          rintro e w' ⟨rfl, rfl⟩
          go_wp2
          go_round
          case rel => exact ⟨j + 1, M, by omega, by go_num, rfl, Hrel.out.1, Hrel.out.2⟩
          case measure => simp [intOf]; omega
        · rw [if_neg hdg] at hn
          have hfin : R = -1 := by rw [← HR.out]; unfold rnumV; rw [hn]
          have Hfin := Lib.hid hfin
          clear hn hfin hd hv h32 hm hX hlong
          by_cases h16 : Nm.dg c < 16
          · rw [hbs.1 h16] at HB
            obtain ⟨D, hD⟩ : ∃ D, Nm.dg c = D := ⟨_, rfl⟩
            rw [hD] at hdg HB
            have z1 : decide ((D : Int) < 0) = false := decide_eq_false (by omega)
            have z2 : (b : Int) ≤ (D : Int) := by omega
            have z3 : ¬ (D : Int) < 0 := by omega
            clear hbs hD h16 hdg hb
            go_wp2_with fail
            refine (HB _).mono ?_
            rintro e w' ⟨rfl, rfl⟩
            go_wp2
            go_ret
            exact ⟨by rw [Hfin.out]; rfl, rfl⟩
          · rw [hbs.2 h16] at HB
            clear hbs h16 hdg hb
            go_wp2_with fail
            refine (HB _).mono ?_
            rintro e w' ⟨rfl, rfl⟩
            go_wp2
            go_ret
            exact ⟨by rw [Hfin.out]; rfl, rfl⟩
      · obtain rfl : j = k := by omega
        rw [Nat.sub_self] at hn
        have hfin : R = (v : Int) := by rw [← HR.out]; unfold rnumV; rw [hn]; rfl
        have Hfin := Lib.hid hfin
        clear hn hfin hv h32 hlong hb
        go_wp2
        go_ret
        exact ⟨by rw [Hfin.out]; rfl, rfl⟩
end Go.Proofs.YtklmiabgalanhaaGreatDoor

/- Contracts of the reference's small and escape (quoted). -/
namespace Go.Proofs.YtklmiabgalanhaaGreatDoor
open Go.RowKit Em
set_option maxRecDepth 100000
set_option linter.unusedVariables false
set_option linter.unusedSimpArgs false

theorem form_txt (n : Nat) : formOf (n : Int) = txt (Qm.fm n) := bl_inj (by rw [formOf_fm, txt_bl])

/-- What an escape's number says, by the mark. -/
def sayR (mark : Nat) (b : Bool) (n : Nat) : List UInt8 := if mark = 34 then Qm.sayS b n else Qm.fm n
def escL (mark : Nat) (m : List UInt8) : Nat := match Qm.esc mark m with | some (_, _, r) => 1 + (m.length - r.length) | none => 0
def escT (mark : Nat) (m : List UInt8) : List UInt8 := match Qm.esc mark m with | some (n, b, _) => sayR mark b n | none => []

theorem rsmall_any (n mark : Nat) (w : World) (hn : n < 256) (hm : mark = 34 ∨ mark = 39) :
    Calls Tryz.prog 143 #[.int .i64 n, .int .u8 mark] w fun e w' => e = .returned (.string (txt (sayR mark true n))) ∧ Below w.heap.size w w' := by
  rcases hm with rfl | rfl
  · have hc := conv_new w [(n : Int)]
    simp only [List.length_singleton, List.map_cons, List.map_nil, List.foldl_cons, List.foldl_nil, Int.toNat_natCast] at hc
    have hp : ByteArray.empty.push (UInt8.ofNat n) = txt [UInt8.ofNat n] := rfl
    rw [hp] at hc
    have q1 : IntKind.u8.wrap (n : Int) = (n : Int) := by rw [IntKind.wrap_u8]; omega
    have e1 : txt (sayR 34 true n) = txt [UInt8.ofNat n] := rfl
    rw [e1]
    clear hp e1
    generalize txt [UInt8.ofNat n] = T at hc
    go_enter Tryz.func143, Tryz.ntmps143
    go_wp2
    go_ret
    exact ⟨rfl, (Below.refl _ _).alloc (Nat.le_refl _) _⟩
  · have FA := fun w => rform_any n w
    rw [form_txt] at FA
    have e1 : txt (sayR 39 true n) = txt (Qm.fm n) := rfl
    rw [e1]
    clear e1
    generalize txt (Qm.fm n) = T at FA
    go_enter Tryz.func143, Tryz.ntmps143
    go_wp2_with fail
    refine (FA _).mono ?_
    rintro e w1 ⟨rfl, b1⟩
    go_wp2
    go_ret
    exact ⟨rfl, b1⟩

def nmN (k : Nat) : Nat := if k = 0 then 97 else if k = 1 then 98 else if k = 2 then 102 else if k = 3 then 110 else if k = 4 then 114 else if k = 5 then 116 else if k = 6 then 118 else 92
def sayN (k : Nat) : Nat := if k = 0 then 7 else if k = 1 then 8 else if k = 2 then 12 else if k = 3 then 10 else if k = 4 then 13 else if k = 5 then 9 else if k = 6 then 11 else 92
theorem nm_at : ∀ k : Fin 8, byN ⟨#[97, 98, 102, 110, 114, 116, 118, 92]⟩ k.1 = nmN k.1 := by decide +kernel
theorem esc_name (mark : Nat) (hm : mark = 34 ∨ mark = 39) (k : Nat) (hk : k < 8) (c : UInt8) (l : List UInt8) (h : c.toNat = nmN k) : Qm.esc mark (c :: l) = some (sayN k, true, l) := by
  have hc : c = UInt8.ofNat (nmN k) := by rw [← h]; simp
  have : ∀ j : Fin 8, Qm.esc 34 (UInt8.ofNat (nmN j.1) :: []) = some (sayN j.1, true, []) ∧ Qm.esc 39 (UInt8.ofNat (nmN j.1) :: []) = some (sayN j.1, true, []) := by decide
  obtain ⟨a, b⟩ := this ⟨k, hk⟩
  simp only [] at a b
  rw [← hc] at a b
  have key : ∀ mk, Qm.esc mk [c] = some (sayN k, true, []) → Qm.esc mk (c :: l) = some (sayN k, true, l) := by
    intro mk ha
    obtain ⟨e, he, hne, hy⟩ := Qm.esc_split ha
    rw [List.append_nil] at he
    have := hy l
    rw [← he] at this
    exact this
  rcases hm with rfl | rfl
  · exact key _ a
  · exact key _ b
theorem esc_noname (mark : Nat) (c : UInt8) (l : List UInt8) (h : ∀ j, j < 8 → nmN j ≠ c.toNat) : Qm.ctl c.toNat = none ∧ c.toNat ≠ 92 := by
  have h0 := h 0 (by omega)
  have h1 := h 1 (by omega)
  have h2 := h 2 (by omega)
  have h3 := h 3 (by omega)
  have h4 := h 4 (by omega)
  have h5 := h 5 (by omega)
  have h6 := h 6 (by omega)
  have h7 := h 7 (by omega)
  simp only [nmN] at h0 h1 h2 h3 h4 h5 h6 h7
  refine ⟨?_, by simpa using fun e => h7 e.symm⟩
  unfold Qm.ctl
  rw [if_neg (by simpa using fun e => h0 e.symm), if_neg (by simpa using fun e => h1 e.symm), if_neg (by simpa using fun e => h5 e.symm), if_neg (by simpa using fun e => h3 e.symm), if_neg (by simpa using fun e => h6 e.symm), if_neg (by simpa using fun e => h2 e.symm), if_neg (by simpa using fun e => h4 e.symm)]
end Go.Proofs.YtklmiabgalanhaaGreatDoor

