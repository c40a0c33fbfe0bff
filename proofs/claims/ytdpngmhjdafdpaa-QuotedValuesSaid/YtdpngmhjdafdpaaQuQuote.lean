/- Contract of quoted.Quote. -/
import Derived.Test.YtdpngmhjdafdpaaQuBuild
namespace Go.Proofs.Ytdpngmhjdafdpaa
open Go.Shelf Go.RowKit Em
set_option linter.unusedVariables false
set_option linter.unusedSimpArgs false

def hxN (k : Nat) : Nat := if k < 10 then 48 + k else 87 + k
theorem hx_at : ∀ k : Fin 16, byN ⟨#[48, 49, 50, 51, 52, 53, 54, 55, 56, 57, 97, 98, 99, 100, 101, 102]⟩ k.1 = hxN k.1 := by decide +kernel

/-- What a byte is put as. -/
def qb (c : UInt8) : List UInt8 :=
  if c.toNat = 34 ∨ c.toNat = 92 then [92, c] else if c.toNat = 10 then [92, 110] else if 32 ≤ c.toNat ∧ c.toNat ≤ 126 then [c]
  else [92, 120, UInt8.ofNat (hxN (c.toNat / 16)), UInt8.ofNat (hxN (c.toNat % 16))]
def qs (l : List UInt8) : List UInt8 := l.flatMap qb
def quoteL (l : List UInt8) : List UInt8 := 34 :: (qs l ++ [34])

theorem qb_len (c : UInt8) : (qb c).length ≤ 4 := by
  unfold qb
  repeat' split
  all_goals simp
theorem qs_len : ∀ l : List UInt8, (qs l).length ≤ 4 * l.length
  | [] => by simp [qs]
  | c :: l => by
    have h1 := qb_len c
    have h2 := qs_len l
    unfold qs at *
    rw [List.flatMap_cons, List.length_append, List.length_cons]; omega
theorem qs_snoc (l : List UInt8) (c : UInt8) : qs (l ++ [c]) = qs l ++ qb c := by simp [qs]

theorem take_snoc' (s : ByteArray) (k : Nat) (h : k < s.size) : ∃ c : UInt8, (bl s).take (k + 1) = (bl s).take k ++ [c] ∧ c.toNat = byN s k := by
  have hl : k < (bl s).length := by rw [bl_size]; exact h
  refine ⟨(bl s)[k], List.take_succ_eq_append_getElem hl, ?_⟩
  have := bl_get s k h
  rw [List.getElem?_eq_getElem hl] at this
  rw [Option.some.inj this, byN_get s k h]

theorem bc_snoc (l : List UInt8) (n : Nat) (h : n < 256) : Lib.byteCells l ++ [.int .u8 (n : Int)] = Lib.byteCells (l ++ [UInt8.ofNat n]) := by
  unfold Lib.byteCells
  rw [List.map_append, List.map_cons, List.map_nil, Um.toNat_ofNat h]
theorem bc_str (l : List UInt8) (x : ByteArray) : Lib.byteCells l ++ Lib.strCells x = Lib.byteCells (l ++ bl x) := by
  unfold Lib.byteCells Lib.strCells
  rw [List.map_append]; rfl
theorem bc_len (l : List UInt8) : (Lib.byteCells l).length = l.length := by simp [Lib.byteCells]

set_option maxRecDepth 100000 in
set_option maxHeartbeats 8000000 in
theorem quote_any (s : ByteArray) (w : World) (hs : s.size ≤ 1048576) :
    Calls Try.prog 34 #[.string s] w fun e w' => e = .returned (.string (txt (quoteL (bl s)))) ∧ Below w.heap.size w w' := by
  have hb0 : Lib.IsBuilder 61 5 w.heap.size w.heap.size [] (w.alloc (.cells #[.pointer none, .slice none 0 0] 61)) := Lib.fresh_isBuilder _ _ _
  have hb1 : Below w.heap.size w (w.alloc (.cells #[.pointer none, .slice none 0 0] 61)) := (Below.refl _ _).alloc (Nat.le_refl _) _
  have hW0 := builder_byte w.heap.size w.heap.size [] 34 _ hb0 (by simp) hb1.size
  have HW0 := Lib.hid hW0
  have Hb1 := Lib.hid hb1
  clear hb0 hW0 hb1
  go_enter Try.func34, Try.ntmps34
  go_wp2_with fail
  refine HW0.out.mono ?_
  rintro e w0 ⟨rfl, i0, b0⟩
  have hi0 : Lib.IsBuilder 61 5 w.heap.size w.heap.size (Lib.byteCells [34]) w0 := i0
  have Hi0 := Lib.hid hi0
  have Hb0 := Lib.hid (Hb1.out.trans b0)
  clear i0 b0 hi0
  go_wp2
  go_loopw [9] (fun i wr => ∃ k : Nat, k ≤ s.size ∧ i = .int .i64 k ∧ Lib.IsBuilder 61 5 w.heap.size w.heap.size (Lib.byteCells (34 :: qs ((bl s).take k))) wr ∧ Below w.heap.size w wr) (fun i _ => s.size - (intOf i).toNat)
  case atStart => exact ⟨0, by omega, rfl, Hi0.out, Hb0.out⟩
  case round =>
    obtain ⟨k, hk, rfl, hI, hb⟩ := hrel
    have hlen := qs_len ((bl s).take k)
    rw [List.length_take, bl_size] at hlen
    have hbs := hb.size
    have Hb := Lib.hid hb
    clear hb
    by_cases hlt : k < s.size
    · obtain ⟨c, hsn, hcB⟩ := take_snoc' s k hlt
      have e1 := byN_get s k hlt
      have l1 := byN_lt s k
      have b0 : (0 : Int) ≤ (k : Int) := by omega
      have b1 : (k : Int) < (s.size : Int) := by omega
      have hnext : 34 :: qs ((bl s).take (k + 1)) = (34 :: qs ((bl s).take k)) ++ qb c := by rw [hsn, qs_snoc]; rfl
      have HN := Lib.hid hnext
      have hL : (34 :: qs ((bl s).take k)).length ≤ 4 * k + 1 := by rw [List.length_cons]; omega
      clear hnext hsn hlen
      generalize 34 :: qs ((bl s).take k) = L at hI HN hL
      rw [← hcB] at e1 l1
      have hq : qb c = if c.toNat = 34 ∨ c.toNat = 92 then [92, c] else if c.toNat = 10 then [92, 110] else if 32 ≤ c.toNat ∧ c.toNat ≤ 126 then [c] else [92, 120, UInt8.ofNat (hxN (c.toNat / 16)), UInt8.ofNat (hxN (c.toNat % 16))] := rfl
      have hself : UInt8.ofNat c.toNat = c := by simp
      clear hcB
      by_cases h34 : c.toNat = 34 ∨ c.toNat = 92
      · rw [if_pos h34] at hq
        have hp1 := builder_byte w.heap.size w.heap.size (Lib.byteCells L) 92 wr hI (by rw [bc_len]; omega) hbs
        have HQ := Lib.hid hq
        have Hself := Lib.hid hself
        clear hI hq hself
        have ways : c.toNat = 34 ∨ c.toNat = 92 := h34
        obtain ⟨C, hC⟩ : ∃ C, c.toNat = C := ⟨_, rfl⟩
        rw [hC] at e1 l1 ways Hself
        clear h34 hC
        rcases ways with rfl | rfl
        · skip
          go_wp2_with fail
          refine hp1.mono ?_
          rintro e w1 ⟨rfl, i1, b1⟩
          have hp2 := builder_byte w.heap.size w.heap.size _ 34 w1 i1 (by rw [List.length_append, bc_len]; simp; omega) (by have := b1.size; omega)
          have Hb1 := Lib.hid b1
          clear hp1 i1 b1
          go_wp2_with fail
          refine hp2.mono ?_
          rintro e w2 ⟨rfl, i2, b2⟩
          have hfin : Lib.IsBuilder 61 5 w.heap.size w.heap.size (Lib.byteCells (34 :: qs ((bl s).take (k + 1)))) w2 := by
            rw [HN.out, HQ.out]
            have e1 : Lib.byteCells L ++ [Value.int .u8 92] = Lib.byteCells (L ++ [92]) := bc_snoc L 92 (by omega)
            have e2 : Lib.byteCells (L ++ [92]) ++ [Value.int .u8 34] = Lib.byteCells ((L ++ [92]) ++ [UInt8.ofNat 34]) := bc_snoc (L ++ [92]) 34 (by omega)
            rw [e1, e2, Hself.out, List.append_assoc] at i2
            exact i2
          have Hfin := Lib.hid hfin
          have Hb2 := Lib.hid ((Hb.out.trans (Hb1.out.mono (Nat.le_refl _))).trans b2)
          clear hp2 i2 b2 hfin
          go_wp2
          go_roundw
          case rel => exact ⟨k + 1, by omega, by go_num, Hfin.out, Hb2.out⟩
          case measure => simp [intOf]; omega
        · skip
          go_wp2_with fail
          refine hp1.mono ?_
          rintro e w1 ⟨rfl, i1, b1⟩
          have hp2 := builder_byte w.heap.size w.heap.size _ 92 w1 i1 (by rw [List.length_append, bc_len]; simp; omega) (by have := b1.size; omega)
          have Hb1 := Lib.hid b1
          clear hp1 i1 b1
          go_wp2_with fail
          refine hp2.mono ?_
          rintro e w2 ⟨rfl, i2, b2⟩
          have hfin : Lib.IsBuilder 61 5 w.heap.size w.heap.size (Lib.byteCells (34 :: qs ((bl s).take (k + 1)))) w2 := by
            rw [HN.out, HQ.out]
            have e1 : Lib.byteCells L ++ [Value.int .u8 92] = Lib.byteCells (L ++ [92]) := bc_snoc L 92 (by omega)
            have e2 : Lib.byteCells (L ++ [92]) ++ [Value.int .u8 92] = Lib.byteCells ((L ++ [92]) ++ [UInt8.ofNat 92]) := bc_snoc (L ++ [92]) 92 (by omega)
            rw [e1, e2, Hself.out, List.append_assoc] at i2
            exact i2
          have Hfin := Lib.hid hfin
          have Hb2 := Lib.hid ((Hb.out.trans (Hb1.out.mono (Nat.le_refl _))).trans b2)
          clear hp2 i2 b2 hfin
          go_wp2
          go_roundw
          case rel => exact ⟨k + 1, by omega, by go_num, Hfin.out, Hb2.out⟩
          case measure => simp [intOf]; omega
      · rw [if_neg h34] at hq
        have d34 : ((c.toNat : Int) == 34) = false := beq_eq_false_iff_ne.2 (by omega)
        have d92 : ((c.toNat : Int) == 92) = false := beq_eq_false_iff_ne.2 (by omega)
        by_cases h10 : c.toNat = 10
        · rw [if_pos h10] at hq
          have hp1 := builder_write w.heap.size w.heap.size (Lib.byteCells L) ⟨#[92, 110]⟩ wr hI (by rw [bc_len]; show L.length + 2 ≤ _; omega) hbs
          rw [h10] at e1
          have HQ := Lib.hid hq
          clear hI hq hself h34 h10 d34 d92 l1
          go_wp2_with fail
          refine hp1.mono ?_
          rintro e w2 ⟨rfl, i2, b2⟩
          have hfin : Lib.IsBuilder 61 5 w.heap.size w.heap.size (Lib.byteCells (34 :: qs ((bl s).take (k + 1)))) w2 := by
            rw [HN.out, HQ.out]
            rw [bc_str] at i2
            exact i2
          have Hfin := Lib.hid hfin
          have Hb2 := Lib.hid (Hb.out.trans b2)
          clear hp1 i2 b2 hfin
          go_wp2
          go_roundw
          case rel => exact ⟨k + 1, by omega, by go_num, Hfin.out, Hb2.out⟩
          case measure => simp [intOf]; omega
        · rw [if_neg h10] at hq
          have d10 : ((c.toNat : Int) == 10) = false := beq_eq_false_iff_ne.2 (by omega)
          by_cases hpr : 32 ≤ c.toNat ∧ c.toNat ≤ 126
          · rw [if_pos hpr] at hq
            have hp1 := builder_byte w.heap.size w.heap.size (Lib.byteCells L) c.toNat wr hI (by rw [bc_len]; omega) hbs
            have p1 : (32 : Int) ≤ (c.toNat : Int) := by omega
            have p2 : (c.toNat : Int) ≤ 126 := by omega
            have HQ := Lib.hid hq
            have Hself := Lib.hid hself
            have Hl1 := Lib.hid l1
            clear hI hq hself h34 h10 hpr
            obtain ⟨C, hC⟩ : ∃ C, c.toNat = C := ⟨_, rfl⟩
            rw [hC] at e1 l1 d34 d92 d10 p1 p2 hp1
            have HC := Lib.hid hC
            clear hC
            go_wp2_with fail
            refine hp1.mono ?_
            rintro e w2 ⟨rfl, i2, b2⟩
            have hfin : Lib.IsBuilder 61 5 w.heap.size w.heap.size (Lib.byteCells (34 :: qs ((bl s).take (k + 1)))) w2 := by
              rw [HN.out, HQ.out]
              rw [bc_snoc L C l1, ← HC.out, Hself.out] at i2
              exact i2
            have Hfin := Lib.hid hfin
            have Hb2 := Lib.hid (Hb.out.trans b2)
            clear hp1 i2 b2 hfin
            go_wp2
            go_roundw
            case rel => exact ⟨k + 1, by omega, by go_num, Hfin.out, Hb2.out⟩
            case measure => simp [intOf]; omega
          · rw [if_neg hpr] at hq
            have hp1 := builder_write w.heap.size w.heap.size (Lib.byteCells L) ⟨#[92, 120]⟩ wr hI (by rw [bc_len]; show L.length + 2 ≤ _; omega) hbs
            have HQ := Lib.hid hq
            obtain ⟨C, hC⟩ : ∃ C, c.toNat = C := ⟨_, rfl⟩
            rw [hC] at e1 l1 d34 d92 d10 hpr HQ
            clear hI hq hself h34 h10 hC
            have p1 : ¬ (32 : Int) ≤ (C : Int) ∨ ((32 : Int) ≤ (C : Int) ∧ ¬ (C : Int) ≤ 126) := by omega
            clear hpr
            have hA : C / 16 < 16 := by omega
            have hB : C % 16 < 16 := by omega
            have x1 := (byN_get ⟨#[48, 49, 50, 51, 52, 53, 54, 55, 56, 57, 97, 98, 99, 100, 101, 102]⟩ (C / 16) hA).trans (hx_at ⟨C / 16, hA⟩)
            have x2 := (byN_get ⟨#[48, 49, 50, 51, 52, 53, 54, 55, 56, 57, 97, 98, 99, 100, 101, 102]⟩ (C % 16) hB).trans (hx_at ⟨C % 16, hB⟩)
            have y1 : hxN (C / 16) < 256 := by unfold hxN; split <;> omega
            have y2 : hxN (C % 16) < 256 := by unfold hxN; split <;> omega
            simp only [] at x1 x2
            generalize hxN (C / 16) = X1 at x1 y1 HQ
            generalize hxN (C % 16) = X2 at x2 y2 HQ
            rcases p1 with p1 | ⟨p1, p2⟩
            all_goals (
              go_wp2_with fail
              refine hp1.mono ?_
              rintro e w1 ⟨rfl, i1, b1⟩
              rw [bc_str] at i1
              have hl2 : (L ++ bl ⟨#[92, 120]⟩).length = L.length + 2 := by rw [List.length_append]; rfl
              have hp2 := builder_byte w.heap.size w.heap.size _ (X1 : Int) w1 i1 (by rw [bc_len, hl2]; omega) (by have := b1.size; omega)
              have Hb1 := Lib.hid b1
              have hs1 := b1.size
              clear hp1 i1 b1
              go_wp2_with fail
              refine hp2.mono ?_
              rintro e w2 ⟨rfl, i2, b2⟩
              rw [bc_snoc _ X1 y1] at i2
              have hl3 : (L ++ bl ⟨#[92, 120]⟩ ++ [UInt8.ofNat X1]).length = L.length + 3 := by rw [List.length_append, hl2]; rfl
              have hp3 := builder_byte w.heap.size w.heap.size _ (X2 : Int) w2 i2 (by rw [bc_len, hl3]; omega) (by have := b2.size; omega)
              have Hb2 := Lib.hid b2
              clear hp2 i2 b2
              go_wp2_with fail
              refine hp3.mono ?_
              rintro e w3 ⟨rfl, i3, b3⟩
              rw [bc_snoc _ X2 y2] at i3
              have hfin : Lib.IsBuilder 61 5 w.heap.size w.heap.size (Lib.byteCells (34 :: qs ((bl s).take (k + 1)))) w3 := by
                rw [HN.out, HQ.out]
                have e9 : L ++ bl ⟨#[92, 120]⟩ ++ [UInt8.ofNat X1] ++ [UInt8.ofNat X2] = L ++ [92, 120, UInt8.ofNat X1, UInt8.ofNat X2] := by
                  have : bl ⟨#[92, 120]⟩ = [92, 120] := rfl
                  rw [this]; simp
                rw [e9] at i3
                exact i3
              have Hfin := Lib.hid hfin
              have Hb4 := Lib.hid (((Hb.out.trans Hb1.out).trans Hb2.out).trans b3)
              clear hp3 i3 b3 hfin
              go_wp2
              go_roundw
              case rel => exact ⟨k + 1, by omega, by go_num, Hfin.out, Hb4.out⟩
              case measure => simp [intOf]; omega)
    · obtain rfl : k = s.size := by omega
      have ht : (bl s).take s.size = bl s := List.take_of_length_le (by rw [bl_size]; omega)
      rw [ht] at hI hlen
      have hp1 := builder_byte w.heap.size w.heap.size _ 34 wr hI (by rw [bc_len, List.length_cons]; have := qs_len (bl s); rw [bl_size] at this; omega) hbs
      clear hI
      go_wp2_with fail
      refine hp1.mono ?_
      rintro e w1 ⟨rfl, i1, b1⟩
      have hsn : Lib.byteCells (34 :: qs (bl s)) ++ [Value.int .u8 34] = Lib.byteCells (quoteL (bl s)) := bc_snoc _ 34 (by omega)
      rw [hsn] at i1
      have hstr := builder_string w.heap.size w.heap.size _ w1 i1 (by have := b1.size; omega)
      have Hb1 := Lib.hid (Hb.out.trans b1)
      clear hp1 i1 b1 hsn
      go_wp2_with fail
      refine hstr.mono ?_
      rintro e w2 ⟨rfl, b2⟩
      have Hb2 := Lib.hid (Hb1.out.trans b2)
      go_wp2
      go_ret
      exact ⟨rfl, Hb2.out⟩
end Go.Proofs.Ytdpngmhjdafdpaa
