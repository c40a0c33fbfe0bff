/- The walk of the law QuotedRaw. -/
import Derived.Test.YtdpngmhjdafdpabQuLawA
import Derived.Maps.AppendAt
namespace Go.Proofs.Ytdpngmhjdafdpab
open Go.Shelf Go.RowKit Em
set_option linter.unusedVariables false
set_option linter.unusedSimpArgs false

def F1 (l : List UInt8) : List UInt8 := l.filter fun c => decide (c.toNat ≠ 96)
def F2 (l : List UInt8) : List UInt8 := (F1 l).filter fun c => decide (c.toNat ≠ 13)
theorem F1_snoc (l : List UInt8) (c : UInt8) : F1 (l ++ [c]) = if c.toNat = 96 then F1 l else F1 l ++ [c] := by
  unfold F1
  rw [List.filter_append]
  by_cases h : c.toNat = 96
  · simp [h]
  · simp [h]
theorem F2_snoc (l : List UInt8) (c : UInt8) : F2 (l ++ [c]) = if c.toNat = 96 ∨ c.toNat = 13 then F2 l else F2 l ++ [c] := by
  unfold F2
  rw [F1_snoc]
  by_cases h : c.toNat = 96
  · rw [if_pos h, if_pos (.inl h)]
  · rw [if_neg h, List.filter_append]
    by_cases h13 : c.toNat = 13
    · simp [h13]
    · simp [h, h13]
theorem F1_len (l : List UInt8) : (F1 l).length ≤ l.length := List.length_filter_le _ _
theorem F2_len (l : List UInt8) : (F2 l).length ≤ l.length := Nat.le_trans (List.length_filter_le _ _) (F1_len l)

/-- Two rows that do not meet. -/
def Apart (u v : Value) : Prop := u.ownBlock = none ∨ v.ownBlock = none ∨ u.ownBlock ≠ v.ownBlock

theorem raw_value (s : ByteArray) (T : List UInt8) (hT : T = F1 (bl s)) : Qm.whole (96 :: (T ++ [96])) = some (7, F2 (bl s), []) := by
  rw [Qm.whole96, Qm.raw_of T (by
    intro c hc
    rw [hT] at hc
    simpa using (List.mem_filter.1 hc).2)]
  rw [hT]; rfl

set_option maxHeartbeats 8000000 in
theorem walk_QuotedRaw (s : ByteArray) (w : World) (w0 : s.size ≤ 140737488351232) :
    Calls Try.prog 5 #[.string s] w fun e w' => e = .returned (.bool true) ∧ Below w.heap.size w w' := by
  obtain ⟨i0, hi, hz0, hz1, hz2⟩ := info_parts info_u8
  go_enter Try.func5, Try.ntmps5
  go_wp2
  go_loopw [3, 4, 5] (fun u v i wr => ∃ k : Nat, k ≤ s.size ∧ i = .int .i64 k ∧ wr.ownsRow w.heap.size 5 1 u (F1 ((bl s).take k)).length (bCells (F1 ((bl s).take k))) ∧ wr.ownsRow w.heap.size 5 1 v (F2 ((bl s).take k)).length (bCells (F2 ((bl s).take k))) ∧ Apart u v ∧ Below w.heap.size w wr) (fun _ _ i _ => s.size - (intOf i).toNat)
  case atStart => exact ⟨0, by omega, rfl, World.ownsRow_nil _ _ _ _, World.ownsRow_nil _ _ _ _, .inl rfl, Below.refl _ _⟩
  case round =>
    obtain ⟨k, hk, rfl, ho1, ho2, hap, hb⟩ := hrel
    have hl1 := F1_len ((bl s).take k)
    have hl2 := F2_len ((bl s).take k)
    rw [List.length_take, bl_size] at hl1 hl2
    have hbs := hb.size
    have Hb := Lib.hid hb
    clear hb
    by_cases hlt : k < s.size
    · obtain ⟨c, hsn, hcB⟩ := take_snoc' s k hlt
      have e1 := byN_get s k hlt
      have l1 := byN_lt s k
      have b0 : (0 : Int) ≤ (k : Int) := by omega
      have b1 : (k : Int) < (s.size : Int) := by omega
      have n1 := F1_snoc ((bl s).take k) c
      have n2 := F2_snoc ((bl s).take k) c
      rw [← hsn] at n1 n2
      rw [← hcB] at e1 l1
      by_cases h96 : c.toNat = 96
      · rw [if_pos h96] at n1
        rw [if_pos (.inl h96)] at n2
        rw [← n1] at ho1
        rw [← n2] at ho2
        rw [h96] at e1
        have Ho1 := Lib.hid ho1
        have Ho2 := Lib.hid ho2
        have Hap := Lib.hid hap
        clear ho1 ho2 n1 n2 hsn hcB l1 h96 hap hl1 hl2
        go_wp2
        go_roundw
        case rel => exact ⟨k + 1, by omega, by go_num, Ho1.out, Ho2.out, Hap.out, Hb.out⟩
        case measure => simp [intOf]; omega
      · rw [if_neg h96] at n1
        have d96 : ((c.toNat : Int) == 96) = false := beq_eq_false_iff_ne.2 (by omega)
        have Hn1 := Lib.hid n1
        have Hn2 := Lib.hid n2
        obtain ⟨C, hC⟩ : ∃ C, c.toNat = C := ⟨_, rfl⟩
        rw [hC] at e1 l1 d96 h96
        have HC := Lib.hid hC
        clear n1 n2 hsn hcB hC
        generalize F1 ((bl s).take k) = T1 at ho1 hl1 Hn1
        generalize F2 ((bl s).take k) = T2 at ho2 hl2 Hn2
        have hlt1 := ho1.lt
        have hlt2 := ho2.lt
        go_wp2_with (at_builtin; refine wpList_append_own_at _ rfl _ _ 31 rfl w.heap.size 5 i0 (.int .u8 0) 1 1 Try.underlying31 hi hz0 hz1 hz2 rfl (by decide) _ _ _ rfl (ho1.alloc _) ⟨wr.heap.size, 0, none⟩ 1 1 [.int .u8 C] rfl rfl ?c1 ?c2 ?c3 ?c4 ?c5 ?_)
        case c1 => exact one_cell2
        case c2 => intro u hu; simp at hu; subst hu; rfl
        case c3 => unfold maxLen; omega
        case c4 => omega
        case c5 => simp; omega
        · intro v1 w2 hown1 hgrow _ hblk
          obtain ⟨x1, cc1, rfl⟩ := own_slice hown1
          have hb2 : Below w.heap.size w w2 := (Hb.out.alloc hbs _).grown hgrow (by simp; omega) (fun q e => (hlt1 q e).1)
          have hne : u4.ownBlock = none ∨ u4.ownBlock ≠ u3.ownBlock := by
            rcases hap with h | h | h
            · by_cases h2 : u4.ownBlock = none
              · exact .inl h2
              · exact .inr (by rw [h]; exact h2)
            · exact .inl h
            · exact .inr (fun e => h e.symm)
          have ho2b := (ho2.alloc (.cells #[.int .u8 C] 5)).kept hgrow hne
          have hap2 : Apart (.slice x1 (T1.length + 1) cc1) u4 := by
            rcases hblk with h | h
            · rcases hap with h2 | h2 | h2
              · exact .inl (h.trans h2)
              · exact .inr (.inl h2)
              · exact .inr (.inr (by rw [h]; exact h2))
            · refine .inr (.inr ?_)
              rw [h]
              intro e
              have := (hlt2 _ e.symm).2
              omega
          have hT1 : bCells T1 ++ [.int .u8 (C : Int)] = bCells (F1 ((bl s).take (k + 1))) := by rw [Hn1.out, bCells_snoc, HC.out]
          have hL1 : T1.length + 1 = (F1 ((bl s).take (k + 1))).length := by rw [Hn1.out, List.length_append]; rfl
          rw [hT1, hL1] at hown1
          rw [hL1] at hap2
          have hL1' := hL1
          obtain ⟨N1, hN1⟩ : ∃ N1, (F1 ((bl s).take (k + 1))).length = N1 := ⟨_, rfl⟩
          rw [hN1] at hown1 hap2 hL1
          have HN1 := Lib.hid hN1
          have Hown1 := Lib.hid hown1
          have Hb2 := Lib.hid hb2
          have Hap2 := Lib.hid hap2
          have hbs2 := hb2.size
          clear hown1 hb2 hap2 hT1 hgrow hne hap hblk ho1 ho2 hN1 hL1'
          rw [hL1]
          by_cases h13 : C = 13
          · have n2 := Hn2.out
            rw [if_pos (.inr (HC.out.trans h13))] at n2
            rw [← n2] at ho2b
            have Ho2b := Lib.hid ho2b
            subst h13
            clear ho2b n2
            go_wp2
            go_roundw
            case rel => exact ⟨k + 1, by omega, by go_num, by rw [HN1.out]; exact Hown1.out, Ho2b.out, Hap2.out, Hb2.out⟩
            case measure => simp [intOf]; omega
          · have d13 : ((C : Int) != 13) = true := by simp; omega
            have d13b : ((C : Int) == 13) = false := beq_eq_false_iff_ne.2 (by omega)
            have n2 := Hn2.out
            rw [if_neg (fun h => h.elim (fun h => h96 (HC.out.symm.trans h)) (fun h => h13 (HC.out.symm.trans h)))] at n2
            have Hn2' := Lib.hid n2
            have hlt2b := ho2b.lt
            clear n2 h13
            go_wp2_with (at_builtin; refine wpList_append_own_at _ rfl _ _ 31 rfl w.heap.size 5 i0 (.int .u8 0) 1 1 Try.underlying31 hi hz0 hz1 hz2 rfl (by decide) _ _ _ rfl (ho2b.alloc _) ⟨w2.heap.size, 0, none⟩ 1 1 [.int .u8 C] rfl rfl ?d1 ?d2 ?d3 ?d4 ?d5 ?_)
            case d1 => exact one_cell2
            case d2 => intro u hu; simp at hu; subst hu; rfl
            case d3 => unfold maxLen; omega
            case d4 => omega
            case d5 => simp; omega
            · intro v2 w3 hown2 hgrow2 _ hblk2
              obtain ⟨x2, cc2, rfl⟩ := own_slice hown2
              have hb3 : Below w.heap.size w w3 := (Hb2.out.alloc hbs2 _).grown hgrow2 (by simp; omega) (fun q e => (hlt2b q e).1)
              have hne2 : (Value.slice x1 N1 cc1).ownBlock = none ∨ (Value.slice x1 N1 cc1).ownBlock ≠ u4.ownBlock := by
                rcases Hap2.out with h | h | h
                · exact .inl h
                · by_cases h2 : (Value.slice x1 N1 cc1).ownBlock = none
                  · exact .inl h2
                  · exact .inr (by rw [h]; exact h2)
                · exact .inr h
              have ho1b := (Hown1.out.alloc (.cells #[.int .u8 C] 5)).kept hgrow2 hne2
              have hap3 : Apart (.slice x1 N1 cc1) (.slice x2 (T2.length + 1) cc2) := by
                rcases hblk2 with h | h
                · rcases Hap2.out with h2 | h2 | h2
                  · exact .inl h2
                  · exact .inr (.inl (h.trans h2))
                  · exact .inr (.inr (by rw [h]; exact h2))
                · refine .inr (.inr ?_)
                  rw [h]
                  intro e
                  have := (Hown1.out.lt _ e).2
                  omega
              have hT2 : bCells T2 ++ [.int .u8 (C : Int)] = bCells (F2 ((bl s).take (k + 1))) := by rw [Hn2'.out, bCells_snoc, HC.out]
              have hL2 : T2.length + 1 = (F2 ((bl s).take (k + 1))).length := by rw [Hn2'.out, List.length_append]; rfl
              rw [hT2, hL2] at hown2
              rw [hL2] at hap3
              obtain ⟨N2, hN2⟩ : ∃ N2, (F2 ((bl s).take (k + 1))).length = N2 := ⟨_, rfl⟩
              rw [hN2] at hown2 hap3 hL2
              have HN2 := Lib.hid hN2
              have Hown2 := Lib.hid hown2
              have Ho1b := Lib.hid ho1b
              have Hb3 := Lib.hid hb3
              have Hap3 := Lib.hid hap3
              clear hown2 ho1b hb3 hap3 hT2 hgrow2 hne2 hblk2 ho2b hN2
              rw [hL2]
              go_wp2
              go_roundw
              case rel => exact ⟨k + 1, by omega, by go_num, by rw [HN1.out]; exact Ho1b.out, by rw [HN2.out]; exact Hown2.out, Hap3.out, Hb3.out⟩
              case measure => simp [intOf]; omega
    · obtain rfl : k = s.size := by omega
      have ht : (bl s).take s.size = bl s := List.take_of_length_le (by rw [bl_size]; omega)
      rw [ht] at ho1 ho2 hl1 hl2
      obtain ⟨x1, cc1, rfl, hc1⟩ := conv_own ho1
      have hcv1 := hc1 0
      simp only [World.drewN_zero] at hcv1
      have hX : bl (⟨#[96]⟩ ++ txt (F1 (bl s)) ++ ⟨#[96]⟩) = 96 :: (F1 (bl s) ++ [96]) := by
        rw [bl_append, bl_append, txt_bl]
        show ([96] ++ F1 (bl s)) ++ [96] = _
        simp
      have hw := raw_value s (F1 (bl s)) rfl
      have x1v : vT (⟨#[96]⟩ ++ txt (F1 (bl s)) ++ ⟨#[96]⟩) = txt (F2 (bl s)) := by unfold vT; rw [hX, hw]
      have x2v : vE (⟨#[96]⟩ ++ txt (F1 (bl s)) ++ ⟨#[96]⟩) = 0 := by unfold vE; rw [hX, hw]
      have hsz : (⟨#[96]⟩ ++ txt (F1 (bl s)) ++ ⟨#[96]⟩ : ByteArray).size ≤ 140737488355300 := by
        rw [← bl_size, hX]
        simp only [List.length_cons, List.length_append, List.length_nil]
        omega
      have VX := fun w => value_any (⟨#[96]⟩ ++ txt (F1 (bl s)) ++ ⟨#[96]⟩) w hsz
      rw [x1v, x2v] at VX
      have f1 : ¬ 9223372036854775807 < 1 + (txt (F1 (bl s))).size := by rw [txt_size]; omega
      have f2 : ¬ 9223372036854775807 < 1 + (txt (F1 (bl s))).size + 1 := by rw [txt_size]; omega
      have Ho2 := Lib.hid ho2
      clear hX hw x1v x2v hsz hc1 ho1 ho2 hap ht
      generalize (F1 (bl s)).length = N1 at hcv1 hl1 ⊢
      generalize txt (F1 (bl s)) = X at hcv1 VX f1 f2
      go_wp2_with fail
      refine (VX _).mono ?_
      rintro e w1 ⟨rfl, d1⟩
      have Hd1 := Lib.hid d1
      clear d1 hcv1
      go_wp2_with fail
      refine (fixed6_any _).mono ?_
      rintro e w2 ⟨rfl, d2⟩
      have ho3 := own_below Ho2.out (Hd1.out.trans (d2.mono Hd1.out.size))
      obtain ⟨x2, cc2, rfl, hc2⟩ := conv_own ho3
      have hcv2 := hc2 0
      simp only [World.drewN_zero] at hcv2
      have HB := Lib.hid (Hb.out.trans ((Hd1.out.trans (d2.mono Hd1.out.size)).mono hbs))
      clear ho3 hc2 d2
      generalize (F2 (bl s)).length = N2 at hcv2 ⊢
      generalize txt (F2 (bl s)) = Y at hcv2 ⊢
      go_wp2
      go_ret
      exact ⟨rfl, HB.out⟩
end Go.Proofs.Ytdpngmhjdafdpab
