/- The walks of the laws NumberUnder, NumberWhole, NumberSigns. -/
import Derived.Test.YtdpngmhjdafdpaaNuLawA
import Derived.Test.YtdpngmhjdafdpaaOwnBytes
import Derived.WalkSmall
namespace Go.Proofs.Ytdpngmhjdafdpaa
open Go.RowKit Em
set_option linter.unusedVariables false
set_option linter.unusedSimpArgs false

theorem one_cell {w : World} {v : Value} {t : TypeId} : ∀ j u, ([v] : List Value)[j]? = some u → (w.alloc (.cells #[v] t)).cell? ((⟨w.heap.size, 0, none⟩ : Addr).add j) = some u := by
  intro j u hj
  match j, hj with
  | 0, hj => simp at hj; subst hj; simp [Addr.add]

theorem F_step (s : ByteArray) (k : Nat) (h : k < s.size) : Nm.F ((bl s).take (k + 1)) = if byN s k = 95 then Nm.F ((bl s).take k) else Nm.F ((bl s).take k) ++ [s.get! k] := by
  have hl : k < (bl s).length := by rw [bl_size]; exact h
  have hg : (bl s)[k] = s.get! k := by
    have := bl_get s k h
    rw [List.getElem?_eq_getElem hl] at this
    rw [Option.some.inj this, get_eq]
  rw [List.take_succ_eq_append_getElem hl, Nm.F_append, hg]
  by_cases hc : byN s k = 95
  · rw [if_pos hc]
    have e : s.get! k = 95 := (byte_is s k 95).2 hc
    rw [e]; simp [Nm.F]
  · rw [if_neg hc]
    have e : s.get! k ≠ 95 := fun e => hc ((byte_is s k 95).1 e)
    rw [Nm.F_cons e]; rfl

theorem F_len (l : List UInt8) : (Nm.F l).length ≤ l.length := List.length_filter_le _ _

set_option maxHeartbeats 2000000 in
theorem without_any (s : ByteArray) (w : World) (hs : s.size ≤ 140737488351232) :
    Calls Try.prog 16 #[.string s, .int .u8 95] w fun e w' => e = .returned (.string (txt (Nm.F (bl s)))) ∧ Below w.heap.size w w' := by
  obtain ⟨i0, hi, hz0, hz1, hz2⟩ := info_parts info_u8
  go_enter Try.func16, Try.ntmps16
  go_wp2
  go_loopw [5, 6] (fun v i wr => ∃ k : Nat, k ≤ s.size ∧ i = .int .i64 k ∧ wr.ownsRow w.heap.size 5 1 v (Nm.F ((bl s).take k)).length (bCells (Nm.F ((bl s).take k))) ∧ Below w.heap.size w wr) (fun _ i _ => s.size - (intOf i).toNat)
  case atStart => exact ⟨0, by omega, rfl, World.ownsRow_nil _ _ _ _, Below.refl _ _⟩
  case round =>
    obtain ⟨k, hk, rfl, hown, hb⟩ := hrel
    have hlen := F_len ((bl s).take k)
    rw [List.length_take, bl_size] at hlen
    by_cases hlt : k < s.size
    · have e1 := byN_get s k hlt
      have l1 := byN_lt s k
      have b0 : (0 : Int) ≤ (k : Int) := by omega
      have b1 : (k : Int) < (s.size : Int) := by omega
      have hst := F_step s k hlt
      by_cases hc : byN s k = 95
      · rw [if_pos hc] at hst
        rw [hc] at e1
        rw [← hst] at hown
        have Hown := Lib.hid hown
        clear hown hst hc l1 hlen
        go_wp2
        go_roundw
        case rel => exact ⟨k + 1, by omega, by go_num, Hown.out, hb⟩
        case measure => simp [intOf]; omega
      · rw [if_neg hc] at hst
        have d1 : ((byN s k : Int) != 95) = true := by simp; omega
        have d2 : ((byN s k : Int) == 95) = false := beq_eq_false_iff_ne.2 (by omega)
        have hbn : ((s.get! k).toNat : Int) = byN s k := rfl
        have Hst := Lib.hid hst
        have Hbn := Lib.hid hbn
        clear hst hc hbn
        generalize byN s k = C at e1 l1 d1 d2 Hbn
        generalize Nm.F ((bl s).take k) = T at hown hlen Hst
        go_wp2_with (at_builtin; refine wpList_append_own _ rfl _ _ 38 rfl w.heap.size 5 i0 (.int .u8 0) 1 1 Try.underlying38 hi hz0 hz1 hz2 rfl (by decide) _ _ _ rfl (hown.alloc _) ⟨wr.heap.size, 0, none⟩ 1 1 [.int .u8 C] rfl rfl ?c1 ?c2 ?c3 ?c4 ?c5 ?_)
        case c1 => exact one_cell
        case c2 => intro u hu; simp at hu; subst hu; rfl
        case c3 => unfold maxLen; omega
        case c4 => omega
        case c5 => have := hb.size; simp; omega
        · intro v' w2 hown2 hgrow _
          have hl2 := (hown.alloc (.cells #[.int .u8 C] 5)).lt
          have hb2 : Below w.heap.size w w2 := (hb.alloc hb.size _).grown hgrow (by have := hb.size; simp; omega) (fun k e => by have := hl2 _ e; omega)
          have hfin : w2.ownsRow w.heap.size 5 1 v' (Nm.F ((bl s).take (k + 1))).length (bCells (Nm.F ((bl s).take (k + 1)))) := by
            rw [Hst.out, bCells_snoc, List.length_append, Hbn.out]; exact hown2
          have Hfin := Lib.hid hfin
          clear hfin hown2 hgrow hown
          go_wp2
          go_roundw
          case rel => exact ⟨k + 1, by omega, by go_num, Hfin.out, hb2⟩
          case measure => simp [intOf]; omega
    · obtain rfl : k = s.size := by omega
      have ht : (bl s).take s.size = bl s := List.take_of_length_le (by rw [bl_size]; omega)
      rw [ht] at hown
      obtain ⟨x, c, rfl, hconv⟩ := conv_own hown
      have hcv := hconv 0
      clear hconv hown ht hlen
      simp only [World.drewN_zero] at hcv
      go_wp2
      go_ret
      exact ⟨rfl, hb⟩

set_option maxHeartbeats 2000000 in
theorem walk_NumberUnder (s : ByteArray) (w : World) (w0 : s.size ≤ 140737488351232) :
    Calls Try.prog 5 #[.string s] w fun e w' => e = .returned (.bool true) ∧ Below w.heap.size w w' := by
  have HK := fun w => kind_any s w (by omega)
  have hks := kind_small (bl s)
  have HW := fun w => without_any s w w0
  have HF := fun w => kind_any (txt (Nm.F (bl s))) w (by rw [txt_size]; have := F_len (bl s); rw [bl_size] at this; omega)
  rw [txt_bl] at HF
  by_cases h0 : Nm.kind (bl s) = 0
  · rw [h0] at HK
    clear HF HW h0 hks
    go_enter Try.func5, Try.ntmps5
    go_wp2_with fail
    refine (HK _).mono ?_
    rintro e w1 ⟨rfl, b1⟩
    go_wp2_with fail
    refine (fixed5_any _).mono ?_
    rintro e w3 ⟨rfl, b3⟩
    go_wp2
    go_ret
    exact ⟨rfl, b1.trans (b3.mono b1.size)⟩
  · rw [Nm.kind_F h0] at HF
    generalize Nm.kind (bl s) = K at HK HF hks h0
    have d1 : ((K : Int) == 0) = false := beq_eq_false_iff_ne.2 (by omega)
    generalize txt (Nm.F (bl s)) = t at HW HF
    go_enter Try.func5, Try.ntmps5
    go_wp2_with fail
    refine (HK _).mono ?_
    rintro e w1 ⟨rfl, b1⟩
    go_wp2_with fail
    refine (fixed5_any _).mono ?_
    rintro e w2 ⟨rfl, b2⟩
    have c2 := b1.trans (b2.mono b1.size)
    clear b1 b2
    go_wp2_with fail
    refine (HW _).mono ?_
    rintro e w3 ⟨rfl, b3⟩
    have c3 := c2.trans (b3.mono c2.size)
    clear c2 b3
    go_wp2_with fail
    refine (HF _).mono ?_
    rintro e w4 ⟨rfl, b4⟩
    have c4 := c3.trans (b4.mono c3.size)
    go_wp2
    go_ret
    exact ⟨rfl, c4⟩
end Go.Proofs.Ytdpngmhjdafdpaa
