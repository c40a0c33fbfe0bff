/- The walks of the laws NumberWhole, NumberSigns. -/
import Derived.Test.YtdpngmhjdafdpaaNuLawB
namespace Go.Proofs.Ytdpngmhjdafdpaa
open Go.RowKit Em
set_option linter.unusedVariables false
set_option linter.unusedSimpArgs false

/-- What is found at a place of a text whose rest is known. -/
theorem scan_of {X : ByteArray} {p : Nat} {m v : List UInt8} (hd : (bl X).drop p = m ++ v) (hb : Nm.begins (m ++ v) = true) (hr : Nm.runOf (m ++ v) = m.length) (hk : Nm.kind m ≠ 0) :
    scanK X p = Nm.kind m ∧ scanT X p = (p : Int) + m.length ∧ scanE X p = 0 := by
  have hp : p < X.size := by
    by_cases h : p < X.size
    · exact h
    · rw [bl_over X p h] at hd
      rw [← hd] at hb; cases hb
  have hB : begB X p = true := by
    unfold begB
    rw [if_neg (by omega), Int.toNat_natCast, hd]; exact hb
  have hK : scanK X p = Nm.kind m := by
    unfold scanK
    rw [hB, if_pos rfl, Int.toNat_natCast, hd, hr, List.take_left]
  refine ⟨hK, ?_, ?_⟩
  · unfold scanT
    rw [hK, if_neg hk, Int.toNat_natCast, hd, hr]
  · unfold scanE
    rw [hB, if_pos rfl, hK, if_neg hk]

set_option maxHeartbeats 4000000 in
theorem walk_NumberWhole (s ahead : ByteArray) (at' : Int) (w : World) (w0 : s.size ≤ 140737488351232) (w1 : ahead.size ≤ 140737488351232) (w2 : (Lit.int .i64 at').wf = true) :
    Calls Try.prog 7 #[.string s, .string ahead, .int .i64 at'] w fun e w' => e = .returned (.bool true) ∧ Below w.heap.size w w' := by
  have HS := fun w => scan_any s at' w (by omega)
  clear w2
  by_cases h0 : scanK s at' = 0
  · have t0 : scanT s at' = 0 := if_pos h0
    have e0 : scanE s at' = 15 ∨ scanE s at' = 4 := by
      unfold scanE
      repeat' split
      all_goals first | exact .inl rfl | exact .inr rfl | contradiction
    rw [h0, t0] at HS
    clear h0 t0
    rcases e0 with e0 | e0
    all_goals (
      rw [e0] at HS
      clear e0
      go_enter Try.func7, Try.ntmps7
      go_wp2_with fail
      refine (HS _).mono ?_
      rintro e w1 ⟨rfl, b1⟩
      go_wp2_with fail
      refine (fixed5_any _).mono ?_
      rintro e w2 ⟨rfl, b2⟩
      have c2 := b1.trans (b2.mono b1.size)
      clear b1 b2
      go_wp2_with fail
      refine (fixed5_any _).mono ?_
      rintro e w3 ⟨rfl, b3⟩
      have c3 := c2.trans (b3.mono c2.size)
      go_wp2
      go_ret
      exact ⟨rfl, c3⟩)
  · have hB : begB s at' = true := by
      cases h : begB s at' with
      | true => rfl
      | false => unfold scanK at h0; rw [h] at h0; exact absurd rfl h0
    obtain ⟨k, rfl, hk, hbeg⟩ := begB_at hB
    have t0 : scanT s k = (k : Int) + Nm.runOf ((bl s).drop k) := by unfold scanT; rw [if_neg h0, Int.toNat_natCast]
    have e0 : scanE s k = 0 := by unfold scanE; rw [hB, if_pos rfl, if_neg h0]
    have k0 : scanK s k = Nm.kind (((bl s).drop k).take (Nm.runOf ((bl s).drop k))) := by unfold scanK; rw [hB, if_pos rfl, Int.toNat_natCast]
    have hle : Nm.runOf ((bl s).drop k) ≤ s.size - k := by have := Nm.runOf_le ((bl s).drop k); rw [List.length_drop, bl_size] at this; exact this
    have hpos := Nm.runOf_pos hbeg
    obtain ⟨r1, r2⟩ := Nm.run_whole hbeg
    have hml : (((bl s).drop k).take (Nm.runOf ((bl s).drop k))).length = Nm.runOf ((bl s).drop k) := by
      rw [List.length_take]; have := Nm.runOf_le ((bl s).drop k); omega
    have HK := fun w => kind_any (s.extract k (k + Nm.runOf ((bl s).drop k))) w (Nat.le_trans (size_ext _ _ _) (by omega))
    rw [ext_run, ← k0] at HK
    rw [t0, e0] at HS
    have hsx : (s.extract k (k + Nm.runOf ((bl s).drop k))).size = Nm.runOf ((bl s).drop k) := by rw [← bl_size, ext_run, hml]
    have hX : bl (ahead ++ ⟨#[32]⟩ ++ s.extract k (k + Nm.runOf ((bl s).drop k)) ++ ⟨#[32]⟩) = (bl ahead ++ [32]) ++ (((bl s).drop k).take (Nm.runOf ((bl s).drop k)) ++ [32]) := by
      rw [bl_append, bl_append, bl_append, ext_run]
      show ((bl ahead ++ [32]) ++ _) ++ [32] = _
      rw [List.append_assoc]
    have hsz : (ahead ++ ⟨#[32]⟩ ++ s.extract k (k + Nm.runOf ((bl s).drop k)) ++ ⟨#[32]⟩).size ≤ 4611686018427387000 := by
      rw [ByteArray.size_append, ByteArray.size_append, ByteArray.size_append, hsx]
      show ahead.size + 1 + _ + 1 ≤ _
      omega
    have HX := fun w => scan_any (ahead ++ ⟨#[32]⟩ ++ s.extract k (k + Nm.runOf ((bl s).drop k)) ++ ⟨#[32]⟩) ((ahead.size + 1 : Nat) : Int) w hsz
    have hdX : (bl (ahead ++ ⟨#[32]⟩ ++ s.extract k (k + Nm.runOf ((bl s).drop k)) ++ ⟨#[32]⟩)).drop (ahead.size + 1) = ((bl s).drop k).take (Nm.runOf ((bl s).drop k)) ++ [32] := by
      rw [hX, List.drop_left']
      rw [List.length_append, bl_size]; rfl
    obtain ⟨x1, x2, x3⟩ := scan_of hdX r1 (by rw [r2, hml]) (by rw [← k0]; exact h0)
    rw [x1, x2, x3, ← k0, hml] at HX
    have hks : scanK s k < 256 := by rw [k0]; exact kind_small _
    clear x1 x2 x3 hdX hX r1 r2 k0 t0 e0 hB hbeg hml hsz
    generalize Nm.runOf ((bl s).drop k) = n at *
    generalize scanK s k = K at *
    have b0 : (0 : Int) ≤ (k : Int) := by omega
    have b1 : (k : Int) ≤ (k : Int) + (n : Int) := by omega
    have b2 : (k : Int) + (n : Int) ≤ (s.size : Int) := by omega
    have b3 : ¬ (k : Int) < 0 := by omega
    have b4 : ¬ (k : Int) + (n : Int) ≤ (k : Int) := by omega
    have b5 : ¬ (s.size : Int) < (k : Int) + (n : Int) := by omega
    have hcast : ((ahead.size + 1 : Nat) : Int) = (ahead.size : Int) + 1 := by push_cast; rfl
    simp only [hcast] at HX
    clear hcast
    have dd : ((ahead.size : Int) + 1 + (n : Int) == (ahead.size : Int) + 1 + ((k : Int) + (n : Int)) - (k : Int)) = true := by simp; omega
    have f1 : ¬ 9223372036854775807 < ahead.size + 1 := by omega
    have f2 : ¬ 9223372036854775807 < ahead.size + 1 + n := by omega
    have f3 : ¬ 9223372036854775807 < ahead.size + 1 + n + 1 := by omega
    go_enter Try.func7, Try.ntmps7
    go_wp2_with fail
    refine (HS _).mono ?_
    rintro e w1 ⟨rfl, b1⟩
    go_wp2_with fail
    refine (fixed5_any _).mono ?_
    rintro e w2 ⟨rfl, b2⟩
    have c2 := b1.trans (b2.mono b1.size)
    clear b1 b2
    go_wp2_with fail
    refine (HK _).mono ?_
    rintro e w3 ⟨rfl, b3⟩
    have c3 := c2.trans (b3.mono c2.size)
    clear c2 b3
    go_wp2_with fail
    refine (HX _).mono ?_
    rintro e w4 ⟨rfl, b4⟩
    have c4 := c3.trans (b4.mono c3.size)
    clear c3 b4
    go_wp2
    go_ret
    exact ⟨rfl, c4⟩

/-- The texts that stand behind. -/
def signs : List ByteArray := [⟨#[43]⟩, ⟨#[45]⟩, ⟨#[59]⟩, ⟨#[41]⟩, ⟨#[32]⟩, ⟨#[42]⟩, ⟨#[195, 169]⟩]
def sgn (k : Nat) : ByteArray := signs.getD k ByteArray.empty
theorem sgn_spell (k : Nat) (h : k < 7) : ∃ c v, bl (sgn k) = c :: v ∧ Nm.inner c = false ∧ (sgn k).size ≤ 2 := by
  match k, h with
  | 0, _ => exact ⟨43, [], rfl, by decide, by decide⟩
  | 1, _ => exact ⟨45, [], rfl, by decide, by decide⟩
  | 2, _ => exact ⟨59, [], rfl, by decide, by decide⟩
  | 3, _ => exact ⟨41, [], rfl, by decide, by decide⟩
  | 4, _ => exact ⟨32, [], rfl, by decide, by decide⟩
  | 5, _ => exact ⟨42, [], rfl, by decide, by decide⟩
  | 6, _ => exact ⟨195, [169], rfl, by decide, by decide⟩

/-- The row of the signs. -/
def SgRow (w : World) (g : Nat) : Prop := ∀ k, k < 7 → w.cell? ⟨g, k, none⟩ = some (.string (sgn k))
theorem SgRow.keep {w w' : World} {g : Nat} (h : SgRow w g) (hb : Below w.heap.size w w') : SgRow w' g := fun k hk => (hb.cell (World.block_lt_of_cell? w _ (h k hk))).trans (h k hk)
theorem sg_start (w : World) : SgRow (w.alloc (.cells #[.string ⟨#[43]⟩, .string ⟨#[45]⟩, .string ⟨#[59]⟩, .string ⟨#[41]⟩, .string ⟨#[32]⟩, .string ⟨#[42]⟩, .string ⟨#[195, 169]⟩] 9)) w.heap.size := by
  intro k hk
  rw [cell_of_row _ _ k _ _ _ (heap_alloc_new w _)]
  match k, hk with
  | 0, _ => rfl
  | 1, _ => rfl
  | 2, _ => rfl
  | 3, _ => rfl
  | 4, _ => rfl
  | 5, _ => rfl
  | 6, _ => rfl

set_option maxHeartbeats 4000000 in
theorem walk_NumberSigns (s : ByteArray) (w : World) (w0 : s.size ≤ 140737488351232) :
    Calls Try.prog 8 #[.string s] w fun e w' => e = .returned (.bool true) ∧ Below w.heap.size w w' := by
  have HK := fun w => kind_any s w (by omega)
  have hks := kind_small (bl s)
  by_cases h0 : Nm.kind (bl s) = 0
  · rw [h0] at HK
    clear h0 hks
    go_enter Try.func8, Try.ntmps8
    go_wp2_with fail
    refine (HK _).mono ?_
    rintro e w1 ⟨rfl, b1⟩
    go_wp2_with fail
    refine (fixed5_any _).mono ?_
    rintro e w2 ⟨rfl, b2⟩
    have c2 := b1.trans (b2.mono b1.size)
    clear b1 b2
    go_wp2_with fail
    refine (fixed5_any _).mono ?_
    rintro e w3 ⟨rfl, b3⟩
    go_wp2
    go_ret
    exact ⟨rfl, c2.trans (b3.mono c2.size)⟩
  · have HX : ∀ k, k < 7 → ∀ w, Calls Try.prog 14 #[.string (s ++ sgn k), .int .i64 0] w fun e w' => e = .returned (.tuple #[.int .u8 (Nm.kind (bl s) : Nat), .int .i64 (s.size : Nat), .int .i64 0]) ∧ Below w.heap.size w w' := by
      intro k hk w
      obtain ⟨c, v, e1, e2, e3⟩ := sgn_spell k hk
      have H := scan_any (s ++ sgn k) ((0 : Nat) : Int) w (by rw [ByteArray.size_append]; omega)
      obtain ⟨r1, r2⟩ := Nm.run_signs h0 e2 v
      have hd : (bl (s ++ sgn k)).drop 0 = bl s ++ c :: v := by rw [List.drop_zero, bl_append, e1]
      obtain ⟨x1, x2, x3⟩ := scan_of hd r1 r2 h0
      rw [x1, x2, x3, bl_size] at H
      simpa using H
    generalize Nm.kind (bl s) = K at HK HX hks h0
    have d1 : ((K : Int) == 0) = false := beq_eq_false_iff_ne.2 (by omega)
    have HX' := Lib.hid HX
    clear HX
    go_enter Try.func8, Try.ntmps8
    go_wp2_with fail
    refine (HK _).mono ?_
    rintro e w1 ⟨rfl, b1⟩
    go_wp2_with fail
    refine (fixed5_any _).mono ?_
    rintro e w2 ⟨rfl, b2⟩
    have c2 := b1.trans (b2.mono b1.size)
    clear b1 b2
    have hrow := Lib.hid (sg_start w2)
    have hb3 := c2.alloc c2.size (.cells #[.string ⟨#[43]⟩, .string ⟨#[45]⟩, .string ⟨#[59]⟩, .string ⟨#[41]⟩, .string ⟨#[32]⟩, .string ⟨#[42]⟩, .string ⟨#[195, 169]⟩] 9)
    have Hb3 := Lib.hid hb3
    clear hb3
    go_wp2
    go_loopw [20] (fun i wr => ∃ k : Nat, k ≤ 7 ∧ i = .int .i64 k ∧ SgRow wr w2.heap.size ∧ Below w.heap.size w wr) (fun i _ => 7 - (intOf i).toNat)
    case atStart => exact ⟨0, by omega, rfl, hrow.out, Hb3.out⟩
    case round =>
      obtain ⟨k, hk, rfl, hr, hb⟩ := hrel
      have b0 : (0 : Int) ≤ (k : Int) := by omega
      by_cases hlt : k < 7
      · have b1 : (k : Int) < 7 := by omega
        have c1 := hr k hlt
        have HS := HX'.out k hlt
        have hz := (sgn_spell k hlt).choose_spec.choose_spec.2.2
        have f1 : ¬ 9223372036854775807 < s.size + (sgn k).size := by omega
        have Hr := Lib.hid hr
        clear hr
        generalize sgn k = c at c1 HS f1 hz
        go_wp2_with fail
        refine (HS _).mono ?_
        rintro e w4 ⟨rfl, b4⟩
        have r4 := Hr.out.keep b4
        have c4 := hb.trans (b4.mono hb.size)
        have R4 := Lib.hid r4
        clear r4 b4 hb
        go_wp2
        go_roundw
        case rel => exact ⟨k + 1, by omega, by go_num, R4.out, c4⟩
        case measure => simp [intOf]; omega
      · have b1 : ¬ (k : Int) < 7 := by omega
        go_wp2
        go_ret
        exact ⟨rfl, hb⟩
end Go.Proofs.Ytdpngmhjdafdpaa
