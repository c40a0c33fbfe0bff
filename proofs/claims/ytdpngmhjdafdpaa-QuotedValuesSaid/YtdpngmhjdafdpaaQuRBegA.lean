/- Contracts of the reference's Begun (quoted): none begins; a raw string. -/
import Derived.Test.YtdpngmhjdafdpaaQuRItem
import Derived.Maps.AppendAt
namespace Go.Proofs.Ytdpngmhjdafdpaa
open Go.RowKit Em
set_option linter.unusedVariables false
set_option linter.unusedSimpArgs false

/-- What Begun answers. -/
def begV (s : ByteArray) (l : List UInt8) : Value := match Qm.whole l with
  | some (k, t, q) => .tuple #[.int .u8 (k : Nat), .int .i64 ((s.size : Int) - (q.length : Int)), .string (txt t), .int .i64 0]
  | none => .tuple #[.int .u8 0, .int .i64 0, .string ⟨#[]⟩, .int .i64 4]

theorem rbeg_no (s : ByteArray) (at' : Int) (w : World) (h : at' < 0 ∨ (s.size : Int) ≤ at' ∨ ∃ k : Nat, at' = k ∧ k < s.size ∧ mkN (byN s k) = false) :
    Calls Try.prog 33 #[.string s, .int .i64 at'] w fun e w' => e = .returned (.tuple #[.int .u8 0, .int .i64 0, .string ⟨#[]⟩, .int .i64 15]) ∧ w = w' := by
  by_cases h0 : at' < 0
  · clear h
    go_enter Try.func33, Try.ntmps33
    go_wp2
    refine bodyPost_ret (v := .tuple #[.int .u8 0, .int .i64 0, .string ⟨#[]⟩, .int .i64 15]) ?_ ?_ ?_
    · simp [results, Try.results33]
    · rfl
    · exact ⟨rfl, rfl⟩
  · by_cases h1 : (s.size : Int) ≤ at'
    · clear h
      go_enter Try.func33, Try.ntmps33
      go_wp2
      refine bodyPost_ret (v := .tuple #[.int .u8 0, .int .i64 0, .string ⟨#[]⟩, .int .i64 15]) ?_ ?_ ?_
      · simp [results, Try.results33]
      · rfl
      · exact ⟨rfl, rfl⟩
    · obtain ⟨k, rfl, hk, hm⟩ := (h.resolve_left h0).resolve_left h1
      have b0 : (0 : Int) ≤ (k : Int) := by omega
      have b1 : (k : Int) < (s.size : Int) := by omega
      have e1 := byN_get s k hk
      have l1 := byN_lt s k
      have hm' : byN s k ≠ 39 ∧ byN s k ≠ 34 ∧ byN s k ≠ 96 := by
        unfold mkN at hm
        simp at hm
        omega
      have d1 : ((byN s k : Int) != 39) = true := by simp; omega
      have d2 : ((byN s k : Int) != 34) = true := by simp; omega
      have d3 : ((byN s k : Int) != 96) = true := by simp; omega
      clear h hm hm'
      generalize byN s k = B at e1 l1 d1 d2 d3
      go_enter Try.func33, Try.ntmps33
      go_wp2
      refine bodyPost_ret (v := .tuple #[.int .u8 0, .int .i64 0, .string ⟨#[]⟩, .int .i64 15]) ?_ ?_ ?_
      · simp [results, Try.results33]
      · rfl
      · exact ⟨rfl, rfl⟩

theorem raw_step (c : UInt8) (m : List UInt8) (h : c.toNat ≠ 96) : Qm.raw (c :: m) = (Qm.raw m).map fun x => ((if c.toNat = 13 then [] else [c]) ++ x.1, x.2) := by
  rw [Qm.raw, if_neg h]
  congr 1
  funext x
  by_cases h13 : c.toNat = 13 <;> simp [h13]

set_option maxRecDepth 100000 in
set_option maxHeartbeats 4000000 in
theorem rbeg_raw (s : ByteArray) (n : Nat) (w : World) (hn : n < s.size) (hm : byN s n = 96) (hs : s.size ≤ 140737488355300) :
    Calls Try.prog 33 #[.string s, .int .i64 n] w fun e w' => e = .returned (begV s ((bl s).drop n)) ∧ Below w.heap.size w w' := by
  obtain ⟨i0, hi, hz0, hz1, hz2⟩ := info_parts info_u8
  have b0 : (0 : Int) ≤ (n : Int) := by omega
  have b1 : (n : Int) < (s.size : Int) := by omega
  have e1 := byN_get s n hn
  rw [hm] at e1
  have x1 : IntKind.i64.wrap ((n : Int) + 1) = (n : Int) + 1 := IntWalk.i64_in _ (by omega)
  have hd := bl_drop' s n hn
  have hc : s[n]'hn = 96 := UInt8.toNat_inj.1 e1
  rw [hc] at hd
  have hw : Qm.whole ((bl s).drop n) = (Qm.raw ((bl s).drop (n + 1))).map fun x => (7, x.1, x.2) := by rw [hd, Qm.whole96]
  have HW := Lib.hid hw
  have z1 : decide ((n : Int) < 0) = false := decide_eq_false (by omega)
  have z2 : decide ((s.size : Int) ≤ (n : Int)) = false := decide_eq_false (by omega)
  have z3 : decide (s.size ≤ n) = false := decide_eq_false (by omega)
  clear hd hw hc hm
  go_enter Try.func33, Try.ntmps33
  go_wp2
  go_loopw [9, 10] (fun u i wr => ∃ (k : Nat) (T : List UInt8), n + 1 ≤ k ∧ k ≤ s.size ∧ i = .int .i64 k ∧ wr.ownsRow w.heap.size 5 1 u T.length (bCells T) ∧ T.length ≤ k ∧ Qm.raw ((bl s).drop (n + 1)) = (Qm.raw ((bl s).drop k)).map (fun x => (T ++ x.1, x.2)) ∧ Below w.heap.size w wr) (fun _ i _ => s.size - (intOf i).toNat)
  case atStart => exact ⟨n + 1, [], by omega, by omega, by go_num, World.ownsRow_nil _ _ _ _, by simp, by cases Qm.raw ((bl s).drop (n + 1)) <;> simp, Below.refl _ _⟩
  case round =>
    obtain ⟨k, T, hk1, hk, rfl, ho, hT, hr, hb⟩ := hrel
    have k0 : (0 : Int) ≤ (k : Int) := by omega
    by_cases hlt : k < s.size
    · have k1 : (k : Int) < (s.size : Int) := by omega
      have k2 : ¬ (s.size : Int) ≤ (k : Int) := by omega
      have hd := bl_drop' s k hlt
      obtain ⟨c, hc⟩ : ∃ c, s[k]'hlt = c := ⟨_, rfl⟩
      obtain ⟨C, hC⟩ : ∃ C, c.toNat = C := ⟨_, rfl⟩
      have e2 : (s[k]'hlt).toNat = C := by rw [hc, hC]
      have l2 : C < 256 := by rw [← hC]; exact c.toNat_lt
      rw [hc] at hd
      by_cases h96 : C = 96
      · have hl : ((bl s).drop (k + 1)).length = s.size - (k + 1) := by rw [List.length_drop, bl_size]
        have hfin : begV s ((bl s).drop n) = .tuple #[.int .u8 7, .int .i64 ((k : Int) + 1), .string (txt T), .int .i64 0] := by
          unfold begV
          rw [HW.out, hr, hd, Qm.raw, if_pos (by rw [hC]; exact h96)]
          simp only [Option.map_some, List.append_nil]
          rw [show (s.size : Int) - (((bl s).drop (k + 1)).length : Int) = (k : Int) + 1 by rw [hl]; omega]
          rfl
        have Hfin := Lib.hid hfin
        obtain ⟨x, cc, rfl, hcv⟩ := conv_own ho
        have x2 : IntKind.i64.wrap ((k : Int) + 1) = (k : Int) + 1 := IntWalk.i64_in _ (by omega)
        have Hb := Lib.hid hb
        subst h96
        have hcv0 := hcv 0
        have hcv1 : (convert 38 9 (.slice x T.length cc)).run Try.prog wr.drew = .ok (.string (txt T)) wr.drew := hcv 1
        simp only [World.drewN_zero] at hcv0
        clear hfin hr hd hl hb hc hC ho
        clear hcv hcv0
        go_wp2
        go_region
        all_goals (
          go_wp2
          refine bodyPost_ret (v := .tuple #[.int .u8 7, .int .i64 ((k : Int) + 1), .string (txt T), .int .i64 0]) ?_ ?_ ?_
          · simp [results, Try.results33]
          · rfl
          · exact ⟨by rw [Hfin.out], below_drw Hb.out 1⟩)
      · have d1 : ((C : Int) != 96) = true := by simp; omega
        have d2 : ((C : Int) == 96) = false := beq_eq_false_iff_ne.2 (by omega)
        rw [hd, raw_step c _ (by rw [hC]; exact h96), hC] at hr
        have hbs := hb.size
        by_cases h13 : C = 13
        · rw [if_pos h13] at hr
          have hr2 : Qm.raw ((bl s).drop (n + 1)) = (Qm.raw ((bl s).drop (k + 1))).map (fun x => (T ++ x.1, x.2)) := by
            rw [hr]; cases Qm.raw ((bl s).drop (k + 1)) <;> simp
          have Hr := Lib.hid hr2
          have Ho := Lib.hid ho
          have Hb := Lib.hid hb
          subst h13
          clear hr hr2 ho hb hd hc hC h96 d1 d2
          go_wp2
          go_roundw
          case rel => exact ⟨k + 1, T, by omega, by omega, by go_num, Ho.out, by omega, Hr.out, Hb.out⟩
          case measure => simp [intOf]; omega
        · rw [if_neg h13] at hr
          have d3 : ((C : Int) != 13) = true := by simp; omega
          have hr2 : Qm.raw ((bl s).drop (n + 1)) = (Qm.raw ((bl s).drop (k + 1))).map (fun x => ((T ++ [c]) ++ x.1, x.2)) := by
            rw [hr]; cases Qm.raw ((bl s).drop (k + 1)) <;> simp
          have Hr := Lib.hid hr2
          have hlt1 := ho.lt
          have Hb := Lib.hid hb
          have hTc : bCells T ++ [.int .u8 (C : Int)] = bCells (T ++ [c]) := by rw [bCells_snoc, hC]
          have HTc := Lib.hid hTc
          clear hr hr2 hb hd hc hC h96 h13 hTc
          go_wp2_with (at_builtin; refine wpList_append_own_at _ rfl _ _ 38 rfl w.heap.size 5 i0 (.int .u8 0) 1 1 Try.underlying38 hi hz0 hz1 hz2 rfl (by decide) _ _ _ rfl (ho.alloc _) ⟨wr.heap.size, 0, none⟩ 1 1 [.int .u8 C] rfl rfl ?c1 ?c2 ?c3 ?c4 ?c5 ?_)
          try (case c1 => exact one_cell2)
          case c2 => first | rfl | (intro u hu; simp at hu; subst hu; rfl)
          case c3 => unfold maxLen; omega
          case c4 => omega
          case c5 => first | omega | (simp; omega)
          · intro v1 w2 hown1 hgrow _ _
            rw [HTc.out] at hown1
            obtain ⟨y, yc, rfl⟩ := own_slice hown1
            have hb2 : Below w.heap.size w w2 := (Hb.out.alloc hbs _).grown hgrow (by simp; omega) (fun q e => (hlt1 q e).1)
            have hl1 : T.length + 1 = (T ++ [c]).length := by rw [List.length_append]; rfl
            have HL1 := Lib.hid hl1
            clear hl1
            have Ho1 := Lib.hid hown1
            have Hb2 := Lib.hid hb2
            clear hown1 hb2 hgrow ho
            go_wp2
            go_roundw
            case rel => exact ⟨k + 1, T ++ [c], by omega, by omega, by go_num, by rw [← HL1.out]; exact Ho1.out, by rw [← HL1.out]; omega, Hr.out, Hb2.out⟩
            case measure => simp [intOf]; omega
    · obtain rfl : k = s.size := by omega
      have he : (bl s).drop s.size = [] := List.drop_eq_nil_of_le (by rw [bl_size]; omega)
      have hfin : begV s ((bl s).drop n) = .tuple #[.int .u8 0, .int .i64 0, .string ⟨#[]⟩, .int .i64 4] := by
        unfold begV
        rw [HW.out, hr, he]; rfl
      have Hfin := Lib.hid hfin
      have Hb := Lib.hid hb
      clear hfin hr he hb ho
      go_wp2
      refine bodyPost_ret (v := .tuple #[.int .u8 0, .int .i64 0, .string ⟨#[]⟩, .int .i64 4]) ?_ ?_ ?_
      · simp [results, Try.results33]
      · rfl
      · exact ⟨by rw [Hfin.out], Hb.out⟩
end Go.Proofs.Ytdpngmhjdafdpaa
