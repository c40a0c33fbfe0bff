/- Contract of the reference's Begun (quoted): a rune. -/
import Derived.Test.YtdpngmhjdafdpaaQuRBegB
namespace Go.Proofs.Ytdpngmhjdafdpaa
open Go.RowKit Em
set_option linter.unusedVariables false
set_option linter.unusedSimpArgs false

theorem rune_39 (m : List UInt8) : Qm.rune (39 :: m) = none := by
  have h1 : Qm.rd (39 :: m) = some (39, m) := by
    have := Qm.rd_form (c := 39) (Qm.ok_small (by omega)) m
    rw [Qm.fm_small (by omega)] at this
    exact this
  unfold Qm.rune
  rw [if_neg (by rw [show Nm.at1 92 (39 :: m) = false from rfl]; decide), h1]
  rfl

theorem begV_none {s : ByteArray} {l : List UInt8} (h : Qm.whole l = none) : begV s l = .tuple #[.int .u8 0, .int .i64 0, .string ⟨#[]⟩, .int .i64 4] := by unfold begV; rw [h]

theorem own_keep_box {w w2 : World} {v : Value} {g : Nat} {n : Int} {y : ByteArray} {T : List UInt8} {m : Nat} (h : IBox w g n y) (hg : w.grownBy w2 v.ownBlock) (ho : w.ownsRow (g + 1) 5 1 v m (bCells T)) : IBox w2 g n y := by
  have hne : some g ≠ v.ownBlock := fun e => by have := (ho.lt _ e.symm).1; omega
  exact (hg.block g h.lt hne).trans h

set_option maxRecDepth 100000 in
set_option maxHeartbeats 4000000 in
theorem rbeg_rune (s : ByteArray) (n : Nat) (w : World) (hn : n < s.size) (hm : byN s n = 39) (hs : s.size ≤ 140737488355300) :
    Calls Try.prog 33 #[.string s, .int .i64 n] w fun e w' => e = .returned (begV s ((bl s).drop n)) ∧ Below w.heap.size w w' := by
  obtain ⟨i0, hi, hz0, hz1, hz2⟩ := info_parts info_u8
  have b0 : (0 : Int) ≤ (n : Int) := by omega
  have b1 : (n : Int) < (s.size : Int) := by omega
  have e1 := byN_get s n hn
  rw [hm] at e1
  obtain ⟨p, hp⟩ : ∃ p, n + 1 = p := ⟨_, rfl⟩
  have x0 : (n : Int) + 1 = (p : Int) := by omega
  have x1 : IntKind.i64.wrap (p : Int) = (p : Int) := IntWalk.i64_in _ (by omega)
  have x2 : (0 : Int) ≤ (p : Int) := by omega
  have hd := bl_drop' s n hn
  have hc : s[n]'hn = 39 := UInt8.toNat_inj.1 e1
  rw [hc, hp] at hd
  have hw : Qm.whole ((bl s).drop n) = (Qm.rune ((bl s).drop p)).map fun x => (6, x.1, x.2) := by rw [hd, Qm.whole39]
  have HW := Lib.hid hw
  have z1 : decide ((n : Int) < 0) = false := decide_eq_false (by omega)
  have z2 : decide ((s.size : Int) ≤ (n : Int)) = false := decide_eq_false (by omega)
  have z3 : decide (s.size ≤ n) = false := decide_eq_false (by omega)
  clear hd hw hc hm
  by_cases hend : s.size ≤ p
  · have he : (bl s).drop p = [] := List.drop_eq_nil_of_le (by rw [bl_size]; omega)
    have hfin := begV_none (s := s) (l := (bl s).drop n) (by rw [HW.out, he]; rfl)
    rw [hfin]
    have hpe : p = s.size := by omega
    clear hfin he hend HW
    subst hpe
    go_enter Try.func33, Try.ntmps33
    go_wp2
    go_loopw [9, 10] (fun u i wr => u = .slice none 0 0 ∧ i = .int .i64 (s.size : Nat) ∧ wr = w) (fun _ _ _ => 0)
    case atStart => exact ⟨rfl, rfl, rfl⟩
    case round =>
      obtain ⟨rfl, rfl, rfl⟩ := hrel
      go_wp2
      refine bodyPost_ret (v := .tuple #[.int .u8 0, .int .i64 0, .string ⟨#[]⟩, .int .i64 4]) ?_ ?_ ?_
      · simp [results, Try.results33]
      · rfl
      · exact ⟨rfl, Below.refl _ _⟩
  · have hps : p < s.size := by omega
    have x3 : (p : Int) < (s.size : Int) := by omega
    have x4 : ¬ (s.size : Int) ≤ (p : Int) := by omega
    have e2 := byN_get s p hps
    have l2 := byN_lt s p
    by_cases h39 : byN s p = 39
    · have hd := bl_drop' s p hps
      rw [h39] at e2
      have hc : s[p]'hps = 39 := UInt8.toNat_inj.1 e2
      rw [hc] at hd
      have hfin := begV_none (s := s) (l := (bl s).drop n) (by rw [HW.out, hd, rune_39]; rfl)
      rw [hfin]
      clear hfin hd hc h39 hend
      go_enter Try.func33, Try.ntmps33
      go_wp2
      go_loopw [9, 10] (fun u i wr => u = .slice none 0 0 ∧ i = .int .i64 p ∧ wr = w) (fun _ _ _ => 0)
      case atStart => exact ⟨rfl, rfl, rfl⟩
      case round =>
        obtain ⟨rfl, rfl, rfl⟩ := hrel
        go_wp2
        refine bodyPost_ret (v := .tuple #[.int .u8 0, .int .i64 0, .string ⟨#[]⟩, .int .i64 4]) ?_ ?_ ?_
        · simp [results, Try.results33]
        · rfl
        · exact ⟨rfl, Below.refl _ _⟩
    · obtain ⟨hR, hLs, hU4⟩ := rune_item s p hps h39
      have HI := fun w => ritem_any s p 39 w hps (.inr rfl) (by omega)
      generalize itL s p 39 = L at HI hR hLs
      generalize itT s p 39 = U at HI hR hU4
      have d1 : ((byN s p : Int) != 39) = true := by simp; omega
      have d2 : ((byN s p : Int) == 39) = false := beq_eq_false_iff_ne.2 (by omega)
      generalize byN s p = C at e2 l2 d1 d2
      have HR := Lib.hid hR
      clear hR h39 hend
      go_enter Try.func33, Try.ntmps33
      go_wp2
      go_loopw [9, 10] (fun u i wr => u = .slice none 0 0 ∧ i = .int .i64 p ∧ wr = w) (fun _ _ _ => 0)
      case atStart => exact ⟨rfl, rfl, rfl⟩
      case round =>
        obtain ⟨rfl, rfl, hww⟩ := hrel
        have hww := hww.symm
        subst hww
        by_cases hL0 : L = 0
        · subst hL0
          have hfin := begV_none (s := s) (l := (bl s).drop n) (by rw [HW.out, HR.out, if_pos rfl]; rfl)
          have Hfin := Lib.hid hfin
          clear hfin
          go_wp2_with fail
          refine (HI _).mono ?_
          rintro e w1 ⟨rfl, g1⟩
          go_wp2
          refine bodyPost_ret (v := .tuple #[.int .u8 0, .int .i64 0, .string ⟨#[]⟩, .int .i64 4]) ?_ ?_ ?_
          · simp [results, Try.results33]
          · rfl
          · exact ⟨by rw [Hfin.out], g1.alloc g1.size _⟩
        · have dL : ((L : Int) == 0) = false := beq_eq_false_iff_ne.2 (by omega)
          go_wp2_with fail
          refine (HI _).mono ?_
          rintro e w1 ⟨rfl, g1⟩
          have hbx : IBox (w1.alloc (.cells #[.int .i64 L, .string U] 57)) w1.heap.size L U := heap_alloc_new w1 _
          have hb1 := g1.alloc g1.size (.cells #[.int .i64 L, .string U] 57)
          have hgs := g1.size
          have Hbx := Lib.hid hbx
          have Hb1 := Lib.hid hb1
          clear hbx hb1 g1
          have c0 := Hbx.out.c0
          have c1 := Hbx.out.c1
          go_wp2
          clear c0 c1
          go_loopw [9, 12] (fun u j wr => ∃ k : Nat, k ≤ U.size ∧ j = .int .i64 k ∧ wr.ownsRow (w1.heap.size + 1) 5 1 u ((bl U).take k).length (bCells ((bl U).take k)) ∧ IBox wr w1.heap.size L U ∧ Below w.heap.size w wr) (fun _ j _ => U.size - (intOf j).toNat)
          case atStart => exact ⟨0, by omega, rfl, World.ownsRow_nil _ _ _ _, Hbx.out, Hb1.out⟩
          case round =>
            obtain ⟨k, hk, rfl, ho, hbx, hb⟩ := hrel
            have c0 := hbx.c0
            have c1 := hbx.c1
            have k0 : (0 : Int) ≤ (k : Int) := by omega
            have hTl : ((bl U).take k).length = k := by rw [List.length_take, bl_size]; omega
            have hbs := hb.size
            have hgl := hbx.lt
            by_cases hlt : k < U.size
            · obtain ⟨c, hsn, hcB⟩ := take_snoc' U k hlt
              have e3 := byN_get U k hlt
              have l3 := byN_lt U k
              rw [← hcB] at e3 l3
              have k1 : (k : Int) < (U.size : Int) := by omega
              have hTc : bCells ((bl U).take k) ++ [.int .u8 (c.toNat : Int)] = bCells ((bl U).take (k + 1)) := by rw [hsn, bCells_snoc]
              have hl1 : ((bl U).take k).length + 1 = ((bl U).take (k + 1)).length := by rw [hsn, List.length_append]; rfl
              have HTc := Lib.hid hTc
              have HL1 := Lib.hid hl1
              obtain ⟨C3, hC3⟩ : ∃ C3, c.toNat = C3 := ⟨_, rfl⟩
              rw [hC3] at e3 l3 HTc
              clear hsn hcB hTc hl1 hC3
              generalize (bl U).take k = T at ho hTl HTc HL1
              have hlt1 := ho.lt
              have Hbx2 := Lib.hid hbx
              have Hb2 := Lib.hid hb
              clear hbx hb
              go_wp2_with (at_builtin; refine wpList_append_own_at _ rfl _ _ 38 rfl (w1.heap.size + 1) 5 i0 (.int .u8 0) 1 1 Try.underlying38 hi hz0 hz1 hz2 rfl (by decide) _ _ _ rfl (ho.alloc _) ⟨wr.heap.size, 0, none⟩ 1 1 [.int .u8 C3] rfl rfl ?c1 ?c2 ?c3 ?c4 ?c5 ?_)
              try (case c1 => exact one_cell2)
              case c2 => first | rfl | (intro u hu; simp at hu; subst hu; rfl)
              case c3 => unfold maxLen; omega
              case c4 => omega
              case c5 => first | omega | (simp; omega)
              · intro v1 w2 hown1 hgrow _ _
                rw [HTc.out] at hown1
                obtain ⟨y, yc, rfl⟩ := own_slice hown1
                have hbx3 := own_keep_box (Hbx2.out.alloc _) hgrow (ho.alloc _)
                have hb3 : Below w.heap.size w w2 := (Hb2.out.alloc hbs _).grown hgrow (by simp; omega) (fun q e => by have := (hlt1 q e).1; omega)
                have Ho1 := Lib.hid hown1
                have Hbx3 := Lib.hid hbx3
                have Hb3 := Lib.hid hb3
                clear hown1 hbx3 hb3 hgrow ho c0 c1
                go_wp2
                go_roundw
                case rel => exact ⟨k + 1, by omega, by go_num, by rw [← HL1.out, hTl]; exact Ho1.out, Hbx3.out, Hb3.out⟩
                case measure => simp [intOf]; omega
            · obtain rfl : k = U.size := by omega
              have ht : (bl U).take U.size = bl U := List.take_of_length_le (by rw [bl_size]; omega)
              rw [ht] at ho
              have hR2 := HR.out
              rw [if_neg hL0] at hR2
              obtain ⟨X, hX⟩ : ∃ X, p + L = X := ⟨_, rfl⟩
              rw [hX] at hR2 hLs
              have v1 : (p : Int) + (L : Int) = (X : Int) := by omega
              have v2 : IntKind.i64.wrap (X : Int) = (X : Int) := IntWalk.i64_in _ (by omega)
              have v3 : (0 : Int) ≤ (X : Int) := by omega
              have v4 : ((X : Int) == (p : Int)) = false := beq_eq_false_iff_ne.2 (by omega)
              have Hb2 := Lib.hid hb
              clear hbx hb
              by_cases hXe : X = s.size
              · have he : (bl s).drop X = [] := List.drop_eq_nil_of_le (by rw [bl_size]; omega)
                have hfin := begV_none (s := s) (l := (bl s).drop n) (by rw [HW.out, hR2, he]; rfl)
                have Hfin := Lib.hid hfin
                clear hfin he hR2 hTl ht ho
                subst hXe
                go_wp2
                refine bodyPost_ret (v := .tuple #[.int .u8 0, .int .i64 0, .string ⟨#[]⟩, .int .i64 4]) ?_ ?_ ?_
                · simp [results, Try.results33]
                · rfl
                · exact ⟨by rw [Hfin.out], Hb2.out⟩
              · have hXs : X < s.size := by omega
                have v5 : (X : Int) < (s.size : Int) := by omega
                have v6 : ¬ (s.size : Int) ≤ (X : Int) := by omega
                have hd := bl_drop' s X hXs
                have e4 := byN_get s X hXs
                have l4 := byN_lt s X
                by_cases h39 : byN s X = 39
                · rw [h39] at e4
                  have hc : s[X]'hXs = 39 := UInt8.toNat_inj.1 e4
                  rw [hc] at hd
                  have hl : ((bl s).drop (X + 1)).length = s.size - (X + 1) := by rw [List.length_drop, bl_size]
                  have hfin : begV s ((bl s).drop n) = .tuple #[.int .u8 6, .int .i64 ((X : Int) + 1), .string U, .int .i64 0] := by
                    unfold begV
                    rw [HW.out, hR2, hd, Qm.close_yes]
                    simp only [Option.map_some]
                    rw [show (s.size : Int) - (((bl s).drop (X + 1)).length : Int) = (X : Int) + 1 by rw [hl]; omega, bl_txt]
                    rfl
                  have Hfin := Lib.hid hfin
                  have hbl : (bl U).length = U.size := bl_size U
                  have ho' : wr.ownsRow (w1.heap.size + 1) 5 1 u9 (bl U).length (bCells (bl U)) := ho
                  obtain ⟨x, cc, rfl, hcv⟩ := conv_own ho'
                  have hcv1 : (convert 38 9 (.slice x (bl U).length cc)).run Try.prog wr.drew = .ok (.string (txt (bl U))) wr.drew := hcv 1
                  rw [bl_txt] at hcv1
                  have v7 : IntKind.i64.wrap ((X : Int) + 1) = (X : Int) + 1 := IntWalk.i64_in _ (by omega)
                  clear hfin hR2 hTl ht ho ho' hcv hd hc hl h39 l4
                  generalize (bl U).length = N9 at hcv1
                  go_wp2
                  go_region
                  all_goals (
                    go_wp2
                    refine bodyPost_ret (v := .tuple #[.int .u8 6, .int .i64 ((X : Int) + 1), .string U, .int .i64 0]) ?_ ?_ ?_
                    · simp [results, Try.results33]
                    · rfl
                    · exact ⟨by rw [Hfin.out], below_drw Hb2.out 1⟩)
                · have hfin := begV_none (s := s) (l := (bl s).drop n) (by
                    rw [HW.out, hR2, hd, Qm.close, if_neg (by rw [e4]; exact h39)]; rfl)
                  have Hfin := Lib.hid hfin
                  have d9 : ((byN s X : Int) != 39) = true := by simp; omega
                  clear hfin hR2 hTl ht ho hd h39
                  generalize byN s X = C9 at e4 l4 d9
                  go_wp2
                  refine bodyPost_ret (v := .tuple #[.int .u8 0, .int .i64 0, .string ⟨#[]⟩, .int .i64 4]) ?_ ?_ ?_
                  · simp [results, Try.results33]
                  · rfl
                  · exact ⟨by rw [Hfin.out], Hb2.out⟩
end Go.Proofs.Ytdpngmhjdafdpaa
