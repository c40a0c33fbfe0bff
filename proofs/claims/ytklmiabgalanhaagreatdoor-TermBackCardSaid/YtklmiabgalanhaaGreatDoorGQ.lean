/- Contract of the reference's Begun (quoted): a rune. -/
import Derived.Test.YtklmiabgalanhaaGreatDoorGP
import Derived.Test.YtklmiabgalanhaaGreatDoorGO
namespace Go.Proofs.YtklmiabgalanhaaGreatDoor
open Go.RowKit Em
set_option maxRecDepth 100000
set_option linter.unusedVariables false
set_option linter.unusedSimpArgs false

theorem rune_39 (m : List UInt8) : Qm.rune (39 :: m) = none := by
  have h1 : Qm.rd (39 :: m) = some (39, m) := by
    have := Qm.rd_form (c := 39) (Qm.ok_small (by omega)) m
    rw [Qm.fm_small (by omega)] at this
    exact this
  unfold Qm.rune
  rw [if_neg (by rw [show Nm.at1 92 (39 :: m) = false from rfl]; decide), h1]
  rfl

theorem begV_none {s : ByteArray} {l : List UInt8} (h : Qm.whole l = none) : begV s l = .tuple #[.int .u8 0, .int .i64 0, .string ⟨#[]⟩, .int .i64 4] := by unfold begV; rw [h]

theorem own_keep_box {w w2 : World} {v : Value} {g : Nat} {n : Int} {y : ByteArray} {T : List UInt8} {m : Nat} (h : IBox w g n y) (hg : w.grownBy w2 v.ownBlock) (ho : w.ownsRow (g + 1) 5 1 v m (bCells T)) : IBox w2 g n y := by
  have hne : some g ≠ v.ownBlock := fun e => by have := (ho.lt _ e.symm).1; omega
  exact (hg.block g h.lt hne).trans h

set_option maxRecDepth 100000 in
set_option maxHeartbeats 4000000 in
theorem rbeg_rune (s : ByteArray) (n : Nat) (w : World) (hn : n < s.size) (hm : byN s n = 39) (hs : s.size ≤ 140737488355300) :
    Calls Tryz.prog 73 #[.string s, .int .i64 n] w fun e w' => e = .returned (begV s ((bl s).drop n)) ∧ Below w.heap.size w w' := by
  obtain ⟨i0, hi, hz0, hz1, hz2⟩ := info_parts info_u8
  have b0 : (0 : Int) ≤ (n : Int) := by omega
  have b1 : (n : Int) < (s.size : Int) := by omega
  have e1 := byN_get s n hn
  rw [hm] at e1
  obtain ⟨p, hp⟩ : ∃ p, n + 1 = p := ⟨_, rfl⟩
  have x0 : (n : Int) + 1 = (p : Int) := by omega
  have x1 : IntKind.i64.wrap (p : Int) = (p : Int) := IntWalk.i64_in _ (by omega)
  have x2 : (0 : Int) ≤ (p : Int) := by omega
  have hd := bl_drop' s n hn
  have hc : s[n]'hn = 39 := UInt8.toNat_inj.1 e1
  rw [hc, hp] at hd
  have hw : Qm.whole ((bl s).drop n) = (Qm.rune ((bl s).drop p)).map fun x => (6, x.1, x.2) := by rw [hd, Qm.whole39]
  have HW := Lib.hid hw
  have z1 : decide ((n : Int) < 0) = false := decide_eq_false (by omega)
  have z2 : decide ((s.size : Int) ≤ (n : Int)) = false := decide_eq_false (by omega)
  have z3 : decide (s.size ≤ n) = false := decide_eq_false (by omega)
  clear hd hw hc hm
  by_cases hend : s.size ≤ p
  · have he : (bl s).drop p = [] := List.drop_eq_nil_of_le (by rw [bl_size]; omega)
    have hfin := begV_none (s := s) (l := (bl s).drop n) (by rw [HW.out, he]; rfl)
    rw [hfin]
    have hpe : p = s.size := by omega
    clear hfin he hend HW
    subst hpe
    go_enter Tryz.func73, Tryz.ntmps73
    go_wp2
    go_loopw [9, 10] (fun u i wr => u = .slice none 0 0 ∧ i = .int .i64 (s.size : Nat) ∧ wr = w) (fun _ _ _ => 0)
    case atStart => exact ⟨rfl, rfl, rfl⟩
    case round =>
      obtain ⟨rfl, rfl, rfl⟩ := hrel
      go_wp2
      refine bodyPost_ret (v := .tuple #[.int .u8 0, .int .i64 0, .string ⟨#[]⟩, .int .i64 4]) ?_ ?_ ?_
      · simp [results, Tryz.results73]
      · rfl
      · exact ⟨rfl, Below.refl _ _⟩
  · have hps : p < s.size := by omega
    have x3 : (p : Int) < (s.size : Int) := by omega
    have x4 : ¬ (s.size : Int) ≤ (p : Int) := by omega
    have e2 := byN_get s p hps
    have l2 := byN_lt s p
    by_cases h39 : byN s p = 39
    · have hd := bl_drop' s p hps
      rw [h39] at e2
      have hc : s[p]'hps = 39 := UInt8.toNat_inj.1 e2
      rw [hc] at hd
      have hfin := begV_none (s := s) (l := (bl s).drop n) (by rw [HW.out, hd, rune_39]; rfl)
      rw [hfin]
      clear hfin hd hc h39 hend
      go_enter Tryz.func73, Tryz.ntmps73
      go_wp2
      go_loopw [9, 10] (fun u i wr => u = .slice none 0 0 ∧ i = .int .i64 p ∧ wr = w) (fun _ _ _ => 0)
      case atStart => exact ⟨rfl, rfl, rfl⟩
      case round =>
        obtain ⟨rfl, rfl, rfl⟩ := hrel
        go_wp2
        refine bodyPost_ret (v := .tuple #[.int .u8 0, .int .i64 0, .string ⟨#[]⟩, .int .i64 4]) ?_ ?_ ?_
        · simp [results, Tryz.results73]
        · rfl
        · exact ⟨rfl, Below.refl _ _⟩
    · obtain ⟨hR, hLs, hU4⟩ := rune_item s p hps h39
      have HI := fun w => ritem_any s p 39 w hps (.inr rfl) (by omega)
      generalize itL s p 39 = L at HI hR hLs
      generalize itT s p 39 = U at HI hR hU4
      have d1 : ((byN s p : Int) != 39) = true := by simp; omega
      have d2 : ((byN s p : Int) == 39) = false := beq_eq_false_iff_ne.2 (by omega)
      generalize byN s p = C at e2 l2 d1 d2
      have HR := Lib.hid hR
      clear hR h39 hend
      go_enter Tryz.func73, Tryz.ntmps73
      go_wp2
      go_loopw [9, 10] (fun u i wr => u = .slice none 0 0 ∧ i = .int .i64 p ∧ wr = w) (fun _ _ _ => 0)
      case atStart => exact ⟨rfl, rfl, rfl⟩
      case round =>
        obtain ⟨rfl, rfl, hww⟩ := hrel
        have hww := hww.symm
        subst hww
        by_cases hL0 : L = 0
        · subst hL0
          have hfin := begV_none (s := s) (l := (bl s).drop n) (by rw [HW.out, HR.out, if_pos rfl]; rfl)
          have Hfin := Lib.hid hfin
          clear hfin
          go_wp2_with fail
          refine (HI _).mono ?_
          rintro e w1 ⟨rfl, g1⟩
          go_wp2
          refine bodyPost_ret (v := .tuple #[.int .u8 0, .int .i64 0, .string ⟨#[]⟩, .int .i64 4]) ?_ ?_ ?_
          · simp [results, Tryz.results73]
          · rfl
          · exact ⟨by rw [Hfin.out], g1.alloc g1.size _⟩
        · have dL : ((L : Int) == 0) = false := beq_eq_false_iff_ne.2 (by omega)
          go_wp2_with fail
          refine (HI _).mono ?_
          rintro e w1 ⟨rfl, g1⟩
          have hbx : IBox (w1.alloc (.cells #[.int .i64 L, .string U] 111)) w1.heap.size L U := heap_alloc_new w1 _
          have hb1 := g1.alloc g1.size (.cells #[.int .i64 L, .string U] 111)
          have hgs := g1.size
          have Hbx := Lib.hid hbx
          have Hb1 := Lib.hid hb1
          clear hbx hb1 g1
          have c0 := Hbx.out.c0
          have c1 := Hbx.out.c1
          go_wp2
          clear c0 c1
          go_loopw [9, 12] (fun u j wr => ∃ k : Nat, k ≤ U.size ∧ j = .int .i64 k ∧ wr.ownsRow (w1.heap.size + 1) 5 1 u ((bl U).take k).length (bCells ((bl U).take k)) ∧ IBox wr w1.heap.size L U ∧ Below w.heap.size w wr) (fun _ j _ => U.size - (intOf j).toNat)
          case atStart => exact ⟨0, by omega, rfl, World.ownsRow_nil _ _ _ _, Hbx.out, Hb1.out⟩
          case round =>
            obtain ⟨k, hk, rfl, ho, hbx, hb⟩ := hrel
            have c0 := hbx.c0
            have c1 := hbx.c1
            have k0 : (0 : Int) ≤ (k : Int) := by omega
            have hTl : ((bl U).take k).length = k := by rw [List.length_take, bl_size]; omega
            have hbs := hb.size
            have hgl := hbx.lt
            by_cases hlt : k < U.size
            · obtain ⟨c, hsn, hcB⟩ := take_snoc' U k hlt
              have e3 := byN_get U k hlt
              have l3 := byN_lt U k
              rw [← hcB] at e3 l3
              have k1 : (k : Int) < (U.size : Int) := by omega
              have hTc : bCells ((bl U).take k) ++ [.int .u8 (c.toNat : Int)] = bCells ((bl U).take (k + 1)) := by rw [hsn, bCells_snoc]
              have hl1 : ((bl U).take k).length + 1 = ((bl U).take (k + 1)).length := by rw [hsn, List.length_append]; rfl
              have HTc := Lib.hid hTc
              have HL1 := Lib.hid hl1
              obtain ⟨C3, hC3⟩ : ∃ C3, c.toNat = C3 := ⟨_, rfl⟩
              rw [hC3] at e3 l3 HTc
              clear hsn hcB hTc hl1 hC3
              generalize (bl U).take k = T at ho hTl HTc HL1
              have hlt1 := ho.lt
              have Hbx2 := Lib.hid hbx
              have Hb2 := Lib.hid hb
              clear hbx hb
              go_wp2_with (at_builtin; refine wpList_append_own_at _ rfl _ _ 56 rfl (w1.heap.size + 1) 5 i0 (.int .u8 0) 1 1 Tryz.underlying56 hi hz0 hz1 hz2 rfl (by decide) _ _ _ rfl (ho.alloc _) ⟨wr.heap.size, 0, none⟩ 1 1 [.int .u8 C3] rfl rfl ?c1 ?c2 ?c3 ?c4 ?c5 ?_)
              try (case c1 => exact one_cell2)
              case c2 => first | rfl | (intro u hu; simp at hu; subst hu; rfl)
              case c3 => unfold maxLen; omega
              case c4 => omega
              case c5 => first | omega | (simp; omega)
              · intro v1 w2 hown1 hgrow _ _
                rw [HTc.out] at hown1
                obtain ⟨y, yc, rfl⟩ := own_slice hown1
                have hbx3 := own_keep_box (Hbx2.out.alloc _) hgrow (ho.alloc _)
                have hb3 : Below w.heap.size w w2 := (Hb2.out.alloc hbs _).grown hgrow (by simp; omega) (fun q e => by have := (hlt1 q e).1; omega)
                have Ho1 := Lib.hid hown1
                have Hbx3 := Lib.hid hbx3
                have Hb3 := Lib.hid hb3
                clear hown1 hbx3 hb3 hgrow ho c0 c1
                go_wp2
                go_roundw
                case rel => exact ⟨k + 1, by omega, by go_num, by rw [← HL1.out, hTl]; exact Ho1.out, Hbx3.out, Hb3.out⟩
                case measure => simp [intOf]; omega
            · obtain rfl : k = U.size := by omega
              have ht : (bl U).take U.size = bl U := List.take_of_length_le (by rw [bl_size]; omega)
              rw [ht] at ho
              have hR2 := HR.out
              rw [if_neg hL0] at hR2
              obtain ⟨X, hX⟩ : ∃ X, p + L = X := ⟨_, rfl⟩
              rw [hX] at hR2 hLs
              have v1 : (p : Int) + (L : Int) = (X : Int) := by omega
              have v2 : IntKind.i64.wrap (X : Int) = (X : Int) := IntWalk.i64_in _ (by omega)
              have v3 : (0 : Int) ≤ (X : Int) := by omega
              have v4 : ((X : Int) == (p : Int)) = false := beq_eq_false_iff_ne.2 (by omega)
              have Hb2 := Lib.hid hb
              clear hbx hb
              by_cases hXe : X = s.size
              · have he : (bl s).drop X = [] := List.drop_eq_nil_of_le (by rw [bl_size]; omega)
                have hfin := begV_none (s := s) (l := (bl s).drop n) (by rw [HW.out, hR2, he]; rfl)
                have Hfin := Lib.hid hfin
                clear hfin he hR2 hTl ht ho
                subst hXe
                go_wp2
                refine bodyPost_ret (v := .tuple #[.int .u8 0, .int .i64 0, .string ⟨#[]⟩, .int .i64 4]) ?_ ?_ ?_
                · simp [results, Tryz.results73]
                · rfl
                · exact ⟨by rw [Hfin.out], Hb2.out⟩
              · have hXs : X < s.size := by omega
                have v5 : (X : Int) < (s.size : Int) := by omega
                have v6 : ¬ (s.size : Int) ≤ (X : Int) := by omega
                have hd := bl_drop' s X hXs
                have e4 := byN_get s X hXs
                have l4 := byN_lt s X
                by_cases h39 : byN s X = 39
                · rw [h39] at e4
                  have hc : s[X]'hXs = 39 := UInt8.toNat_inj.1 e4
                  rw [hc] at hd
                  have hl : ((bl s).drop (X + 1)).length = s.size - (X + 1) := by rw [List.length_drop, bl_size]
                  have hfin : begV s ((bl s).drop n) = .tuple #[.int .u8 6, .int .i64 ((X : Int) + 1), .string U, .int .i64 0] := by
                    unfold begV
                    rw [HW.out, hR2, hd, Qm.close_yes]
                    simp only [Option.map_some]
                    rw [show (s.size : Int) - (((bl s).drop (X + 1)).length : Int) = (X : Int) + 1 by rw [hl]; omega, bl_txt]
                    rfl
                  have Hfin := Lib.hid hfin
                  have hbl : (bl U).length = U.size := bl_size U
                  have ho' : wr.ownsRow (w1.heap.size + 1) 5 1 u9 (bl U).length (bCells (bl U)) := ho
                  obtain ⟨x, cc, rfl, hcv⟩ := conv_own ho'
                  have hcv1 : (convert 56 9 (.slice x (bl U).length cc)).run Tryz.prog wr.drew = .ok (.string (txt (bl U))) wr.drew := hcv 1
                  rw [bl_txt] at hcv1
                  have v7 : IntKind.i64.wrap ((X : Int) + 1) = (X : Int) + 1 := IntWalk.i64_in _ (by omega)
                  clear hfin hR2 hTl ht ho ho' hcv hd hc hl h39 l4
                  generalize (bl U).length = N9 at hcv1
                  go_wp2
                  go_region
                  all_goals (
                    go_wp2
                    refine bodyPost_ret (v := .tuple #[.int .u8 6, .int .i64 ((X : Int) + 1), .string U, .int .i64 0]) ?_ ?_ ?_
                    · simp [results, Tryz.results73]
                    · rfl
                    · exact ⟨by rw [Hfin.out], below_drw Hb2.out 1⟩)
                · have hfin := begV_none (s := s) (l := (bl s).drop n) (by
                    rw [HW.out, hR2, hd, Qm.close, if_neg (by rw [e4]; exact h39)]; rfl)
                  have Hfin := Lib.hid hfin
                  have d9 : ((byN s X : Int) != 39) = true := by simp; omega
                  clear hfin hR2 hTl ht ho hd h39
                  generalize byN s X = C9 at e4 l4 d9
                  go_wp2
                  refine bodyPost_ret (v := .tuple #[.int .u8 0, .int .i64 0, .string ⟨#[]⟩, .int .i64 4]) ?_ ?_ ?_
                  · simp [results, Tryz.results73]
                  · rfl
                  · exact ⟨by rw [Hfin.out], Hb2.out⟩
end Go.Proofs.YtklmiabgalanhaaGreatDoor

/- Contract of the reference's Begun (quoted): a string. -/
namespace Go.Proofs.YtklmiabgalanhaaGreatDoor
open Go.RowKit Em
set_option maxRecDepth 100000
set_option linter.unusedVariables false
set_option linter.unusedSimpArgs false

/-- Behind a string's first mark, with fuel enough. -/
def strQ (l : List UInt8) : Option (List UInt8 × List UInt8) := Qm.strF (l.length + 1) l

/-- What the reference's item is to a string's text. -/
theorem str_item (s : ByteArray) (p : Nat) (hp : p < s.size) (h34 : byN s p ≠ 34) :
    strQ ((bl s).drop p) = (if itL s p 34 = 0 then none else (strQ ((bl s).drop (p + itL s p 34))).map fun x => (bl (itT s p 34) ++ x.1, x.2)) ∧ p + itL s p 34 ≤ s.size ∧ (itT s p 34).size ≤ itL s p 34 := by
  have hd := bl_drop' s p hp
  obtain ⟨c, hc⟩ : ∃ c, s[p]'hp = c := ⟨_, rfl⟩
  have hb := byN_get s p hp
  rw [hc] at hd hb
  have hlen : ((bl s).drop p).length = s.size - p := by rw [List.length_drop, bl_size]
  have hlen2 : ((bl s).drop (p + 1)).length = s.size - (p + 1) := by rw [List.length_drop, bl_size]
  have hR : strQ ((bl s).drop p) = (if c.toNat = 34 then some ([], (bl s).drop (p + 1))
      else if c.toNat = 92 then
        match Qm.esc 34 ((bl s).drop (p + 1)) with
        | some (n, b, r) => (Qm.strF ((bl s).drop p).length r).map fun x => (Qm.sayS b n ++ x.1, x.2)
        | none => none
      else if c.toNat = 10 then none
      else (Qm.strF ((bl s).drop p).length ((bl s).drop (p + 1))).map fun x => (c :: x.1, x.2)) := by
    unfold strQ
    rw [hd, Qm.strF]
    rfl
  rw [if_neg (by rw [hb]; exact h34)] at hR
  unfold itL itT
  by_cases h92 : byN s p = 92
  · rw [if_pos h92, if_pos h92]
    rw [if_pos (hb.trans h92)] at hR
    rw [hR]
    cases hx : Qm.esc 34 ((bl s).drop (p + 1)) with
    | none =>
      have e1 : escL 34 ((bl s).drop (p + 1)) = 0 := by unfold escL; rw [hx]
      have e2 : escT 34 ((bl s).drop (p + 1)) = [] := by unfold escT; rw [hx]
      rw [e1, e2]
      exact ⟨by simp, by omega, by rw [txt_size]; simp⟩
    | some y =>
      obtain ⟨n, b, r⟩ := y
      obtain ⟨a1, a2, a3⟩ := escL_drop hx
      have e2 : escT 34 ((bl s).drop (p + 1)) = Qm.sayS b n := by unfold escT; rw [hx]; rfl
      have hrl : r.length = s.size - (p + escL 34 ((bl s).drop (p + 1))) := by rw [← a1, List.length_drop, bl_size]
      have hsz : (Qm.sayS b n).length ≤ escL 34 ((bl s).drop (p + 1)) := by
        cases b with
        | true =>
          have e3 : (Qm.sayS true n).length = 1 := rfl
          omega
        | false =>
          have e3 : (Qm.sayS false n).length ≤ 4 := fm_le n
          have e4 := esc_wide hx
          have e5 : escL 34 ((bl s).drop (p + 1)) = 1 + (((bl s).drop (p + 1)).length - r.length) := by unfold escL; rw [hx]
          omega
      rw [e2, a1, txt_bl, txt_size, if_neg (by omega)]
      refine ⟨?_, a3, hsz⟩
      show (Qm.strF ((bl s).drop p).length r).map _ = (strQ r).map _
      unfold strQ
      rw [Qm.strF_more ((bl s).drop p).length (r.length + 1) r (by omega) (by omega)]
  · rw [if_neg h92, if_neg h92]
    rw [if_neg (by rw [hb]; exact h92)] at hR
    by_cases h10 : byN s p = 10
    · rw [if_pos h10, if_pos h10]
      rw [if_pos (hb.trans h10)] at hR
      rw [hR]
      exact ⟨by simp, by omega, by decide⟩
    · rw [if_neg h10, if_neg h10]
      simp only [if_true]
      rw [if_neg (by rw [hb]; exact h10)] at hR
      have hT : bl (s.extract p (p + 1)) = [c] := by
        rw [bl_extract, List.drop_take, hd, show p + 1 - p = 1 by omega]; rfl
      rw [hR, if_neg (show ¬ (1 : Nat) = 0 by decide), hT]
      refine ⟨?_, by omega, ?_⟩
      · unfold strQ
        rw [Qm.strF_more ((bl s).drop p).length (((bl s).drop (p + 1)).length + 1) _ (by omega) (by omega)]
        rfl
      · rw [← bl_size, hT]; simp
theorem str_34 (m : List UInt8) : strQ (34 :: m) = some ([], m) := by
  unfold strQ
  rw [Qm.strF, if_pos (by rfl)]
theorem str_nil : strQ [] = none := rfl

set_option maxRecDepth 100000 in
set_option maxHeartbeats 8000000 in
theorem rbeg_str (s : ByteArray) (n : Nat) (w : World) (hn : n < s.size) (hm : byN s n = 34) (hs : s.size ≤ 140737488355300) :
    Calls Tryz.prog 73 #[.string s, .int .i64 n] w fun e w' => e = .returned (begV s ((bl s).drop n)) ∧ Below w.heap.size w w' := by
  obtain ⟨i0, hi, hz0, hz1, hz2⟩ := info_parts info_u8
  have b0 : (0 : Int) ≤ (n : Int) := by omega
  have b1 : (n : Int) < (s.size : Int) := by omega
  have e1 := byN_get s n hn
  rw [hm] at e1
  have x1 : IntKind.i64.wrap ((n : Int) + 1) = (n : Int) + 1 := IntWalk.i64_in _ (by omega)
  have hd := bl_drop' s n hn
  have hc : s[n]'hn = 34 := UInt8.toNat_inj.1 e1
  rw [hc] at hd
  have hw : Qm.whole ((bl s).drop n) = (strQ ((bl s).drop (n + 1))).map fun x => (7, x.1, x.2) := by rw [hd, Qm.whole34]; rfl
  have HW := Lib.hid hw
  have z1 : decide ((n : Int) < 0) = false := decide_eq_false (by omega)
  have z2 : decide ((s.size : Int) ≤ (n : Int)) = false := decide_eq_false (by omega)
  have z3 : decide (s.size ≤ n) = false := decide_eq_false (by omega)
  clear hd hw hc hm
  go_enter Tryz.func73, Tryz.ntmps73
  go_wp2
  go_loopw [9, 10] (fun u i wr => ∃ (k : Nat) (T : List UInt8), n + 1 ≤ k ∧ k ≤ s.size ∧ i = .int .i64 k ∧ wr.ownsRow w.heap.size 5 1 u T.length (bCells T) ∧ T.length ≤ k ∧ strQ ((bl s).drop (n + 1)) = (strQ ((bl s).drop k)).map (fun x => (T ++ x.1, x.2)) ∧ Below w.heap.size w wr) (fun _ i _ => s.size - (intOf i).toNat)
  case atStart => exact ⟨n + 1, [], by omega, by omega, by go_num, World.ownsRow_nil _ _ _ _, by simp, by cases strQ ((bl s).drop (n + 1)) <;> simp, Below.refl _ _⟩
  case round =>
    obtain ⟨k, T, hk1, hk, rfl, ho, hT, hr, hb⟩ := hrel
    have k0 : (0 : Int) ≤ (k : Int) := by omega
    have hbs := hb.size
    by_cases hlt : k < s.size
    · have k1 : (k : Int) < (s.size : Int) := by omega
      have k2 : ¬ (s.size : Int) ≤ (k : Int) := by omega
      have e2 := byN_get s k hlt
      have l2 := byN_lt s k
      by_cases h34 : byN s k = 34
      · rw [h34] at e2
        have hd := bl_drop' s k hlt
        have hc : s[k]'hlt = 34 := UInt8.toNat_inj.1 e2
        rw [hc] at hd
        have hl : ((bl s).drop (k + 1)).length = s.size - (k + 1) := by rw [List.length_drop, bl_size]
        have hfin : begV s ((bl s).drop n) = .tuple #[.int .u8 7, .int .i64 ((k : Int) + 1), .string (txt T), .int .i64 0] := by
          unfold begV
          rw [HW.out, hr, hd, str_34]
          simp only [Option.map_some, List.append_nil]
          rw [show (s.size : Int) - (((bl s).drop (k + 1)).length : Int) = (k : Int) + 1 by rw [hl]; omega]
          rfl
        have Hfin := Lib.hid hfin
        obtain ⟨x, cc, rfl, hcv⟩ := conv_own ho
        have x2 : IntKind.i64.wrap ((k : Int) + 1) = (k : Int) + 1 := IntWalk.i64_in _ (by omega)
        have Hb := Lib.hid hb
        have hcv1 : (convert 56 9 (.slice x T.length cc)).run Tryz.prog wr.drew = .ok (.string (txt T)) wr.drew := hcv 1
        clear hfin hr hd hl hb hc ho hcv h34 l2
        go_wp2
        go_region
        all_goals (
          go_wp2
          refine bodyPost_ret (v := .tuple #[.int .u8 7, .int .i64 ((k : Int) + 1), .string (txt T), .int .i64 0]) ?_ ?_ ?_
          · simp [results, Tryz.results73]
          · rfl
          · exact ⟨by rw [Hfin.out], below_drw Hb.out 1⟩)
      · obtain ⟨hR, hLs, hUL⟩ := str_item s k hlt h34
        have HI := fun w => ritem_any s k 34 w hlt (.inl rfl) (by omega)
        generalize itL s k 34 = L at HI hR hLs hUL
        generalize itT s k 34 = U at HI hR hUL
        have d1 : ((byN s k : Int) != 34) = true := by simp; omega
        have d2 : ((byN s k : Int) == 34) = false := beq_eq_false_iff_ne.2 (by omega)
        generalize byN s k = C at e2 l2 d1 d2
        rw [hR] at hr
        have Hr := Lib.hid hr
        have Hb := Lib.hid hb
        clear hR h34 hr hb
        by_cases hL0 : L = 0
        · subst hL0
          have hfin := begV_none (s := s) (l := (bl s).drop n) (by rw [HW.out, Hr.out, if_pos rfl]; rfl)
          have Hfin := Lib.hid hfin
          clear hfin ho
          go_wp2_with fail
          refine (HI _).mono ?_
          rintro e w1 ⟨rfl, g1⟩
          have Hb1 := Lib.hid ((Hb.out.trans (g1.mono hbs)).alloc (by have := g1.size; omega) (.cells #[.int .i64 (0 : Nat), .string U] 111))
          clear g1
          go_wp2
          refine bodyPost_ret (v := .tuple #[.int .u8 0, .int .i64 0, .string ⟨#[]⟩, .int .i64 4]) ?_ ?_ ?_
          · simp [results, Tryz.results73]
          · rfl
          · exact ⟨by rw [Hfin.out], Hb1.out⟩
        · have dL : ((L : Int) == 0) = false := beq_eq_false_iff_ne.2 (by omega)
          have hr2 := Hr.out
          rw [if_neg hL0] at hr2
          have Hr2 := Lib.hid hr2
          clear hr2 Hr
          go_wp2_with fail
          refine (HI _).mono ?_
          rintro e w1 ⟨rfl, g1⟩
          have hbx : IBox (w1.alloc (.cells #[.int .i64 L, .string U] 111)) w1.heap.size L U := heap_alloc_new w1 _
          have hgs := g1.size
          have hb1 := (Hb.out.trans (g1.mono hbs)).alloc (by omega) (.cells #[.int .i64 L, .string U] 111)
          have hlt0 := ho.lt
          have ho1 := (own_below ho g1).alloc (.cells #[.int .i64 L, .string U] 111)
          have hne0 : some w1.heap.size ≠ u9.ownBlock := fun e => by have := (hlt0 _ e.symm).2; omega
          have Hbx := Lib.hid hbx
          have Hb1 := Lib.hid hb1
          have Ho1 := Lib.hid ho1
          have Hne := Lib.hid hne0
          have c0 := hbx.c0
          have c1 := hbx.c1
          clear hbx hb1 g1 ho ho1 hne0 hlt0
          go_wp2
          clear c0 c1
          go_loopw [9, 12] (fun u j wr => ∃ k2 : Nat, k2 ≤ U.size ∧ j = .int .i64 k2 ∧ wr.ownsRow w.heap.size 5 1 u (T ++ (bl U).take k2).length (bCells (T ++ (bl U).take k2)) ∧ some w1.heap.size ≠ u.ownBlock ∧ IBox wr w1.heap.size L U ∧ Below w.heap.size w wr) (fun _ j _ => U.size - (intOf j).toNat)
          case atStart => exact ⟨0, by omega, rfl, by rw [List.take_zero, List.append_nil]; exact Ho1.out, Hne.out, Hbx.out, Hb1.out⟩
          case round =>
            obtain ⟨j, hj, rfl, ho, hne, hbx, hb⟩ := hrel
            have c0 := hbx.c0
            have c1 := hbx.c1
            have j0 : (0 : Int) ≤ (j : Int) := by omega
            have hTl : (T ++ (bl U).take j).length = T.length + j := by rw [List.length_append, List.length_take, bl_size]; omega
            have hbs2 := hb.size
            have hgl := hbx.lt
            by_cases hlt2 : j < U.size
            · obtain ⟨c, hsn, hcB⟩ := take_snoc' U j hlt2
              have e3 := byN_get U j hlt2
              have l3 := byN_lt U j
              rw [← hcB] at e3 l3
              have j1 : (j : Int) < (U.size : Int) := by omega
              have hTc : bCells (T ++ (bl U).take j) ++ [.int .u8 (c.toNat : Int)] = bCells (T ++ (bl U).take (j + 1)) := by rw [hsn, ← List.append_assoc, bCells_snoc]
              have hl1 : (T ++ (bl U).take j).length + 1 = (T ++ (bl U).take (j + 1)).length := by rw [hsn]; simp only [List.length_append, List.length_singleton]; omega
              have HTc := Lib.hid hTc
              have HL1 := Lib.hid hl1
              obtain ⟨C3, hC3⟩ : ∃ C3, c.toNat = C3 := ⟨_, rfl⟩
              rw [hC3] at e3 l3 HTc
              clear hsn hcB hTc hl1 hC3
              generalize T ++ (bl U).take j = T2 at ho hTl HTc HL1
              have hlt1 := ho.lt
              have Hbx2 := Lib.hid hbx
              have Hb2 := Lib.hid hb
              have Hne2 := Lib.hid hne
              clear hbx hb hne
              go_wp2_with (at_builtin; refine wpList_append_own_at _ rfl _ _ 56 rfl w.heap.size 5 i0 (.int .u8 0) 1 1 Tryz.underlying56 hi hz0 hz1 hz2 rfl (by decide) _ _ _ rfl (ho.alloc _) ⟨_, 0, none⟩ 1 1 [.int .u8 C3] rfl rfl ?c1 ?c2 ?c3 ?c4 ?c5 ?_)
              try (case c1 => exact one_cell2)
              case c2 => first | rfl | (intro u hu; simp at hu; subst hu; rfl)
              case c3 => unfold maxLen; omega
              case c4 => omega
              case c5 => first | omega | (simp; omega)
              · intro v1 w2 hown1 hgrow _ hblk
                rw [HTc.out] at hown1
                obtain ⟨y, yc, rfl⟩ := own_slice hown1
                have hbx3 : IBox w2 w1.heap.size L U := (hgrow.block _ (Hbx2.out.alloc _).lt Hne2.out).trans (Hbx2.out.alloc _)
                have hne3 : some w1.heap.size ≠ (Value.slice y (T.length + j + 1) yc).ownBlock := by
                  rcases hblk with h | h
                  · rw [h]; exact Hne2.out
                  · rw [h]; intro e; have := Option.some.inj e; have h7 := Hbx2.out.lt; first | omega | (simp at this; omega) | (simp only [World.heap_size_alloc] at this; omega)
                have hb3 : Below w.heap.size w w2 := (Hb2.out.alloc hbs2 _).grown hgrow (by simp; omega) (fun q e => by have := (hlt1 q e).1; omega)
                have Ho3 := Lib.hid hown1
                have Hbx3 := Lib.hid hbx3
                have Hb3 := Lib.hid hb3
                have Hne3 := Lib.hid hne3
                clear hown1 hbx3 hb3 hgrow ho c0 c1 hblk hne3
                go_wp2
                go_roundw
                case rel => exact ⟨j + 1, by omega, by go_num, by rw [← HL1.out]; first | exact Ho3.out | (rw [hTl]; exact Ho3.out), Hne3.out, Hbx3.out, Hb3.out⟩
                case measure => simp [intOf]; omega
            · obtain rfl : j = U.size := by omega
              have ht : (bl U).take U.size = bl U := List.take_of_length_le (by rw [bl_size]; omega)
              rw [ht] at ho hTl
              have Ho3 := Lib.hid ho
              have Hb2 := Lib.hid hb
              have hr3 : strQ ((bl s).drop (n + 1)) = (strQ ((bl s).drop (k + L))).map (fun x => ((T ++ bl U) ++ x.1, x.2)) := by
                rw [Hr2.out, Option.map_map]
                congr 1
                funext x
                simp
              have Hr3 := Lib.hid hr3
              obtain ⟨X, hX⟩ : ∃ X, k + L = X := ⟨_, rfl⟩
              have v1 : (k : Int) + (L : Int) = (X : Int) := by omega
              have v2 : IntKind.i64.wrap (X : Int) = (X : Int) := IntWalk.i64_in _ (by omega)
              clear hbx hb ho ht hr3 hne
              rw [hX] at Hr3
              go_wp2
              go_roundw
              case rel => exact ⟨X, T ++ bl U, by omega, by omega, by first | rfl | go_num, Ho3.out, by omega, Hr3.out, Hb2.out⟩
              case measure => simp [intOf]; omega
    · obtain rfl : k = s.size := by omega
      have he : (bl s).drop s.size = [] := List.drop_eq_nil_of_le (by rw [bl_size]; omega)
      have hfin : begV s ((bl s).drop n) = .tuple #[.int .u8 0, .int .i64 0, .string ⟨#[]⟩, .int .i64 4] := by
        unfold begV
        rw [HW.out, hr, he]; rfl
      have Hfin := Lib.hid hfin
      have Hb := Lib.hid hb
      clear hfin hr he hb ho
      go_wp2
      refine bodyPost_ret (v := .tuple #[.int .u8 0, .int .i64 0, .string ⟨#[]⟩, .int .i64 4]) ?_ ?_ ?_
      · simp [results, Tryz.results73]
      · rfl
      · exact ⟨by rw [Hfin.out], Hb.out⟩
end Go.Proofs.YtklmiabgalanhaaGreatDoor

/- Contracts of the reference's Scan and Value (quoted); the walks of the laws QuotedScans and QuotedValues. -/
namespace Go.Proofs.YtklmiabgalanhaaGreatDoor
open Go.RowKit Em
set_option maxRecDepth 100000
set_option linter.unusedVariables false
set_option linter.unusedSimpArgs false

theorem rbeg_yes (s : ByteArray) (n : Nat) (w : World) (hn : n < s.size) (hm : mkN (byN s n) = true) (hs : s.size ≤ 140737488355300) :
    Calls Tryz.prog 73 #[.string s, .int .i64 n] w fun e w' => e = .returned (begV s ((bl s).drop n)) ∧ Below w.heap.size w w' := by
  unfold mkN at hm
  rcases of_decide_eq_true hm with h | h | h
  · exact rbeg_rune s n w hn h hs
  · exact rbeg_str s n w hn h hs
  · exact rbeg_raw s n w hn h hs
end Go.Proofs.YtklmiabgalanhaaGreatDoor

/- The walk of the law QuotedValues. -/
namespace Go.Proofs.YtklmiabgalanhaaGreatDoor
open Go.RowKit Em
set_option linter.unusedVariables false
set_option linter.unusedSimpArgs false

set_option maxHeartbeats 2000000 in
theorem rvalue_err (s : ByteArray) (w : World) (K : Nat) (E V : Int) (T : ByteArray) (hV : V = 4 ∨ V = 15)
    (HB : ∀ w : World, Calls Tryz.prog 73 #[.string s, .int .i64 0] w fun e w' => e = .returned (.tuple #[.int .u8 K, .int .i64 E, .string T, .int .i64 V]) ∧ Below w.heap.size w w') :
    Calls Tryz.prog 62 #[.string s] w fun e w' => e = .returned (.tuple #[.string ⟨#[]⟩, .int .i64 4]) ∧ Below w.heap.size w w' := by
  rcases hV with rfl | rfl
  all_goals (
    go_enter Tryz.func62, Tryz.ntmps62
    go_wp2_with fail
    refine (HB _).mono ?_
    rintro e w1 ⟨rfl, b1⟩
    go_wp2
    go_ret2
    exact ⟨rfl, b1⟩)

set_option maxHeartbeats 2000000 in
theorem rvalue_short (s : ByteArray) (w : World) (K : Nat) (E : Int) (T : ByteArray) (hE : (E != (s.size : Int)) = true)
    (HB : ∀ w : World, Calls Tryz.prog 73 #[.string s, .int .i64 0] w fun e w' => e = .returned (.tuple #[.int .u8 K, .int .i64 E, .string T, .int .i64 0]) ∧ Below w.heap.size w w') :
    Calls Tryz.prog 62 #[.string s] w fun e w' => e = .returned (.tuple #[.string ⟨#[]⟩, .int .i64 4]) ∧ Below w.heap.size w w' := by
  go_enter Tryz.func62, Tryz.ntmps62
  go_wp2_with fail
  refine (HB _).mono ?_
  rintro e w1 ⟨rfl, b1⟩
  go_wp2
  go_ret2
  exact ⟨rfl, b1⟩

set_option maxHeartbeats 2000000 in
theorem rvalue_ok (s : ByteArray) (w : World) (K : Nat) (T : ByteArray)
    (HB : ∀ w : World, Calls Tryz.prog 73 #[.string s, .int .i64 0] w fun e w' => e = .returned (.tuple #[.int .u8 K, .int .i64 (s.size : Int), .string T, .int .i64 0]) ∧ Below w.heap.size w w') :
    Calls Tryz.prog 62 #[.string s] w fun e w' => e = .returned (.tuple #[.string T, .int .i64 0]) ∧ Below w.heap.size w w' := by
  go_enter Tryz.func62, Tryz.ntmps62
  go_wp2_with fail
  refine (HB _).mono ?_
  rintro e w1 ⟨rfl, b1⟩
  go_wp2
  go_ret2
  exact ⟨rfl, b1⟩

theorem whole_mark {l : List UInt8} {c : UInt8} {m : List UInt8} (e : l = c :: m) (h : mkN c.toNat = false) : Qm.whole l = none := by
  subst e
  unfold mkN at h
  have h2 := of_decide_eq_false h
  rw [whole_cons, if_neg (fun h => h2 (.inl h)), if_neg (fun h => h2 (.inr (.inl h))), if_neg (fun h => h2 (.inr (.inr h)))]

theorem rvalue_any (s : ByteArray) (w : World) (hs : s.size ≤ 140737488355300) :
    Calls Tryz.prog 62 #[.string s] w fun e w' => e = .returned (.tuple #[.string (vT s), .int .i64 (vE s)]) ∧ Below w.heap.size w w' := by
  by_cases hno : (0 : Int) < 0 ∨ (s.size : Int) ≤ 0 ∨ ∃ k : Nat, (0 : Int) = k ∧ k < s.size ∧ mkN (byN s k) = false
  · have hn : Qm.whole (bl s) = none := by
      rcases hno with h | h | ⟨k, h, hk, hm⟩
      · omega
      · have : bl s = [] := List.eq_nil_of_length_eq_zero (by rw [bl_size]; omega)
        rw [this]; rfl
      · obtain rfl : k = 0 := by omega
        have hd := bl_drop' s 0 hk
        rw [List.drop_zero] at hd
        exact whole_mark hd (by rw [byN_get s 0 hk]; exact hm)
    have e1 : vT s = ⟨#[]⟩ := by unfold vT; rw [hn]; rfl
    have e2 : vE s = 4 := by unfold vE; rw [hn]
    rw [e1, e2]
    exact rvalue_err s w 0 0 15 ⟨#[]⟩ (.inr rfl) (fun w => (rbeg_no s 0 w hno).mono (by rintro e w' ⟨rfl, rfl⟩; exact ⟨rfl, Below.refl _ _⟩))
  · have hn : 0 < s.size := by omega
    have hm : mkN (byN s 0) = true := by
      cases h : mkN (byN s 0) with
      | true => rfl
      | false => exact absurd (.inr (.inr ⟨0, rfl, hn, h⟩)) hno
    have HB := fun w => rbeg_yes s 0 w hn hm hs
    rw [List.drop_zero] at HB
    cases hx : Qm.whole (bl s) with
    | none =>
      rw [begV_none hx] at HB
      have e1 : vT s = ⟨#[]⟩ := by unfold vT; rw [hx]; rfl
      have e2 : vE s = 4 := by unfold vE; rw [hx]
      rw [e1, e2]
      exact rvalue_err s w 0 0 4 ⟨#[]⟩ (.inl rfl) HB
    | some y =>
      obtain ⟨K, t, q⟩ := y
      have e4 : begV s (bl s) = .tuple #[.int .u8 (K : Nat), .int .i64 ((s.size : Int) - (q.length : Int)), .string (txt t), .int .i64 0] := by unfold begV; rw [hx]
      rw [e4] at HB
      cases q with
      | nil =>
        have e1 : vT s = txt t := by unfold vT; rw [hx]
        have e2 : vE s = 0 := by unfold vE; rw [hx]
        rw [e1, e2]
        have e5 : (s.size : Int) - (([] : List UInt8).length : Int) = (s.size : Int) := by simp
        rw [e5] at HB
        exact rvalue_ok s w K _ HB
      | cons c q =>
        have e1 : vT s = ⟨#[]⟩ := by unfold vT; rw [hx]; rfl
        have e2 : vE s = 4 := by unfold vE; rw [hx]
        rw [e1, e2]
        exact rvalue_short s w K _ _ (by simp; omega) HB
end Go.Proofs.YtklmiabgalanhaaGreatDoor

/- Contract of the reference's Quote. -/
namespace Go.Proofs.YtklmiabgalanhaaGreatDoor
open Go.Shelf Go.RowKit Em
set_option linter.unusedVariables false
set_option linter.unusedSimpArgs false

theorem wpList_append_run {P : Program} {ops : Array Oper} {rest : List Oper} {o : Oper} {a : Act} {w : World} {Q : Exit → Act → World → Prop}
    (hg : o.guard = none) (d x : Operand) (dT sT : TypeId) (hop : o.op = Op.call { callee := Callee.builtin Builtin.append, args := #[d, x], argTypes := #[dT, sT] })
    {v u r : Value} {w' : World} (hd : a.eval d = v) (hx : a.eval x = u) (hrun : (Builtin.append_ #[dT, sT] o.type #[v, u]).run P w = .ok r w') (hK : wpList P ops Q rest (a.put o.dst r) w') :
    wpList P ops Q (o :: rest) a w := by
  refine wpList_plain hg fun K hK' => ?_
  unfold Oper.wp
  simp [execOp, hop, resolve, invoke, builtin, hd, hx, hrun, Result.andThen]
  exact hK' _ _ hK

theorem own_app (w0 w : World) (B : Nat) (v : Value) (T : List UInt8) (X : List UInt8) (cs : List Value) (m : Nat) (hcs : cs = bCells X) (hm : X.length = m)
    (ho : w.ownsRow B 5 1 v T.length (bCells T)) (hlen : T.length + m ≤ 140737488355328) (hb : Below B w0 w) (hB : B ≤ w0.heap.size) :
    ∃ (x : Option Addr) (c : Nat) (w2 : World), (Builtin.append_ #[56, 56] 56 #[v, .slice (some ⟨w.heap.size, 0, none⟩) m m]).run Tryz.prog (w.alloc (.cells cs.toArray 5)) = .ok (.slice x (T.length + m) c) w2
      ∧ w2.ownsRow B 5 1 (.slice x (T ++ X).length c) (T ++ X).length (bCells (T ++ X)) ∧ Below B w0 w2 := by
  obtain ⟨i0, hi, hz0, hz1, hz2⟩ := info_parts info_u8
  have hbs : B ≤ w.heap.size := by have := hb.size; omega
  have hlt := ho.lt
  subst hm
  have hcl : cs.length = X.length := by rw [hcs, bCells_len]
  obtain ⟨v', w2, hrun, hown, hgrow, _⟩ := run_append_own (P := Tryz.prog) (w.alloc (.cells cs.toArray 5)) B 56 56 5 i0 (.int .u8 0) 1 1 Tryz.underlying56 hi hz0 hz1 hz2 rfl (by decide) v T.length (bCells T) (ho.alloc _) ⟨w.heap.size, 0, none⟩ X.length X.length cs
    (by rw [hcl, Nat.mul_one]) (fun j u hu => by
      have ea : (⟨w.heap.size, 0, none⟩ : Addr).add j = ⟨w.heap.size, j, none⟩ := by unfold Addr.add; split <;> simp_all
      have hh : (w.alloc (.cells cs.toArray 5)).heap[w.heap.size]? = some (.cells cs.toArray 5 (0, 0)) := heap_alloc_new w _
      rw [ea, cell_of_row _ w.heap.size j _ _ _ hh, List.getElem?_toArray]; exact hu)
    (fun u hu => by rw [hcs] at hu; unfold bCells at hu; obtain ⟨b, _, rfl⟩ := List.mem_map.1 hu; rfl) (by unfold maxLen; omega) (by omega) (by simp; omega)
  obtain ⟨x, c, rfl⟩ := own_slice hown
  rw [hcs, ← bCells_append] at hown
  refine ⟨x, c, w2, hrun, ?_, (hb.alloc hbs _).grown hgrow (by simp; omega) (fun q e => (hlt q e).1)⟩
  rw [List.length_append]; exact hown

theorem own_start (w : World) : (w.alloc (.cells #[.int .u8 34] 5)).ownsRow w.heap.size 5 1 (.slice (some ⟨w.heap.size, 0, none⟩) 1 1) 1 (bCells [34]) := by
  refine ⟨rfl, .inr ⟨w.heap.size, 1, #[.int .u8 34], rfl, Nat.le_refl _, heap_alloc_new w _, Nat.le_refl _, by unfold maxLen; omega, rfl, rfl⟩⟩

set_option maxRecDepth 100000 in
set_option maxHeartbeats 4000000 in
theorem rquote_any (s : ByteArray) (w : World) (hs : s.size ≤ 1048576) :
    Calls Tryz.prog 68 #[.string s] w fun e w' => e = .returned (.string (txt (quoteL (bl s)))) ∧ Below w.heap.size w w' := by
  have ho0 := own_start w
  have Ho0 := Lib.hid ho0
  clear ho0
  go_enter Tryz.func68, Tryz.ntmps68
  go_wp2
  go_loopw [4, 5] (fun u i wr => ∃ k : Nat, k ≤ s.size ∧ i = .int .i64 k ∧ wr.ownsRow w.heap.size 5 1 u (34 :: qs ((bl s).take k)).length (bCells (34 :: qs ((bl s).take k))) ∧ Below w.heap.size w wr) (fun _ i _ => s.size - (intOf i).toNat)
  case atStart => exact ⟨0, by omega, rfl, Ho0.out, (Below.refl _ _).alloc (Nat.le_refl _) _⟩
  case round =>
    obtain ⟨k, hk, rfl, ho, hb⟩ := hrel
    have hlen := qs_len ((bl s).take k)
    rw [List.length_take, bl_size] at hlen
    by_cases hlt : k < s.size
    · obtain ⟨c, hsn, hcB⟩ := take_snoc' s k hlt
      have e1 := byN_get s k hlt
      have l1 := byN_lt s k
      have b0 : (0 : Int) ≤ (k : Int) := by omega
      have b1 : (k : Int) < (s.size : Int) := by omega
      have hnext : 34 :: qs ((bl s).take (k + 1)) = (34 :: qs ((bl s).take k)) ++ qb c := by rw [hsn, qs_snoc]; rfl
      have HN := Lib.hid hnext
      have hL : (34 :: qs ((bl s).take k)).length ≤ 4 * k + 1 := by rw [List.length_cons]; omega
      clear hnext hsn hlen
      generalize 34 :: qs ((bl s).take k) = L at ho HN hL
      rw [← hcB] at e1 l1
      have hq : qb c = if c.toNat = 34 ∨ c.toNat = 92 then [92, c] else if c.toNat = 10 then [92, 110] else if 32 ≤ c.toNat ∧ c.toNat ≤ 126 then [c] else [92, 120, UInt8.ofNat (hxN (c.toNat / 16)), UInt8.ofNat (hxN (c.toNat % 16))] := rfl
      clear hcB
      by_cases h10 : c.toNat = 10
      · rw [if_neg (by omega), if_pos h10] at hq
        rw [h10] at e1
        obtain ⟨x, cc, w2, hrun, hown, hb2⟩ := own_app w wr w.heap.size u4 L [92, 110] [.int .u8 92, .int .u8 110] 2 rfl rfl ho (by omega) hb (Nat.le_refl _)
        rw [← hq, ← HN.out] at hown
        have hl2 : L.length + 2 = (34 :: qs ((bl s).take (k + 1))).length := by rw [HN.out, hq, List.length_append]; rfl
        rw [hl2] at hrun
        obtain ⟨N2, hN2⟩ : ∃ N2, (34 :: qs ((bl s).take (k + 1))).length = N2 := ⟨_, rfl⟩
        rw [hN2] at hrun hown
        have HN2 := Lib.hid hN2
        have Hown := Lib.hid hown
        have Hb2 := Lib.hid hb2
        clear ho hb hown hb2 hq hl2 hN2 h10 l1
        go_wp2_with (at_builtin; refine wpList_append_run rfl _ _ _ _ rfl rfl rfl hrun ?_)
        all_goals (
          go_roundw
          case rel => exact ⟨k + 1, by omega, by go_num, by rw [HN2.out]; exact Hown.out, Hb2.out⟩
          case measure => simp [intOf]; omega)
      · have d10 : ((c.toNat : Int) == 10) = false := beq_eq_false_iff_ne.2 (by omega)
        by_cases h34 : c.toNat = 34 ∨ c.toNat = 92
        · rw [if_pos h34] at hq
          rcases h34 with h | h
          · rw [h] at e1 d10
            obtain ⟨x, cc, w2, hrun, hown, hb2⟩ := own_app w wr w.heap.size u4 L [92, c] [.int .u8 92, .int .u8 34] 2 (by unfold bCells; rw [List.map_cons, List.map_cons, List.map_nil, h]; rfl) rfl ho (by omega) hb (Nat.le_refl _)
            rw [← hq, ← HN.out] at hown
            have hl2 : L.length + 2 = (34 :: qs ((bl s).take (k + 1))).length := by rw [HN.out, hq, List.length_append]; rfl
            rw [hl2] at hrun
            obtain ⟨N2, hN2⟩ : ∃ N2, (34 :: qs ((bl s).take (k + 1))).length = N2 := ⟨_, rfl⟩
            rw [hN2] at hrun hown
            have HN2 := Lib.hid hN2
            have Hown := Lib.hid hown
            have Hb2 := Lib.hid hb2
            clear ho hb hown hb2 hq hl2 hN2 h h10 l1 d10
            go_wp2_with (at_builtin; refine wpList_append_run rfl _ _ _ _ rfl rfl rfl hrun ?_)
            all_goals (
              go_roundw
              case rel => exact ⟨k + 1, by omega, by go_num, by rw [HN2.out]; exact Hown.out, Hb2.out⟩
              case measure => simp [intOf]; omega)
          · rw [h] at e1 d10
            obtain ⟨x, cc, w2, hrun, hown, hb2⟩ := own_app w wr w.heap.size u4 L [92, c] [.int .u8 92, .int .u8 92] 2 (by unfold bCells; rw [List.map_cons, List.map_cons, List.map_nil, h]; rfl) rfl ho (by omega) hb (Nat.le_refl _)
            rw [← hq, ← HN.out] at hown
            have hl2 : L.length + 2 = (34 :: qs ((bl s).take (k + 1))).length := by rw [HN.out, hq, List.length_append]; rfl
            rw [hl2] at hrun
            obtain ⟨N2, hN2⟩ : ∃ N2, (34 :: qs ((bl s).take (k + 1))).length = N2 := ⟨_, rfl⟩
            rw [hN2] at hrun hown
            have HN2 := Lib.hid hN2
            have Hown := Lib.hid hown
            have Hb2 := Lib.hid hb2
            clear ho hb hown hb2 hq hl2 hN2 h h10 l1 d10
            go_wp2_with (at_builtin; refine wpList_append_run rfl _ _ _ _ rfl rfl rfl hrun ?_)
            all_goals (
              go_roundw
              case rel => exact ⟨k + 1, by omega, by go_num, by rw [HN2.out]; exact Hown.out, Hb2.out⟩
              case measure => simp [intOf]; omega)
        · rw [if_neg h34, if_neg h10] at hq
          have d34 : ((c.toNat : Int) == 34) = false := beq_eq_false_iff_ne.2 (by omega)
          have d92 : ((c.toNat : Int) == 92) = false := beq_eq_false_iff_ne.2 (by omega)
          by_cases hpr : 32 ≤ c.toNat ∧ c.toNat ≤ 126
          · rw [if_pos hpr] at hq
            have p1 : (32 : Int) ≤ (c.toNat : Int) := by omega
            have p2 : (c.toNat : Int) ≤ 126 := by omega
            obtain ⟨C, hC⟩ : ∃ C, c.toNat = C := ⟨_, rfl⟩
            have hcs : [Value.int .u8 (C : Int)] = bCells [c] := by rw [← hC]; rfl
            rw [hC] at e1 l1 d34 d92 d10 p1 p2
            obtain ⟨x, cc, w2, hrun, hown, hb2⟩ := own_app w wr w.heap.size u4 L [c] [.int .u8 C] 1 hcs rfl ho (by omega) hb (Nat.le_refl _)
            rw [← hq, ← HN.out] at hown
            have hl2 : L.length + 1 = (34 :: qs ((bl s).take (k + 1))).length := by rw [HN.out, hq, List.length_append]; rfl
            rw [hl2] at hrun
            obtain ⟨N2, hN2⟩ : ∃ N2, (34 :: qs ((bl s).take (k + 1))).length = N2 := ⟨_, rfl⟩
            rw [hN2] at hrun hown
            have HN2 := Lib.hid hN2
            have Hown := Lib.hid hown
            have Hb2 := Lib.hid hb2
            clear ho hb hown hb2 hq hl2 hN2 h34 h10 hpr hC hcs
            go_wp2_with (at_builtin; refine wpList_append_run rfl _ _ _ _ rfl rfl rfl hrun ?_)
            all_goals (
              go_roundw
              case rel => exact ⟨k + 1, by omega, by go_num, by rw [HN2.out]; exact Hown.out, Hb2.out⟩
              case measure => simp [intOf]; omega)
          · rw [if_neg hpr] at hq
            obtain ⟨C, hC⟩ : ∃ C, c.toNat = C := ⟨_, rfl⟩
            rw [hC] at e1 l1 d34 d92 d10 hpr hq
            have p1 : ¬ (32 : Int) ≤ (C : Int) ∨ ((32 : Int) ≤ (C : Int) ∧ ¬ (C : Int) ≤ 126) := by omega
            clear hpr
            obtain ⟨M1, hM1⟩ : ∃ M1, C / 16 = M1 := ⟨_, rfl⟩
            obtain ⟨M2, hM2⟩ : ∃ M2, C % 16 = M2 := ⟨_, rfl⟩
            have q1 : (C : Int).tdiv 16 = (M1 : Int) := by rw [Int.tdiv_eq_ediv_of_nonneg (by omega)]; omega
            have q2 : (C : Int).tmod 16 = (M2 : Int) := by rw [Int.tmod_eq_emod_of_nonneg (by omega)]; omega
            have hA : M1 < 16 := by omega
            have hB : M2 < 16 := by omega
            have q3 : IntKind.u8.wrap (M1 : Int) = (M1 : Int) := by rw [IntKind.wrap_u8]; omega
            have q4 : IntKind.u8.wrap (M2 : Int) = (M2 : Int) := by rw [IntKind.wrap_u8]; omega
            rw [hM1, hM2] at hq
            clear hM1 hM2
            have x1 := (byN_get ⟨#[48, 49, 50, 51, 52, 53, 54, 55, 56, 57, 97, 98, 99, 100, 101, 102]⟩ M1 hA).trans (hx_at ⟨M1, hA⟩)
            have x2 := (byN_get ⟨#[48, 49, 50, 51, 52, 53, 54, 55, 56, 57, 97, 98, 99, 100, 101, 102]⟩ M2 hB).trans (hx_at ⟨M2, hB⟩)
            have y1 : hxN M1 < 256 := by unfold hxN; split <;> omega
            have y2 : hxN M2 < 256 := by unfold hxN; split <;> omega
            simp only [] at x1 x2
            generalize hxN M1 = X1 at x1 y1 hq
            generalize hxN M2 = X2 at x2 y2 hq
            have a1 : (0 : Int) ≤ (M1 : Int) := by omega
            have a2 : (M1 : Int) < 16 := by omega
            have a3 : (0 : Int) ≤ (M2 : Int) := by omega
            have a4 : (M2 : Int) < 16 := by omega
            have hcs : [Value.int .u8 92, .int .u8 120, .int .u8 (X1 : Int), .int .u8 (X2 : Int)] = bCells [92, 120, UInt8.ofNat X1, UInt8.ofNat X2] := by
              unfold bCells
              simp only [List.map_cons, List.map_nil, Um.toNat_ofNat y1, Um.toNat_ofNat y2]; rfl
            obtain ⟨x, cc, w2, hrun, hown, hb2⟩ := own_app w wr.drew w.heap.size u4 L [92, 120, UInt8.ofNat X1, UInt8.ofNat X2] [.int .u8 92, .int .u8 120, .int .u8 X1, .int .u8 X2] 4 hcs rfl ho (by omega) (below_drw hb 1) (Nat.le_refl _)
            rw [← hq, ← HN.out] at hown
            have hl2 : L.length + 4 = (34 :: qs ((bl s).take (k + 1))).length := by rw [HN.out, hq, List.length_append]; rfl
            rw [hl2] at hrun
            obtain ⟨N2, hN2⟩ : ∃ N2, (34 :: qs ((bl s).take (k + 1))).length = N2 := ⟨_, rfl⟩
            rw [hN2] at hrun hown
            have HN2 := Lib.hid hN2
            have Hown := Lib.hid hown
            have Hb2 := Lib.hid hb2
            clear ho hb hown hb2 hq hl2 hN2 h34 h10 hC hcs
            rcases p1 with p1 | ⟨p1, p2⟩
            all_goals (
              go_wp2
              go_region_law (refine step_append_run rfl _ _ _ _ (by rfl) (by rfl) (by rfl) hrun ?_)
              all_goals go_wp2)
            all_goals (
              go_roundw
              case rel => exact ⟨k + 1, by omega, by go_num, by rw [HN2.out]; exact Hown.out, Hb2.out⟩
              case measure => simp [intOf]; omega)
    · obtain rfl : k = s.size := by omega
      have ht : (bl s).take s.size = bl s := List.take_of_length_le (by rw [bl_size]; omega)
      rw [ht] at ho
      have hlq := qs_len (bl s)
      rw [bl_size] at hlq
      have hLL : (34 :: qs (bl s)).length ≤ 4194305 := by rw [List.length_cons]; omega
      obtain ⟨x, cc, w2, hrun, hown, hb2⟩ := own_app w wr w.heap.size u4 (34 :: qs (bl s)) [34] [.int .u8 34] 1 rfl rfl ho (by omega) hb (Nat.le_refl _)
      obtain ⟨x', cc', e', hc⟩ := conv_own hown
      obtain ⟨rfl, rfl⟩ : x = x' ∧ cc = cc' := by cases e'; exact ⟨rfl, rfl⟩
      have hcv := hc 0
      simp only [World.drewN_zero] at hcv
      have hq : (34 :: qs (bl s)) ++ [34] = quoteL (bl s) := rfl
      have hl2 : (34 :: qs (bl s)).length + 1 = (quoteL (bl s)).length := by rw [← hq, List.length_append]; rfl
      rw [hq] at hcv
      rw [hl2] at hrun
      have Hb2 := Lib.hid hb2
      clear ho hb hown hb2 hc hq hl2 hLL hlq ht hlen e'
      generalize (quoteL (bl s)).length = N2 at hrun hcv
      obtain ⟨Y, hY⟩ : ∃ Y, txt (quoteL (bl s)) = Y := ⟨_, rfl⟩
      rw [hY] at hcv
      have HY := Lib.hid hY
      clear hY
      go_wp2_with (at_builtin; refine wpList_append_run rfl _ _ _ _ rfl rfl rfl hrun ?_)
      go_wp2
      go_ret
      exact ⟨by rw [HY.out]; rfl, Hb2.out⟩
end Go.Proofs.YtklmiabgalanhaaGreatDoor

