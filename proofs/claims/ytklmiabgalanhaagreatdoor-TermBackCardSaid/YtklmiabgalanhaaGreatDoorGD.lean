/- Contract of the reference's Read. -/
import Derived.Test.YtklmiabgalanhaaGreatDoorGC
import Derived.Test.YtklmiabgalanhaaGreatDoorGA
import Derived.Deep.RegionWith
import Derived.Deep.LoopGhost
import Derived.BigRegion
import Derived.Deep.WholeRow
namespace Go.Proofs.YtklmiabgalanhaaGreatDoor
open Go.RowKit
set_option maxRecDepth 100000

theorem rread_no (s : ByteArray) (a : Int) (w : World) (h : a < 0 ∨ (s.size : Int) ≤ a) :
    Calls Tryz.prog 99 #[.string s, .int .i64 a] w fun e w' => e = .returned (.tuple #[.int .i64 0, .int .i64 0]) ∧ w = w' := by
  by_cases h1 : a < 0
  · go_enter Tryz.func99, Tryz.ntmps99
    go_wp2
    go_ret2
    exact ⟨rfl, rfl⟩
  · have h2 : (s.size : Int) ≤ a := by omega
    clear h
    go_enter Tryz.func99, Tryz.ntmps99
    go_wp2
    go_ret2
    exact ⟨rfl, rfl⟩

theorem get_byt (s : ByteArray) (i : Nat) (h : i < s.size) : (s[i]'h).toNat = Um.byt s i := by
  unfold Um.byt
  congr 1
  show _ = s.data[i]!
  rw [getElem!_pos s.data i h]; rfl

theorem vv_lt (s : ByteArray) (i n : Nat) : ∀ j, Um.vv s i n j < 256 * 64 ^ j
  | 0 => by
    have := Um.byt_lt s i
    unfold Um.vv
    split
    · omega
    · have := Nat.mod_le (Um.byt s i) (2 ^ (7 - n)); omega
  | j + 1 => by
    have := vv_lt s i n j
    unfold Um.vv
    rw [Nat.pow_succ]
    omega
theorem vv_small (s : ByteArray) (i n j : Nat) (h : j ≤ 3) : Um.vv s i n j < 67108864 := by
  have := vv_lt s i n j
  have h2 : (64 : Nat) ^ j ≤ 64 ^ 3 := Nat.pow_le_pow_right (by omega) h
  omega

theorem vv_next (s : ByteArray) (i n j : Nat) (h : 1 ≤ j) : Um.vv s i n (j + 1 - 1) = 64 * Um.vv s i n (j - 1) + Um.byt s (i + j) % 64 := by
  obtain ⟨m, rfl⟩ : ∃ m, j = m + 1 := ⟨j - 1, by omega⟩
  rfl

theorem found {s : ByteArray} {n K : Nat} (h : n < s.size) (h1 : 1 ≤ K) (hn : n + K ≤ s.size) (hh : Um.hitB s n K = true) :
    ((rdC s n : Nat) : Int) = (Um.vv s n K (K - 1) : Nat) ∧ ((rdN s n : Nat) : Int) = (K : Nat) := by
  cases hk : Um.okAt s n with
  | false => rw [Um.hit_bad h hk h1 hn] at hh; cases hh
  | true =>
    obtain ⟨a, b⟩ := Um.hit_good h hk h1 hn
    rw [hh] at a
    have e := of_decide_eq_true a.symm
    have f := b e
    unfold rdC rdN
    rw [if_pos hk, if_pos hk, ← e, ← f]
    exact ⟨rfl, rfl⟩

theorem none_found {s : ByteArray} {n : Nat} (h : n < s.size) (hno : ∀ j, 1 ≤ j → j ≤ 4 → n + j ≤ s.size → Um.hitB s n j = false) :
    ((rdC s n : Nat) : Int) = 0 ∧ ((rdN s n : Nat) : Int) = 0 := by
  cases hk : Um.okAt s n with
  | false => unfold rdC rdN; rw [hk]; exact ⟨rfl, rfl⟩
  | true =>
    exfalso
    have ho : Utf8.decode s n ≠ (65533, 1) := by unfold Um.okAt at hk; exact of_decide_eq_true hk
    obtain ⟨x, y, z⟩ := Um.decode_at h ho
    have l := Um.len_pos (Utf8.decode s n).1
    have f := Um.at_fits y
    have a := (Um.hit_good h hk (n := (Utf8.decode s n).2) (by omega) (by omega)).1
    rw [hno _ (by omega) (by omega) (by omega), decide_eq_true rfl] at a
    cases a

set_option maxHeartbeats 4000000 in
theorem rread_at (s : ByteArray) (n : Nat) (w : World) (h : n < s.size) (hs : s.size ≤ 9223372036854775807) :
    Calls Tryz.prog 99 #[.string s, .int .i64 (n : Int)] w fun e w' => e = .returned (.tuple #[.int .i64 (rdC s n), .int .i64 (rdN s n)]) ∧ Below w.heap.size w w' := by
  have h1 : ¬ (n : Int) < 0 := by omega
  have h2 : (n : Int) < s.size := by omega
  have e0 := get_byt s n h
  have l0 := Um.byt_lt s n
  go_enter Tryz.func99, Tryz.ntmps99
  go_wp2
  go_loopw [6, 7, 8] (fun m _ _ wr => ∃ (k : Nat) (z : Int), z = k ∧ 1 ≤ k ∧ k ≤ 5 ∧ m = .int .i64 z ∧ (∀ j, 1 ≤ j → j < k → n + j ≤ s.size → Um.hitB s n j = false) ∧ Below w.heap.size w wr) (fun m _ _ _ => 5 - (intOf m).toNat)
  case atStart => exact ⟨1, 1, rfl, by omega, by omega, rfl, fun j h1 h2 => by omega, Below.refl _ _⟩
  case round =>
    obtain ⟨k, z, hz, hk1, hk5, rfl, hno, hb⟩ := hrel
    have Hno := Lib.hid hno
    clear hno
    by_cases hfit : k ≤ 4 ∧ n + k ≤ s.size
    · obtain ⟨hk4, hf⟩ := hfit
      obtain ⟨rfl, rfl⟩ | ⟨rfl, rfl⟩ | ⟨rfl, rfl⟩ | ⟨rfl, rfl⟩ : (k = 1 ∧ z = 1) ∨ (k = 2 ∧ z = 2) ∨ (k = 3 ∧ z = 3) ∨ (k = 4 ∧ z = 4) := by omega
      · clear hz
        have hd : decide ((1 : Int) ≤ (s.size : Int) - (n : Int)) = true := by simp; omega
        go_wp2
        go_loopw [7, 8] (fun v i wi => wi = wr ∧ ∃ j : Nat, 1 ≤ j ∧ j ≤ 1 ∧ i = .int .i64 j ∧ v = .int .i64 (Um.vv s n 1 (j - 1))) (fun _ i _ => 5 - (intOf i).toNat)
        case atStart => exact ⟨rfl, 1, by omega, by omega, rfl, rfl⟩
        case round =>
          obtain ⟨rfl, j, hj1, hj2, rfl, rfl⟩ := hrel
          · obtain rfl : j = 1 := by omega
            go_wp2
            have g2 : (n : Int) + 1 ≤ s.size := by omega
            have g3 : (0 : Int) ≤ n + 1 := by omega
            have g4 : ((n : Int) + 1).toNat = n + 1 := by omega
            have g1 : IntKind.i64.wrap ((n : Int) + 1) = n + 1 := IntWalk.i64_in _ (by omega)
            go_region_with (go_at_call 130; refine (rform_any _ _).mono ?_; rintro e w' ⟨rfl, hb2⟩)
            all_goals
              clear g1 g4
              have hw : Below w.heap.size w w' := hb.trans (((Below.refl _ _).drew.trans hb2).mono hb.size)
              go_wp2
              · have hh : Um.hitB s n 1 = true := by assumption
                have hfin := found h (show 1 ≤ 1 by omega) hf hh
                go_ret2
                exact ⟨ret_pair hfin.1.symm hfin.2.symm, hw⟩
              · have hh : Um.hitB s n 1 = false := by assumption
                go_roundw
                case rel =>
                  refine ⟨2, 2, rfl, by omega, by omega, rfl, fun j x1 x2 x3 => ?_, hw⟩
                  by_cases e : j = 1
                  · subst e; exact hh
                  · exact Hno.out j x1 (by omega) x3
                case measure => simp [intOf]
      · clear hz
        have hd : decide ((2 : Int) ≤ (s.size : Int) - (n : Int)) = true := by simp; omega
        go_wp2
        go_loopw [7, 8] (fun v i wi => wi = wr ∧ ∃ j : Nat, 1 ≤ j ∧ j ≤ 2 ∧ i = .int .i64 j ∧ v = .int .i64 (Um.vv s n 2 (j - 1))) (fun _ i _ => 5 - (intOf i).toNat)
        case atStart => exact ⟨rfl, 1, by omega, by omega, rfl, rfl⟩
        case round =>
          obtain ⟨rfl, j, hj1, hj2, rfl, rfl⟩ := hrel
          by_cases hj : j < 2
          · have ej := get_byt s (n + j) (by omega)
            have lj := Um.byt_lt s (n + j)
            have lv := vv_small s n 2 (j - 1) (by omega)
            go_wp2
            go_roundw
            case rel =>
              refine ⟨trivial, j + 1, by omega, by omega, by go_num, ?_⟩
              rw [vv_next s n 2 j hj1]
              go_num
            case measure => simp [intOf]; omega
          · obtain rfl : j = 2 := by omega
            go_wp2
            have g2 : (n : Int) + 2 ≤ s.size := by omega
            have g3 : (0 : Int) ≤ n + 2 := by omega
            have g4 : ((n : Int) + 2).toNat = n + 2 := by omega
            have g1 : IntKind.i64.wrap ((n : Int) + 2) = n + 2 := IntWalk.i64_in _ (by omega)
            go_region_with (go_at_call 130; refine (rform_any _ _).mono ?_; rintro e w' ⟨rfl, hb2⟩)
            all_goals
              clear g1 g4
              have hw : Below w.heap.size w w' := hb.trans (((Below.refl _ _).drew.trans hb2).mono hb.size)
              go_wp2
              · have hh : Um.hitB s n 2 = true := by assumption
                have hfin := found h (show 1 ≤ 2 by omega) hf hh
                go_ret2
                exact ⟨ret_pair hfin.1.symm hfin.2.symm, hw⟩
              · have hh : Um.hitB s n 2 = false := by assumption
                go_roundw
                case rel =>
                  refine ⟨3, 3, rfl, by omega, by omega, rfl, fun j x1 x2 x3 => ?_, hw⟩
                  by_cases e : j = 2
                  · subst e; exact hh
                  · exact Hno.out j x1 (by omega) x3
                case measure => simp [intOf]
      · clear hz
        have hd : decide ((3 : Int) ≤ (s.size : Int) - (n : Int)) = true := by simp; omega
        go_wp2
        go_loopw [7, 8] (fun v i wi => wi = wr ∧ ∃ j : Nat, 1 ≤ j ∧ j ≤ 3 ∧ i = .int .i64 j ∧ v = .int .i64 (Um.vv s n 3 (j - 1))) (fun _ i _ => 5 - (intOf i).toNat)
        case atStart => exact ⟨rfl, 1, by omega, by omega, rfl, rfl⟩
        case round =>
          obtain ⟨rfl, j, hj1, hj2, rfl, rfl⟩ := hrel
          by_cases hj : j < 3
          · have ej := get_byt s (n + j) (by omega)
            have lj := Um.byt_lt s (n + j)
            have lv := vv_small s n 3 (j - 1) (by omega)
            go_wp2
            go_roundw
            case rel =>
              refine ⟨trivial, j + 1, by omega, by omega, by go_num, ?_⟩
              rw [vv_next s n 3 j hj1]
              go_num
            case measure => simp [intOf]; omega
          · obtain rfl : j = 3 := by omega
            go_wp2
            have g2 : (n : Int) + 3 ≤ s.size := by omega
            have g3 : (0 : Int) ≤ n + 3 := by omega
            have g4 : ((n : Int) + 3).toNat = n + 3 := by omega
            have g1 : IntKind.i64.wrap ((n : Int) + 3) = n + 3 := IntWalk.i64_in _ (by omega)
            go_region_with (go_at_call 130; refine (rform_any _ _).mono ?_; rintro e w' ⟨rfl, hb2⟩)
            all_goals
              clear g1 g4
              have hw : Below w.heap.size w w' := hb.trans (((Below.refl _ _).drew.trans hb2).mono hb.size)
              go_wp2
              · have hh : Um.hitB s n 3 = true := by assumption
                have hfin := found h (show 1 ≤ 3 by omega) hf hh
                go_ret2
                exact ⟨ret_pair hfin.1.symm hfin.2.symm, hw⟩
              · have hh : Um.hitB s n 3 = false := by assumption
                go_roundw
                case rel =>
                  refine ⟨4, 4, rfl, by omega, by omega, rfl, fun j x1 x2 x3 => ?_, hw⟩
                  by_cases e : j = 3
                  · subst e; exact hh
                  · exact Hno.out j x1 (by omega) x3
                case measure => simp [intOf]
      · clear hz
        have hd : decide ((4 : Int) ≤ (s.size : Int) - (n : Int)) = true := by simp; omega
        go_wp2
        go_loopw [7, 8] (fun v i wi => wi = wr ∧ ∃ j : Nat, 1 ≤ j ∧ j ≤ 4 ∧ i = .int .i64 j ∧ v = .int .i64 (Um.vv s n 4 (j - 1))) (fun _ i _ => 5 - (intOf i).toNat)
        case atStart => exact ⟨rfl, 1, by omega, by omega, rfl, rfl⟩
        case round =>
          obtain ⟨rfl, j, hj1, hj2, rfl, rfl⟩ := hrel
          by_cases hj : j < 4
          · have ej := get_byt s (n + j) (by omega)
            have lj := Um.byt_lt s (n + j)
            have lv := vv_small s n 4 (j - 1) (by omega)
            go_wp2
            go_roundw
            case rel =>
              refine ⟨trivial, j + 1, by omega, by omega, by go_num, ?_⟩
              rw [vv_next s n 4 j hj1]
              go_num
            case measure => simp [intOf]; omega
          · obtain rfl : j = 4 := by omega
            go_wp2
            have g2 : (n : Int) + 4 ≤ s.size := by omega
            have g3 : (0 : Int) ≤ n + 4 := by omega
            have g4 : ((n : Int) + 4).toNat = n + 4 := by omega
            have g1 : IntKind.i64.wrap ((n : Int) + 4) = n + 4 := IntWalk.i64_in _ (by omega)
            go_region_with (go_at_call 130; refine (rform_any _ _).mono ?_; rintro e w' ⟨rfl, hb2⟩)
            all_goals
              clear g1 g4
              have hw : Below w.heap.size w w' := hb.trans (((Below.refl _ _).drew.trans hb2).mono hb.size)
              go_wp2
              · have hh : Um.hitB s n 4 = true := by assumption
                have hfin := found h (show 1 ≤ 4 by omega) hf hh
                go_ret2
                exact ⟨ret_pair hfin.1.symm hfin.2.symm, hw⟩
              · have hh : Um.hitB s n 4 = false := by assumption
                go_roundw
                case rel =>
                  refine ⟨5, 5, rfl, by omega, by omega, rfl, fun j x1 x2 x3 => ?_, hw⟩
                  by_cases e : j = 4
                  · subst e; exact hh
                  · exact Hno.out j x1 (by omega) x3
                case measure => simp [intOf]
    · have hfin : ((rdC s n : Nat) : Int) = 0 ∧ ((rdN s n : Nat) : Int) = 0 := none_found h fun j x1 x2 x3 => Hno.out j x1 (by omega) x3
      have Hfin := Lib.hid hfin
      clear hfin
      by_cases hz4 : z ≤ 4
      · have hz5 : ¬ z ≤ (s.size : Int) - n := by omega
        clear hz
        go_wp2
        go_ret2
        exact ⟨ret_pair Hfin.out.1.symm Hfin.out.2.symm, hb⟩
      · clear hz
        go_wp2
        go_ret2
        exact ⟨ret_pair Hfin.out.1.symm Hfin.out.2.symm, hb⟩
end Go.Proofs.YtklmiabgalanhaaGreatDoor

/- Contracts of runes.Bad and of the reference's Bad. -/
namespace Go.Proofs.YtklmiabgalanhaaGreatDoor
open Go.RowKit
set_option maxRecDepth 100000

theorem ret_int {k : IntKind} {a b : Int} (h : a = b) : Ending.returned (.int k a) = .returned (.int k b) := by rw [h]

set_option maxHeartbeats 1000000 in
theorem bad_any (s : ByteArray) (w : World) :
    Calls Tryz.prog 74 #[.string s] w fun e w' => e = .returned (.int .i64 (Um.badI s)) ∧ Below w.heap.size w w' := by
  go_enter Tryz.func74, Tryz.ntmps74
  go_wp2
  go_loopw [] (fun wr => ∃ pos f : Nat, wr = w.iter s pos ∧ s.size ≤ pos + f ∧ Um.badP s f pos = Um.badP s s.size 0) (fun wr => s.size - wr.iterPos w.heap.size)
  case atStart => exact ⟨0, s.size, rfl, by omega, rfl⟩
  case round =>
    obtain ⟨pos, f, rfl, hf, hbad⟩ := hrel
    have Hbad := Lib.hid hbad
    clear hbad
    by_cases hp : pos < s.size
    · have hnx : ∀ ty, (Instr.next (.pointer (some ⟨w.heap.size, 0, none⟩)) true ty).run Tryz.prog (w.iter s pos) = _ := fun ty => run_next_any w s pos ty hp
      obtain ⟨f, rfl⟩ : ∃ g, f = g + 1 := ⟨f - 1, by omega⟩
      have hw := Um.wid_pos s pos
      cases hk : Um.okAt s pos with
      | true =>
        have hnext := Um.badP_step (f := f) hp hk
        have Hnext := Lib.hid hnext
        clear hnext
        go_wp2_with (go_at_call 94; refine (begins_at s pos _ _ hp rfl).mono ?_; rintro e w' ⟨rfl, rfl⟩)
        go_roundw
        case rel => exact ⟨pos + Um.wid s pos, f, rfl, by omega, by rw [← Hnext.out]; exact Hbad.out⟩
        case measure =>
          have : (Utf8.decode s pos).2 = Um.wid s pos := rfl
          simp
          omega
      | false =>
        have hnext := Um.badP_bad (f := f) hp hk
        have hfin : Um.badI s = pos := by unfold Um.badI; rw [← Hbad.out, hnext]
        have Hfin := Lib.hid hfin
        clear hnext hfin
        go_wp2_with (go_at_call 94; refine (begins_at s pos _ _ hp rfl).mono ?_; rintro e w' ⟨rfl, rfl⟩)
        go_ret
        exact ⟨ret_int Hfin.out.symm, (Below.refl _ _).alloc (Nat.le_refl _) _⟩
    · have hnx : ∀ ty, (Instr.next (.pointer (some ⟨w.heap.size, 0, none⟩)) true ty).run Tryz.prog (w.iter s pos) = _ := fun ty => run_next_end w s pos ty hp
      have hfin : Um.badI s = -1 := by unfold Um.badI; rw [← Hbad.out, Um.badP_end hp]
      have Hfin := Lib.hid hfin
      clear hfin
      go_wp2
      go_ret
      exact ⟨ret_int Hfin.out.symm, (Below.refl _ _).alloc (Nat.le_refl _) _⟩

theorem rd_ok {s : ByteArray} {p : Nat} (h : Um.okAt s p = true) : rdC s p = Um.chr s p ∧ rdN s p = Um.wid s p := by
  unfold rdC rdN; rw [if_pos h, if_pos h]; exact ⟨rfl, rfl⟩
theorem rd_bad {s : ByteArray} {p : Nat} (h : Um.okAt s p = false) : rdC s p = 0 ∧ rdN s p = 0 := by
  unfold rdC rdN; rw [h]; exact ⟨rfl, rfl⟩

end Go.Proofs.YtklmiabgalanhaaGreatDoor

/- Contracts of class.within and of the reference's in. -/
namespace Go.Proofs.YtklmiabgalanhaaGreatDoor
open Go.RowKit
set_option maxRecDepth 100000

theorem within_any (g c : Nat) (l : List (Int × Int)) (r : Int) (w : World) (hmax : l.length ≤ 1000000) (ht : Cm.Tab w .i32 g l) :
    Calls Tryz.prog 95 #[.slice (some ⟨g, 0, none⟩) l.length c, .int .i32 r] w fun e w' => e = .returned (.bool (Cm.withinB l r)) ∧ Below w.heap.size w w' := by
  obtain ⟨hg, ht⟩ := ht
  have Ht := Lib.hid ht
  clear ht
  go_enter Tryz.func95, Tryz.ntmps95
  go_wp2
  go_loopw [9] (fun i wr => ∃ k : Nat, k ≤ l.length ∧ i = .int .i64 k ∧ Cm.withinB (l.drop k) r = Cm.withinB l r ∧ Below w.heap.size w wr) (fun i _ => l.length - (intOf i).toNat)
  case atStart => exact ⟨0, by omega, rfl, rfl, Below.refl _ _⟩
  case round =>
    obtain ⟨k, hk, rfl, hd, hnx⟩ := hrel
    have Hd := Lib.hid hd
    clear hd
    by_cases hlt : k < l.length
    · obtain ⟨c1, c2⟩ := Ht.out k hlt
      have d1 := (hnx.cell (p := ⟨g, k * 2, none⟩) hg).trans c1
      have d2 := (hnx.cell (p := ⟨g, k * 2 + 1, none⟩) hg).trans c2
      have b0 : (0 : Int) ≤ (k : Int) := by omega
      have b1 : (k : Int) < (l.length : Int) := by omega
      clear c1 c2
      have e1 := Cm.drop_at hlt
      have hs : Cm.withinB (l.drop k) r = if r ≤ Cm.hi l k then decide (Cm.lo l k ≤ r) else Cm.withinB (l.drop (k + 1)) r := by rw [e1]; rfl
      have Hs := Lib.hid hs
      have hsz := hnx.size
      clear hs e1
      by_cases hr : r ≤ Cm.hi l k
      · have hfin : Cm.withinB l r = decide (Cm.lo l k ≤ r) := by rw [← Hd.out, Hs.out, if_pos hr]
        have Hfin := Lib.hid hfin
        clear hfin
        go_wp2
        go_ret
        exact ⟨ret_bool Hfin.out.symm, (hnx.alloc hsz _)⟩
      · go_wp2
        go_roundw
        case rel => exact ⟨k + 1, by omega, by go_num, by rw [← Hd.out, Hs.out, if_neg hr], hnx.alloc hsz _⟩
        case measure => simp [intOf]; omega
    · have hfin : Cm.withinB l r = false := by rw [← Hd.out, List.drop_of_length_le (by omega)]; rfl
      have Hfin := Lib.hid hfin
      clear hfin
      go_wp2
      go_ret
      exact ⟨ret_bool Hfin.out.symm, hnx⟩
end Go.Proofs.YtklmiabgalanhaaGreatDoor

/- Contracts of class.Letter, Digit, Blank, Base. -/
namespace Go.Proofs.YtklmiabgalanhaaGreatDoor
open Go.RowKit
set_option maxRecDepth 100000


set_option maxRecDepth 100000 in
set_option maxHeartbeats 8000000 in
theorem digit_any (r : Int) (w : World) :
    Calls Tryz.prog 77 #[.int .i32 r] w fun e w' => e = .returned (.bool (Cm.inB Cm.digits r)) ∧ Below w.heap.size w w' := by
  have hq := Cm.digit_eq r
  have hb : Below w.heap.size w (w.alloc (.cells (Cm.flat .i32 Cm.digits).toArray 119)) := (Below.refl _ _).alloc (Nat.le_refl _) _
  have ht : Cm.Tab (w.alloc (.cells (Cm.flat .i32 Cm.digits).toArray 119)) .i32 w.heap.size Cm.digits := Cm.tab_of (heap_alloc_new w _)
  have H := within_any w.heap.size 5 Cm.digits r _ (by decide) ht
  rw [hq] at H
  have HH := Lib.hid H
  clear H hq ht
  go_enter Tryz.func77, Tryz.ntmps77
  go_wp2_with fail
  refine HH.out.mono ?_
  rintro e w1 ⟨rfl, h1⟩
  go_wp2
  go_ret
  exact ⟨rfl, hb.trans (h1.mono hb.size)⟩

theorem letters_built : ∀ (xs : List (Nat × Value)), xs = (List.range 33).map (fun i => (i, Value.agg #[.int .i32 (Cm.lo Cm.letters i), .int .i32 (Cm.hi Cm.letters i)])) → Tryz.prog.built 116 xs = some (Cm.flat .i32 Cm.letters).toArray := by
  rintro _ rfl
  kernel_rfl

theorem letters_zero : (Tryz.prog.info? 116).map (fun i => (i.zero, i.size)) = some (some (.agg (Array.replicate 66 (.int .i32 0))), 66) := by kernel_rfl

theorem letters_size : (Tryz.prog.info? 116).map (·.size) = some (Cm.flat .i32 Cm.letters).toArray.size := by kernel_rfl
theorem letters_one : (Cm.flat .i32 Cm.letters).toArray.all (·.oneCell') = true := by kernel_rfl

set_option maxRecDepth 100000 in
set_option maxHeartbeats 4000000 in
theorem letter_any (r : Int) (w : World) :
    Calls Tryz.prog 76 #[.int .i32 r] w fun e w' => e = .returned (.bool (Cm.inB Cm.letters r)) ∧ Below w.heap.size w w' := by
  have hq := Cm.letter_eq r
  have hb : Below w.heap.size w (w.alloc (.cells (Cm.flat .i32 Cm.letters).toArray 116)) := (Below.refl _ _).alloc (Nat.le_refl _) _
  have ht : Cm.Tab (w.alloc (.cells (Cm.flat .i32 Cm.letters).toArray 116)) .i32 w.heap.size Cm.letters := Cm.tab_of (heap_alloc_new w _)
  have H := within_any w.heap.size 33 Cm.letters r _ (by decide) ht
  rw [hq] at H
  have HH := Lib.hid H
  have hz := (zero_of_info letters_zero).1
  clear H hq ht
  go_enter Tryz.func76, Tryz.ntmps76
  go_wp2_with (first
    | (refine wpList_build rfl 116 _ rfl (by rw [letters_built _ rfl]; rfl) ?_; rw [letters_built _ rfl])
    | (refine wpList_store_row rfl 116 _ _ rfl w.heap.size (Cm.flat .i32 Cm.letters).toArray rfl rfl 116 (Array.replicate 66 (.int .i32 0)) (heap_alloc_new w _) letters_size rfl letters_one ?_; rw [World.setRow_alloc_new]))
  refine HH.out.mono ?_
  rintro e w1 ⟨rfl, h1⟩
  go_wp2
  go_ret
  exact ⟨rfl, hb.trans (h1.mono hb.size)⟩
end Go.Proofs.YtklmiabgalanhaaGreatDoor

