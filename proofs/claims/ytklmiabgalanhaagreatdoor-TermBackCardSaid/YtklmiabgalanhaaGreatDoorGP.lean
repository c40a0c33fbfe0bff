/- Contract of the reference's escape (quoted). -/
import Derived.Test.YtklmiabgalanhaaGreatDoorGO
import Derived.Maps.AppendAt
namespace Go.Proofs.YtklmiabgalanhaaGreatDoor
open Go.RowKit Em
set_option maxRecDepth 100000
set_option linter.unusedVariables false
set_option linter.unusedSimpArgs false

theorem says_at : ∀ k : Fin 8, (#[Value.int .u8 7, .int .u8 8, .int .u8 12, .int .u8 10, .int .u8 13, .int .u8 9, .int .u8 11, .int .u8 92] : Array Value)[k.1]? = some (.int .u8 (sayN k.1 : Nat)) := by
  intro k
  match k with
  | ⟨0, _⟩ => rfl
  | ⟨1, _⟩ => rfl
  | ⟨2, _⟩ => rfl
  | ⟨3, _⟩ => rfl
  | ⟨4, _⟩ => rfl
  | ⟨5, _⟩ => rfl
  | ⟨6, _⟩ => rfl
  | ⟨7, _⟩ => rfl

theorem ret_item {a b : Int} {c d : ByteArray} (h1 : a = b) (h2 : c = d) : Ending.returned (.agg #[.int .i64 a, .string c]) = .returned (.agg #[.int .i64 b, .string d]) := by rw [h1, h2]


/-- A block of the call's own that holds an item. -/
def IBox (w : World) (g : Nat) (n : Int) (y : ByteArray) : Prop := w.heap[g]? = some (.cells #[.int .i64 n, .string y] 111 (0, 0))
theorem IBox.c0 {w : World} {g : Nat} {n : Int} {y : ByteArray} (h : IBox w g n y) : w.cell? ⟨g, 0, none⟩ = some (.int .i64 n) := by rw [cell_of_row w g 0 _ _ _ h]; rfl
theorem IBox.c1 {w : World} {g : Nat} {n : Int} {y : ByteArray} (h : IBox w g n y) : w.cell? ⟨g, 1, none⟩ = some (.string y) := by rw [cell_of_row w g 1 _ _ _ h]; rfl
theorem IBox.free {w : World} {g : Nat} {n : Int} {y : ByteArray} (h : IBox w g n y) (i : Nat) : w.frozen? ⟨g, i, none⟩ = false := frozen_of_row w g i _ _ h
theorem IBox.set0 {w : World} {g : Nat} {n n' : Int} {y : ByteArray} (h : IBox w g n y) : IBox (w.setCell ⟨g, 0, none⟩ (.int .i64 n')) g n' y := heap_setCell_same w g 0 _ _ _ h
theorem IBox.set1 {w : World} {g : Nat} {n : Int} {y y' : ByteArray} (h : IBox w g n y) : IBox (w.setCell ⟨g, 1, none⟩ (.string y')) g n y' := heap_setCell_same w g 1 _ _ _ h
theorem IBox.lt {w : World} {g : Nat} {n : Int} {y : ByteArray} (h : IBox w g n y) : g < w.heap.size := (Array.getElem?_eq_some_iff.1 h).1
theorem IBox.alloc {w : World} {g : Nat} {n : Int} {y : ByteArray} (h : IBox w g n y) (o : Obj) : IBox (w.alloc o) g n y := (heap_alloc_old w o h.lt).trans h
theorem IBox.keep {w w' : World} {g : Nat} {n : Int} {y : ByteArray} (h : IBox w g n y) (hb : Below w.heap.size w w') : IBox w' g n y := (hb.block g h.lt).trans h

theorem sayR_small {mark n : Nat} (hm : mark = 34 ∨ mark = 39) (h : n < 128) : sayR mark true n = [UInt8.ofNat n] := by
  unfold sayR
  rcases hm with rfl | rfl
  · rfl
  · rw [if_neg (by decide), Qm.fm_small h]

set_option maxRecDepth 100000 in
set_option maxHeartbeats 8000000 in
theorem resc_any (s : ByteArray) (p mark : Nat) (w : World) (hp : p < s.size) (hm : mark = 34 ∨ mark = 39) (hs : s.size ≤ 4611686018427387000) :
    Calls Tryz.prog 123 #[.string s, .int .i64 p, .int .u8 mark] w fun e w' => e = .returned (.agg #[.int .i64 (escL mark ((bl s).drop (p + 1)) : Nat), .string (txt (escT mark ((bl s).drop (p + 1))))]) ∧ Below w.heap.size w w' := by
  have hbx0 : IBox (w.alloc (.cells #[.int .i64 0, .string ⟨#[]⟩] 111)) w.heap.size 0 ⟨#[]⟩ := heap_alloc_new w _
  have hb0 : Below w.heap.size w (w.alloc (.cells #[.int .i64 0, .string ⟨#[]⟩] 111)) := (Below.refl _ _).alloc (Nat.le_refl _) _
  have x0 : (p : Int) + 1 = ((p + 1 : Nat) : Int) := by omega
  obtain ⟨X, hX⟩ : ∃ X, p + 1 = X := ⟨_, rfl⟩
  rw [hX] at x0 ⊢
  have x1 : IntKind.i64.wrap (X : Int) = (X : Int) := IntWalk.i64_in _ (by omega)
  by_cases hend : s.size ≤ X
  · have e1 : (bl s).drop X = [] := List.drop_eq_nil_of_le (by rw [bl_size]; exact hend)
    rw [e1]
    have e2 : escL mark [] = 0 := rfl
    have e3 : txt (escT mark []) = ⟨#[]⟩ := rfl
    rw [e2, e3]
    have x2 : (s.size : Int) ≤ (X : Int) := by omega
    have k0 := (hbx0).c0
    have k1 := (hbx0).c1
    have z0 := (hbx0).free 0
    have z1 := (hbx0).free 1
    have Hbx := Lib.hid hbx0
    have Hb := Lib.hid hb0
    clear hbx0 hb0
    go_enter Tryz.func123, Tryz.ntmps123
    go_wp2
    refine bodyPost_ret (v := .agg #[.int .i64 (0), .string (⟨#[]⟩)]) ?_ ?_ ?_
    · simp [results, Tryz.results123, go_sem, k0, k1]
    · rfl
    · exact ⟨rfl, Hb.out⟩
  · have hc1 : X < s.size := by omega
    have x2 : ¬ (s.size : Int) ≤ (X : Int) := by omega
    have x3 : (0 : Int) ≤ (X : Int) := by omega
    have x4 : (X : Int) < (s.size : Int) := by omega
    have x5 : (p : Int) + 2 = ((X + 1 : Nat) : Int) := by omega
    obtain ⟨Y, hY⟩ : ∃ Y, X + 1 = Y := ⟨_, rfl⟩
    rw [hY] at x5
    have x6 : IntKind.i64.wrap (Y : Int) = (Y : Int) := IntWalk.i64_in _ (by omega)
    have hd := bl_drop' s X hc1
    obtain ⟨c, hc⟩ : ∃ c, s[X]'hc1 = c := ⟨_, rfl⟩
    obtain ⟨l, hl⟩ : ∃ l, (bl s).drop Y = l := ⟨_, rfl⟩
    rw [hc, hY, hl] at hd
    rw [hd]
    have HN8 := fun w => rnum_any s X 3 8 w (by omega) (by omega) (.inl rfl) hs
    rw [hd] at HN8
    have HN16 := fun k w (hk : k ≤ 8) => rnum_any s Y k 16 w (by omega) hk (.inr rfl) hs
    rw [hl] at HN16
    have hll : l.length = s.size - Y := by rw [← hl, List.length_drop, bl_size]
    obtain ⟨C, hC⟩ : ∃ C, c.toNat = C := ⟨_, rfl⟩
    have e1 : (s[X]'hc1).toNat = C := by rw [hc, hC]
    have l1 : C < 256 := by rw [← hC]; exact c.toNat_lt
    obtain ⟨L, hL⟩ : ∃ L, escL mark (c :: l) = L := ⟨_, rfl⟩
    obtain ⟨T, hT⟩ : ∃ T, txt (escT mark (c :: l)) = T := ⟨_, rfl⟩
    have HLT := Lib.hid (show escL mark (c :: l) = L ∧ txt (escT mark (c :: l)) = T from ⟨hL, hT⟩)
    have HNAME := Lib.hid (fun k (hk : k < 8) (h : C = nmN k) => esc_name mark hm k hk c l (hC.trans h))
    have HC := Lib.hid hC
    have key : ∀ (n : Nat) (b : Bool) (r : List UInt8), Qm.esc mark (c :: l) = some (n, b, r) → L = 1 + (l.length + 1 - r.length) ∧ T = txt (sayR mark b n) := by
      intro n b r h
      constructor
      · rw [← hL]; unfold escL; rw [h]; rfl
      · rw [← hT]; unfold escT; rw [h]
    have keyn : Qm.esc mark (c :: l) = none → L = 0 ∧ T = ⟨#[]⟩ := by
      intro h
      constructor
      · rw [← hL]; unfold escL; rw [h]
      · rw [← hT]; unfold escT; rw [h]; rfl
    have HK := Lib.hid key
    have HKN := Lib.hid keyn
    rw [hL, hT]
    have hrow0 : ((w.alloc (.cells #[.int .i64 0, .string ⟨#[]⟩] 111)).alloc (.cells #[.int .u8 7, .int .u8 8, .int .u8 12, .int .u8 10, .int .u8 13, .int .u8 9, .int .u8 11, .int .u8 92] 5)).heap[w.heap.size + 1]? = some (.cells #[.int .u8 7, .int .u8 8, .int .u8 12, .int .u8 10, .int .u8 13, .int .u8 9, .int .u8 11, .int .u8 92] 5 (0, 0)) := heap_alloc2_new w _ _
    have hbx1 := hbx0.alloc (.cells #[.int .u8 7, .int .u8 8, .int .u8 12, .int .u8 10, .int .u8 13, .int .u8 9, .int .u8 11, .int .u8 92] 5)
    have hb1 := hb0.alloc (by simp) (.cells #[.int .u8 7, .int .u8 8, .int .u8 12, .int .u8 10, .int .u8 13, .int .u8 9, .int .u8 11, .int .u8 92] 5)
    have HL := Lib.hid hll
    clear hL hT hb0 hbx0 key keyn hC hc hl hd hll
    go_enter Tryz.func123, Tryz.ntmps123
    go_wp2
    go_loopw [10] (fun i wr => ∃ k : Nat, k ≤ 8 ∧ i = .int .i64 k ∧ (∀ j, j < k → nmN j ≠ C) ∧ wr.heap[w.heap.size + 1]? = some (.cells #[.int .u8 7, .int .u8 8, .int .u8 12, .int .u8 10, .int .u8 13, .int .u8 9, .int .u8 11, .int .u8 92] 5 (0, 0)) ∧ IBox wr w.heap.size 0 ⟨#[]⟩ ∧ Below w.heap.size w wr) (fun i _ => 8 - (intOf i).toNat)
    case atStart => exact ⟨0, by omega, rfl, fun j hj => by omega, hrow0, hbx1, hb1⟩
    case round =>
      obtain ⟨k, hk, rfl, hno, hrow, hbx, hb⟩ := hrel
      have Hno := Lib.hid hno
      have Hrow := Lib.hid hrow
      have Hbx := Lib.hid hbx
      have Hb := Lib.hid hb
      have hbs := hb.size
      clear hno hb hrow0 hbx1 hb1
      have b0 : (0 : Int) ≤ (k : Int) := by omega
      by_cases hlt : k < 8
      · have n1 := (byN_get ⟨#[97, 98, 102, 110, 114, 116, 118, 92]⟩ k hlt).trans (nm_at ⟨k, hlt⟩)
        have b1 : (k : Int) < 8 := by omega
        have b2 : k < 8 := hlt
        simp only [] at n1
        by_cases hit : nmN k = C
        · have hsay : sayN k < 128 := by unfold sayN; (repeat' split) <;> omega
          have hfin := HK.out _ _ _ (HNAME.out k hlt hit.symm)
          rw [sayR_small hm hsay] at hfin
          have hL2 : L = 2 := by omega
          have HT := Lib.hid (hfin.2)
          have HL2 := Lib.hid hL2
          have hcell := cell_of_row wr (w.heap.size + 1) k _ _ _ hrow
          rw [says_at ⟨k, hlt⟩] at hcell
          simp only [] at hcell
          rw [hit] at n1
          clear hrow hbx hfin hL2 hit hsay
          generalize sayN k = M at hcell HT
          have hcv := conv_new wr [(M : Int)]
          simp only [List.length_singleton, List.map_cons, List.map_nil, List.foldl_cons, List.foldl_nil, Int.toNat_natCast] at hcv
          have hp1 : ByteArray.empty.push (UInt8.ofNat M) = txt [UInt8.ofNat M] := rfl
          rw [hp1] at hcv
          have HT' := Lib.hid (HT.out.symm)
          clear hp1 HT
          generalize txt [UInt8.ofNat M] = U at hcv HT'
          have k0 := (Hbx.out.alloc (.cells #[.int .u8 M] 5)).c0
          have k1 := (Hbx.out.alloc (.cells #[.int .u8 M] 5)).c1
          have z0 := (Hbx.out.alloc (.cells #[.int .u8 M] 5)).free 0
          have z1 := (Hbx.out.alloc (.cells #[.int .u8 M] 5)).free 1
          go_wp2
          have hbf : IBox _ w.heap.size (2) (U) := ((Hbx.out.alloc (.cells #[.int .u8 M] 5)).set0 (n' := 2)).set1 (y' := U)
          have r0 := hbf.c0
          have r1 := hbf.c1
          refine bodyPost_ret (v := .agg #[.int .i64 (2), .string (U)]) ?_ ?_ ?_
          · simp [results, Tryz.results123, go_sem, r0, r1]
          · rfl
          · exact ⟨by rw [HL2.out, HT'.out]; rfl, ((Hb.out.alloc hbs (.cells #[.int .u8 M] 5)).setCell (p := ⟨w.heap.size, 0, none⟩) (Nat.le_refl _) _).setCell (p := ⟨w.heap.size, 1, none⟩) (Nat.le_refl _) _⟩
        · have d1 : (((nmN k : Nat) : Int) == (C : Int)) = false := beq_eq_false_iff_ne.2 (by omega)
          have Hno2 := Lib.hid (show ∀ j, j < k + 1 → nmN j ≠ C from fun j hj => by
            by_cases h : j = k
            · rw [h]; exact hit
            · exact Hno.out j (by omega))
          clear hit hrow hbx
          generalize nmN k = M at n1 d1
          go_wp2
          go_roundw
          case rel => exact ⟨k + 1, by omega, by go_num, Hno2.out, Hrow.out, Hbx.out, Hb.out⟩
          case measure => simp [intOf]; omega
      · obtain rfl : k = 8 := by omega
        have hnn := esc_noname mark c l (fun j hj => by rw [HC.out]; exact Hno.out j hj)
        rw [HC.out] at hnn
        clear hrow Hno Hrow HNAME hlt
        have k0 := (Hbx.out).c0
        have k1 := (Hbx.out).c1
        have z0 := (Hbx.out).free 0
        have z1 := (Hbx.out).free 1
        clear hbx
        have HNN := Lib.hid hnn
        clear hnn
        by_cases hmk : C = mark
        · have hesc : Qm.esc mark (c :: l) = some (C, true, l) := by rw [Qm.esc, if_pos (.inl (HC.out.trans hmk)), HC.out]
          have hfin := HK.out _ _ _ hesc
          rw [sayR_small hm (by omega)] at hfin
          have hL2 : L = 2 := by omega
          have HT' := Lib.hid (hfin.2.symm)
          have HL2 := Lib.hid hL2
          have hcv := conv_new wr [(C : Int)]
          simp only [List.length_singleton, List.map_cons, List.map_nil, List.foldl_cons, List.foldl_nil, Int.toNat_natCast] at hcv
          have hp1 : ByteArray.empty.push (UInt8.ofNat C) = txt [UInt8.ofNat C] := rfl
          rw [hp1] at hcv
          clear hp1 hesc hfin hL2 k0 k1 z0 z1
          generalize txt [UInt8.ofNat C] = U at hcv HT'
          subst hmk
          have d1 : ((C : Int) == (C : Int)) = true := beq_self_eq_true _
          have k0 := (Hbx.out.alloc (.cells #[.int .u8 C] 5)).c0
          have k1 := (Hbx.out.alloc (.cells #[.int .u8 C] 5)).c1
          have z0 := (Hbx.out.alloc (.cells #[.int .u8 C] 5)).free 0
          have z1 := (Hbx.out.alloc (.cells #[.int .u8 C] 5)).free 1
          go_wp2
          have hbf : IBox _ w.heap.size (2) (U) := ((Hbx.out.alloc (.cells #[.int .u8 C] 5)).set0 (n' := 2)).set1 (y' := U)
          have r0 := hbf.c0
          have r1 := hbf.c1
          refine bodyPost_ret (v := .agg #[.int .i64 (2), .string (U)]) ?_ ?_ ?_
          · simp [results, Tryz.results123, go_sem, r0, r1]
          · rfl
          · exact ⟨by rw [HL2.out, HT'.out]; rfl, ((Hb.out.alloc hbs (.cells #[.int .u8 C] 5)).setCell (p := ⟨w.heap.size, 0, none⟩) (Nat.le_refl _) _).setCell (p := ⟨w.heap.size, 1, none⟩) (Nat.le_refl _) _⟩
        · have d1 : ((C : Int) == (mark : Int)) = false := beq_eq_false_iff_ne.2 (by omega)
          have hn1 : ¬ (c.toNat = mark ∨ c.toNat = 92) := by rw [HC.out]; exact fun h => h.elim hmk HNN.out.2
          by_cases h120 : C = 120
          · have hw : Qm.wide c.toNat = 2 := by rw [HC.out, h120]; decide
            have hesc : Qm.esc mark (c :: l) = (match Qm.numA 16 2 0 l with | some (n, r) => if Um.okN n then some (n, decide (c.toNat = 120), r) else none | none => none) := by
              rw [Qm.esc, if_neg hn1, if_neg (by rw [HC.out]; omega), if_pos (by rw [HC.out]; omega), hw]
              rfl
            subst h120
            have HB := fun w => HN16 2 w (by omega)
            cases hx : Qm.numA 16 2 0 l with
            | none =>
              rw [hx] at hesc
              have hfin := HKN.out hesc
              have HF := Lib.hid hfin
              have hv : rnumV 16 2 l = -1 := by unfold rnumV; rw [hx]
              rw [hv] at HB
              clear hesc hfin hv hx hn1 hw HN16 HN8
              go_wp2_with fail
              refine (HB _).mono ?_
              rintro e w' ⟨rfl, rfl⟩
              go_wp2
              have hbf : IBox _ w.heap.size (0) (⟨#[]⟩) := ((Hbx.out).set0 (n' := 0)).set1 (y' := ⟨#[]⟩)
              have r0 := hbf.c0
              have r1 := hbf.c1
              refine bodyPost_ret (v := .agg #[.int .i64 (0), .string (⟨#[]⟩)]) ?_ ?_ ?_
              · simp [results, Tryz.results123, go_sem, r0, r1]
              · rfl
              · exact ⟨by rw [HF.out.1, HF.out.2]; rfl, ((Hb.out).setCell (p := ⟨w.heap.size, 0, none⟩) (Nat.le_refl _) _).setCell (p := ⟨w.heap.size, 1, none⟩) (Nat.le_refl _) _⟩
            | some z =>
              obtain ⟨n, r⟩ := z
              have hn : n < 256 := by
                have := Qm.numA_bound (b := 16) (by omega) hx
                omega
              rw [hx] at hesc
              simp only [] at hesc
              rw [if_pos (Qm.ok_small hn), HC.out] at hesc
              have hfin := HK.out _ _ _ hesc
              obtain ⟨e, he, hel, _⟩ := Qm.numA_len hx
              have hll : l.length = 2 + r.length := by rw [he, List.length_append, hel]
              have hL2 : L = 4 := by omega
              have hT2 : txt (sayR mark true n) = T := hfin.2.symm
              have HF := Lib.hid (show L = 4 ∧ txt (sayR mark true n) = T from ⟨hL2, hT2⟩)
              have hv : rnumV 16 2 l = n := by unfold rnumV; rw [hx]
              rw [hv] at HB
              have HS := fun w => rsmall_any n mark w hn hm
              have t1 : ¬ (n : Int) < 0 := by omega
              clear hesc hfin hv hx hn1 hw HN16 HN8 he hel hll hL2 hT2
              generalize txt (sayR mark true n) = U at HF HS
              go_wp2_with fail
              refine (HB _).mono ?_
              rintro e w' ⟨rfl, rfl⟩
              go_wp2_with fail
              refine (HS _).mono ?_
              rintro e w2 ⟨rfl, s2⟩
              have Hs2 := Lib.hid s2
              have hs2 := s2.size
              clear k0 k1 z0 z1 s2
              have k0 := (Hbx.out.keep Hs2.out).c0
              have k1 := (Hbx.out.keep Hs2.out).c1
              have z0 := (Hbx.out.keep Hs2.out).free 0
              have z1 := (Hbx.out.keep Hs2.out).free 1
              go_wp2
              have hbf : IBox _ w.heap.size (4) (U) := ((Hbx.out.keep Hs2.out).set0 (n' := 4)).set1 (y' := U)
              have r0 := hbf.c0
              have r1 := hbf.c1
              refine bodyPost_ret (v := .agg #[.int .i64 (4), .string (U)]) ?_ ?_ ?_
              · simp [results, Tryz.results123, go_sem, r0, r1]
              · rfl
              · exact ⟨by rw [HF.out.1, HF.out.2]; rfl, ((Hb.out.trans (Hs2.out.mono hbs)).setCell (p := ⟨w.heap.size, 0, none⟩) (Nat.le_refl _) _).setCell (p := ⟨w.heap.size, 1, none⟩) (Nat.le_refl _) _⟩
          · have d2 : ((C : Int) == 120) = false := beq_eq_false_iff_ne.2 (by omega)
            by_cases hV : C = 117
            · clear h120
              have hw : Qm.wide c.toNat = 4 := by rw [HC.out, hV]; decide
              have hesc : Qm.esc mark (c :: l) = (match Qm.numA 16 4 0 l with | some (n, r) => if Um.okN n then some (n, decide (c.toNat = 120), r) else none | none => none) := by
                rw [Qm.esc, if_neg hn1, if_neg (by rw [HC.out]; omega), if_pos (by rw [HC.out]; omega), hw]
                rfl
              subst hV
              have HB := fun w => HN16 4 w (by omega)
              have hcm : decide (c.toNat = 120) = false := by rw [HC.out]; decide
              cases hx : Qm.numA 16 4 0 l with
              | none =>
                rw [hx] at hesc
                have hfin := HKN.out hesc
                have HF := Lib.hid hfin
                have hv : rnumV 16 4 l = -1 := by unfold rnumV; rw [hx]
                rw [hv] at HB
                clear hesc hfin hv hx hn1 hw HN16 HN8
                go_wp2_with fail
                refine (HB _).mono ?_
                rintro e w' ⟨rfl, rfl⟩
                go_wp2
                have hbf : IBox _ w.heap.size (0) (⟨#[]⟩) := ((Hbx.out).set0 (n' := 0)).set1 (y' := ⟨#[]⟩)
                have r0 := hbf.c0
                have r1 := hbf.c1
                refine bodyPost_ret (v := .agg #[.int .i64 (0), .string (⟨#[]⟩)]) ?_ ?_ ?_
                · simp [results, Tryz.results123, go_sem, r0, r1]
                · rfl
                · exact ⟨by rw [HF.out.1, HF.out.2]; rfl, ((Hb.out).setCell (p := ⟨w.heap.size, 0, none⟩) (Nat.le_refl _) _).setCell (p := ⟨w.heap.size, 1, none⟩) (Nat.le_refl _) _⟩
              | some z =>
                obtain ⟨n, r⟩ := z
                have hn : n < 4294967296 := by
                  have := Qm.numA_bound (b := 16) (by omega) hx
                  omega
                rw [hx] at hesc
                simp only [] at hesc
                have hv : rnumV 16 4 l = n := by unfold rnumV; rw [hx]
                rw [hv] at HB
                have t1 : ¬ (n : Int) < 0 := by omega
                have HM := fun w => may_any n w
                by_cases ho : Um.okN n
                · rw [if_pos ho, hcm] at hesc
                  rw [(Um.valid_iff n).2 ho] at HM
                  have hfin := HK.out _ _ _ hesc
                  obtain ⟨e, he, hel, _⟩ := Qm.numA_len hx
                  have hll : l.length = 4 + r.length := by rw [he, List.length_append, hel]
                  have hL2 : L = 6 := by omega
                  have hsf : sayR mark false n = Qm.fm n := by unfold sayR; split <;> rfl
                  have hT2 : txt (Qm.fm n) = T := by rw [← hsf]; exact hfin.2.symm
                  have HF := Lib.hid (show L = 6 ∧ txt (Qm.fm n) = T from ⟨hL2, hT2⟩)
                  have HS := fun w => rform_any n w
                  rw [form_txt] at HS
                  clear hesc hfin hv hx hn1 hw HN16 HN8 he hel hll hL2 hT2 hsf ho
                  generalize txt (Qm.fm n) = U at HF HS
                  go_wp2_with fail
                  refine (HB _).mono ?_
                  rintro e w' ⟨rfl, rfl⟩
                  go_wp2_with fail
                  refine (HM _).mono ?_
                  rintro e w' ⟨rfl, rfl⟩
                  go_wp2_with fail
                  refine (HS _).mono ?_
                  rintro e w2 ⟨rfl, s2⟩
                  have Hs2 := Lib.hid s2
                  have hs2 := s2.size
                  clear k0 k1 z0 z1 s2
                  have k0 := (Hbx.out.keep Hs2.out).c0
                  have k1 := (Hbx.out.keep Hs2.out).c1
                  have z0 := (Hbx.out.keep Hs2.out).free 0
                  have z1 := (Hbx.out.keep Hs2.out).free 1
                  go_wp2
                  have hbf : IBox _ w.heap.size (6) (U) := ((Hbx.out.keep Hs2.out).set0 (n' := 6)).set1 (y' := U)
                  have r0 := hbf.c0
                  have r1 := hbf.c1
                  refine bodyPost_ret (v := .agg #[.int .i64 (6), .string (U)]) ?_ ?_ ?_
                  · simp [results, Tryz.results123, go_sem, r0, r1]
                  · rfl
                  · exact ⟨by rw [HF.out.1, HF.out.2]; rfl, ((Hb.out.trans (Hs2.out.mono hbs)).setCell (p := ⟨w.heap.size, 0, none⟩) (Nat.le_refl _) _).setCell (p := ⟨w.heap.size, 1, none⟩) (Nat.le_refl _) _⟩
                · rw [if_neg ho] at hesc
                  rw [Um.valid_false ho] at HM
                  have hfin := HKN.out hesc
                  have HF := Lib.hid hfin
                  clear hesc hfin hv hx hn1 hw HN16 HN8 ho
                  go_wp2_with fail
                  refine (HB _).mono ?_
                  rintro e w' ⟨rfl, rfl⟩
                  go_wp2_with fail
                  refine (HM _).mono ?_
                  rintro e w' ⟨rfl, rfl⟩
                  go_wp2
                  have hbf : IBox _ w.heap.size (0) (⟨#[]⟩) := ((Hbx.out).set0 (n' := 0)).set1 (y' := ⟨#[]⟩)
                  have r0 := hbf.c0
                  have r1 := hbf.c1
                  refine bodyPost_ret (v := .agg #[.int .i64 (0), .string (⟨#[]⟩)]) ?_ ?_ ?_
                  · simp [results, Tryz.results123, go_sem, r0, r1]
                  · rfl
                  · exact ⟨by rw [HF.out.1, HF.out.2]; rfl, ((Hb.out).setCell (p := ⟨w.heap.size, 0, none⟩) (Nat.le_refl _) _).setCell (p := ⟨w.heap.size, 1, none⟩) (Nat.le_refl _) _⟩
            · have d3 : ((C : Int) == 117) = false := beq_eq_false_iff_ne.2 (by omega)
              have h117 := hV
              clear hV
              by_cases hV : C = 85
              · clear h120 h117
                have hw : Qm.wide c.toNat = 8 := by rw [HC.out, hV]; decide
                have hesc : Qm.esc mark (c :: l) = (match Qm.numA 16 8 0 l with | some (n, r) => if Um.okN n then some (n, decide (c.toNat = 120), r) else none | none => none) := by
                  rw [Qm.esc, if_neg hn1, if_neg (by rw [HC.out]; omega), if_pos (by rw [HC.out]; omega), hw]
                  rfl
                subst hV
                have HB := fun w => HN16 8 w (by omega)
                have hcm : decide (c.toNat = 120) = false := by rw [HC.out]; decide
                cases hx : Qm.numA 16 8 0 l with
                | none =>
                  rw [hx] at hesc
                  have hfin := HKN.out hesc
                  have HF := Lib.hid hfin
                  have hv : rnumV 16 8 l = -1 := by unfold rnumV; rw [hx]
                  rw [hv] at HB
                  clear hesc hfin hv hx hn1 hw HN16 HN8
                  go_wp2_with fail
                  refine (HB _).mono ?_
                  rintro e w' ⟨rfl, rfl⟩
                  go_wp2
                  have hbf : IBox _ w.heap.size (0) (⟨#[]⟩) := ((Hbx.out).set0 (n' := 0)).set1 (y' := ⟨#[]⟩)
                  have r0 := hbf.c0
                  have r1 := hbf.c1
                  refine bodyPost_ret (v := .agg #[.int .i64 (0), .string (⟨#[]⟩)]) ?_ ?_ ?_
                  · simp [results, Tryz.results123, go_sem, r0, r1]
                  · rfl
                  · exact ⟨by rw [HF.out.1, HF.out.2]; rfl, ((Hb.out).setCell (p := ⟨w.heap.size, 0, none⟩) (Nat.le_refl _) _).setCell (p := ⟨w.heap.size, 1, none⟩) (Nat.le_refl _) _⟩
                | some z =>
                  obtain ⟨n, r⟩ := z
                  have hn : n < 4294967296 := by
                    have := Qm.numA_bound (b := 16) (by omega) hx
                    omega
                  rw [hx] at hesc
                  simp only [] at hesc
                  have hv : rnumV 16 8 l = n := by unfold rnumV; rw [hx]
                  rw [hv] at HB
                  have t1 : ¬ (n : Int) < 0 := by omega
                  have HM := fun w => may_any n w
                  by_cases ho : Um.okN n
                  · rw [if_pos ho, hcm] at hesc
                    rw [(Um.valid_iff n).2 ho] at HM
                    have hfin := HK.out _ _ _ hesc
                    obtain ⟨e, he, hel, _⟩ := Qm.numA_len hx
                    have hll : l.length = 8 + r.length := by rw [he, List.length_append, hel]
                    have hL2 : L = 10 := by omega
                    have hsf : sayR mark false n = Qm.fm n := by unfold sayR; split <;> rfl
                    have hT2 : txt (Qm.fm n) = T := by rw [← hsf]; exact hfin.2.symm
                    have HF := Lib.hid (show L = 10 ∧ txt (Qm.fm n) = T from ⟨hL2, hT2⟩)
                    have HS := fun w => rform_any n w
                    rw [form_txt] at HS
                    clear hesc hfin hv hx hn1 hw HN16 HN8 he hel hll hL2 hT2 hsf ho
                    generalize txt (Qm.fm n) = U at HF HS
                    go_wp2_with fail
                    refine (HB _).mono ?_
                    rintro e w' ⟨rfl, rfl⟩
                    go_wp2_with fail
                    refine (HM _).mono ?_
                    rintro e w' ⟨rfl, rfl⟩
                    go_wp2_with fail
                    refine (HS _).mono ?_
                    rintro e w2 ⟨rfl, s2⟩
                    have Hs2 := Lib.hid s2
                    have hs2 := s2.size
                    clear k0 k1 z0 z1 s2
                    have k0 := (Hbx.out.keep Hs2.out).c0
                    have k1 := (Hbx.out.keep Hs2.out).c1
                    have z0 := (Hbx.out.keep Hs2.out).free 0
                    have z1 := (Hbx.out.keep Hs2.out).free 1
                    go_wp2
                    have hbf : IBox _ w.heap.size (10) (U) := ((Hbx.out.keep Hs2.out).set0 (n' := 10)).set1 (y' := U)
                    have r0 := hbf.c0
                    have r1 := hbf.c1
                    refine bodyPost_ret (v := .agg #[.int .i64 (10), .string (U)]) ?_ ?_ ?_
                    · simp [results, Tryz.results123, go_sem, r0, r1]
                    · rfl
                    · exact ⟨by rw [HF.out.1, HF.out.2]; rfl, ((Hb.out.trans (Hs2.out.mono hbs)).setCell (p := ⟨w.heap.size, 0, none⟩) (Nat.le_refl _) _).setCell (p := ⟨w.heap.size, 1, none⟩) (Nat.le_refl _) _⟩
                  · rw [if_neg ho] at hesc
                    rw [Um.valid_false ho] at HM
                    have hfin := HKN.out hesc
                    have HF := Lib.hid hfin
                    clear hesc hfin hv hx hn1 hw HN16 HN8 ho
                    go_wp2_with fail
                    refine (HB _).mono ?_
                    rintro e w' ⟨rfl, rfl⟩
                    go_wp2_with fail
                    refine (HM _).mono ?_
                    rintro e w' ⟨rfl, rfl⟩
                    go_wp2
                    have hbf : IBox _ w.heap.size (0) (⟨#[]⟩) := ((Hbx.out).set0 (n' := 0)).set1 (y' := ⟨#[]⟩)
                    have r0 := hbf.c0
                    have r1 := hbf.c1
                    refine bodyPost_ret (v := .agg #[.int .i64 (0), .string (⟨#[]⟩)]) ?_ ?_ ?_
                    · simp [results, Tryz.results123, go_sem, r0, r1]
                    · rfl
                    · exact ⟨by rw [HF.out.1, HF.out.2]; rfl, ((Hb.out).setCell (p := ⟨w.heap.size, 0, none⟩) (Nat.le_refl _) _).setCell (p := ⟨w.heap.size, 1, none⟩) (Nat.le_refl _) _⟩
              · have d4 : ((C : Int) == 85) = false := beq_eq_false_iff_ne.2 (by omega)
                have hesc : Qm.esc mark (c :: l) = if 48 ≤ C ∧ C ≤ 55 then (match Qm.numA 8 3 0 (c :: l) with | some (n, r) => if n ≤ 255 then some (n, true, r) else none | none => none) else none := by
                  rw [Qm.esc, if_neg hn1, HC.out]
                  by_cases h8 : 48 ≤ C ∧ C ≤ 55
                  · rw [if_pos h8, if_pos h8]; rfl
                  · rw [if_neg h8, if_neg h8, if_neg (by omega), HNN.out.1]
                have hdg : ¬ (48 ≤ C ∧ C ≤ 55) → Qm.numA 8 3 0 (c :: l) = none := by
                  intro h8
                  have : ¬ Nm.dg c < 8 := by
                    have hc := HC.out
                    unfold Nm.dg
                    (repeat' split) <;> omega
                  rw [Qm.numA, if_neg this]
                have hesc2 : Qm.esc mark (c :: l) = (match Qm.numA 8 3 0 (c :: l) with | some (n, r) => if n ≤ 255 then some (n, true, r) else none | none => none) := by
                  rw [hesc]
                  by_cases h8 : 48 ≤ C ∧ C ≤ 55
                  · rw [if_pos h8]
                  · rw [if_neg h8, hdg h8]
                clear hesc hdg
                cases hx : Qm.numA 8 3 0 (c :: l) with
                | none =>
                  rw [hx] at hesc2
                  have hfin := HKN.out hesc2
                  have HF := Lib.hid hfin
                  have hv : rnumV 8 3 (c :: l) = -1 := by unfold rnumV; rw [hx]
                  rw [hv] at HN8
                  clear hesc2 hfin hv hx hn1 HN16 hV h117 h120 hmk
                  go_wp2_with fail
                  refine (HN8 _).mono ?_
                  rintro e w' ⟨rfl, rfl⟩
                  go_wp2
                  have hbf : IBox _ w.heap.size (0) (⟨#[]⟩) := ((Hbx.out).set0 (n' := 0)).set1 (y' := ⟨#[]⟩)
                  have r0 := hbf.c0
                  have r1 := hbf.c1
                  refine bodyPost_ret (v := .agg #[.int .i64 (0), .string (⟨#[]⟩)]) ?_ ?_ ?_
                  · simp [results, Tryz.results123, go_sem, r0, r1]
                  · rfl
                  · exact ⟨by rw [HF.out.1, HF.out.2]; rfl, ((Hb.out).setCell (p := ⟨w.heap.size, 0, none⟩) (Nat.le_refl _) _).setCell (p := ⟨w.heap.size, 1, none⟩) (Nat.le_refl _) _⟩
                | some z =>
                  obtain ⟨n, r⟩ := z
                  have hnb : n < 512 := by
                    have := Qm.numA_bound (b := 8) (by omega) hx
                    omega
                  rw [hx] at hesc2
                  simp only [] at hesc2
                  have hv : rnumV 8 3 (c :: l) = n := by unfold rnumV; rw [hx]
                  rw [hv] at HN8
                  have t1 : ¬ (n : Int) < 0 := by omega
                  by_cases hn : n ≤ 255
                  · rw [if_pos hn] at hesc2
                    have hfin := HK.out _ _ _ hesc2
                    obtain ⟨e, he, hel, _⟩ := Qm.numA_len hx
                    have hll : l.length + 1 = 3 + r.length := by
                      have := congrArg List.length he
                      rw [List.length_cons, List.length_append, hel] at this
                      exact this
                    have hL2 : L = 4 := by omega
                    have hT2 : txt (sayR mark true n) = T := hfin.2.symm
                    have HF := Lib.hid (show L = 4 ∧ txt (sayR mark true n) = T from ⟨hL2, hT2⟩)
                    have HS := fun w => rsmall_any n mark w (by omega) hm
                    have t2 : ¬ (255 : Int) < (n : Int) := by omega
                    clear hesc2 hfin hv hx hn1 HN16 he hel hll hL2 hT2 hV h117 h120 hmk hn
                    generalize txt (sayR mark true n) = U at HF HS
                    go_wp2_with fail
                    refine (HN8 _).mono ?_
                    rintro e w' ⟨rfl, rfl⟩
                    go_wp2_with fail
                    refine (HS _).mono ?_
                    rintro e w2 ⟨rfl, s2⟩
                    have Hs2 := Lib.hid s2
                    have hs2 := s2.size
                    clear k0 k1 z0 z1 s2
                    have k0 := (Hbx.out.keep Hs2.out).c0
                    have k1 := (Hbx.out.keep Hs2.out).c1
                    have z0 := (Hbx.out.keep Hs2.out).free 0
                    have z1 := (Hbx.out.keep Hs2.out).free 1
                    go_wp2
                    have hbf : IBox _ w.heap.size (4) (U) := ((Hbx.out.keep Hs2.out).set0 (n' := 4)).set1 (y' := U)
                    have r0 := hbf.c0
                    have r1 := hbf.c1
                    refine bodyPost_ret (v := .agg #[.int .i64 (4), .string (U)]) ?_ ?_ ?_
                    · simp [results, Tryz.results123, go_sem, r0, r1]
                    · rfl
                    · exact ⟨by rw [HF.out.1, HF.out.2]; rfl, ((Hb.out.trans (Hs2.out.mono hbs)).setCell (p := ⟨w.heap.size, 0, none⟩) (Nat.le_refl _) _).setCell (p := ⟨w.heap.size, 1, none⟩) (Nat.le_refl _) _⟩
                  · rw [if_neg hn] at hesc2
                    have hfin := HKN.out hesc2
                    have HF := Lib.hid hfin
                    have t2 : (255 : Int) < (n : Int) := by omega
                    clear hesc2 hfin hv hx hn1 HN16 hV h117 h120 hmk hn
                    go_wp2_with fail
                    refine (HN8 _).mono ?_
                    rintro e w' ⟨rfl, rfl⟩
                    go_wp2
                    have hbf : IBox _ w.heap.size (0) (⟨#[]⟩) := ((Hbx.out).set0 (n' := 0)).set1 (y' := ⟨#[]⟩)
                    have r0 := hbf.c0
                    have r1 := hbf.c1
                    refine bodyPost_ret (v := .agg #[.int .i64 (0), .string (⟨#[]⟩)]) ?_ ?_ ?_
                    · simp [results, Tryz.results123, go_sem, r0, r1]
                    · rfl
                    · exact ⟨by rw [HF.out.1, HF.out.2]; rfl, ((Hb.out).setCell (p := ⟨w.heap.size, 0, none⟩) (Nat.le_refl _) _).setCell (p := ⟨w.heap.size, 1, none⟩) (Nat.le_refl _) _⟩
end Go.Proofs.YtklmiabgalanhaaGreatDoor

/- Contract of the reference's item (quoted). -/
namespace Go.Proofs.YtklmiabgalanhaaGreatDoor
open Go.RowKit Em
set_option maxRecDepth 100000
set_option linter.unusedVariables false
set_option linter.unusedSimpArgs false

def itL (s : ByteArray) (p mark : Nat) : Nat := if byN s p = 92 then escL mark ((bl s).drop (p + 1)) else if byN s p = 10 then 0 else if mark = 34 then 1 else rdN s p
def itT (s : ByteArray) (p mark : Nat) : ByteArray := if byN s p = 92 then txt (escT mark ((bl s).drop (p + 1))) else if byN s p = 10 then ⟨#[]⟩ else if mark = 34 then s.extract p (p + 1) else s.extract p (p + rdN s p)

set_option maxRecDepth 100000 in
set_option maxHeartbeats 4000000 in
theorem ritem_any (s : ByteArray) (p mark : Nat) (w : World) (hp : p < s.size) (hm : mark = 34 ∨ mark = 39) (hs : s.size ≤ 4611686018427387000) :
    Calls Tryz.prog 93 #[.string s, .int .i64 p, .int .u8 mark] w fun e w' => e = .returned (.agg #[.int .i64 (itL s p mark : Nat), .string (itT s p mark)]) ∧ Below w.heap.size w w' := by
  have hbx0 : IBox (w.alloc (.cells #[.int .i64 0, .string ⟨#[]⟩] 111)) w.heap.size 0 ⟨#[]⟩ := heap_alloc_new w _
  have hb0 : Below w.heap.size w (w.alloc (.cells #[.int .i64 0, .string ⟨#[]⟩] 111)) := (Below.refl _ _).alloc (Nat.le_refl _) _
  have x2 : (0 : Int) ≤ (p : Int) := by omega
  have x3 : (p : Int) < (s.size : Int) := by omega
  have x4 : (p : Int) ≤ (s.size : Int) := by omega
  have e1 := byN_get s p hp
  have l1 := byN_lt s p
  have Hbx := Lib.hid hbx0
  have Hb := Lib.hid hb0
  have hbs := hb0.size
  unfold itL itT
  by_cases h92 : byN s p = 92
  · rw [if_pos h92, if_pos h92]
    rw [h92] at e1
    have HE := fun w => resc_any s p mark w hp hm hs
    generalize escL mark ((bl s).drop (p + 1)) = L at HE ⊢
    generalize txt (escT mark ((bl s).drop (p + 1))) = T at HE ⊢
    clear hbx0 hb0 h92 l1
    go_enter Tryz.func93, Tryz.ntmps93
    go_wp2_with fail
    refine (HE _).mono ?_
    rintro e w2 ⟨rfl, s2⟩
    have Hs2 := Lib.hid s2
    clear s2
    have k0 := (Hbx.out.keep Hs2.out).c0
    have k1 := (Hbx.out.keep Hs2.out).c1
    have z0 := (Hbx.out.keep Hs2.out).free 0
    have z1 := (Hbx.out.keep Hs2.out).free 1
    go_wp2
    have hbf : IBox _ w.heap.size (L) (T) := ((Hbx.out.keep Hs2.out).set0 (n' := L)).set1 (y' := T)
    have r0 := hbf.c0
    have r1 := hbf.c1
    refine bodyPost_ret (v := .agg #[.int .i64 (L), .string (T)]) ?_ ?_ ?_
    · simp [results, Tryz.results93, go_sem, r0, r1]
    · rfl
    · exact ⟨rfl, ((Hb.out.trans (Hs2.out.mono hbs)).setCell (p := ⟨w.heap.size, 0, none⟩) (Nat.le_refl _) _).setCell (p := ⟨w.heap.size, 1, none⟩) (Nat.le_refl _) _⟩
  · rw [if_neg h92, if_neg h92]
    by_cases h10 : byN s p = 10
    · rw [if_pos h10, if_pos h10]
      rw [h10] at e1
      have k0 := (hbx0).c0
      have k1 := (hbx0).c1
      have z0 := (hbx0).free 0
      have z1 := (hbx0).free 1
      clear hbx0 hb0 h92 l1 h10
      go_enter Tryz.func93, Tryz.ntmps93
      go_wp2
      refine bodyPost_ret (v := .agg #[.int .i64 (0), .string (⟨#[]⟩)]) ?_ ?_ ?_
      · simp [results, Tryz.results93, go_sem, k0, k1]
      · rfl
      · exact ⟨rfl, Hb.out⟩
    · rw [if_neg h10, if_neg h10]
      have d92 : ((byN s p : Int) == 92) = false := beq_eq_false_iff_ne.2 (by omega)
      have d10 : ((byN s p : Int) == 10) = false := beq_eq_false_iff_ne.2 (by omega)
      generalize byN s p = C at e1 l1 d92 d10
      rcases hm with rfl | rfl
      · rw [if_pos rfl, if_pos rfl]
        obtain ⟨E, hE⟩ : ∃ E, p + 1 = E := ⟨_, rfl⟩
        have y1 : (p : Int) + 1 = (E : Int) := by omega
        have y2 : IntKind.i64.wrap (E : Int) = (E : Int) := IntWalk.i64_in _ (by omega)
        have y3 : (p : Int) ≤ (E : Int) := by omega
        have y4 : (E : Int) ≤ (s.size : Int) := by omega
        rw [hE]
        have k0 := (hbx0).c0
        have k1 := (hbx0).c1
        have z0 := (hbx0).free 0
        have z1 := (hbx0).free 1
        clear hbx0 hb0 h92 h10 hE
        go_enter Tryz.func93, Tryz.ntmps93
        go_wp2
        have hbf : IBox (w.alloc (.cells #[.int .i64 (1), .string (s.extract p E)] 111)) w.heap.size (1) (s.extract p E) := heap_alloc_new w _
        have r0 := hbf.c0
        have r1 := hbf.c1
        refine bodyPost_ret (v := .agg #[.int .i64 (1), .string (s.extract p E)]) ?_ ?_ ?_
        · simp [results, Tryz.results93, go_sem, r0, r1]
        · rfl
        · exact ⟨rfl, (Below.refl _ _).alloc (Nat.le_refl _) _⟩
      · rw [if_neg (by decide), if_neg (by decide)]
        have hf := rd_fits s p hp
        have HR := fun w => rread_at s p w hp (by omega)
        obtain ⟨n, hn⟩ : ∃ n, rdN s p = n := ⟨_, rfl⟩
        rw [hn] at hf HR ⊢
        generalize rdC s p = RC at HR
        obtain ⟨E, hE⟩ : ∃ E, p + n = E := ⟨_, rfl⟩
        have y1 : (p : Int) + (n : Int) = (E : Int) := by omega
        have y2 : IntKind.i64.wrap (E : Int) = (E : Int) := IntWalk.i64_in _ (by omega)
        have y3 : (p : Int) ≤ (E : Int) := by omega
        have y4 : (E : Int) ≤ (s.size : Int) := by omega
        rw [hE]
        clear hbx0 hb0 h92 h10 hE hn
        go_enter Tryz.func93, Tryz.ntmps93
        go_wp2_with fail
        refine (HR _).mono ?_
        rintro e w2 ⟨rfl, s2⟩
        have Hs2 := Lib.hid s2
        clear s2
        have k0 := (Hbx.out.keep Hs2.out).c0
        have k1 := (Hbx.out.keep Hs2.out).c1
        have z0 := (Hbx.out.keep Hs2.out).free 0
        have z1 := (Hbx.out.keep Hs2.out).free 1
        go_wp2
        have hbf : IBox _ w.heap.size (n) (s.extract p E) := ((Hbx.out.keep Hs2.out).set0 (n' := n)).set1 (y' := s.extract p E)
        have r0 := hbf.c0
        have r1 := hbf.c1
        refine bodyPost_ret (v := .agg #[.int .i64 (n), .string (s.extract p E)]) ?_ ?_ ?_
        · simp [results, Tryz.results93, go_sem, r0, r1]
        · rfl
        · exact ⟨rfl, ((Hb.out.trans (Hs2.out.mono hbs)).setCell (p := ⟨w.heap.size, 0, none⟩) (Nat.le_refl _) _).setCell (p := ⟨w.heap.size, 1, none⟩) (Nat.le_refl _) _⟩
end Go.Proofs.YtklmiabgalanhaaGreatDoor

/- Contracts of the reference's Begun (quoted): none begins; a raw string. -/
namespace Go.Proofs.YtklmiabgalanhaaGreatDoor
open Go.RowKit Em
set_option maxRecDepth 100000
set_option linter.unusedVariables false
set_option linter.unusedSimpArgs false

/-- What Begun answers. -/
def begV (s : ByteArray) (l : List UInt8) : Value := match Qm.whole l with
  | some (k, t, q) => .tuple #[.int .u8 (k : Nat), .int .i64 ((s.size : Int) - (q.length : Int)), .string (txt t), .int .i64 0]
  | none => .tuple #[.int .u8 0, .int .i64 0, .string ⟨#[]⟩, .int .i64 4]

theorem rbeg_no (s : ByteArray) (at' : Int) (w : World) (h : at' < 0 ∨ (s.size : Int) ≤ at' ∨ ∃ k : Nat, at' = k ∧ k < s.size ∧ mkN (byN s k) = false) :
    Calls Tryz.prog 73 #[.string s, .int .i64 at'] w fun e w' => e = .returned (.tuple #[.int .u8 0, .int .i64 0, .string ⟨#[]⟩, .int .i64 15]) ∧ w = w' := by
  by_cases h0 : at' < 0
  · clear h
    go_enter Tryz.func73, Tryz.ntmps73
    go_wp2
    refine bodyPost_ret (v := .tuple #[.int .u8 0, .int .i64 0, .string ⟨#[]⟩, .int .i64 15]) ?_ ?_ ?_
    · simp [results, Tryz.results73]
    · rfl
    · exact ⟨rfl, rfl⟩
  · by_cases h1 : (s.size : Int) ≤ at'
    · clear h
      go_enter Tryz.func73, Tryz.ntmps73
      go_wp2
      refine bodyPost_ret (v := .tuple #[.int .u8 0, .int .i64 0, .string ⟨#[]⟩, .int .i64 15]) ?_ ?_ ?_
      · simp [results, Tryz.results73]
      · rfl
      · exact ⟨rfl, rfl⟩
    · obtain ⟨k, rfl, hk, hm⟩ := (h.resolve_left h0).resolve_left h1
      have b0 : (0 : Int) ≤ (k : Int) := by omega
      have b1 : (k : Int) < (s.size : Int) := by omega
      have e1 := byN_get s k hk
      have l1 := byN_lt s k
      have hm' : byN s k ≠ 39 ∧ byN s k ≠ 34 ∧ byN s k ≠ 96 := by
        unfold mkN at hm
        simp at hm
        omega
      have d1 : ((byN s k : Int) != 39) = true := by simp; omega
      have d2 : ((byN s k : Int) != 34) = true := by simp; omega
      have d3 : ((byN s k : Int) != 96) = true := by simp; omega
      clear h hm hm'
      generalize byN s k = B at e1 l1 d1 d2 d3
      go_enter Tryz.func73, Tryz.ntmps73
      go_wp2
      refine bodyPost_ret (v := .tuple #[.int .u8 0, .int .i64 0, .string ⟨#[]⟩, .int .i64 15]) ?_ ?_ ?_
      · simp [results, Tryz.results73]
      · rfl
      · exact ⟨rfl, rfl⟩

theorem raw_step (c : UInt8) (m : List UInt8) (h : c.toNat ≠ 96) : Qm.raw (c :: m) = (Qm.raw m).map fun x => ((if c.toNat = 13 then [] else [c]) ++ x.1, x.2) := by
  rw [Qm.raw, if_neg h]
  congr 1
  funext x
  by_cases h13 : c.toNat = 13 <;> simp [h13]

set_option maxRecDepth 100000 in
set_option maxHeartbeats 4000000 in
theorem rbeg_raw (s : ByteArray) (n : Nat) (w : World) (hn : n < s.size) (hm : byN s n = 96) (hs : s.size ≤ 140737488355300) :
    Calls Tryz.prog 73 #[.string s, .int .i64 n] w fun e w' => e = .returned (begV s ((bl s).drop n)) ∧ Below w.heap.size w w' := by
  obtain ⟨i0, hi, hz0, hz1, hz2⟩ := info_parts info_u8
  have b0 : (0 : Int) ≤ (n : Int) := by omega
  have b1 : (n : Int) < (s.size : Int) := by omega
  have e1 := byN_get s n hn
  rw [hm] at e1
  have x1 : IntKind.i64.wrap ((n : Int) + 1) = (n : Int) + 1 := IntWalk.i64_in _ (by omega)
  have hd := bl_drop' s n hn
  have hc : s[n]'hn = 96 := UInt8.toNat_inj.1 e1
  rw [hc] at hd
  have hw : Qm.whole ((bl s).drop n) = (Qm.raw ((bl s).drop (n + 1))).map fun x => (7, x.1, x.2) := by rw [hd, Qm.whole96]
  have HW := Lib.hid hw
  have z1 : decide ((n : Int) < 0) = false := decide_eq_false (by omega)
  have z2 : decide ((s.size : Int) ≤ (n : Int)) = false := decide_eq_false (by omega)
  have z3 : decide (s.size ≤ n) = false := decide_eq_false (by omega)
  clear hd hw hc hm
  go_enter Tryz.func73, Tryz.ntmps73
  go_wp2
  go_loopw [9, 10] (fun u i wr => ∃ (k : Nat) (T : List UInt8), n + 1 ≤ k ∧ k ≤ s.size ∧ i = .int .i64 k ∧ wr.ownsRow w.heap.size 5 1 u T.length (bCells T) ∧ T.length ≤ k ∧ Qm.raw ((bl s).drop (n + 1)) = (Qm.raw ((bl s).drop k)).map (fun x => (T ++ x.1, x.2)) ∧ Below w.heap.size w wr) (fun _ i _ => s.size - (intOf i).toNat)
  case atStart => exact ⟨n + 1, [], by omega, by omega, by go_num, World.ownsRow_nil _ _ _ _, by simp, by cases Qm.raw ((bl s).drop (n + 1)) <;> simp, Below.refl _ _⟩
  case round =>
    obtain ⟨k, T, hk1, hk, rfl, ho, hT, hr, hb⟩ := hrel
    have k0 : (0 : Int) ≤ (k : Int) := by omega
    by_cases hlt : k < s.size
    · have k1 : (k : Int) < (s.size : Int) := by omega
      have k2 : ¬ (s.size : Int) ≤ (k : Int) := by omega
      have hd := bl_drop' s k hlt
      obtain ⟨c, hc⟩ : ∃ c, s[k]'hlt = c := ⟨_, rfl⟩
      obtain ⟨C, hC⟩ : ∃ C, c.toNat = C := ⟨_, rfl⟩
      have e2 : (s[k]'hlt).toNat = C := by rw [hc, hC]
      have l2 : C < 256 := by rw [← hC]; exact c.toNat_lt
      rw [hc] at hd
      by_cases h96 : C = 96
      · have hl : ((bl s).drop (k + 1)).length = s.size - (k + 1) := by rw [List.length_drop, bl_size]
        have hfin : begV s ((bl s).drop n) = .tuple #[.int .u8 7, .int .i64 ((k : Int) + 1), .string (txt T), .int .i64 0] := by
          unfold begV
          rw [HW.out, hr, hd, Qm.raw, if_pos (by rw [hC]; exact h96)]
          simp only [Option.map_some, List.append_nil]
          rw [show (s.size : Int) - (((bl s).drop (k + 1)).length : Int) = (k : Int) + 1 by rw [hl]; omega]
          rfl
        have Hfin := Lib.hid hfin
        obtain ⟨x, cc, rfl, hcv⟩ := conv_own ho
        have x2 : IntKind.i64.wrap ((k : Int) + 1) = (k : Int) + 1 := IntWalk.i64_in _ (by omega)
        have Hb := Lib.hid hb
        subst h96
        have hcv0 := hcv 0
        have hcv1 : (convert 56 9 (.slice x T.length cc)).run Tryz.prog wr.drew = .ok (.string (txt T)) wr.drew := hcv 1
        simp only [World.drewN_zero] at hcv0
        clear hfin hr hd hl hb hc hC ho
        clear hcv hcv0
        go_wp2
        go_region
        all_goals (
          go_wp2
          refine bodyPost_ret (v := .tuple #[.int .u8 7, .int .i64 ((k : Int) + 1), .string (txt T), .int .i64 0]) ?_ ?_ ?_
          · simp [results, Tryz.results73]
          · rfl
          · exact ⟨by rw [Hfin.out], below_drw Hb.out 1⟩)
      · have d1 : ((C : Int) != 96) = true := by simp; omega
        have d2 : ((C : Int) == 96) = false := beq_eq_false_iff_ne.2 (by omega)
        rw [hd, raw_step c _ (by rw [hC]; exact h96), hC] at hr
        have hbs := hb.size
        by_cases h13 : C = 13
        · rw [if_pos h13] at hr
          have hr2 : Qm.raw ((bl s).drop (n + 1)) = (Qm.raw ((bl s).drop (k + 1))).map (fun x => (T ++ x.1, x.2)) := by
            rw [hr]; cases Qm.raw ((bl s).drop (k + 1)) <;> simp
          have Hr := Lib.hid hr2
          have Ho := Lib.hid ho
          have Hb := Lib.hid hb
          subst h13
          clear hr hr2 ho hb hd hc hC h96 d1 d2
          go_wp2
          go_roundw
          case rel => exact ⟨k + 1, T, by omega, by omega, by go_num, Ho.out, by omega, Hr.out, Hb.out⟩
          case measure => simp [intOf]; omega
        · rw [if_neg h13] at hr
          have d3 : ((C : Int) != 13) = true := by simp; omega
          have hr2 : Qm.raw ((bl s).drop (n + 1)) = (Qm.raw ((bl s).drop (k + 1))).map (fun x => ((T ++ [c]) ++ x.1, x.2)) := by
            rw [hr]; cases Qm.raw ((bl s).drop (k + 1)) <;> simp
          have Hr := Lib.hid hr2
          have hlt1 := ho.lt
          have Hb := Lib.hid hb
          have hTc : bCells T ++ [.int .u8 (C : Int)] = bCells (T ++ [c]) := by rw [bCells_snoc, hC]
          have HTc := Lib.hid hTc
          clear hr hr2 hb hd hc hC h96 h13 hTc
          go_wp2_with (at_builtin; refine wpList_append_own_at _ rfl _ _ 56 rfl w.heap.size 5 i0 (.int .u8 0) 1 1 Tryz.underlying56 hi hz0 hz1 hz2 rfl (by decide) _ _ _ rfl (ho.alloc _) ⟨wr.heap.size, 0, none⟩ 1 1 [.int .u8 C] rfl rfl ?c1 ?c2 ?c3 ?c4 ?c5 ?_)
          try (case c1 => exact one_cell2)
          case c2 => first | rfl | (intro u hu; simp at hu; subst hu; rfl)
          case c3 => unfold maxLen; omega
          case c4 => omega
          case c5 => first | omega | (simp; omega)
          · intro v1 w2 hown1 hgrow _ _
            rw [HTc.out] at hown1
            obtain ⟨y, yc, rfl⟩ := own_slice hown1
            have hb2 : Below w.heap.size w w2 := (Hb.out.alloc hbs _).grown hgrow (by simp; omega) (fun q e => (hlt1 q e).1)
            have hl1 : T.length + 1 = (T ++ [c]).length := by rw [List.length_append]; rfl
            have HL1 := Lib.hid hl1
            clear hl1
            have Ho1 := Lib.hid hown1
            have Hb2 := Lib.hid hb2
            clear hown1 hb2 hgrow ho
            go_wp2
            go_roundw
            case rel => exact ⟨k + 1, T ++ [c], by omega, by omega, by go_num, by rw [← HL1.out]; exact Ho1.out, by rw [← HL1.out]; omega, Hr.out, Hb2.out⟩
            case measure => simp [intOf]; omega
    · obtain rfl : k = s.size := by omega
      have he : (bl s).drop s.size = [] := List.drop_eq_nil_of_le (by rw [bl_size]; omega)
      have hfin : begV s ((bl s).drop n) = .tuple #[.int .u8 0, .int .i64 0, .string ⟨#[]⟩, .int .i64 4] := by
        unfold begV
        rw [HW.out, hr, he]; rfl
      have Hfin := Lib.hid hfin
      have Hb := Lib.hid hb
      clear hfin hr he hb ho
      go_wp2
      refine bodyPost_ret (v := .tuple #[.int .u8 0, .int .i64 0, .string ⟨#[]⟩, .int .i64 4]) ?_ ?_ ?_
      · simp [results, Tryz.results73]
      · rfl
      · exact ⟨by rw [Hfin.out], Hb.out⟩
end Go.Proofs.YtklmiabgalanhaaGreatDoor

/- What the reference's item is to a rune's text. -/
namespace Go.Proofs.YtklmiabgalanhaaGreatDoor
open Go.RowKit Em
set_option maxRecDepth 100000
set_option linter.unusedVariables false
set_option linter.unusedSimpArgs false

theorem escL_drop {mark p : Nat} {s : ByteArray} {n : Nat} {b : Bool} {r : List UInt8} (h : Qm.esc mark ((bl s).drop (p + 1)) = some (n, b, r)) :
    (bl s).drop (p + escL mark ((bl s).drop (p + 1))) = r ∧ 2 ≤ escL mark ((bl s).drop (p + 1)) ∧ p + escL mark ((bl s).drop (p + 1)) ≤ s.size := by
  obtain ⟨e, he, hne, _⟩ := Qm.esc_split h
  have hl := congrArg List.length he
  rw [List.length_append, List.length_drop, bl_size] at hl
  have hel : 1 ≤ e.length := by
    cases e with
    | nil => exact absurd rfl hne
    | cons a t => simp
  have hE : escL mark ((bl s).drop (p + 1)) = 1 + e.length := by
    unfold escL
    rw [h]
    simp only [List.length_drop, bl_size]
    omega
  rw [hE]
  refine ⟨?_, by omega, by omega⟩
  rw [show p + (1 + e.length) = (p + 1) + e.length by omega, ← List.drop_drop, he, List.drop_left]

theorem rune_item (s : ByteArray) (p : Nat) (hp : p < s.size) (h39 : byN s p ≠ 39) :
    Qm.rune ((bl s).drop p) = (if itL s p 39 = 0 then none else Qm.close 39 (bl (itT s p 39)) ((bl s).drop (p + itL s p 39))) ∧ p + itL s p 39 ≤ s.size ∧ (itT s p 39).size ≤ 4 := by
  have hd := bl_drop' s p hp
  obtain ⟨c, hc⟩ : ∃ c, s[p]'hp = c := ⟨_, rfl⟩
  have hb := byN_get s p hp
  rw [hc] at hd hb
  unfold itL itT
  by_cases h92 : byN s p = 92
  · rw [if_pos h92, if_pos h92]
    have hcc : c = 92 := UInt8.toNat_inj.1 (hb.trans h92)
    subst hcc
    have hR : Qm.rune ((bl s).drop p) = (match Qm.esc 39 ((bl s).drop (p + 1)) with | some (n, _, r) => Qm.close 39 (Qm.fm n) r | none => none) := by
      rw [hd]; unfold Qm.rune; rw [if_pos (by rfl)]; rfl
    rw [hR]
    cases hx : Qm.esc 39 ((bl s).drop (p + 1)) with
    | none =>
      have e1 : escL 39 ((bl s).drop (p + 1)) = 0 := by unfold escL; rw [hx]
      have e2 : escT 39 ((bl s).drop (p + 1)) = [] := by unfold escT; rw [hx]
      rw [e1, e2]
      exact ⟨by simp, by omega, by rw [txt_size]; simp⟩
    | some y =>
      obtain ⟨n, b, r⟩ := y
      obtain ⟨a1, a2, a3⟩ := escL_drop hx
      have e2 : escT 39 ((bl s).drop (p + 1)) = Qm.fm n := by unfold escT; rw [hx]; rfl
      rw [e2, a1, txt_bl, txt_size, if_neg (by omega)]
      exact ⟨rfl, a3, fm_le n⟩
  · rw [if_neg h92, if_neg h92]
    have hR : Qm.rune ((bl s).drop p) = (match Qm.rd ((bl s).drop p) with | some (c, r) => if c = 39 ∨ c = 10 then none else Qm.close 39 (Qm.fm c) r | none => none) := by
      unfold Qm.rune
      rw [if_neg (by
        rw [hd]
        have : c.toNat ≠ 92 := by rw [hb]; exact h92
        have h2 : c ≠ 92 := fun e => this (by rw [e]; rfl)
        simp [Nm.at1, this, h2])]
      rfl
    rw [hR]
    by_cases h10 : byN s p = 10
    · rw [if_pos h10, if_pos h10]
      have hcc : c = 10 := UInt8.toNat_inj.1 (hb.trans h10)
      subst hcc
      have h1 : Qm.rd ((bl s).drop p) = some (10, (bl s).drop (p + 1)) := by
        rw [hd]
        have := Qm.rd_form (c := 10) (Qm.ok_small (by omega)) ((bl s).drop (p + 1))
        rw [Qm.fm_small (by omega)] at this
        exact this
      rw [h1]
      exact ⟨by simp, by omega, by decide⟩
    · rw [if_neg h10, if_neg h10]
      simp only [if_neg (show ¬ (39 : Nat) = 34 by decide)]
      rw [rd_at s p hp]
      have hf := rd_fits s p hp
      by_cases h0 : rdN s p = 0
      · rw [if_pos h0, if_pos h0]
        refine ⟨rfl, hf, ?_⟩
        rw [h0, ← bl_size, bl_extract, List.length_drop, List.length_take]; omega
      · rw [if_neg h0, if_neg h0]
        have hr : Qm.rd ((bl s).drop p) = some (rdC s p, (bl s).drop (p + rdN s p)) := by rw [rd_at s p hp, if_neg h0]
        obtain ⟨ok, hl⟩ := Qm.rd_some hr
        have hlen := congrArg List.length hl
        rw [List.length_append, List.length_drop, List.length_drop, bl_size] at hlen
        have hT : bl (s.extract p (p + rdN s p)) = Qm.fm (rdC s p) := by
          rw [bl_extract, List.drop_take, hl]
          rw [show p + rdN s p - p = (Qm.fm (rdC s p)).length by omega, List.take_left]
        have hne : ¬ (rdC s p = 39 ∨ rdC s p = 10) := by
          intro h
          have hh : ∀ v : Nat, v < 128 → rdC s p = v → byN s p = v := by
            intro v hv e
            rw [e, Qm.fm_small hv, hd] at hl
            have := (List.cons.inj hl).1
            rw [← hb, this]
            exact Um.toNat_ofNat (by omega)
          rcases h with h | h
          · exact h39 (hh 39 (by omega) h)
          · exact h10 (hh 10 (by omega) h)
        simp only []
        rw [if_neg hne, hT]
        refine ⟨rfl, hf, ?_⟩
        rw [← bl_size, hT]
        exact fm_le _
end Go.Proofs.YtklmiabgalanhaaGreatDoor

