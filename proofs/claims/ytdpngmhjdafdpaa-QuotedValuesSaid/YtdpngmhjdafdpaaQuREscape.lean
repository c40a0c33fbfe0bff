/- Contract of the reference's escape (quoted). -/
import Derived.Test.YtdpngmhjdafdpaaQuREsc
namespace Go.Proofs.Ytdpngmhjdafdpaa
open Go.RowKit Em
set_option linter.unusedVariables false
set_option linter.unusedSimpArgs false

theorem says_at : ∀ k : Fin 8, (#[Value.int .u8 7, .int .u8 8, .int .u8 12, .int .u8 10, .int .u8 13, .int .u8 9, .int .u8 11, .int .u8 92] : Array Value)[k.1]? = some (.int .u8 (sayN k.1 : Nat)) := by
  intro k
  match k with
  | ⟨0, _⟩ => rfl
  | ⟨1, _⟩ => rfl
  | ⟨2, _⟩ => rfl
  | ⟨3, _⟩ => rfl
  | ⟨4, _⟩ => rfl
  | ⟨5, _⟩ => rfl
  | ⟨6, _⟩ => rfl
  | ⟨7, _⟩ => rfl

theorem ret_item {a b : Int} {c d : ByteArray} (h1 : a = b) (h2 : c = d) : Ending.returned (.agg #[.int .i64 a, .string c]) = .returned (.agg #[.int .i64 b, .string d]) := by rw [h1, h2]


/-- A block of the call's own that holds an item. -/
def IBox (w : World) (g : Nat) (n : Int) (y : ByteArray) : Prop := w.heap[g]? = some (.cells #[.int .i64 n, .string y] 57 (0, 0))
theorem IBox.c0 {w : World} {g : Nat} {n : Int} {y : ByteArray} (h : IBox w g n y) : w.cell? ⟨g, 0, none⟩ = some (.int .i64 n) := by rw [cell_of_row w g 0 _ _ _ h]; rfl
theorem IBox.c1 {w : World} {g : Nat} {n : Int} {y : ByteArray} (h : IBox w g n y) : w.cell? ⟨g, 1, none⟩ = some (.string y) := by rw [cell_of_row w g 1 _ _ _ h]; rfl
theorem IBox.free {w : World} {g : Nat} {n : Int} {y : ByteArray} (h : IBox w g n y) (i : Nat) : w.frozen? ⟨g, i, none⟩ = false := frozen_of_row w g i _ _ h
theorem IBox.set0 {w : World} {g : Nat} {n n' : Int} {y : ByteArray} (h : IBox w g n y) : IBox (w.setCell ⟨g, 0, none⟩ (.int .i64 n')) g n' y := heap_setCell_same w g 0 _ _ _ h
theorem IBox.set1 {w : World} {g : Nat} {n : Int} {y y' : ByteArray} (h : IBox w g n y) : IBox (w.setCell ⟨g, 1, none⟩ (.string y')) g n y' := heap_setCell_same w g 1 _ _ _ h
theorem IBox.lt {w : World} {g : Nat} {n : Int} {y : ByteArray} (h : IBox w g n y) : g < w.heap.size := (Array.getElem?_eq_some_iff.1 h).1
theorem IBox.alloc {w : World} {g : Nat} {n : Int} {y : ByteArray} (h : IBox w g n y) (o : Obj) : IBox (w.alloc o) g n y := (heap_alloc_old w o h.lt).trans h
theorem IBox.keep {w w' : World} {g : Nat} {n : Int} {y : ByteArray} (h : IBox w g n y) (hb : Below w.heap.size w w') : IBox w' g n y := (hb.block g h.lt).trans h

theorem sayR_small {mark n : Nat} (hm : mark = 34 ∨ mark = 39) (h : n < 128) : sayR mark true n = [UInt8.ofNat n] := by
  unfold sayR
  rcases hm with rfl | rfl
  · rfl
  · rw [if_neg (by decide), Qm.fm_small h]

set_option maxRecDepth 100000 in
set_option maxHeartbeats 8000000 in
theorem resc_any (s : ByteArray) (p mark : Nat) (w : World) (hp : p < s.size) (hm : mark = 34 ∨ mark = 39) (hs : s.size ≤ 4611686018427387000) :
    Calls Try.prog 67 #[.string s, .int .i64 p, .int .u8 mark] w fun e w' => e = .returned (.agg #[.int .i64 (escL mark ((bl s).drop (p + 1)) : Nat), .string (txt (escT mark ((bl s).drop (p + 1))))]) ∧ Below w.heap.size w w' := by
  have hbx0 : IBox (w.alloc (.cells #[.int .i64 0, .string ⟨#[]⟩] 57)) w.heap.size 0 ⟨#[]⟩ := heap_alloc_new w _
  have hb0 : Below w.heap.size w (w.alloc (.cells #[.int .i64 0, .string ⟨#[]⟩] 57)) := (Below.refl _ _).alloc (Nat.le_refl _) _
  have x0 : (p : Int) + 1 = ((p + 1 : Nat) : Int) := by omega
  obtain ⟨X, hX⟩ : ∃ X, p + 1 = X := ⟨_, rfl⟩
  rw [hX] at x0 ⊢
  have x1 : IntKind.i64.wrap (X : Int) = (X : Int) := IntWalk.i64_in _ (by omega)
  by_cases hend : s.size ≤ X
  · have e1 : (bl s).drop X = [] := List.drop_eq_nil_of_le (by rw [bl_size]; exact hend)
    rw [e1]
    have e2 : escL mark [] = 0 := rfl
    have e3 : txt (escT mark []) = ⟨#[]⟩ := rfl
    rw [e2, e3]
    have x2 : (s.size : Int) ≤ (X : Int) := by omega
    have k0 := (hbx0).c0
    have k1 := (hbx0).c1
    have z0 := (hbx0).free 0
    have z1 := (hbx0).free 1
    have Hbx := Lib.hid hbx0
    have Hb := Lib.hid hb0
    clear hbx0 hb0
    go_enter Try.func67, Try.ntmps67
    go_wp2
    refine bodyPost_ret (v := .agg #[.int .i64 (0), .string (⟨#[]⟩)]) ?_ ?_ ?_
    · simp [results, Try.results67, go_sem, k0, k1]
    · rfl
    · exact ⟨rfl, Hb.out⟩
  · have hc1 : X < s.size := by omega
    have x2 : ¬ (s.size : Int) ≤ (X : Int) := by omega
    have x3 : (0 : Int) ≤ (X : Int) := by omega
    have x4 : (X : Int) < (s.size : Int) := by omega
    have x5 : (p : Int) + 2 = ((X + 1 : Nat) : Int) := by omega
    obtain ⟨Y, hY⟩ : ∃ Y, X + 1 = Y := ⟨_, rfl⟩
    rw [hY] at x5
    have x6 : IntKind.i64.wrap (Y : Int) = (Y : Int) := IntWalk.i64_in _ (by omega)
    have hd := bl_drop' s X hc1
    obtain ⟨c, hc⟩ : ∃ c, s[X]'hc1 = c := ⟨_, rfl⟩
    obtain ⟨l, hl⟩ : ∃ l, (bl s).drop Y = l := ⟨_, rfl⟩
    rw [hc, hY, hl] at hd
    rw [hd]
    have HN8 := fun w => rnum_any s X 3 8 w (by omega) (by omega) (.inl rfl) hs
    rw [hd] at HN8
    have HN16 := fun k w (hk : k ≤ 8) => rnum_any s Y k 16 w (by omega) hk (.inr rfl) hs
    rw [hl] at HN16
    have hll : l.length = s.size - Y := by rw [← hl, List.length_drop, bl_size]
    obtain ⟨C, hC⟩ : ∃ C, c.toNat = C := ⟨_, rfl⟩
    have e1 : (s[X]'hc1).toNat = C := by rw [hc, hC]
    have l1 : C < 256 := by rw [← hC]; exact c.toNat_lt
    obtain ⟨L, hL⟩ : ∃ L, escL mark (c :: l) = L := ⟨_, rfl⟩
    obtain ⟨T, hT⟩ : ∃ T, txt (escT mark (c :: l)) = T := ⟨_, rfl⟩
    have HLT := Lib.hid (show escL mark (c :: l) = L ∧ txt (escT mark (c :: l)) = T from ⟨hL, hT⟩)
    have HNAME := Lib.hid (fun k (hk : k < 8) (h : C = nmN k) => esc_name mark hm k hk c l (hC.trans h))
    have HC := Lib.hid hC
    have key : ∀ (n : Nat) (b : Bool) (r : List UInt8), Qm.esc mark (c :: l) = some (n, b, r) → L = 1 + (l.length + 1 - r.length) ∧ T = txt (sayR mark b n) := by
      intro n b r h
      constructor
      · rw [← hL]; unfold escL; rw [h]; rfl
      · rw [← hT]; unfold escT; rw [h]
    have keyn : Qm.esc mark (c :: l) = none → L = 0 ∧ T = ⟨#[]⟩ := by
      intro h
      constructor
      · rw [← hL]; unfold escL; rw [h]
      · rw [← hT]; unfold escT; rw [h]; rfl
    have HK := Lib.hid key
    have HKN := Lib.hid keyn
    rw [hL, hT]
    have hrow0 : ((w.alloc (.cells #[.int .i64 0, .string ⟨#[]⟩] 57)).alloc (.cells #[.int .u8 7, .int .u8 8, .int .u8 12, .int .u8 10, .int .u8 13, .int .u8 9, .int .u8 11, .int .u8 92] 5)).heap[w.heap.size + 1]? = some (.cells #[.int .u8 7, .int .u8 8, .int .u8 12, .int .u8 10, .int .u8 13, .int .u8 9, .int .u8 11, .int .u8 92] 5 (0, 0)) := heap_alloc2_new w _ _
    have hbx1 := hbx0.alloc (.cells #[.int .u8 7, .int .u8 8, .int .u8 12, .int .u8 10, .int .u8 13, .int .u8 9, .int .u8 11, .int .u8 92] 5)
    have hb1 := hb0.alloc (by simp) (.cells #[.int .u8 7, .int .u8 8, .int .u8 12, .int .u8 10, .int .u8 13, .int .u8 9, .int .u8 11, .int .u8 92] 5)
    have HL := Lib.hid hll
    clear hL hT hb0 hbx0 key keyn hC hc hl hd hll
    go_enter Try.func67, Try.ntmps67
    go_wp2
    go_loopw [10] (fun i wr => ∃ k : Nat, k ≤ 8 ∧ i = .int .i64 k ∧ (∀ j, j < k → nmN j ≠ C) ∧ wr.heap[w.heap.size + 1]? = some (.cells #[.int .u8 7, .int .u8 8, .int .u8 12, .int .u8 10, .int .u8 13, .int .u8 9, .int .u8 11, .int .u8 92] 5 (0, 0)) ∧ IBox wr w.heap.size 0 ⟨#[]⟩ ∧ Below w.heap.size w wr) (fun i _ => 8 - (intOf i).toNat)
    case atStart => exact ⟨0, by omega, rfl, fun j hj => by omega, hrow0, hbx1, hb1⟩
    case round =>
      obtain ⟨k, hk, rfl, hno, hrow, hbx, hb⟩ := hrel
      have Hno := Lib.hid hno
      have Hrow := Lib.hid hrow
      have Hbx := Lib.hid hbx
      have Hb := Lib.hid hb
      have hbs := hb.size
      clear hno hb hrow0 hbx1 hb1
      have b0 : (0 : Int) ≤ (k : Int) := by omega
      by_cases hlt : k < 8
      · have n1 := (byN_get ⟨#[97, 98, 102, 110, 114, 116, 118, 92]⟩ k hlt).trans (nm_at ⟨k, hlt⟩)
        have b1 : (k : Int) < 8 := by omega
        have b2 : k < 8 := hlt
        simp only [] at n1
        by_cases hit : nmN k = C
        · have hsay : sayN k < 128 := by unfold sayN; (repeat' split) <;> omega
          have hfin := HK.out _ _ _ (HNAME.out k hlt hit.symm)
          rw [sayR_small hm hsay] at hfin
          have hL2 : L = 2 := by omega
          have HT := Lib.hid (hfin.2)
          have HL2 := Lib.hid hL2
          have hcell := cell_of_row wr (w.heap.size + 1) k _ _ _ hrow
          rw [says_at ⟨k, hlt⟩] at hcell
          simp only [] at hcell
          rw [hit] at n1
          clear hrow hbx hfin hL2 hit hsay
          generalize sayN k = M at hcell HT
          have hcv := conv_new wr [(M : Int)]
          simp only [List.length_singleton, List.map_cons, List.map_nil, List.foldl_cons, List.foldl_nil, Int.toNat_natCast] at hcv
          have hp1 : ByteArray.empty.push (UInt8.ofNat M) = txt [UInt8.ofNat M] := rfl
          rw [hp1] at hcv
          have HT' := Lib.hid (HT.out.symm)
          clear hp1 HT
          generalize txt [UInt8.ofNat M] = U at hcv HT'
          have k0 := (Hbx.out.alloc (.cells #[.int .u8 M] 5)).c0
          have k1 := (Hbx.out.alloc (.cells #[.int .u8 M] 5)).c1
          have z0 := (Hbx.out.alloc (.cells #[.int .u8 M] 5)).free 0
          have z1 := (Hbx.out.alloc (.cells #[.int .u8 M] 5)).free 1
          go_wp2
          have hbf : IBox _ w.heap.size (2) (U) := ((Hbx.out.alloc (.cells #[.int .u8 M] 5)).set0 (n' := 2)).set1 (y' := U)
          have r0 := hbf.c0
          have r1 := hbf.c1
          refine bodyPost_ret (v := .agg #[.int .i64 (2), .string (U)]) ?_ ?_ ?_
          · simp [results, Try.results67, go_sem, r0, r1]
          · rfl
          · exact ⟨by rw [HL2.out, HT'.out]; rfl, ((Hb.out.alloc hbs (.cells #[.int .u8 M] 5)).setCell (p := ⟨w.heap.size, 0, none⟩) (Nat.le_refl _) _).setCell (p := ⟨w.heap.size, 1, none⟩) (Nat.le_refl _) _⟩
        · have d1 : (((nmN k : Nat) : Int) == (C : Int)) = false := beq_eq_false_iff_ne.2 (by omega)
          have Hno2 := Lib.hid (show ∀ j, j < k + 1 → nmN j ≠ C from fun j hj => by
            by_cases h : j = k
            · rw [h]; exact hit
            · exact Hno.out j (by omega))
          clear hit hrow hbx
          generalize nmN k = M at n1 d1
          go_wp2
          go_roundw
          case rel => exact ⟨k + 1, by omega, by go_num, Hno2.out, Hrow.out, Hbx.out, Hb.out⟩
          case measure => simp [intOf]; omega
      · obtain rfl : k = 8 := by omega
        have hnn := esc_noname mark c l (fun j hj => by rw [HC.out]; exact Hno.out j hj)
        rw [HC.out] at hnn
        clear hrow Hno Hrow HNAME hlt
        have k0 := (Hbx.out).c0
        have k1 := (Hbx.out).c1
        have z0 := (Hbx.out).free 0
        have z1 := (Hbx.out).free 1
        clear hbx
        have HNN := Lib.hid hnn
        clear hnn
        by_cases hmk : C = mark
        · have hesc : Qm.esc mark (c :: l) = some (C, true, l) := by rw [Qm.esc, if_pos (.inl (HC.out.trans hmk)), HC.out]
          have hfin := HK.out _ _ _ hesc
          rw [sayR_small hm (by omega)] at hfin
          have hL2 : L = 2 := by omega
          have HT' := Lib.hid (hfin.2.symm)
          have HL2 := Lib.hid hL2
          have hcv := conv_new wr [(C : Int)]
          simp only [List.length_singleton, List.map_cons, List.map_nil, List.foldl_cons, List.foldl_nil, Int.toNat_natCast] at hcv
          have hp1 : ByteArray.empty.push (UInt8.ofNat C) = txt [UInt8.ofNat C] := rfl
          rw [hp1] at hcv
          clear hp1 hesc hfin hL2 k0 k1 z0 z1
          generalize txt [UInt8.ofNat C] = U at hcv HT'
          subst hmk
          have d1 : ((C : Int) == (C : Int)) = true := beq_self_eq_true _
          have k0 := (Hbx.out.alloc (.cells #[.int .u8 C] 5)).c0
          have k1 := (Hbx.out.alloc (.cells #[.int .u8 C] 5)).c1
          have z0 := (Hbx.out.alloc (.cells #[.int .u8 C] 5)).free 0
          have z1 := (Hbx.out.alloc (.cells #[.int .u8 C] 5)).free 1
          go_wp2
          have hbf : IBox _ w.heap.size (2) (U) := ((Hbx.out.alloc (.cells #[.int .u8 C] 5)).set0 (n' := 2)).set1 (y' := U)
          have r0 := hbf.c0
          have r1 := hbf.c1
          refine bodyPost_ret (v := .agg #[.int .i64 (2), .string (U)]) ?_ ?_ ?_
          · simp [results, Try.results67, go_sem, r0, r1]
          · rfl
          · exact ⟨by rw [HL2.out, HT'.out]; rfl, ((Hb.out.alloc hbs (.cells #[.int .u8 C] 5)).setCell (p := ⟨w.heap.size, 0, none⟩) (Nat.le_refl _) _).setCell (p := ⟨w.heap.size, 1, none⟩) (Nat.le_refl _) _⟩
        · have d1 : ((C : Int) == (mark : Int)) = false := beq_eq_false_iff_ne.2 (by omega)
          have hn1 : ¬ (c.toNat = mark ∨ c.toNat = 92) := by rw [HC.out]; exact fun h => h.elim hmk HNN.out.2
          by_cases h120 : C = 120
          · have hw : Qm.wide c.toNat = 2 := by rw [HC.out, h120]; decide
            have hesc : Qm.esc mark (c :: l) = (match Qm.numA 16 2 0 l with | some (n, r) => if Um.okN n then some (n, decide (c.toNat = 120), r) else none | none => none) := by
              rw [Qm.esc, if_neg hn1, if_neg (by rw [HC.out]; omega), if_pos (by rw [HC.out]; omega), hw]
              rfl
            subst h120
            have HB := fun w => HN16 2 w (by omega)
            cases hx : Qm.numA 16 2 0 l with
            | none =>
              rw [hx] at hesc
              have hfin := HKN.out hesc
              have HF := Lib.hid hfin
              have hv : rnumV 16 2 l = -1 := by unfold rnumV; rw [hx]
              rw [hv] at HB
              clear hesc hfin hv hx hn1 hw HN16 HN8
              go_wp2_with fail
              refine (HB _).mono ?_
              rintro e w' ⟨rfl, rfl⟩
              go_wp2
              have hbf : IBox _ w.heap.size (0) (⟨#[]⟩) := ((Hbx.out).set0 (n' := 0)).set1 (y' := ⟨#[]⟩)
              have r0 := hbf.c0
              have r1 := hbf.c1
              refine bodyPost_ret (v := .agg #[.int .i64 (0), .string (⟨#[]⟩)]) ?_ ?_ ?_
              · simp [results, Try.results67, go_sem, r0, r1]
              · rfl
              · exact ⟨by rw [HF.out.1, HF.out.2]; rfl, ((Hb.out).setCell (p := ⟨w.heap.size, 0, none⟩) (Nat.le_refl _) _).setCell (p := ⟨w.heap.size, 1, none⟩) (Nat.le_refl _) _⟩
            | some z =>
              obtain ⟨n, r⟩ := z
              have hn : n < 256 := by
                have := Qm.numA_bound (b := 16) (by omega) hx
                omega
              rw [hx] at hesc
              simp only [] at hesc
              rw [if_pos (Qm.ok_small hn), HC.out] at hesc
              have hfin := HK.out _ _ _ hesc
              obtain ⟨e, he, hel, _⟩ := Qm.numA_len hx
              have hll : l.length = 2 + r.length := by rw [he, List.length_append, hel]
              have hL2 : L = 4 := by omega
              have hT2 : txt (sayR mark true n) = T := hfin.2.symm
              have HF := Lib.hid (show L = 4 ∧ txt (sayR mark true n) = T from ⟨hL2, hT2⟩)
              have hv : rnumV 16 2 l = n := by unfold rnumV; rw [hx]
              rw [hv] at HB
              have HS := fun w => rsmall_any n mark w hn hm
              have t1 : ¬ (n : Int) < 0 := by omega
              clear hesc hfin hv hx hn1 hw HN16 HN8 he hel hll hL2 hT2
              generalize txt (sayR mark true n) = U at HF HS
              go_wp2_with fail
              refine (HB _).mono ?_
              rintro e w' ⟨rfl, rfl⟩
              go_wp2_with fail
              refine (HS _).mono ?_
              rintro e w2 ⟨rfl, s2⟩
              have Hs2 := Lib.hid s2
              have hs2 := s2.size
              clear k0 k1 z0 z1 s2
              have k0 := (Hbx.out.keep Hs2.out).c0
              have k1 := (Hbx.out.keep Hs2.out).c1
              have z0 := (Hbx.out.keep Hs2.out).free 0
              have z1 := (Hbx.out.keep Hs2.out).free 1
              go_wp2
              have hbf : IBox _ w.heap.size (4) (U) := ((Hbx.out.keep Hs2.out).set0 (n' := 4)).set1 (y' := U)
              have r0 := hbf.c0
              have r1 := hbf.c1
              refine bodyPost_ret (v := .agg #[.int .i64 (4), .string (U)]) ?_ ?_ ?_
              · simp [results, Try.results67, go_sem, r0, r1]
              · rfl
              · exact ⟨by rw [HF.out.1, HF.out.2]; rfl, ((Hb.out.trans (Hs2.out.mono hbs)).setCell (p := ⟨w.heap.size, 0, none⟩) (Nat.le_refl _) _).setCell (p := ⟨w.heap.size, 1, none⟩) (Nat.le_refl _) _⟩
          · have d2 : ((C : Int) == 120) = false := beq_eq_false_iff_ne.2 (by omega)
            by_cases hV : C = 117
            · clear h120
              have hw : Qm.wide c.toNat = 4 := by rw [HC.out, hV]; decide
              have hesc : Qm.esc mark (c :: l) = (match Qm.numA 16 4 0 l with | some (n, r) => if Um.okN n then some (n, decide (c.toNat = 120), r) else none | none => none) := by
                rw [Qm.esc, if_neg hn1, if_neg (by rw [HC.out]; omega), if_pos (by rw [HC.out]; omega), hw]
                rfl
              subst hV
              have HB := fun w => HN16 4 w (by omega)
              have hcm : decide (c.toNat = 120) = false := by rw [HC.out]; decide
              cases hx : Qm.numA 16 4 0 l with
              | none =>
                rw [hx] at hesc
                have hfin := HKN.out hesc
                have HF := Lib.hid hfin
                have hv : rnumV 16 4 l = -1 := by unfold rnumV; rw [hx]
                rw [hv] at HB
                clear hesc hfin hv hx hn1 hw HN16 HN8
                go_wp2_with fail
                refine (HB _).mono ?_
                rintro e w' ⟨rfl, rfl⟩
                go_wp2
                have hbf : IBox _ w.heap.size (0) (⟨#[]⟩) := ((Hbx.out).set0 (n' := 0)).set1 (y' := ⟨#[]⟩)
                have r0 := hbf.c0
                have r1 := hbf.c1
                refine bodyPost_ret (v := .agg #[.int .i64 (0), .string (⟨#[]⟩)]) ?_ ?_ ?_
                · simp [results, Try.results67, go_sem, r0, r1]
                · rfl
                · exact ⟨by rw [HF.out.1, HF.out.2]; rfl, ((Hb.out).setCell (p := ⟨w.heap.size, 0, none⟩) (Nat.le_refl _) _).setCell (p := ⟨w.heap.size, 1, none⟩) (Nat.le_refl _) _⟩
              | some z =>
                obtain ⟨n, r⟩ := z
                have hn : n < 4294967296 := by
                  have := Qm.numA_bound (b := 16) (by omega) hx
                  omega
                rw [hx] at hesc
                simp only [] at hesc
                have hv : rnumV 16 4 l = n := by unfold rnumV; rw [hx]
                rw [hv] at HB
                have t1 : ¬ (n : Int) < 0 := by omega
                have HM := fun w => may_any n w
                by_cases ho : Um.okN n
                · rw [if_pos ho, hcm] at hesc
                  rw [(Um.valid_iff n).2 ho] at HM
                  have hfin := HK.out _ _ _ hesc
                  obtain ⟨e, he, hel, _⟩ := Qm.numA_len hx
                  have hll : l.length = 4 + r.length := by rw [he, List.length_append, hel]
                  have hL2 : L = 6 := by omega
                  have hsf : sayR mark false n = Qm.fm n := by unfold sayR; split <;> rfl
                  have hT2 : txt (Qm.fm n) = T := by rw [← hsf]; exact hfin.2.symm
                  have HF := Lib.hid (show L = 6 ∧ txt (Qm.fm n) = T from ⟨hL2, hT2⟩)
                  have HS := fun w => rform_any n w
                  rw [form_txt] at HS
                  clear hesc hfin hv hx hn1 hw HN16 HN8 he hel hll hL2 hT2 hsf ho
                  generalize txt (Qm.fm n) = U at HF HS
                  go_wp2_with fail
                  refine (HB _).mono ?_
                  rintro e w' ⟨rfl, rfl⟩
                  go_wp2_with fail
                  refine (HM _).mono ?_
                  rintro e w' ⟨rfl, rfl⟩
                  go_wp2_with fail
                  refine (HS _).mono ?_
                  rintro e w2 ⟨rfl, s2⟩
                  have Hs2 := Lib.hid s2
                  have hs2 := s2.size
                  clear k0 k1 z0 z1 s2
                  have k0 := (Hbx.out.keep Hs2.out).c0
                  have k1 := (Hbx.out.keep Hs2.out).c1
                  have z0 := (Hbx.out.keep Hs2.out).free 0
                  have z1 := (Hbx.out.keep Hs2.out).free 1
                  go_wp2
                  have hbf : IBox _ w.heap.size (6) (U) := ((Hbx.out.keep Hs2.out).set0 (n' := 6)).set1 (y' := U)
                  have r0 := hbf.c0
                  have r1 := hbf.c1
                  refine bodyPost_ret (v := .agg #[.int .i64 (6), .string (U)]) ?_ ?_ ?_
                  · simp [results, Try.results67, go_sem, r0, r1]
                  · rfl
                  · exact ⟨by rw [HF.out.1, HF.out.2]; rfl, ((Hb.out.trans (Hs2.out.mono hbs)).setCell (p := ⟨w.heap.size, 0, none⟩) (Nat.le_refl _) _).setCell (p := ⟨w.heap.size, 1, none⟩) (Nat.le_refl _) _⟩
                · rw [if_neg ho] at hesc
                  rw [Um.valid_false ho] at HM
                  have hfin := HKN.out hesc
                  have HF := Lib.hid hfin
                  clear hesc hfin hv hx hn1 hw HN16 HN8 ho
                  go_wp2_with fail
                  refine (HB _).mono ?_
                  rintro e w' ⟨rfl, rfl⟩
                  go_wp2_with fail
                  refine (HM _).mono ?_
                  rintro e w' ⟨rfl, rfl⟩
                  go_wp2
                  have hbf : IBox _ w.heap.size (0) (⟨#[]⟩) := ((Hbx.out).set0 (n' := 0)).set1 (y' := ⟨#[]⟩)
                  have r0 := hbf.c0
                  have r1 := hbf.c1
                  refine bodyPost_ret (v := .agg #[.int .i64 (0), .string (⟨#[]⟩)]) ?_ ?_ ?_
                  · simp [results, Try.results67, go_sem, r0, r1]
                  · rfl
                  · exact ⟨by rw [HF.out.1, HF.out.2]; rfl, ((Hb.out).setCell (p := ⟨w.heap.size, 0, none⟩) (Nat.le_refl _) _).setCell (p := ⟨w.heap.size, 1, none⟩) (Nat.le_refl _) _⟩
            · have d3 : ((C : Int) == 117) = false := beq_eq_false_iff_ne.2 (by omega)
              have h117 := hV
              clear hV
              by_cases hV : C = 85
              · clear h120 h117
                have hw : Qm.wide c.toNat = 8 := by rw [HC.out, hV]; decide
                have hesc : Qm.esc mark (c :: l) = (match Qm.numA 16 8 0 l with | some (n, r) => if Um.okN n then some (n, decide (c.toNat = 120), r) else none | none => none) := by
                  rw [Qm.esc, if_neg hn1, if_neg (by rw [HC.out]; omega), if_pos (by rw [HC.out]; omega), hw]
                  rfl
                subst hV
                have HB := fun w => HN16 8 w (by omega)
                have hcm : decide (c.toNat = 120) = false := by rw [HC.out]; decide
                cases hx : Qm.numA 16 8 0 l with
                | none =>
                  rw [hx] at hesc
                  have hfin := HKN.out hesc
                  have HF := Lib.hid hfin
                  have hv : rnumV 16 8 l = -1 := by unfold rnumV; rw [hx]
                  rw [hv] at HB
                  clear hesc hfin hv hx hn1 hw HN16 HN8
                  go_wp2_with fail
                  refine (HB _).mono ?_
                  rintro e w' ⟨rfl, rfl⟩
                  go_wp2
                  have hbf : IBox _ w.heap.size (0) (⟨#[]⟩) := ((Hbx.out).set0 (n' := 0)).set1 (y' := ⟨#[]⟩)
                  have r0 := hbf.c0
                  have r1 := hbf.c1
                  refine bodyPost_ret (v := .agg #[.int .i64 (0), .string (⟨#[]⟩)]) ?_ ?_ ?_
                  · simp [results, Try.results67, go_sem, r0, r1]
                  · rfl
                  · exact ⟨by rw [HF.out.1, HF.out.2]; rfl, ((Hb.out).setCell (p := ⟨w.heap.size, 0, none⟩) (Nat.le_refl _) _).setCell (p := ⟨w.heap.size, 1, none⟩) (Nat.le_refl _) _⟩
                | some z =>
                  obtain ⟨n, r⟩ := z
                  have hn : n < 4294967296 := by
                    have := Qm.numA_bound (b := 16) (by omega) hx
                    omega
                  rw [hx] at hesc
                  simp only [] at hesc
                  have hv : rnumV 16 8 l = n := by unfold rnumV; rw [hx]
                  rw [hv] at HB
                  have t1 : ¬ (n : Int) < 0 := by omega
                  have HM := fun w => may_any n w
                  by_cases ho : Um.okN n
                  · rw [if_pos ho, hcm] at hesc
                    rw [(Um.valid_iff n).2 ho] at HM
                    have hfin := HK.out _ _ _ hesc
                    obtain ⟨e, he, hel, _⟩ := Qm.numA_len hx
                    have hll : l.length = 8 + r.length := by rw [he, List.length_append, hel]
                    have hL2 : L = 10 := by omega
                    have hsf : sayR mark false n = Qm.fm n := by unfold sayR; split <;> rfl
                    have hT2 : txt (Qm.fm n) = T := by rw [← hsf]; exact hfin.2.symm
                    have HF := Lib.hid (show L = 10 ∧ txt (Qm.fm n) = T from ⟨hL2, hT2⟩)
                    have HS := fun w => rform_any n w
                    rw [form_txt] at HS
                    clear hesc hfin hv hx hn1 hw HN16 HN8 he hel hll hL2 hT2 hsf ho
                    generalize txt (Qm.fm n) = U at HF HS
                    go_wp2_with fail
                    refine (HB _).mono ?_
                    rintro e w' ⟨rfl, rfl⟩
                    go_wp2_with fail
                    refine (HM _).mono ?_
                    rintro e w' ⟨rfl, rfl⟩
                    go_wp2_with fail
                    refine (HS _).mono ?_
                    rintro e w2 ⟨rfl, s2⟩
                    have Hs2 := Lib.hid s2
                    have hs2 := s2.size
                    clear k0 k1 z0 z1 s2
                    have k0 := (Hbx.out.keep Hs2.out).c0
                    have k1 := (Hbx.out.keep Hs2.out).c1
                    have z0 := (Hbx.out.keep Hs2.out).free 0
                    have z1 := (Hbx.out.keep Hs2.out).free 1
                    go_wp2
                    have hbf : IBox _ w.heap.size (10) (U) := ((Hbx.out.keep Hs2.out).set0 (n' := 10)).set1 (y' := U)
                    have r0 := hbf.c0
                    have r1 := hbf.c1
                    refine bodyPost_ret (v := .agg #[.int .i64 (10), .string (U)]) ?_ ?_ ?_
                    · simp [results, Try.results67, go_sem, r0, r1]
                    · rfl
                    · exact ⟨by rw [HF.out.1, HF.out.2]; rfl, ((Hb.out.trans (Hs2.out.mono hbs)).setCell (p := ⟨w.heap.size, 0, none⟩) (Nat.le_refl _) _).setCell (p := ⟨w.heap.size, 1, none⟩) (Nat.le_refl _) _⟩
                  · rw [if_neg ho] at hesc
                    rw [Um.valid_false ho] at HM
                    have hfin := HKN.out hesc
                    have HF := Lib.hid hfin
                    clear hesc hfin hv hx hn1 hw HN16 HN8 ho
                    go_wp2_with fail
                    refine (HB _).mono ?_
                    rintro e w' ⟨rfl, rfl⟩
                    go_wp2_with fail
                    refine (HM _).mono ?_
                    rintro e w' ⟨rfl, rfl⟩
                    go_wp2
                    have hbf : IBox _ w.heap.size (0) (⟨#[]⟩) := ((Hbx.out).set0 (n' := 0)).set1 (y' := ⟨#[]⟩)
                    have r0 := hbf.c0
                    have r1 := hbf.c1
                    refine bodyPost_ret (v := .agg #[.int .i64 (0), .string (⟨#[]⟩)]) ?_ ?_ ?_
                    · simp [results, Try.results67, go_sem, r0, r1]
                    · rfl
                    · exact ⟨by rw [HF.out.1, HF.out.2]; rfl, ((Hb.out).setCell (p := ⟨w.heap.size, 0, none⟩) (Nat.le_refl _) _).setCell (p := ⟨w.heap.size, 1, none⟩) (Nat.le_refl _) _⟩
              · have d4 : ((C : Int) == 85) = false := beq_eq_false_iff_ne.2 (by omega)
                have hesc : Qm.esc mark (c :: l) = if 48 ≤ C ∧ C ≤ 55 then (match Qm.numA 8 3 0 (c :: l) with | some (n, r) => if n ≤ 255 then some (n, true, r) else none | none => none) else none := by
                  rw [Qm.esc, if_neg hn1, HC.out]
                  by_cases h8 : 48 ≤ C ∧ C ≤ 55
                  · rw [if_pos h8, if_pos h8]; rfl
                  · rw [if_neg h8, if_neg h8, if_neg (by omega), HNN.out.1]
                have hdg : ¬ (48 ≤ C ∧ C ≤ 55) → Qm.numA 8 3 0 (c :: l) = none := by
                  intro h8
                  have : ¬ Nm.dg c < 8 := by
                    have hc := HC.out
                    unfold Nm.dg
                    (repeat' split) <;> omega
                  rw [Qm.numA, if_neg this]
                have hesc2 : Qm.esc mark (c :: l) = (match Qm.numA 8 3 0 (c :: l) with | some (n, r) => if n ≤ 255 then some (n, true, r) else none | none => none) := by
                  rw [hesc]
                  by_cases h8 : 48 ≤ C ∧ C ≤ 55
                  · rw [if_pos h8]
                  · rw [if_neg h8, hdg h8]
                clear hesc hdg
                cases hx : Qm.numA 8 3 0 (c :: l) with
                | none =>
                  rw [hx] at hesc2
                  have hfin := HKN.out hesc2
                  have HF := Lib.hid hfin
                  have hv : rnumV 8 3 (c :: l) = -1 := by unfold rnumV; rw [hx]
                  rw [hv] at HN8
                  clear hesc2 hfin hv hx hn1 HN16 hV h117 h120 hmk
                  go_wp2_with fail
                  refine (HN8 _).mono ?_
                  rintro e w' ⟨rfl, rfl⟩
                  go_wp2
                  have hbf : IBox _ w.heap.size (0) (⟨#[]⟩) := ((Hbx.out).set0 (n' := 0)).set1 (y' := ⟨#[]⟩)
                  have r0 := hbf.c0
                  have r1 := hbf.c1
                  refine bodyPost_ret (v := .agg #[.int .i64 (0), .string (⟨#[]⟩)]) ?_ ?_ ?_
                  · simp [results, Try.results67, go_sem, r0, r1]
                  · rfl
                  · exact ⟨by rw [HF.out.1, HF.out.2]; rfl, ((Hb.out).setCell (p := ⟨w.heap.size, 0, none⟩) (Nat.le_refl _) _).setCell (p := ⟨w.heap.size, 1, none⟩) (Nat.le_refl _) _⟩
                | some z =>
                  obtain ⟨n, r⟩ := z
                  have hnb : n < 512 := by
                    have := Qm.numA_bound (b := 8) (by omega) hx
                    omega
                  rw [hx] at hesc2
                  simp only [] at hesc2
                  have hv : rnumV 8 3 (c :: l) = n := by unfold rnumV; rw [hx]
                  rw [hv] at HN8
                  have t1 : ¬ (n : Int) < 0 := by omega
                  by_cases hn : n ≤ 255
                  · rw [if_pos hn] at hesc2
                    have hfin := HK.out _ _ _ hesc2
                    obtain ⟨e, he, hel, _⟩ := Qm.numA_len hx
                    have hll : l.length + 1 = 3 + r.length := by
                      have := congrArg List.length he
                      rw [List.length_cons, List.length_append, hel] at this
                      exact this
                    have hL2 : L = 4 := by omega
                    have hT2 : txt (sayR mark true n) = T := hfin.2.symm
                    have HF := Lib.hid (show L = 4 ∧ txt (sayR mark true n) = T from ⟨hL2, hT2⟩)
                    have HS := fun w => rsmall_any n mark w (by omega) hm
                    have t2 : ¬ (255 : Int) < (n : Int) := by omega
                    clear hesc2 hfin hv hx hn1 HN16 he hel hll hL2 hT2 hV h117 h120 hmk hn
                    generalize txt (sayR mark true n) = U at HF HS
                    go_wp2_with fail
                    refine (HN8 _).mono ?_
                    rintro e w' ⟨rfl, rfl⟩
                    go_wp2_with fail
                    refine (HS _).mono ?_
                    rintro e w2 ⟨rfl, s2⟩
                    have Hs2 := Lib.hid s2
                    have hs2 := s2.size
                    clear k0 k1 z0 z1 s2
                    have k0 := (Hbx.out.keep Hs2.out).c0
                    have k1 := (Hbx.out.keep Hs2.out).c1
                    have z0 := (Hbx.out.keep Hs2.out).free 0
                    have z1 := (Hbx.out.keep Hs2.out).free 1
                    go_wp2
                    have hbf : IBox _ w.heap.size (4) (U) := ((Hbx.out.keep Hs2.out).set0 (n' := 4)).set1 (y' := U)
                    have r0 := hbf.c0
                    have r1 := hbf.c1
                    refine bodyPost_ret (v := .agg #[.int .i64 (4), .string (U)]) ?_ ?_ ?_
                    · simp [results, Try.results67, go_sem, r0, r1]
                    · rfl
                    · exact ⟨by rw [HF.out.1, HF.out.2]; rfl, ((Hb.out.trans (Hs2.out.mono hbs)).setCell (p := ⟨w.heap.size, 0, none⟩) (Nat.le_refl _) _).setCell (p := ⟨w.heap.size, 1, none⟩) (Nat.le_refl _) _⟩
                  · rw [if_neg hn] at hesc2
                    have hfin := HKN.out hesc2
                    have HF := Lib.hid hfin
                    have t2 : (255 : Int) < (n : Int) := by omega
                    clear hesc2 hfin hv hx hn1 HN16 hV h117 h120 hmk hn
                    go_wp2_with fail
                    refine (HN8 _).mono ?_
                    rintro e w' ⟨rfl, rfl⟩
                    go_wp2
                    have hbf : IBox _ w.heap.size (0) (⟨#[]⟩) := ((Hbx.out).set0 (n' := 0)).set1 (y' := ⟨#[]⟩)
                    have r0 := hbf.c0
                    have r1 := hbf.c1
                    refine bodyPost_ret (v := .agg #[.int .i64 (0), .string (⟨#[]⟩)]) ?_ ?_ ?_
                    · simp [results, Try.results67, go_sem, r0, r1]
                    · rfl
                    · exact ⟨by rw [HF.out.1, HF.out.2]; rfl, ((Hb.out).setCell (p := ⟨w.heap.size, 0, none⟩) (Nat.le_refl _) _).setCell (p := ⟨w.heap.size, 1, none⟩) (Nat.le_refl _) _⟩
end Go.Proofs.Ytdpngmhjdafdpaa
