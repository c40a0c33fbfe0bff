/- Contract of span.Apply. -/
import Derived.Test.YtckioinjgdjohaaEdPut
namespace Go.Proofs.Ytckioinjgdjohaa
open Go.RowKit Em

theorem gnW_in {n : Int} (hn : n ≤ 65536) : ∀ (L : List Ed) (a p : Int), sd n p L = true → 0 ≤ p → p ≤ n → a + (put L : Int) ≤ 4611686018427387904 → -4611686018427387904 ≤ a - (n - p) → gnW a L = a + gn L
  | [], a, _, _, _, _, _, _ => by simp [gnW, gn]
  | e :: l, a, p, h, h0, hp, h1, h2 => by
    obtain ⟨g1, g2, g3, g4⟩ := sd_cons.1 h
    have e1 : (put (e :: l) : Int) = (e.x.size : Int) + (put l : Int) := by simp [put]
    have e2 : wrap64 (a + gr e) = a + gr e := by unfold gr; unfold wrap64; omega
    have ih := gnW_in hn l (a + gr e) e.t g4 (by omega) g3 (by unfold gr; omega) (by unfold gr; omega)
    rw [gnW, e2, ih, gn]; omega

/-- What Apply answers. -/
def edT (s : ByteArray) (L : List Ed) : ByteArray := ⟨(ed (bl s) 0 L).toArray⟩
def appE (s : ByteArray) (L : List Ed) : Int := if errT s L ≠ 0 then errT s L else if 65536 < (edT s L).size then 2 else 0
def appR (s : ByteArray) (L : List Ed) : ByteArray := if appE s L = 0 then edT s L else ByteArray.empty

theorem edT_bl (s : ByteArray) (L : List Ed) : bl (edT s L) = ed (bl s) 0 L := bl_of _
theorem edT_size {s : ByteArray} {L : List Ed} (h : sd s.size 0 L = true) : ((edT s L).size : Int) = s.size + gn L := by
  unfold edT
  rw [size_of]
  have := ed_length (s := bl s) (l := L) (p := 0) (by rw [bl_size]; exact h) (Nat.zero_le _)
  rw [bl_size] at this
  omega

/-- The sizes of all that is put. -/
theorem sizes_of_put {L : List Ed} {M : Nat} (h : put L ≤ M) (hM : M ≤ 4611686018427387904) : Sizes L := by
  intro i hi
  have : ∀ (L : List Ed) i, i < L.length → (nthE L i).x.size ≤ put L := by
    intro L
    induction L with
    | nil => intro i hi; simp at hi
    | cons e l ih =>
      intro i hi
      cases i with
      | zero => show e.x.size ≤ e.x.size + put l; omega
      | succ i => have := ih i (by simpa using hi); show (nthE l i).x.size ≤ e.x.size + put l; omega
  have := this L i hi
  omega

theorem step_put {s : ByteArray} {P : List UInt8} {L : List Ed} {p f t : Nat} {x : ByteArray} {rest l : List Ed} (h : P ++ ed (bl s) p rest = ed (bl s) 0 L) (he : rest = ⟨f, t, x⟩ :: l) :
    (P ++ bl (s.extract p f) ++ bl x) ++ ed (bl s) t l = ed (bl s) 0 L := by
  subst he
  rw [← h, ed, bl_extract]
  simp only [Int.toNat_natCast, List.append_assoc]

theorem len_le {P Q T : List UInt8} (h : P ++ Q = T) : P.length ≤ T.length := by rw [← h, List.length_append]; omega
theorem Box.far2 {w w' : World} {g : Nat} {f t : Int} {y : ByteArray} (h : Box w g f t y) {a b : Nat} (hf : ∀ j, j ≠ a → j ≠ b → w'.heap[j]? = w.heap[j]?) (h1 : g ≠ a) (h2 : g ≠ b) : Box w' g f t y := (hf g h1 h2).trans h

theorem bytes_of {w : World} {g : Nat} {T : ByteArray} (h : ∃ cur, w.heap[g]? = some (.cells cur 5 (0, 0)) ∧ cur.size = T.size ∧ cur.toList.take T.size = Lib.byteCells (bl T)) : Lib.Bytes w g 0 T := by
  obtain ⟨cur, h1, h2, h3⟩ := h
  intro i hi
  rw [Nat.zero_add, cell_of_row w g i _ _ _ h1]
  have e : cur.toList.take T.size = cur.toList := List.take_of_length_le (by rw [Array.length_toList]; omega)
  rw [e] at h3
  rw [← Array.getElem?_toList, h3]
  unfold Lib.byteCells
  rw [List.getElem?_map, bl_get T i hi]
  rfl

theorem made_start (w : World) (n : Nat) : Made (((w.alloc (.cells (madeCells #[Value.int .u8 0] n) 5)).alloc (.cells #[.slice (some ⟨w.heap.size, 0, none⟩) n n] 43)).alloc (.cells #[.int .i64 0] 3)) (w.heap.size + 1 + 1) (w.heap.size + 1) w.heap.size n [] := by
  have a1 := heap_alloc_new ((w.alloc (.cells (madeCells #[Value.int .u8 0] n) 5)).alloc (.cells #[.slice (some ⟨w.heap.size, 0, none⟩) n n] 43)) (.cells #[.int .i64 0] 3)
  have a2 := heap_alloc2_old (w.alloc (.cells (madeCells #[Value.int .u8 0] n) 5)) (.cells #[.slice (some ⟨w.heap.size, 0, none⟩) n n] 43) (.cells #[.int .i64 0] 3)
  have a3 := Below.heap_alloc ((w.alloc (.cells (madeCells #[Value.int .u8 0] n) 5)).alloc (.cells #[.slice (some ⟨w.heap.size, 0, none⟩) n n] 43)) (.cells #[.int .i64 0] 3) w.heap.size (by simp; omega)
  have a4 := heap_alloc2_old w (.cells (madeCells #[Value.int .u8 0] n) 5) (.cells #[.slice (some ⟨w.heap.size, 0, none⟩) n n] 43)
  have z1 : ((w.alloc (.cells (madeCells #[Value.int .u8 0] n) 5)).alloc (.cells #[.slice (some ⟨w.heap.size, 0, none⟩) n n] 43)).heap.size = w.heap.size + 1 + 1 := by simp
  have z2 : (w.alloc (.cells (madeCells #[Value.int .u8 0] n) 5)).heap.size = w.heap.size + 1 := by simp
  rw [z1] at a1
  rw [z2] at a2
  exact ⟨a1, a2, ⟨_, a3.trans a4, size_madeCells _ _, rfl⟩, by omega, by omega, by omega⟩

set_option maxRecDepth 100000 in
set_option maxHeartbeats 4000000 in
theorem apply_any (s : ByteArray) (x : Option Addr) (c : Nat) (L : List Ed) (w : World) (hr : EdI w x L) (hl : L.length * 32 ≤ 140737488355328) (hp : put L ≤ 1152921504606846976) :
    Calls Try.prog 14 #[.string s, .slice x L.length c] w fun e w' => e = .returned (.tuple #[.string (appR s L), .int .i64 (appE s L)]) ∧ Below w.heap.size w w' := by
  have Hr := Lib.hid hr
  have Hz := Lib.hid (sizes_of_put hp (by omega))
  clear hr
  cases hE : (errT s L == 0) with
  | false =>
    have hne : errT s L ≠ 0 := by simpa using hE
    have hfin : appE s L = errT s L := if_pos hne
    have hfin2 : appR s L = ByteArray.empty := if_neg (by rw [hfin]; exact hne)
    rw [hfin, hfin2]
    have hN : (errT s L != 0) = true := by simpa using hE
    clear hfin hfin2 hne
    have HC := Lib.hid (scheck_any s x c L w Hr.out (by omega))
    generalize errT s L = E at hE hN HC
    go_enter Try.func14, Try.ntmps14
    go_wp2_with fail
    refine HC.out.mono ?_
    rintro e w1 ⟨rfl, hb⟩
    go_wp2
    go_ret2
    exact ⟨rfl, hb⟩
  | true =>
    have h0 : errT s L = 0 := by simpa using hE
    have HC := Lib.hid (scheck_any s x c L w Hr.out (by omega))
    rw [h0] at HC
    have Hm := Lib.hid (errT_zero h0)
    have hsz := Hm.out.1
    have hT := edT_size Hm.out.2
    have hG : gnW 0 L = ((edT s L).size : Int) - s.size := by
      have := gnW_in (n := s.size) (by omega) L 0 0 Hm.out.2 (by omega) (by omega) (by omega) (by omega)
      omega
    have hTb : (edT s L).size ≤ 4611686018427387904 := by
      have h1 := gn_eq L
      have h2 := took_le Hm.out.2 (by omega)
      omega
    have HT := Lib.hid (edT_bl s L)
    have hfin : appE s L = if 65536 < (edT s L).size then 2 else 0 := if_neg (by rw [h0]; simp)
    have HG := fun w1 h1 => gain_any s.size x c L w1 h1 (by omega) ⟨by omega, Hm.out.2, Hz.out⟩
    rw [hG] at HG
    have Hfin := Lib.hid hfin
    have Hfin2 : Hid (appR s L = if appE s L = 0 then edT s L else ByteArray.empty) := Lib.hid rfl
    clear h0 hE hfin hT hG
    generalize edT s L = T at *
    have HG' := Lib.hid HG
    clear HG
    have hsum : (s.size : Int) + ((T.size : Int) - s.size) = T.size := by omega
    by_cases h1 : 65536 < T.size
    · have e1 : appE s L = 2 := by rw [Hfin.out, if_pos h1]
      have e2 : appR s L = ByteArray.empty := by rw [Hfin2.out, e1]; rfl
      rw [e1, e2]
      clear e1 e2
      go_enter Try.func14, Try.ntmps14
      go_wp2_with fail
      refine HC.out.mono ?_
      rintro e w1 ⟨rfl, hb⟩
      have hs1 := hb.size
      go_wp2_with fail
      refine (HG'.out w1 (Hr.out.keep hb)).mono ?_
      rintro e w2 ⟨rfl, hb2⟩
      go_wp2
      go_ret2
      exact ⟨rfl, hb.trans (hb2.mono hs1)⟩
    · have e1 : appE s L = 0 := by rw [Hfin.out, if_neg h1]
      have e2 : appR s L = T := by rw [Hfin2.out, e1]; rfl
      rw [e1, e2]
      clear e1 e2
      have hmk := fun w => run_make_row' (P := Try.prog) 43 5 (.int .u8 0) 1 Try.underlying43 (by kernel_rfl) rfl .i64 .i64 T.size (by omega) (by omega) w
      go_enter Try.func14, Try.ntmps14
      go_wp2_with fail
      refine HC.out.mono ?_
      rintro e w1 ⟨rfl, hb⟩
      have hs1 := hb.size
      go_wp2_with fail
      refine (HG'.out w1 (Hr.out.keep hb)).mono ?_
      rintro e w2 ⟨rfl, hb2⟩
      have Hr2 := Lib.hid ((Hr.out.keep hb).keep hb2)
      have hs2 := hb2.size
      have HB := Lib.hid (hb.trans (hb2.mono hs1))
      clear hb hb2 HC
      have hM0 := made_start w2 T.size
      have hB0 : Below w2.heap.size w2 (((w2.alloc (.cells (madeCells #[Value.int .u8 0] T.size) 5)).alloc (.cells #[.slice (some ⟨w2.heap.size, 0, none⟩) T.size T.size] 43)).alloc (.cells #[.int .i64 0] 3)) := (((Below.refl _ _).alloc (Nat.le_refl _) _).alloc (by simp) _).alloc (by simp; omega) _
      go_wp2
      clear hmk hsum
      go_loopw [11, 32] (fun p i wr => ∃ (k p' : Nat) (P : List UInt8), k ≤ L.length ∧ i = .int .i64 k ∧ p = .int .i64 p' ∧ p' ≤ s.size ∧ sd s.size p' (L.drop k) = true ∧ P ++ ed (bl s) p' (L.drop k) = ed (bl s) 0 L ∧ Made wr (w2.heap.size + 1 + 1) (w2.heap.size + 1) w2.heap.size T.size P ∧ Below w2.heap.size w2 wr) (fun _ i _ => L.length - (intOf i).toNat)
      case atStart => exact ⟨0, 0, [], by omega, rfl, rfl, by omega, Hm.out.2, rfl, hM0, hB0⟩
      case round =>
        clear hM0 hB0
        obtain ⟨k, p, P, hk, rfl, rfl, hps, hsd, hed, hM, hb⟩ := hrel
        have Hed := Lib.hid hed
        clear hed
        by_cases hlt : k < L.length
        · obtain ⟨g, o, f, t, sx, rfl, hg, he, n2, n3, d0, d1, d2⟩ := Hr2.out.atN hb hlt Hm.out.2
          have HE := Lib.hid (drop_nth hlt)
          have n4 := Hz.out k hlt
          rw [he] at HE n4
          change sx.size ≤ _ at n4
          rw [HE.out] at hsd
          obtain ⟨m1, _, _, m4⟩ := sd_cons.1 hsd
          change (p : Int) ≤ f at m1
          change sd s.size t _ = true at m4
          have hst := step_put Hed.out HE.out
          have hlen := congrArg List.length (hst.trans HT.out.symm)
          simp only [List.length_append, bl_size] at hlen
          have hfit1 : P.length + (s.extract p f).size ≤ T.size := by omega
          have hfit2 : (P ++ bl (s.extract p f)).length + sx.size ≤ T.size := by rw [List.length_append, bl_size]; omega
          have hgs := hb.size
          have hlt2 := (Array.getElem?_eq_some_iff.1 hM.e).1
          have hMb := hM.keep ((Below.refl wr.heap.size wr).alloc (Nat.le_refl _) (.cells #[.int .i64 f, .int .i64 t, .string sx] 36))
          have hp1 := put_any _ _ _ _ P (s.extract p f) _ hMb hfit1 hTb
          have hbox : Box (wr.alloc (.cells #[.int .i64 f, .int .i64 t, .string sx] 36)) wr.heap.size f t sx := heap_alloc_new wr _
          have hb3 := hb.alloc hgs (.cells #[.int .i64 f, .int .i64 t, .string sx] 36)
          have b0 : (0 : Int) ≤ (k : Int) := by omega
          have b1 : (k : Int) < (L.length : Int) := by omega
          have b2 : (0 : Int) ≤ (p : Int) := by omega
          have b3 : (f : Int) ≤ (s.size : Int) := by omega
          have Hbox := Lib.hid hbox
          have Hst := Lib.hid hst
          have Hb := Lib.hid hb3
          have Hm4 := Lib.hid m4
          have Hp1 := Lib.hid hp1
          clear hsd hst hlen hM hMb hbox hb hb3 m4 he hp1
          go_wp2_with fail
          refine Hp1.out.mono ?_
          rintro e w3 ⟨rfl, hM3, hB3, hF3⟩
          have hbox3 := Hbox.out.far2 hF3 (by omega) (by omega)
          have k0 := hbox3.c0
          have k1 := hbox3.c1
          have k2 := hbox3.c2
          have Hb3 := Lib.hid (Hb.out.trans (hB3 w2.heap.size (by omega) (Nat.le_refl _)))
          have Hp2 := Lib.hid (put_any _ _ _ _ _ sx _ hM3 hfit2 hTb)
          have Hbox3 := Lib.hid hbox3
          clear hM3 hB3 hF3 hbox3
          go_wp2_with fail
          refine Hp2.out.mono ?_
          rintro e w4 ⟨rfl, hM4, hB4, hF4⟩
          have hbox4 := Hbox3.out.far2 hF4 (by omega) (by omega)
          have j0 := hbox4.c0
          have j1 := hbox4.c1
          have j2 := hbox4.c2
          have Hb4 := Lib.hid (Hb3.out.trans (hB4 w2.heap.size (by omega) (Nat.le_refl _)))
          clear hB4 hF4 hbox4
          go_wp2
          go_roundw
          case rel => exact ⟨k + 1, t, _, by omega, by go_num, rfl, by omega, Hm4.out, Hst.out, hM4, Hb4.out⟩
          case measure => simp [intOf]; omega
        · have hd : L.drop k = [] := List.drop_of_length_le (by omega)
          have hst : P ++ bl (s.extract p s.size) = bl T := by
            rw [HT.out, ← Hed.out, hd, ed, bl_extract, ← bl_size, List.take_length]
          have hlen := congrArg List.length hst
          simp only [List.length_append, bl_size] at hlen
          have hfit1 : P.length + (s.extract p s.size).size ≤ T.size := by omega
          have Hp1 := Lib.hid (put_any _ _ _ _ P (s.extract p s.size) _ hM hfit1 hTb)
          have b2 : (0 : Int) ≤ (p : Int) := by omega
          have b3 : (p : Int) ≤ (s.size : Int) := by omega
          have Hst := Lib.hid hst
          have Hb := Lib.hid hb
          have hgs := hb.size
          clear hst hlen hM hsd hb hd
          go_wp2_with fail
          refine Hp1.out.mono ?_
          rintro e w3 ⟨rfl, hM3, hB3, hF3⟩
          have k1 : w3.cell? ⟨w2.heap.size + 1, 0, none⟩ = some (.slice (some ⟨w2.heap.size, 0, none⟩) T.size T.size) := by rw [cell_of_row w3 _ 0 _ _ _ hM3.m]; rfl
          have hby := hM3.r
          rw [Hst.out, bl_size] at hby
          have hconv := Lib.run_convert_whole (P := Try.prog) w3 43 5 9 Try.underlying43 Try.underlying5 Try.underlying9 w2.heap.size 0 T (bytes_of hby) T.size
          have Hb3 := Lib.hid (Hb.out.trans (hB3 w2.heap.size (by omega) (Nat.le_refl _)))
          clear hM3 hB3 hF3 hby
          go_wp2
          go_ret2
          exact ⟨rfl, HB.out.trans (Hb3.out.mono HB.out.size)⟩
end Go.Proofs.Ytckioinjgdjohaa
