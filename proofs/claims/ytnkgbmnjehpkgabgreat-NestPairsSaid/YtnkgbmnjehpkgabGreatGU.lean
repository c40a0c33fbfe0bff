/- Tokens and faults in memory; contracts of scan.lexeme, Clean. -/
import Derived.Test.YtnkgbmnjehpkgabGreatGT
import Derived.Test.YtnkgbmnjehpkgabGreatGR
import Derived.Test.YtnkgbmnjehpkgabGreatGD
namespace Go.Proofs.YtnkgbmnjehpkgabGreat
open Go.RowKit Em
set_option maxRecDepth 100000
set_option linter.unusedVariables false

/-! ### A token's block, a fault's block -/
def TBox (w : World) (g : Nat) (k f t : Int) : Prop := w.heap[g]? = some (.cells #[.int .u8 k, .int .i64 f, .int .i64 t] 41 (0, 0))
theorem TBox.c0 {w : World} {g : Nat} {k f t : Int} (h : TBox w g k f t) : w.cell? ⟨g, 0, none⟩ = some (.int .u8 k) := by rw [cell_of_row w g 0 _ _ _ h]; rfl
theorem TBox.c1 {w : World} {g : Nat} {k f t : Int} (h : TBox w g k f t) : w.cell? ⟨g, 1, none⟩ = some (.int .i64 f) := by rw [cell_of_row w g 1 _ _ _ h]; rfl
theorem TBox.c2 {w : World} {g : Nat} {k f t : Int} (h : TBox w g k f t) : w.cell? ⟨g, 2, none⟩ = some (.int .i64 t) := by rw [cell_of_row w g 2 _ _ _ h]; rfl
theorem TBox.free {w : World} {g : Nat} {k f t : Int} (h : TBox w g k f t) (i : Nat) : w.frozen? ⟨g, i, none⟩ = false := frozen_of_row w g i _ _ h
theorem TBox.set0 {w : World} {g : Nat} {k k' f t : Int} (h : TBox w g k f t) : TBox (w.setCell ⟨g, 0, none⟩ (.int .u8 k')) g k' f t := heap_setCell_same w g 0 _ _ _ h
theorem TBox.set1 {w : World} {g : Nat} {k f f' t : Int} (h : TBox w g k f t) : TBox (w.setCell ⟨g, 1, none⟩ (.int .i64 f')) g k f' t := heap_setCell_same w g 1 _ _ _ h
theorem TBox.set2 {w : World} {g : Nat} {k f t t' : Int} (h : TBox w g k f t) : TBox (w.setCell ⟨g, 2, none⟩ (.int .i64 t')) g k f t' := heap_setCell_same w g 2 _ _ _ h
theorem TBox.lt {w : World} {g : Nat} {k f t : Int} (h : TBox w g k f t) : g < w.heap.size := (Array.getElem?_eq_some_iff.1 h).1
theorem TBox.far {w : World} {g : Nat} {k f t : Int} (h : TBox w g k f t) {p : Addr} (hp : g ≠ p.block) (v : Value) : TBox (w.setCell p v) g k f t := (Below.heap_setCell w p v g hp).trans h
theorem TBox.keep {w w' : World} {g : Nat} {k f t : Int} (h : TBox w g k f t) (hb : Below w.heap.size w w') : TBox w' g k f t := (hb.block g h.lt).trans h
theorem TBox.alloc {w : World} {g : Nat} {k f t : Int} (h : TBox w g k f t) (o : Obj) : TBox (w.alloc o) g k f t := (heap_alloc_old w o h.lt).trans h
theorem TBox.draw {w : World} {g : Nat} {k f t : Int} (h : TBox w g k f t) (n : Nat) : TBox (w.drewN n) g k f t := h

def FBox (w : World) (g : Nat) (e a : Int) : Prop := w.heap[g]? = some (.cells #[.int .i64 e, .int .i64 a] 27 (0, 0))
theorem FBox.c0 {w : World} {g : Nat} {e a : Int} (h : FBox w g e a) : w.cell? ⟨g, 0, none⟩ = some (.int .i64 e) := by rw [cell_of_row w g 0 _ _ _ h]; rfl
theorem FBox.c1 {w : World} {g : Nat} {e a : Int} (h : FBox w g e a) : w.cell? ⟨g, 1, none⟩ = some (.int .i64 a) := by rw [cell_of_row w g 1 _ _ _ h]; rfl
theorem FBox.free {w : World} {g : Nat} {e a : Int} (h : FBox w g e a) (i : Nat) : w.frozen? ⟨g, i, none⟩ = false := frozen_of_row w g i _ _ h
theorem FBox.set0 {w : World} {g : Nat} {e e' a : Int} (h : FBox w g e a) : FBox (w.setCell ⟨g, 0, none⟩ (.int .i64 e')) g e' a := heap_setCell_same w g 0 _ _ _ h
theorem FBox.set1 {w : World} {g : Nat} {e a a' : Int} (h : FBox w g e a) : FBox (w.setCell ⟨g, 1, none⟩ (.int .i64 a')) g e a' := heap_setCell_same w g 1 _ _ _ h
theorem FBox.lt {w : World} {g : Nat} {e a : Int} (h : FBox w g e a) : g < w.heap.size := (Array.getElem?_eq_some_iff.1 h).1
theorem FBox.far {w : World} {g : Nat} {e a : Int} (h : FBox w g e a) {p : Addr} (hp : g ≠ p.block) (v : Value) : FBox (w.setCell p v) g e a := (Below.heap_setCell w p v g hp).trans h
theorem FBox.keep {w w' : World} {g : Nat} {e a : Int} (h : FBox w g e a) (hb : Below w.heap.size w w') : FBox w' g e a := (hb.block g h.lt).trans h
theorem FBox.alloc {w : World} {g : Nat} {e a : Int} (h : FBox w g e a) (o : Obj) : FBox (w.alloc o) g e a := (heap_alloc_old w o h.lt).trans h
theorem FBox.draw {w : World} {g : Nat} {e a : Int} (h : FBox w g e a) (n : Nat) : FBox (w.drewN n) g e a := h

def tokV (k f t : Int) : Value := .agg #[.int .u8 k, .int .i64 f, .int .i64 t]
def fauV (e a : Int) : Value := .agg #[.int .i64 e, .int .i64 a]

/-! ### scan.lexeme -/
/-- What lexeme answers: the token's kind and end, of the text from a place on. -/
def lexV (p : Nat) (l : List UInt8) : Value :=
  if (Sc.lex isW l).2 = 0 then .tuple #[tokV 0 0 0, .bool false] else .tuple #[tokV ((Sc.lex isW l).1 : Nat) (p : Nat) ((p + (Sc.lex isW l).2 : Nat) : Int), .bool true]

theorem lexV_no {p : Nat} {l : List UInt8} (h : (Sc.lex isW l).2 = 0) : lexV p l = .tuple #[tokV 0 0 0, .bool false] := if_pos h
theorem lexV_yes {p : Nat} {l : List UInt8} (h : (Sc.lex isW l).2 ≠ 0) : lexV p l = .tuple #[tokV ((Sc.lex isW l).1 : Nat) (p : Nat) ((p + (Sc.lex isW l).2 : Nat) : Int), .bool true] := if_neg h

theorem bl_tail0 (s : ByteArray) (p : Nat) : bl (s.extract p s.size) = (bl s).drop p := by rw [bl_extract, ← bl_size, List.take_length]

set_option maxHeartbeats 1000000 in
theorem lexeme_any (s : ByteArray) (p : Nat) (w : World) (hp : p < s.size) (hs : s.size < 4294967281) (hw : Sc.Wf ((bl s).drop p)) (hm : Mx w) :
    Calls Tryz.prog 25 #[.string s, .int .i64 (p : Int)] w fun e w' => e = .returned (lexV p ((bl s).drop p)) ∧ Below w.heap.size w w' := by
  have hsz := Lib.tail_size s p
  have hB := fun w hm => begin_any (s.extract p s.size) w (by omega) (by omega) (by rw [bl_tail0]; exact hw) hm
  rw [bl_tail0] at hB
  have b0 : (0 : Int) ≤ (p : Int) := by omega
  have b1 : (p : Int) ≤ (s.size : Int) := by omega
  have hbx : TBox (w.alloc (.cells #[.int .u8 0, .int .i64 0, .int .i64 0] 41)) w.heap.size 0 0 0 := heap_alloc_new w _
  have hb1 : Below w.heap.size w (w.alloc (.cells #[.int .u8 0, .int .i64 0, .int .i64 0] 41)) := (Below.refl _ _).alloc (Nat.le_refl _) _
  have hcut := Sc.lex_cut isW hw
  have hk := Sc.lex_kind isW ((bl s).drop p)
  rw [List.length_drop, bl_size] at hcut
  have Hbx := Lib.hid hbx
  have Hb1 := Lib.hid hb1
  have hm1 := hm.keep hb1
  unfold beginV at hB
  by_cases hn : (Sc.lex isW ((bl s).drop p)).2 = 0
  · rw [lexV_no hn]
    rw [hn] at hB
    generalize (Sc.lex isW ((bl s).drop p)).1 = k at hB hk
    have HB := Lib.hid (hB _ hm1)
    clear hn hcut hB hw hbx hb1 hm1 hm
    go_enter Tryz.func25, Tryz.ntmps25
    go_wp2_with fail
    refine HB.out.mono ?_
    rintro e w2 ⟨rfl, hb2⟩
    have hbx2 := Hbx.out.keep hb2
    have k0 := hbx2.c0
    have k1 := hbx2.c1
    have k2 := hbx2.c2
    have f0 := hbx2.free 0
    have f1 := hbx2.free 1
    have f2 := hbx2.free 2
    have hbf : TBox _ w.heap.size 0 0 0 := ((hbx2.set0 (k' := 0)).set1 (f' := 0)).set2 (t' := 0)
    have r0 := hbf.c0
    have r1 := hbf.c1
    have r2 := hbf.c2
    have Hb3 := Lib.hid ((((Hb1.out.trans (hb2.mono (by simp))).setCell (p := ⟨w.heap.size, 0, none⟩) (Nat.le_refl _) (.int .u8 0)).setCell (p := ⟨w.heap.size, 1, none⟩) (Nat.le_refl _) (.int .i64 0)).setCell (p := ⟨w.heap.size, 2, none⟩) (Nat.le_refl _) (.int .i64 0))
    clear hbx2 hbf hb2
    go_wp2
    refine bodyPost_ret (v := .tuple #[tokV 0 0 0, .bool false]) ?_ ?_ ?_
    · simp [tokV, results, Tryz.results25, go_sem, r0, r1, r2]
    · rfl
    · exact ⟨rfl, Hb3.out⟩
  · rw [lexV_yes hn]
    obtain ⟨c1, _, _⟩ := hcut hn
    generalize (Sc.lex isW ((bl s).drop p)).1 = k at hB hk ⊢
    generalize (Sc.lex isW ((bl s).drop p)).2 = n at hB hn c1 ⊢
    have HB := Lib.hid (hB _ hm1)
    have d0 : ((n : Int) == 0) = false := beq_eq_false_iff_ne.2 (by omega)
    have hpn : ((p + n : Nat) : Int) = (p : Int) + (n : Int) := by push_cast; rfl
    rw [hpn]
    clear hn hcut hB hw hbx hb1 hm1 hm hpn
    go_enter Tryz.func25, Tryz.ntmps25
    go_wp2_with fail
    refine HB.out.mono ?_
    rintro e w2 ⟨rfl, hb2⟩
    have hbx2 := Hbx.out.keep hb2
    have k0 := hbx2.c0
    have k1 := hbx2.c1
    have k2 := hbx2.c2
    have f0 := hbx2.free 0
    have f1 := hbx2.free 1
    have f2 := hbx2.free 2
    have hbf : TBox _ w.heap.size k p (p + n : Int) := ((hbx2.set0 (k' := k)).set1 (f' := p)).set2 (t' := (p + n : Int))
    have r0 := hbf.c0
    have r1 := hbf.c1
    have r2 := hbf.c2
    have Hb3 := Lib.hid ((((Hb1.out.trans (hb2.mono (by simp))).setCell (p := ⟨w.heap.size, 0, none⟩) (Nat.le_refl _) (.int .u8 k)).setCell (p := ⟨w.heap.size, 1, none⟩) (Nat.le_refl _) (.int .i64 p)).setCell (p := ⟨w.heap.size, 2, none⟩) (Nat.le_refl _) (.int .i64 (p + n : Int)))
    clear hbx2 hbf hb2
    go_wp2
    refine bodyPost_ret (v := .tuple #[tokV k p (p + n : Int), .bool true]) ?_ ?_ ?_
    · simp [tokV, results, Tryz.results25, go_sem, r0, r1, r2]
    · rfl
    · exact ⟨rfl, Hb3.out⟩
end Go.Proofs.YtnkgbmnjehpkgabGreat

/- Contracts of scan.Clean and of the reference's Clean. -/
namespace Go.Proofs.YtnkgbmnjehpkgabGreat
open Go.RowKit Em
set_option maxRecDepth 100000
set_option linter.unusedVariables false

theorem badP_cases {s : ByteArray} : ∀ {f p b : Nat}, Um.badP s f p = some b → p ≤ b ∧ b < s.size ∧ Um.okAt s b = false ∧ (p < b → Um.okAt s p = true ∧ p + Um.wid s p ≤ b)
  | 0, p, b, h => by cases h
  | f + 1, p, b, h => by
    by_cases hp : p < s.size
    · cases hk : Um.okAt s p with
      | false =>
        rw [Um.badP_bad hp hk] at h
        cases h
        exact ⟨Nat.le_refl _, hp, hk, fun h => by omega⟩
      | true =>
        rw [Um.badP_step hp hk] at h
        obtain ⟨h1, h2, h3, _⟩ := badP_cases h
        have := Um.wid_pos s p
        exact ⟨by omega, h2, h3, fun _ => ⟨rfl, h1⟩⟩
    · rw [Um.badP_end hp] at h; cases h

theorem byt_ext (s : ByteArray) (b i : Nat) (h : i < b) (hb : b ≤ s.size) : Um.byt (s.extract 0 b) i = Um.byt s i := by
  have h1 : i < (s.extract 0 b).size := by rw [ByteArray.size_extract]; omega
  have e1 := bl_get (s.extract 0 b) i h1
  have e2 := bl_get s i (by omega)
  rw [bl_extract, List.drop_zero, List.getElem?_take_of_lt h, e2] at e1
  have e3 := Option.some.inj e1
  have e4 := byN_get (s.extract 0 b) i h1
  have e5 := byN_get s i (by omega)
  show byN (s.extract 0 b) i = byN s i
  rw [← e4, ← e5, e3]
theorem dec_ext {s : ByteArray} {p b : Nat} (hp : p < s.size) (hb : b ≤ s.size) (hk : Um.okAt s p = true) (hf : p + Um.wid s p ≤ b) : Utf8.decode (s.extract 0 b) p = Utf8.decode s p := by
  have ho : Utf8.decode s p ≠ (65533, 1) := by unfold Um.okAt at hk; exact of_decide_eq_true hk
  obtain ⟨h1, h2, h3⟩ := Um.decode_at hp ho
  have hw : Um.wid s p = Um.len (Utf8.decode s p).1 := h3
  rw [hw] at hf
  have e : Utf8.decode s p = ((Utf8.decode s p).1, Um.len (Utf8.decode s p).1) := Prod.ext rfl h3
  have hsz : (s.extract 0 b).size = b := by rw [ByteArray.size_extract]; omega
  rw [e]
  refine Um.decode_of h1 ?_
  generalize (Utf8.decode s p).1 = c at *
  have hl : c < 128 → Um.len c = 1 := fun h => by unfold Um.len; rw [if_pos h]
  have hl2 : ¬ c < 128 → c < 2048 → Um.len c = 2 := fun h h' => by unfold Um.len; rw [if_neg h, if_pos h']
  have hl3 : ¬ c < 2048 → c < 65536 → Um.len c = 3 := fun h h' => by unfold Um.len; rw [if_neg (by omega), if_neg h, if_pos h']
  have hl4 : ¬ c < 65536 → Um.len c = 4 := fun h => by unfold Um.len; rw [if_neg (by omega), if_neg (by omega), if_neg h]
  unfold Um.At at h2 ⊢
  rw [hsz]
  rcases h2 with ⟨a1, a2, a3⟩ | ⟨a1, a2, a3, a4, a5⟩ | ⟨a1, a2, a3, a4, a5, a6⟩ | ⟨a1, a3, a4, a5, a6, a7⟩
  · have := hl a1
    rw [byt_ext s b p (by omega) hb]
    exact .inl ⟨a1, by omega, a3⟩
  · have := hl2 (by omega) a2
    rw [byt_ext s b p (by omega) hb, byt_ext s b (p + 1) (by omega) hb]
    exact .inr (.inl ⟨a1, a2, by omega, a4, a5⟩)
  · have := hl3 (by omega) a2
    rw [byt_ext s b p (by omega) hb, byt_ext s b (p + 1) (by omega) hb, byt_ext s b (p + 2) (by omega) hb]
    exact .inr (.inr (.inl ⟨a1, a2, by omega, a4, a5, a6⟩))
  · have := hl4 (by omega)
    rw [byt_ext s b p (by omega) hb, byt_ext s b (p + 1) (by omega) hb, byt_ext s b (p + 2) (by omega) hb, byt_ext s b (p + 3) (by omega) hb]
    exact .inr (.inr (.inr ⟨a1, by omega, a4, a5, a6, a7⟩))

/-- What is sound of a text. -/
def sound (s : ByteArray) : ByteArray := match Um.badP s s.size 0 with | none => s | some b => s.extract 0 b

/-- A place in what is sound. -/
def ClI (s : ByteArray) (p : Nat) : Prop := p ≤ (sound s).size ∧ ∃ f, s.size ≤ p + f ∧ Sc.cln s f p = Sc.cln s s.size 0 ∧ Um.badP s f p = Um.badP s s.size 0

theorem cl_start (s : ByteArray) : ClI s 0 := ⟨Nat.zero_le _, s.size, by omega, rfl, rfl⟩

theorem cl_step {s : ByteArray} {p : Nat} (h : ClI s p) (hp : p < (sound s).size) :
    Utf8.decode (sound s) p = (Um.chr s p, Um.wid s p) ∧ (Sc.badC (Um.chr s p) p = true → Sc.clnI s = p) ∧ (Sc.badC (Um.chr s p) p = false → ClI s (p + Um.wid s p)) := by
  obtain ⟨h1, f, h2, h3, h4⟩ := h
  have hkey : p < s.size ∧ Um.okAt s p = true ∧ p + Um.wid s p ≤ (sound s).size ∧ Utf8.decode (sound s) p = Utf8.decode s p := by
    unfold sound at hp ⊢
    cases hb : Um.badP s s.size 0 with
    | none =>
      rw [hb] at hp h4
      dsimp only at hp ⊢
      cases hk : Um.okAt s p with
      | false =>
        obtain ⟨g, rfl⟩ : ∃ g, f = g + 1 := ⟨f - 1, by omega⟩
        rw [Um.badP_bad hp hk] at h4; cases h4
      | true => exact ⟨hp, rfl, Um.ok_fits hp hk, rfl⟩
    | some b =>
      rw [hb] at hp h4
      dsimp only at hp ⊢
      obtain ⟨g1, g2, g3, g4⟩ := badP_cases h4
      have hsz : (s.extract 0 b).size = b := by rw [ByteArray.size_extract]; omega
      rw [hsz] at hp ⊢
      obtain ⟨g5, g6⟩ := g4 hp
      exact ⟨by omega, g5, g6, dec_ext (by omega) (by omega) g5 g6⟩
  obtain ⟨k1, k2, k3, k4⟩ := hkey
  obtain ⟨g, rfl⟩ : ∃ g, f = g + 1 := ⟨f - 1, by omega⟩
  have hw := Um.wid_pos s p
  refine ⟨k4.trans rfl, fun hc => ?_, fun hc => ⟨k3, g, by omega, ?_, ?_⟩⟩
  · unfold Sc.clnI
    rw [← h3, Sc.cln_char k1 hc]
  · rw [← h3, Sc.cln_step k1 k2 hc]
  · rw [← h4, Um.badP_step k1 k2]
theorem cl_end {s : ByteArray} {p : Nat} (h : ClI s p) (hp : ¬ p < (sound s).size) : Sc.clnI s = Um.badI s := by
  obtain ⟨h1, f, h2, h3, h4⟩ := h
  unfold sound at hp h1
  unfold Sc.clnI Um.badI
  rw [← h3]
  cases hb : Um.badP s s.size 0 with
  | none =>
    rw [hb] at hp
    dsimp only at hp
    rw [Sc.cln_end hp]
  | some b =>
    rw [hb] at hp h4 h1
    dsimp only at hp h1
    obtain ⟨g1, g2, g3, g4⟩ := badP_cases h4
    have hsz : (s.extract 0 b).size = b := by rw [ByteArray.size_extract]; omega
    rw [hsz] at hp h1
    have e : p = b := by omega
    subst e
    obtain ⟨g, rfl⟩ : ∃ g, f = g + 1 := ⟨f - 1, by omega⟩
    rw [Sc.cln_bad g2 g3]

theorem sound_cases (s : ByteArray) : (Um.badI s < 0 ∧ sound s = s) ∨ (∃ b : Nat, Um.badI s = b ∧ b ≤ s.size ∧ sound s = s.extract 0 b) := by
  unfold Um.badI sound
  cases hb : Um.badP s s.size 0 with
  | none => exact .inl ⟨by show (-1 : Int) < 0; omega, rfl⟩
  | some b =>
    have := badP_cases hb
    exact .inr ⟨b, rfl, by omega, rfl⟩

theorem cl_le {s : ByteArray} (p : Nat) (h : ClI s p) : p ≤ (sound s).size := h.1

set_option maxHeartbeats 4000000 in
theorem clean_any (s : ByteArray) (w : World) :
    Calls Tryz.prog 24 #[.string s] w fun e w' => e = .returned (.int .i64 (Sc.clnI s)) ∧ Below w.heap.size w w' := by
  have HB := Lib.hid (fun w => bad_any s w)
  have Hst := Lib.hid (fun p => @cl_step s p)
  have Hen := Lib.hid (fun p => @cl_end s p)
  have HI := Lib.hid (@cl_le s)
  have H0 := Lib.hid (cl_start s)
  rcases sound_cases s with ⟨h1, h2⟩ | ⟨b, h1, h2, h3⟩
  · rw [h2] at Hst Hen HI
    generalize Um.badI s = bad at HB Hen h1
    have hbb : ¬ (0 : Int) ≤ bad := by omega
    clear h1 h2
    go_enter Tryz.func24, Tryz.ntmps24
    go_wp2_with fail
    refine (HB.out _).mono ?_
    rintro e w1 ⟨rfl, hb1⟩
    have Hb1 := Lib.hid hb1
    clear hb1
    go_wp2
    go_loopw [] (fun wr => ∃ pos : Nat, wr = w1.iter s pos ∧ ClI s pos) (fun wr => s.size - wr.iterPos w1.heap.size)
    case atStart => exact ⟨0, rfl, H0.out⟩
    case round =>
      obtain ⟨pos, rfl, hI⟩ := hrel
      have hle := HI.out pos hI
      have HI2 := Lib.hid hI
      by_cases hp : pos < s.size
      · obtain ⟨s1, s2, s3⟩ := Hst.out pos hI hp
        have hnx : ∀ ty, (Instr.next (.pointer (some ⟨w1.heap.size, 0, none⟩)) true ty).run Tryz.prog (w1.iter s pos) = _ := fun ty => run_next_any w1 s pos ty hp
        rw [s1] at hnx
        change ∀ ty, (Instr.next (.pointer (some ⟨w1.heap.size, 0, none⟩)) true ty).run Tryz.prog (w1.iter s pos) = .ok (.tuple #[.bool true, .int .i64 pos, .int .i32 (Um.chr s pos)]) (w1.iter s (pos + Um.wid s pos)) at hnx
        have hw := Um.wid_pos s pos
        have S2 := Lib.hid s2
        have S3 := Lib.hid s3
        clear s1 s2 s3 hI
        by_cases c0 : Um.chr s pos = 0
        · have hfin : Sc.clnI s = pos := S2.out (decide_eq_true (.inl c0))
          have Hfin := Lib.hid hfin
          rw [c0] at hnx
          clear hfin c0 S2 S3
          go_wp2
          go_ret
          exact ⟨ret_int Hfin.out.symm, Hb1.out.alloc Hb1.out.size _⟩
        · have d0 : ((Um.chr s pos : Int) == 0) = false := beq_eq_false_iff_ne.2 (by omega)
          by_cases c1 : Um.chr s pos = 65279
          · rw [c1] at hnx
            by_cases c2 : 0 < pos
            · have hfin : Sc.clnI s = pos := S2.out (decide_eq_true (.inr ⟨c1, c2⟩))
              have Hfin := Lib.hid hfin
              have c3 : (0 : Int) < (pos : Int) := by omega
              clear hfin c0 c1 d0 S2 S3
              go_wp2
              go_ret
              exact ⟨ret_int Hfin.out.symm, Hb1.out.alloc Hb1.out.size _⟩
            · have hnew := S3.out (decide_eq_false (fun h => by rcases h with h | h <;> omega))
              have Hnew := Lib.hid hnew
              have c3 : ¬ (0 : Int) < (pos : Int) := by omega
              clear hnew c0 c1 d0 S2 S3
              go_wp2
              go_roundw
              case rel => exact ⟨pos + Um.wid s pos, rfl, Hnew.out⟩
              case measure => simp; omega
          · have d1 : ((Um.chr s pos : Int) == 65279) = false := beq_eq_false_iff_ne.2 (by omega)
            have hnew := S3.out (decide_eq_false (fun h => by rcases h with h | h <;> omega))
            have Hnew := Lib.hid hnew
            clear hnew c0 c1 S2 S3
            generalize Um.chr s pos = c at hnx d0 d1
            go_wp2
            go_roundw
            case rel => exact ⟨pos + Um.wid s pos, rfl, Hnew.out⟩
            case measure => simp; omega
      · have hnx : ∀ ty, (Instr.next (.pointer (some ⟨w1.heap.size, 0, none⟩)) true ty).run Tryz.prog (w1.iter s pos) = _ := fun ty => run_next_end w1 s pos ty hp
        have hfin := Hen.out pos hI hp
        have Hfin := Lib.hid hfin
        clear hfin hI
        go_wp2
        go_ret
        exact ⟨ret_int Hfin.out.symm, Hb1.out.alloc Hb1.out.size _⟩
  · rw [h3] at Hst Hen HI
    rw [h1] at HB Hen
    have b1 : (0 : Int) ≤ (b : Int) := by omega
    have b2 : (b : Int) ≤ (s.size : Int) := by omega
    clear h1 h2 h3
    go_enter Tryz.func24, Tryz.ntmps24
    go_wp2_with fail
    refine (HB.out _).mono ?_
    rintro e w1 ⟨rfl, hb1⟩
    have Hb1 := Lib.hid hb1
    clear hb1
    go_wp2
    generalize s.extract 0 b = S at Hst Hen HI ⊢
    go_loopw [] (fun wr => ∃ pos : Nat, wr = w1.iter S pos ∧ ClI s pos) (fun wr => S.size - wr.iterPos w1.heap.size)
    case atStart => exact ⟨0, rfl, H0.out⟩
    case round =>
      obtain ⟨pos, rfl, hI⟩ := hrel
      have hle := HI.out pos hI
      have HI2 := Lib.hid hI
      by_cases hp : pos < S.size
      · obtain ⟨s1, s2, s3⟩ := Hst.out pos hI hp
        have hnx : ∀ ty, (Instr.next (.pointer (some ⟨w1.heap.size, 0, none⟩)) true ty).run Tryz.prog (w1.iter S pos) = _ := fun ty => run_next_any w1 S pos ty hp
        rw [s1] at hnx
        change ∀ ty, (Instr.next (.pointer (some ⟨w1.heap.size, 0, none⟩)) true ty).run Tryz.prog (w1.iter S pos) = .ok (.tuple #[.bool true, .int .i64 pos, .int .i32 (Um.chr s pos)]) (w1.iter S (pos + Um.wid s pos)) at hnx
        have hw := Um.wid_pos s pos
        have S2 := Lib.hid s2
        have S3 := Lib.hid s3
        clear s1 s2 s3 hI
        by_cases c0 : Um.chr s pos = 0
        · have hfin : Sc.clnI s = pos := S2.out (decide_eq_true (.inl c0))
          have Hfin := Lib.hid hfin
          rw [c0] at hnx
          clear hfin c0 S2 S3
          go_wp2
          go_ret
          exact ⟨ret_int Hfin.out.symm, Hb1.out.alloc Hb1.out.size _⟩
        · have d0 : ((Um.chr s pos : Int) == 0) = false := beq_eq_false_iff_ne.2 (by omega)
          by_cases c1 : Um.chr s pos = 65279
          · rw [c1] at hnx
            by_cases c2 : 0 < pos
            · have hfin : Sc.clnI s = pos := S2.out (decide_eq_true (.inr ⟨c1, c2⟩))
              have Hfin := Lib.hid hfin
              have c3 : (0 : Int) < (pos : Int) := by omega
              clear hfin c0 c1 d0 S2 S3
              go_wp2
              go_ret
              exact ⟨ret_int Hfin.out.symm, Hb1.out.alloc Hb1.out.size _⟩
            · have hnew := S3.out (decide_eq_false (fun h => by rcases h with h | h <;> omega))
              have Hnew := Lib.hid hnew
              have c3 : ¬ (0 : Int) < (pos : Int) := by omega
              clear hnew c0 c1 d0 S2 S3
              go_wp2
              go_roundw
              case rel => exact ⟨pos + Um.wid s pos, rfl, Hnew.out⟩
              case measure => simp; omega
          · have d1 : ((Um.chr s pos : Int) == 65279) = false := beq_eq_false_iff_ne.2 (by omega)
            have hnew := S3.out (decide_eq_false (fun h => by rcases h with h | h <;> omega))
            have Hnew := Lib.hid hnew
            clear hnew c0 c1 S2 S3
            generalize Um.chr s pos = c at hnx d0 d1
            go_wp2
            go_roundw
            case rel => exact ⟨pos + Um.wid s pos, rfl, Hnew.out⟩
            case measure => simp; omega
      · have hnx : ∀ ty, (Instr.next (.pointer (some ⟨w1.heap.size, 0, none⟩)) true ty).run Tryz.prog (w1.iter S pos) = _ := fun ty => run_next_end w1 S pos ty hp
        have hfin := Hen.out pos hI hp
        have Hfin := Lib.hid hfin
        clear hfin hI
        go_wp2
        go_ret
        exact ⟨ret_int Hfin.out.symm, Hb1.out.alloc Hb1.out.size _⟩

set_option maxHeartbeats 2000000 in
theorem rclean_any (s : ByteArray) (w : World) (hs : s.size ≤ 9223372036854775807) :
    Calls Tryz.prog 28 #[.string s] w fun e w' => e = .returned (.int .i64 (Sc.clnI s)) ∧ Below w.heap.size w w' := by
  go_enter Tryz.func28, Tryz.ntmps28
  go_wp2
  go_loopw [3] (fun at' wr => ∃ pos f : Nat, at' = .int .i64 pos ∧ s.size ≤ pos + f ∧ pos ≤ s.size ∧ Hid (Sc.cln s f pos = Sc.cln s s.size 0) ∧ Below w.heap.size w wr) (fun at' _ => s.size - (intOf at').toNat)
  case atStart => exact ⟨0, s.size, rfl, by omega, by omega, Lib.hid rfl, Below.refl _ _⟩
  case round =>
    obtain ⟨pos, f, rfl, hf, hle, Hc, hb⟩ := hrel
    have Hb := Lib.hid hb
    by_cases hp : pos < s.size
    · obtain ⟨f, rfl⟩ : ∃ g, f = g + 1 := ⟨f - 1, by omega⟩
      have hw := Um.wid_pos s pos
      cases hk : Um.okAt s pos with
      | true =>
        have hfit := Um.ok_fits hp hk
        have hne : ((Um.wid s pos : Int) == 0) = false := beq_eq_false_iff_ne.2 (by omega)
        have HR := Lib.hid (fun w => rread_at s pos w hp hs)
        rw [(rd_ok hk).1, (rd_ok hk).2] at HR
        clear hb
        by_cases c0 : Um.chr s pos = 0
        · have hfin : Sc.clnI s = pos := by unfold Sc.clnI; rw [← Hc.out, Sc.cln_char hp (decide_eq_true (.inl c0))]
          have Hfin := Lib.hid hfin
          rw [c0] at HR
          clear hfin c0 hk
          go_wp2_with fail
          refine (HR.out _).mono ?_
          rintro e w2 ⟨rfl, hb2⟩
          go_wp2
          go_ret
          exact ⟨ret_int Hfin.out.symm, Hb.out.trans (hb2.mono Hb.out.size)⟩
        · have d0 : ((Um.chr s pos : Int) == 0) = false := beq_eq_false_iff_ne.2 (by omega)
          by_cases c1 : Um.chr s pos = 65279
          · rw [c1] at HR
            by_cases c2 : 0 < pos
            · have hfin : Sc.clnI s = pos := by unfold Sc.clnI; rw [← Hc.out, Sc.cln_char hp (decide_eq_true (.inr ⟨c1, c2⟩))]
              have Hfin := Lib.hid hfin
              have c3 : (0 : Int) < (pos : Int) := by omega
              clear hfin c0 c1 d0 hk
              go_wp2_with fail
              refine (HR.out _).mono ?_
              rintro e w2 ⟨rfl, hb2⟩
              go_wp2
              go_ret
              exact ⟨ret_int Hfin.out.symm, Hb.out.trans (hb2.mono Hb.out.size)⟩
            · have hnew := Sc.cln_step (f := f) hp hk (decide_eq_false (fun h => by rcases h with h | h <;> omega))
              have Hnew := Lib.hid hnew
              have c3 : ¬ (0 : Int) < (pos : Int) := by omega
              clear hnew c0 c1 d0 hk
              go_wp2_with fail
              refine (HR.out _).mono ?_
              rintro e w2 ⟨rfl, hb2⟩
              go_wp2
              go_roundw
              case rel => exact ⟨pos + Um.wid s pos, f, by go_num, by omega, by omega, Lib.hid (by rw [← Hnew.out]; exact Hc.out), Hb.out.trans (hb2.mono Hb.out.size)⟩
              case measure => simp [intOf]; omega
          · have d1 : ((Um.chr s pos : Int) == 65279) = false := beq_eq_false_iff_ne.2 (by omega)
            have hnew := Sc.cln_step (f := f) hp hk (decide_eq_false (fun h => by rcases h with h | h <;> omega))
            have Hnew := Lib.hid hnew
            clear hnew c0 c1 hk
            generalize Um.chr s pos = c at HR d0 d1
            go_wp2_with fail
            refine (HR.out _).mono ?_
            rintro e w2 ⟨rfl, hb2⟩
            go_wp2
            go_roundw
            case rel => exact ⟨pos + Um.wid s pos, f, by go_num, by omega, by omega, Lib.hid (by rw [← Hnew.out]; exact Hc.out), Hb.out.trans (hb2.mono Hb.out.size)⟩
            case measure => simp [intOf]; omega
      | false =>
        have hfin : Sc.clnI s = pos := by unfold Sc.clnI; rw [← Hc.out, Sc.cln_bad hp hk]
        have Hfin := Lib.hid hfin
        have HR := Lib.hid (fun w => rread_at s pos w hp hs)
        rw [(rd_bad hk).1, (rd_bad hk).2] at HR
        clear hfin hb
        go_wp2_with fail
        refine (HR.out _).mono ?_
        rintro e w2 ⟨rfl, hb2⟩
        go_wp2
        go_ret
        exact ⟨ret_int Hfin.out.symm, Hb.out.trans (hb2.mono Hb.out.size)⟩
    · have hfin : Sc.clnI s = -1 := by unfold Sc.clnI; rw [← Hc.out, Sc.cln_end hp]
      have Hfin := Lib.hid hfin
      clear hfin hb
      go_wp2
      go_ret
      exact ⟨ret_int Hfin.out.symm, Hb.out⟩
end Go.Proofs.YtnkgbmnjehpkgabGreat

/- Contract of scan.One. -/
namespace Go.Proofs.YtnkgbmnjehpkgabGreat
open Go.RowKit Em
set_option maxRecDepth 100000
set_option linter.unusedVariables false

theorem cln_none {s : ByteArray} : ∀ (f p : Nat), s.size ≤ p + f → Sc.cln s f p = none → Um.badP s f p = none
  | 0, p, _, _ => rfl
  | f + 1, p, h, hc => by
    by_cases hp : p < s.size
    · cases hk : Um.okAt s p with
      | false => rw [Sc.cln_bad hp hk] at hc; cases hc
      | true =>
        cases hb : Sc.badC (Um.chr s p) p with
        | true => rw [Sc.cln_char hp hb] at hc; cases hc
        | false =>
          rw [Sc.cln_step hp hk hb] at hc
          rw [Um.badP_step hp hk]
          have := Um.wid_pos s p
          exact cln_none f _ (by omega) hc
    · exact Um.badP_end hp
theorem clnI_none {s : ByteArray} (h : Sc.clnI s < 0) : Sc.cln s s.size 0 = none := by
  unfold Sc.clnI at h
  cases hc : Sc.cln s s.size 0 with
  | none => rfl
  | some p => rw [hc] at h; dsimp only at h; omega
theorem clean_wf {s : ByteArray} (h : Sc.clnI s < 0) : Sc.Wf (bl s) := Sc.wf_of_bad (cln_none s.size 0 (by omega) (clnI_none h))

theorem wf_drop {l : List UInt8} (hw : Sc.Wf l) {p : Nat} {c : Nat} {r : List UInt8} (hr : Qm.rd (l.drop p) = some (c, r)) : Sc.Wf (l.drop p) := by
  rcases hw.split (List.take_append_drop p l).symm with h1 | ⟨d, a, b, x', r', hc, he, ha, hb, h5, h6⟩
  · exact h1.2
  · exfalso
    have h9 := (Sc.fm_cut hc he ha hb).2
    clear he
    obtain ⟨y, b', rfl⟩ := List.exists_cons_of_ne_nil hb
    have h8 := h9 y (List.mem_cons_self ..)
    obtain ⟨h1, h2⟩ := Qm.rd_some hr
    have h3 := Sc.Wf.hd (Sc.Wf.cons h1 Sc.Wf.nil) (y := y) (t := (Qm.fm c).tail)
    rw [List.append_nil] at h3
    have h4 : Qm.fm c = y :: (Qm.fm c).tail := by
      have h7 : Qm.fm c ++ r = y :: b' ++ r' := by rw [← h2, h6]
      have hne := Qm.fm_ne h1
      cases hf : Qm.fm c with
      | nil => exact absurd hf hne
      | cons z t =>
        rw [hf] at h7
        simp at h7
        rw [h7.1]; rfl
    have := h3 h4
    omega

/-- What One answers. -/
def oneV (s : ByteArray) (a : Int) : Value :=
  if a < 0 ∨ (s.size : Int) ≤ a then .tuple #[tokV 0 0 0, .int .i64 1]
  else if Um.okAt s a.toNat = false ∨ 0 ≤ Sc.clnI s then .tuple #[tokV 0 0 0, .int .i64 3]
  else if (Sc.lex isW ((bl s).drop a.toNat)).2 = 0 then .tuple #[tokV 0 0 0, .int .i64 4]
  else .tuple #[tokV ((Sc.lex isW ((bl s).drop a.toNat)).1 : Nat) a ((a.toNat + (Sc.lex isW ((bl s).drop a.toNat)).2 : Nat) : Int), .int .i64 0]

theorem one_box (w : World) : TBox (w.alloc (.cells #[.int .u8 0, .int .i64 0, .int .i64 0] 41)) w.heap.size 0 0 0 := heap_alloc_new w _
theorem one_below (w : World) : Below w.heap.size w (w.alloc (.cells #[.int .u8 0, .int .i64 0, .int .i64 0] 41)) := (Below.refl _ _).alloc (Nat.le_refl _) _

theorem bset3 {B g : Nat} {w w' : World} (h : Below B w w') (hg : B ≤ g) (a b c : Value) : Below B w (((w'.setCell ⟨g, 0, none⟩ a).setCell ⟨g, 1, none⟩ b).setCell ⟨g, 2, none⟩ c) :=
  ((h.setCell (p := ⟨g, 0, none⟩) hg a).setCell (p := ⟨g, 1, none⟩) hg b).setCell (p := ⟨g, 2, none⟩) hg c
theorem TBox.set {w : World} {g : Nat} {k f t : Int} (h : TBox w g k f t) (k' f' t' : Int) : TBox (((w.setCell ⟨g, 0, none⟩ (.int .u8 k')).setCell ⟨g, 1, none⟩ (.int .i64 f')).setCell ⟨g, 2, none⟩ (.int .i64 t')) g k' f' t' := (h.set0.set1).set2


end Go.Proofs.YtnkgbmnjehpkgabGreat

