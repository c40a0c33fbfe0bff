/- The walk of the law TermSwaps. -/
import Derived.Test.YtklmiabgalanhaaGreatDoorTeRSwap
import Derived.Test.YtklmiabgalanhaaGreatDoorTeLawA
namespace Go.Proofs.YtklmiabgalanhaaGreatDoor
open Go.Shelf Go.RowKit Em Km
set_option maxRecDepth 100000
set_option linter.unusedVariables false
set_option linter.unusedSimpArgs false

/-- What a Swap answers: these parts, this number. -/
def SwO (f : FuncId) (xl xb : Option Addr) (cl cb : Nat) (L B : List Pt) (i n : Int) (R : List Pt) (E : Int) : Prop :=
  ∀ w, Pw w xl L → Pw w xb B → Calls Tryz.prog f #[.slice xl L.length cl, .int .i64 i, .int .i64 n, .slice xb B.length cb] w fun e w' => ∃ x c, e = .returned (.tuple #[.slice x R.length c, .int .i64 E]) ∧ PtI w' x R ∧ Below w.heap.size w w'
theorem swo_nil {f : FuncId} {xl xb : Option Addr} {cl cb : Nat} {L B : List Pt} {i n E : Int} (h : ∀ w, Pw w xl L → Pw w xb B → Calls Tryz.prog f #[.slice xl L.length cl, .int .i64 i, .int .i64 n, .slice xb B.length cb] w fun e w' => e = .returned (.tuple #[.slice none 0 0, .int .i64 E]) ∧ w' = w) : SwO f xl xb cl cb L B i n [] E := fun w h1 h2 =>
  (h w h1 h2).mono fun e w' ⟨a, b⟩ => ⟨none, 0, a, fun h => by simp at h, by rw [b]; exact Below.refl _ _⟩
theorem ptI_own {w : World} {base : Nat} {v : Value} {L : List Pt} (h : w.ownsRow base 28 3 v L.length (pCells L)) : ∃ x c, v = .slice x L.length c ∧ PtI w x L := by
  obtain ⟨y, c, rfl, _⟩ := owns_form h
  exact ⟨y, c, rfl, ptI_of_owns h⟩
theorem both_swap (xl xb : Option Addr) (cl cb : Nat) (L B : List Pt) (i n : Int) (hcl : L.length ≤ cl) (hcb : xb = none → cb = 0) (hl : L.length ≤ 2097152) (hb : B.length ≤ 2097152) :
    ∃ (R : List Pt) (E : Int), SwO 30 xl xb cl cb L B i n R E ∧ SwO 31 xl xb cl cb L B i n R E ∧ R.length ≤ 4611686018427387904 := by
  by_cases ht : ¬ We L ∨ ∀ m, ¬ Rw B m
  · exact ⟨[], 8, swo_nil fun w h1 h2 => swap_tree i n xl xb cl cb L B w h1 h2 ht, swo_nil fun w h1 h2 => rswap_tree i n xl xb cl cb L B w h1 h2 ht, by simp⟩
  · have hw : We L := Classical.byContradiction fun h => ht (.inl h)
    obtain ⟨m, hm⟩ : ∃ m, Rw B m := Classical.byContradiction fun h => ht (.inr fun m hm => h ⟨m, hm⟩)
    by_cases hbad : BadN L i n m
    · have hp : toV L i n = -1 ∨ (i = 0 ∧ (n ≠ 1 ∨ m ≠ 1)) := by
        rcases hbad with h | h | h | h
        · left; unfold toV; rw [if_pos (.inr fun h2 => by have := h2.1; omega)]
        · left; unfold toV; rw [if_pos (.inr fun h2 => by have := h2.2.1; omega)]
        · left; unfold toV; rw [if_pos (.inl h)]
        · exact .inr h
      exact ⟨[], 1, swo_nil fun w h1 h2 => swap_arg i n m xl xb cl cb L B w h1 h2 hw hm hp, swo_nil fun w h1 h2 => rswap_bad i n m xl xb cl cb L B w h1 h2 hw hm hbad, by simp⟩
    · have g1 : ¬ i < 0 := fun h => hbad (.inl h)
      have g2 : ¬ (L.length : Int) ≤ i := fun h => hbad (.inr (.inl h))
      have g3 : ¬ n < 0 := fun h => hbad (.inr (.inr (.inl h)))
      have g4 : i = 0 → n = 1 ∧ m = 1 := fun h => by
        by_cases h1 : n = 1
        · by_cases h2 : m = 1
          · exact ⟨h1, h2⟩
          · exact absurd (.inr (.inr (.inr ⟨h, .inr h2⟩))) hbad
        · exact absurd (.inr (.inr (.inr ⟨h, .inl h1⟩))) hbad
      obtain ⟨I, rfl⟩ : ∃ I : Nat, i = (I : Int) := ⟨i.toNat, by omega⟩
      obtain ⟨N, rfl⟩ : ∃ N : Nat, n = (N : Int) := ⟨n.toNat, by omega⟩
      have hI : I < L.length := by omega
      by_cases h0 : I = 0
      · obtain ⟨r1, r2⟩ := g4 (by omega)
        have r3 : N = 1 := by omega
        subst h0 r2 r3
        refine ⟨B, 0, fun w h1 h2 => ?_, fun w h1 h2 => ?_, by omega⟩
        · refine (swap_root xl xb cl cb L B w h1 h2 hw hm hcl).mono ?_
          rintro e w' ⟨g, he, _, hr, hbl⟩
          exact ⟨_, _, he, ptI_of_row hr, hbl⟩
        · refine (rswap_root xl xb cl cb L B w h1 h2 hw hm hcb).mono ?_
          rintro e w' ⟨v, he, ho, hbl⟩
          obtain ⟨x, c, rfl, hp⟩ := ptI_own ho
          exact ⟨x, c, he, hp, hbl⟩
      · cases hbk : bkO L I N with
        | none =>
          have hp : toV L (I : Int) (N : Int) = -1 := by
            unfold toV
            rw [if_neg (fun h => by
              rcases h with h | h
              · omega
              · exact h ⟨by omega, by omega, hw⟩), Int.toNat_natCast, Int.toNat_natCast, hbk]
            rfl
          refine ⟨[], 1, swo_nil fun w h1 h2 => swap_arg _ _ m xl xb cl cb L B w h1 h2 hw hm (.inl hp), fun w h1 h2 => ?_, by simp⟩
          refine (rswap_main I N m xl xb cl cb L B w h1 h2 hw hm (by omega) hI hcl hcb).mono ?_
          rintro e w' ⟨hs, hbl⟩
          unfold SwP at hs
          rw [hbk] at hs
          exact ⟨none, 0, hs, fun h => by simp at h, hbl⟩
        | some tz =>
          have hwt : W L.length (Kp L) I N = some tz ∧ tz ≤ bkE L I := by
            unfold bkO at hbk
            cases hW : W L.length (Kp L) I N with
            | none => rw [hW] at hbk; cases hbk
            | some p =>
              rw [hW] at hbk
              dsimp only at hbk
              split at hbk
              · injection hbk with hbk; subst hbk; exact ⟨rfl, by assumption⟩
              · cases hbk
          have hle : tz ≤ L.length := Nat.le_trans hwt.2 (bkE_le hw hI)
          have hsl : (swL L I N tz B m).length = I + B.length + L.length - tz := by
            unfold swL setC
            rw [if_neg h0, List.length_set]
            exact swap_len L B I tz _ (by omega) hle rfl
          refine ⟨swL L I N tz B m, 0, fun w h1 h2 => ?_, fun w h1 h2 => ?_, by rw [hsl]; omega⟩
          · refine (swap_ok I N m tz xl xb cl cb L B w h1 h2 hw hm hI hbk (by omega) hcl).mono ?_
            rintro e w' ⟨g, he, _, hr, hbl⟩
            rw [← hsl] at he
            exact ⟨_, _, he, ptI_of_row hr, hbl⟩
          · refine (rswap_main I N m xl xb cl cb L B w h1 h2 hw hm (by omega) hI hcl hcb).mono ?_
            rintro e w' ⟨hs, hbl⟩
            unfold SwP at hs
            rw [hbk] at hs
            obtain ⟨v, he, ho⟩ := hs
            obtain ⟨x, c, rfl, hp⟩ := ptI_own ho
            exact ⟨x, c, he, hp, hbl⟩

set_option maxHeartbeats 4000000 in
theorem swaps_great (xl xb : Option Addr) (cl cb : Nat) (L B : List Pt) (i n : Int) (w : World) (hs : Snt w) (hb : 300 < L.length ∨ 300 < B.length) :
    Calls Tryz.prog 9 #[.slice xl L.length cl, .agg #[.int .i64 i, .int .i64 n], .slice xb B.length cb] w fun e w' => e = .returned (.bool true) ∧ Below w.heap.size w w' := by
  have HA := Lib.hid ((Below.refl w.heap.size w).alloc (Nat.le_refl _) (.cells #[.int .i64 i, .int .i64 n] 43))
  have HF := Lib.hid (fixed11_any _ (hs.keep HA.out))
  clear hs
  by_cases h1 : 300 < L.length
  · have b0 : (300 : Int) < (L.length : Int) := by omega
    go_enter Tryz.func9, Tryz.ntmps9
    go_wp2_with fail
    refine HF.out.mono ?_
    rintro e w1 ⟨rfl, g1⟩
    have HG := Lib.hid (HA.out.trans (g1.mono HA.out.size))
    clear g1
    go_wp2
    go_ret
    exact ⟨rfl, HG.out⟩
  · have b0 : ¬ (300 : Int) < (L.length : Int) := by omega
    have b1 : (300 : Int) < (B.length : Int) := by omega
    go_enter Tryz.func9, Tryz.ntmps9
    go_wp2_with fail
    refine HF.out.mono ?_
    rintro e w1 ⟨rfl, g1⟩
    have HG := Lib.hid (HA.out.trans (g1.mono HA.out.size))
    clear g1
    go_wp2
    go_ret
    exact ⟨rfl, HG.out⟩
set_option maxHeartbeats 4000000 in
theorem swaps_small (xl xb : Option Addr) (cl cb : Nat) (L B : List Pt) (i n : Int) (w : World) (hs : Snt w) (hl : Pw w xl L) (hb : Pw w xb B) (h1 : L.length ≤ 300) (h2 : B.length ≤ 300) (hcl : L.length ≤ cl) (hcb : xb = none → cb = 0) :
    Calls Tryz.prog 9 #[.slice xl L.length cl, .agg #[.int .i64 i, .int .i64 n], .slice xb B.length cb] w fun e w' => e = .returned (.bool true) ∧ Below w.heap.size w w' := by
  obtain ⟨R, E, hA, hB, hR⟩ := both_swap xl xb cl cb L B i n hcl hcb (by omega) (by omega)
  have b0 : ¬ (300 : Int) < (L.length : Int) := by omega
  have b1 : ¬ (300 : Int) < (B.length : Int) := by omega
  have HA := Lib.hid hA
  have HB := Lib.hid hB
  have HL := Lib.hid hl
  have Hb := Lib.hid hb
  have HS := Lib.hid hs
  have HR := Lib.hid hR
  have G0 := Lib.hid ((Below.refl w.heap.size w).alloc (Nat.le_refl _) (.cells #[.int .i64 i, .int .i64 n] 43))
  have hrow : (w.alloc (.cells #[.int .i64 i, .int .i64 n] 43)).heap[w.heap.size]? = some (.cells #[.int .i64 i, .int .i64 n] 43 (0, 0)) := heap_alloc_new w _
  have HRow := Lib.hid hrow
  have t1 : (E == E) = true := beq_self_eq_true _
  clear hA hB hl hb hs hR hrow
  go_enter Tryz.func9, Tryz.ntmps9
  go_upto_region 3 with fail
  generalize w.alloc (.cells #[.int .i64 i, .int .i64 n] 43) = w0 at G0 HRow ⊢
  obtain ⟨g, hg⟩ : ∃ g, w.heap.size = g := ⟨_, rfl⟩
  have HG := Lib.hid hg
  rw [hg] at HRow ⊢
  clear hg
  have c0 : w0.cell? ⟨g, 0, none⟩ = some (.int .i64 i) := by rw [cell_of_row w0 g 0 _ _ _ HRow.out]; rfl
  have c1 : w0.cell? ⟨g, 1, none⟩ = some (.int .i64 n) := by rw [cell_of_row w0 g 1 _ _ _ HRow.out]; rfl
  go_wp2_with fail
  refine (HA.out w0 (HL.out.keep G0.out) (Hb.out.keep G0.out)).mono ?_
  rintro e w1 ⟨x1, d1, rfl, p1, g1⟩
  have hgl : g < w0.heap.size := (Array.getElem?_eq_some_iff.1 HRow.out).1
  have k0 : w1.cell? ⟨g, 0, none⟩ = some (.int .i64 i) := (g1.cell (p := ⟨g, 0, none⟩) hgl).trans c0
  have k1 : w1.cell? ⟨g, 1, none⟩ = some (.int .i64 n) := (g1.cell (p := ⟨g, 1, none⟩) hgl).trans c1
  have P1 := Lib.hid p1
  have G1 := Lib.hid (G0.out.trans (g1.mono G0.out.size))
  clear p1 g1 c0 c1
  go_wp2_with fail
  refine (HB.out w1 (HL.out.keep G1.out) (Hb.out.keep G1.out)).mono ?_
  rintro e w2 ⟨x2, d2, rfl, p2, g2⟩
  have P2 := Lib.hid p2
  have P1' := Lib.hid (P1.out.keep g2)
  have G2 := Lib.hid (G1.out.trans (g2.mono G1.out.size))
  clear p2 g2 k0 k1
  go_wp2_with fail
  refine (fixed11_any w2 (HS.out.keep G2.out)).mono ?_
  rintro e w3 ⟨rfl, g3⟩
  have HSm := Lib.hid (rsame_any x1 x2 d1 d2 R w3 (P1'.out.keep g3) (P2.out.keep g3) HR.out)
  have G3 := Lib.hid (G2.out.trans (g3.mono G2.out.size))
  clear g3
  go_wp2_with fail
  refine HSm.out.mono ?_
  rintro e w4 ⟨rfl, d, rfl⟩
  go_wp2
  go_ret
  exact ⟨rfl, G3.out.trans ((drw_below d).mono G3.out.size)⟩
theorem nil_cap {w : World} {a : Option Addr} {len cap : Nat} {Z : List Pt} (h : PtArg w a len cap Z) : a = none → cap = 0 := fun e => by
  obtain ⟨h1, _, _, h4, _⟩ := h
  by_cases hc : 0 < Z.length
  · obtain ⟨g, o, hx, _⟩ := h4 hc
    rw [e] at hx; cases hx
  · omega
/-- TermSwaps. -/
theorem walk_TermSwaps (a : Option Addr) (len cap : Nat) (Z : List Pt) (i n : Int) (b : Option Addr) (lenB capB : Nat) (Y : List Pt) (w : World) (h : PtArg w a len cap Z) (_ : cap * 32 ≤ 140737488351232 ∧ ∀ i, i < Z.length → (nthP Z i).x.size ≤ 140737488351232) (_ : (Lit.int .i64 i).wf = true) (_ : (Lit.int .i64 n).wf = true) (k : PtArg w b lenB capB Y) (_ : capB * 32 ≤ 140737488351232 ∧ ∀ i, i < Y.length → (nthP Y i).x.size ≤ 140737488351232) (hs : Snt w) :
    Calls Tryz.prog 9 #[.slice a len cap, .agg #[.int .i64 i, .int .i64 n], .slice b lenB capB] w fun e w' => e = .returned (.bool true) ∧ Below w.heap.size w w' := by
  have hl := h.len_eq
  have hR := h.read
  have hc := h.2.1
  have kl := k.len_eq
  have kR := k.read
  have kc := nil_cap k
  obtain ⟨L, hL⟩ : ∃ L, Z.take len = L := ⟨_, rfl⟩
  obtain ⟨B, hB⟩ : ∃ B, Y.take lenB = B := ⟨_, rfl⟩
  rw [hL] at hl hR
  rw [hB] at kl kR
  subst hl kl
  by_cases hb : 300 < L.length ∨ 300 < B.length
  · exact swaps_great a b cap capB L B i n w hs hb
  · exact swaps_small a b cap capB L B i n w hs ⟨hR, by omega⟩ ⟨kR, by omega⟩ (by omega) (by omega) hc kc
end Go.Proofs.YtklmiabgalanhaaGreatDoor
