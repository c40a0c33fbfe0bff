/- The reference's sort; the memory of the reference's Nest. -/
import Derived.Test.YtnkgbmnjehpkgabGreatNeDep
import Derived.Test.YtnkgbmnjehpkgabGreatNeWr
import Derived.Test.YtnkgbmnjehpkgabGreatSeROf
namespace Go.Proofs.YtnkgbmnjehpkgabGreat
open Go.RowKit Em
set_option maxRecDepth 100000
set_option linter.unusedVariables false

def srt (k : Nat) (x : List UInt8) : Int := if k = 8 then brk x else 0
/-- Only a sign is a bracket. -/
theorem nb_srt {s : ByteArray} (h : (semA s).2.1 = 0) {i : Nat} (hi : i < (semA s).1.length) : srt (nthT (semA s).1 i).k (cutT s (nthT (semA s).1 i).f (nthT (semA s).1 i).t) = nb s (semA s).1 i := by
  have hA := semA_all h
  unfold srt nb
  by_cases h8 : (nthT (semA s).1 i).k = 8
  · rw [if_pos h8]
  · rw [if_neg h8]
    have hm : nthT (semA s).1 i ∈ semF s (allA s).1 := by rw [semF_all s hA, nthT_get hi]; exact List.getElem_mem _
    rcases semF_mem s _ _ hm with h1 | h1
    · have hal := alone_all hA _ (List.mem_map.2 ⟨_, h1, rfl⟩)
      dsimp only at hal
      have hl := hal.lex
      generalize cutT s (nthT (semA s).1 i).f (nthT (semA s).1 i).t = x at hl
      have no : ∀ c, (c = 40 ∨ c = 41 ∨ c = 91 ∨ c = 93 ∨ c = 123 ∨ c = 125) → x ≠ [UInt8.ofNat c] := by
        intro c hc e
        have h2 := brk_lex c hc []
        rw [List.append_nil, ← e, hl] at h2
        exact h8 (Prod.mk.inj h2).1
      have n1 : x ≠ [40] := no 40 (by omega)
      have n2 : x ≠ [91] := no 91 (by omega)
      have n3 : x ≠ [123] := no 123 (by omega)
      have n4 : x ≠ [41] := no 41 (by omega)
      have n5 : x ≠ [93] := no 93 (by omega)
      have n6 : x ≠ [125] := no 125 (by omega)
      unfold brk
      rw [if_neg n1, if_neg n2, if_neg n3, if_neg n4, if_neg n5, if_neg n6]
    · rw [h1]
      have : cutT s (nthT (semA s).1 i).t (nthT (semA s).1 i).t = [] := by unfold cutT; exact List.drop_of_length_le (by rw [List.length_take]; omega)
      rw [this]; rfl

set_option maxHeartbeats 4000000 in
theorem sort_any (s : ByteArray) (K F U : Nat) (w : World) (h1 : F ≤ U) (h2 : U ≤ s.size) :
    Calls Tryz.prog 13 #[.string s, .agg #[.int .u8 K, .int .i64 F, .int .i64 U]] w fun e w' => e = .returned (.int .i64 (srt K (cutT s F U))) ∧ Below w.heap.size w w' := by
  by_cases h8 : K = 8
  · subst h8
    have l0 : (0 : Int) ≤ (F : Int) := by omega
    have l1 : (F : Int) ≤ (U : Int) := by omega
    have l2 : (U : Int) ≤ (s.size : Int) := by omega
    rw [show srt 8 (cutT s F U) = brk (bl (s.extract F U)) by rw [cutT_ext]; exact if_pos rfl]
    have ht : (s.extract F U).toList = bl (s.extract F U) := Lib.toList_data _
    rcases brk_cases (bl (s.extract F U)) with ⟨hb0, e1, e2, e3, e4, e5, e6⟩ | ⟨_, ⟨hx, hv⟩ | ⟨hx, hv⟩ | ⟨hx, hv⟩⟩ | ⟨_, ⟨hx, hv⟩ | ⟨hx, hv⟩ | ⟨hx, hv⟩⟩
    · have x1 : ((s.extract F U).toList == [40]) = false := by rw [ht]; exact beq_eq_false_iff_ne.2 e1
      have x2 : ((s.extract F U).toList == [91]) = false := by rw [ht]; exact beq_eq_false_iff_ne.2 e2
      have x3 : ((s.extract F U).toList == [123]) = false := by rw [ht]; exact beq_eq_false_iff_ne.2 e3
      have x4 : ((s.extract F U).toList == [41]) = false := by rw [ht]; exact beq_eq_false_iff_ne.2 e4
      have x5 : ((s.extract F U).toList == [93]) = false := by rw [ht]; exact beq_eq_false_iff_ne.2 e5
      have x6 : ((s.extract F U).toList == [125]) = false := by rw [ht]; exact beq_eq_false_iff_ne.2 e6
      rw [hb0]
      clear e1 e2 e3 e4 e5 e6 ht hb0
      go_enter Tryz.func13, Tryz.ntmps13
      go_wp2
      go_ret
      exact ⟨rfl, (Below.refl _ _).alloc (Nat.le_refl _) _⟩
    · have x1 : ((s.extract F U).toList == [40]) = true := by rw [ht, hx]; decide
      rw [hv]
      clear ht hx hv
      go_enter Tryz.func13, Tryz.ntmps13
      go_wp2
      go_ret
      exact ⟨rfl, (Below.refl _ _).alloc (Nat.le_refl _) _⟩
    · have x1 : ((s.extract F U).toList == [40]) = false := by rw [ht, hx]; decide
      have x2 : ((s.extract F U).toList == [91]) = true := by rw [ht, hx]; decide
      rw [hv]
      clear ht hx hv
      go_enter Tryz.func13, Tryz.ntmps13
      go_wp2
      go_ret
      exact ⟨rfl, (Below.refl _ _).alloc (Nat.le_refl _) _⟩
    · have x1 : ((s.extract F U).toList == [40]) = false := by rw [ht, hx]; decide
      have x2 : ((s.extract F U).toList == [91]) = false := by rw [ht, hx]; decide
      have x3 : ((s.extract F U).toList == [123]) = true := by rw [ht, hx]; decide
      rw [hv]
      clear ht hx hv
      go_enter Tryz.func13, Tryz.ntmps13
      go_wp2
      go_ret
      exact ⟨rfl, (Below.refl _ _).alloc (Nat.le_refl _) _⟩
    · have x1 : ((s.extract F U).toList == [40]) = false := by rw [ht, hx]; decide
      have x2 : ((s.extract F U).toList == [91]) = false := by rw [ht, hx]; decide
      have x3 : ((s.extract F U).toList == [123]) = false := by rw [ht, hx]; decide
      have x4 : ((s.extract F U).toList == [41]) = true := by rw [ht, hx]; decide
      rw [hv]
      clear ht hx hv
      go_enter Tryz.func13, Tryz.ntmps13
      go_wp2
      go_ret
      exact ⟨rfl, (Below.refl _ _).alloc (Nat.le_refl _) _⟩
    · have x1 : ((s.extract F U).toList == [40]) = false := by rw [ht, hx]; decide
      have x2 : ((s.extract F U).toList == [91]) = false := by rw [ht, hx]; decide
      have x3 : ((s.extract F U).toList == [123]) = false := by rw [ht, hx]; decide
      have x4 : ((s.extract F U).toList == [41]) = false := by rw [ht, hx]; decide
      have x5 : ((s.extract F U).toList == [93]) = true := by rw [ht, hx]; decide
      rw [hv]
      clear ht hx hv
      go_enter Tryz.func13, Tryz.ntmps13
      go_wp2
      go_ret
      exact ⟨rfl, (Below.refl _ _).alloc (Nat.le_refl _) _⟩
    · have x1 : ((s.extract F U).toList == [40]) = false := by rw [ht, hx]; decide
      have x2 : ((s.extract F U).toList == [91]) = false := by rw [ht, hx]; decide
      have x3 : ((s.extract F U).toList == [123]) = false := by rw [ht, hx]; decide
      have x4 : ((s.extract F U).toList == [41]) = false := by rw [ht, hx]; decide
      have x5 : ((s.extract F U).toList == [93]) = false := by rw [ht, hx]; decide
      have x6 : ((s.extract F U).toList == [125]) = true := by rw [ht, hx]; decide
      rw [hv]
      clear ht hx hv
      go_enter Tryz.func13, Tryz.ntmps13
      go_wp2
      go_ret
      exact ⟨rfl, (Below.refl _ _).alloc (Nat.le_refl _) _⟩
  · rw [show srt K (cutT s F U) = 0 from if_neg h8]
    have n8 : ((K : Int) == 8) = false := beq_eq_false_iff_ne.2 (by omega)
    have n9 : ((K : Int) != 8) = true := by rw [bne, n8]; rfl
    go_enter Tryz.func13, Tryz.ntmps13
    go_wp2
    go_ret
    exact ⟨rfl, (Below.refl _ _).alloc (Nat.le_refl _) _⟩

theorem info_i64 : (Tryz.prog.info? 3).map (fun i => (i.zero, i.size, i.bytes)) = some (some (.int .i64 0), 1, 8) := by kernel_rfl
def iCells (L : List Nat) : List Value := L.map fun (k : Nat) => Value.int .i64 ((k : Nat) : Int)
theorem iCells_len (L : List Nat) : (iCells L).length = L.length := by simp [iCells]
theorem iCells_snoc (L : List Nat) (k : Nat) : iCells (L ++ [k]) = iCells L ++ [.int .i64 (k : Int)] := by simp [iCells]
/-- The memory of the reference's Nest. -/
structure NeR (w wr : World) (b5 : Nat) (x1 : Option Addr) (T : List Sc.Tk) (bp base : Nat) (q : Nat → Int) (v : Value) (st : List Nat) : Prop where
  tk : TkI wr x1 T
  fb : FBox wr b5 0 0
  pr : RI wr bp 3 T.length q
  ow : wr.ownsRow base 3 1 v st.length (iCells st.reverse)
  be : Below w.heap.size w wr
  o1 : w.heap.size ≤ b5
  o2 : b5 < bp
  o3 : bp < base
  o5 : base ≤ wr.heap.size
  o4 : 0 < T.length → ∀ g, x1 = some ⟨g, 0, none⟩ → b5 < g ∧ g < bp
theorem TkI.below {w w' : World} {x : Option Addr} {L : List Sc.Tk} {B : Nat} (h : TkI w x L) (hg : 0 < L.length → ∀ g, x = some ⟨g, 0, none⟩ → g < B) (hb : Below B w w') : TkI w' x L := by
  intro hn
  obtain ⟨g, hx, hl, hc⟩ := h hn
  have hB := hg hn g hx
  exact ⟨g, hx, Nat.lt_of_lt_of_le hl hb.size, fun i hi => ⟨(hb.cell hB).trans (hc i hi).1, (hb.cell hB).trans (hc i hi).2.1, (hb.cell hB).trans (hc i hi).2.2⟩⟩
theorem NeR.turn {w wr w2 : World} {b5 : Nat} {x1 : Option Addr} {T : List Sc.Tk} {bp base : Nat} {q : Nat → Int} {v v' : Value} {st st' : List Nat} (h : NeR w wr b5 x1 T bp base q v st)
    (hb : Below base wr w2) (how : w2.ownsRow base 3 1 v' st'.length (iCells st'.reverse)) : NeR w w2 b5 x1 T bp base q v' st' := by
  have h1 := h.o1; have h2 := h.o2; have h3 := h.o3; have h5 := h.o5; have h4 := h.o4
  refine ⟨h.tk.below (fun hn g hg => by have := h4 hn g hg; omega) hb, (hb.block b5 (by omega)).trans h.fb, ?_, how, h.be.trans (hb.mono (by omega)), h1, h2, h3, Nat.le_trans h5 hb.size, h4⟩
  obtain ⟨cs, c1, c2⟩ := h.pr
  exact ⟨cs, (hb.block bp h3).trans c1, c2⟩
theorem NeR.keep {w wr w2 : World} {b5 : Nat} {x1 : Option Addr} {T : List Sc.Tk} {bp base : Nat} {q : Nat → Int} {v : Value} {st : List Nat} (h : NeR w wr b5 x1 T bp base q v st) (hb : Below wr.heap.size wr w2) : NeR w w2 b5 x1 T bp base q v st :=
  h.turn (hb.mono h.o5) (own_below h.ow hb)
theorem NeR.setP {w wr : World} {b5 : Nat} {x1 : Option Addr} {T : List Sc.Tk} {bp base : Nat} {q : Nat → Int} {v : Value} {st : List Nat} (h : NeR w wr b5 x1 T bp base q v st) (k : Nat) (u : Int) : NeR w (wr.setCell ⟨bp, k, none⟩ (.int .i64 u)) b5 x1 T bp base (upd q k u) v st := by
  have h1 := h.o1; have h2 := h.o2; have h3 := h.o3; have h4 := h.o4
  exact ⟨h.tk.far (fun hn g hg => by have := h4 hn g hg; show g ≠ bp; omega) _, h.fb.far (show b5 ≠ bp by omega) _, h.pr.set k u, own_far h.ow ⟨bp, k, none⟩ _ h3, h.be.setCell (show w.heap.size ≤ bp by omega) _, h1, h2, h3, by simpa [World.setCell] using h.o5, h4⟩
theorem NeR.congP {w wr : World} {b5 : Nat} {x1 : Option Addr} {T : List Sc.Tk} {bp base : Nat} {q q' : Nat → Int} {v : Value} {st : List Nat} (h : NeR w wr b5 x1 T bp base q v st) (hq : ∀ k, k < T.length → q k = q' k) : NeR w wr b5 x1 T bp base q' v st :=
  ⟨h.tk, h.fb, h.pr.cong hq, h.ow, h.be, h.o1, h.o2, h.o3, h.o5, h.o4⟩
theorem NeR.push {w wr : World} {b5 : Nat} {x1 : Option Addr} {T : List Sc.Tk} {bp base : Nat} {q : Nat → Int} {v : Value} {st : List Nat} (h : NeR w wr b5 x1 T bp base q v st) (i : Nat) (hl : st.length ≤ 100) :
    ∃ (y : Option Addr) (c : Nat) (w2 : World), (Builtin.append_ #[24, 24] 24 #[v, .slice (some ⟨wr.heap.size, 0, none⟩) 1 1]).run Tryz.prog (wr.alloc (.cells #[.int .i64 (i : Int)] 3)) = .ok (.slice y (st.length + 1) c) w2
      ∧ NeR w w2 b5 x1 T bp base q (.slice y (st.length + 1) c) (i :: st) := by
  obtain ⟨i0, hi, hz0, hz1, hz2⟩ := info_parts info_i64
  have hlt := h.ow.lt
  obtain ⟨v', w2, hrun, hown, hgrow, _⟩ := run_append_own (P := Tryz.prog) (wr.alloc (.cells #[.int .i64 (i : Int)] 3)) base 24 24 3 i0 (.int .i64 0) 1 8 Tryz.underlying24 hi hz0 hz1 hz2 rfl (by decide) v st.length (iCells st.reverse) (h.ow.alloc _) ⟨wr.heap.size, 0, none⟩ 1 1 [.int .i64 (i : Int)]
    rfl (World.news_of_block (cs := #[.int .i64 (i : Int)]) (t := 3) (fr := (0, 0)) (heap_alloc_new wr _)) (by simp [Value.oneCell']) (by unfold maxLen; omega) (by omega) (by have := h.o5; simp; omega)
  obtain ⟨y, c, rfl⟩ := own_slice hown
  refine ⟨y, c, w2, hrun, h.turn (((Below.refl base wr).alloc h.o5 _).grown hgrow (by have := h.o5; simp; omega) (fun k e => (hlt k e).1)) ?_⟩
  rw [List.length_cons, List.reverse_cons, iCells_snoc]
  exact hown
theorem NeR.top {w wr : World} {b5 : Nat} {x1 : Option Addr} {T : List Sc.Tk} {bp base : Nat} {q : Nat → Int} {v : Value} {j : Nat} {r : List Nat} (h : NeR w wr b5 x1 T bp base q v (j :: r)) :
    ∃ (g c : Nat), v = .slice (some ⟨g, 0, none⟩) (r.length + 1) c ∧ r.length + 1 ≤ c ∧ wr.cell? ⟨g, r.length, none⟩ = some (.int .i64 (j : Int)) ∧ (∀ k u, (iCells r.reverse)[k]? = some u → wr.cell? ⟨g, k, none⟩ = some u) := by
  have ho := h.ow
  rw [List.length_cons, List.reverse_cons, iCells_snoc] at ho
  rcases ho.2 with ⟨rfl, h0⟩ | ⟨g, cap, cur, rfl, hb, hg, hn, _, hs, ht⟩
  · omega
  · have hc := ho.cells (g := g) rfl
    refine ⟨g, cap, rfl, hn, ?_, fun k u hu => ?_⟩
    · have := hc r.length (.int .i64 (j : Int)) (by
        rw [List.getElem?_append_right (by rw [iCells_len, List.length_reverse]; omega), iCells_len, List.length_reverse, Nat.sub_self]; rfl)
      have ea : (⟨g, 0, none⟩ : Addr).add r.length = ⟨g, r.length, none⟩ := by unfold Addr.add; split <;> simp_all
      rwa [ea] at this
    · have hk : k < (iCells r.reverse).length := (List.getElem?_eq_some_iff.1 hu).1
      have := hc k u (by rw [List.getElem?_append_left hk]; exact hu)
      have ea : (⟨g, 0, none⟩ : Addr).add k = ⟨g, k, none⟩ := by unfold Addr.add; split <;> simp_all
      rwa [ea] at this
theorem NeR.pop {w wr : World} {b5 : Nat} {x1 : Option Addr} {T : List Sc.Tk} {bp base : Nat} {q : Nat → Int} {j : Nat} {r : List Nat} {g c : Nat} (h : NeR w wr b5 x1 T bp base q (.slice (some ⟨g, 0, none⟩) (r.length + 1) c) (j :: r)) (hl : r.length ≤ 100)
    (hc : ∀ k u, (iCells r.reverse)[k]? = some u → wr.cell? ⟨g, k, none⟩ = some u) :
    ∃ (y : Option Addr) (c2 : Nat) (w2 : World), (Builtin.append_ #[24, 24] 24 #[.slice (some ⟨wr.heap.size, 0, none⟩) 0 0, .slice (some ⟨g, 0, none⟩) r.length c]).run Tryz.prog (wr.alloc (.cells #[] 3)) = .ok (.slice y r.length c2) w2
      ∧ NeR w w2 b5 x1 T bp base q (.slice y r.length c2) r := by
  obtain ⟨i0, hi, hz0, hz1, hz2⟩ := info_parts info_i64
  have hown0 := World.ownsRow_made (base := base) (e := 3) (size := 1) wr #[] 0 h.o5 (by unfold maxLen; omega) rfl
  have hba : Below wr.heap.size wr (wr.alloc (.cells #[] 3)) := (Below.refl _ _).alloc (Nat.le_refl _) _
  obtain ⟨v', w2, hrun, hown, hgrow, _⟩ := run_append_own (P := Tryz.prog) (wr.alloc (.cells #[] 3)) base 24 24 3 i0 (.int .i64 0) 1 8 Tryz.underlying24 hi hz0 hz1 hz2 rfl (by decide) _ 0 [] hown0 ⟨g, 0, none⟩ r.length c (iCells r.reverse)
    (by rw [iCells_len, List.length_reverse, Nat.mul_one]) (fun k u hu => by
      have h1 := hc k u hu
      have h2 := World.block_lt_of_cell? wr _ h1
      have e2 : (⟨g, 0, none⟩ : Addr).add k = ⟨g, k, none⟩ := by unfold Addr.add; split <;> simp_all
      rw [e2, hba.cell h2, h1]) (fun u hu => by unfold iCells at hu; obtain ⟨b, _, rfl⟩ := List.mem_map.1 hu; rfl) (by unfold maxLen; omega) (by omega) (by have := h.o5; simp; omega)
  obtain ⟨y, c2, rfl⟩ := own_slice hown
  rw [Nat.zero_add] at hrun hown
  refine ⟨y, c2, w2, hrun, h.turn (((Below.refl base wr).alloc h.o5 _).grown hgrow (by have := h.o5; simp; omega) (fun k e => ?_)) (by simpa using hown)⟩
  have := hown0.lt k e
  omega
end Go.Proofs.YtnkgbmnjehpkgabGreat

