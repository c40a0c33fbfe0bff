/- Contract of scan.All: the lexemes of a text. -/
import Derived.Test.YtnkgbmnjehpkgabGreatGU
import Derived.Laws.MakeOwn
import Derived.Deep.AppendLies
import Derived.Laws.StructEq
import Derived.Deep.QuietTactic
import Derived.BigQuiet
namespace Go.Proofs.YtnkgbmnjehpkgabGreat
open Go.RowKit Em
set_option maxRecDepth 100000
set_option linter.unusedVariables false

theorem info_tok : (Tryz.prog.info? 41).map (fun i => (i.zero, i.size, i.bytes)) = some (some (.agg #[.int .u8 0, .int .i64 0, .int .i64 0]), 3, 24) := by kernel_rfl

def tCells (l : List Sc.Tk) : List Value := l.flatMap fun e => [Value.int .u8 (e.k : Nat), .int .i64 (e.f : Nat), .int .i64 (e.t : Nat)]
theorem tCells_len : ∀ l : List Sc.Tk, (tCells l).length = l.length * 3
  | [] => rfl
  | e :: l => by
    have h : tCells (e :: l) = [Value.int .u8 (e.k : Nat), .int .i64 (e.f : Nat), .int .i64 (e.t : Nat)] ++ tCells l := rfl
    rw [h, List.length_append, tCells_len l, List.length_cons]; simp; omega
theorem tCells_snoc (l : List Sc.Tk) (e : Sc.Tk) : tCells (l ++ [e]) = tCells l ++ [Value.int .u8 (e.k : Nat), .int .i64 (e.f : Nat), .int .i64 (e.t : Nat)] := by simp [tCells]

/-- The token of a place. -/
def nthT (L : List Sc.Tk) (i : Nat) : Sc.Tk := L.getD i ⟨0, 0, 0⟩
theorem tCells_at : ∀ (R : List Sc.Tk) (i : Nat), i < R.length → (tCells R)[i * 3]? = some (.int .u8 (nthT R i).k) ∧ (tCells R)[i * 3 + 1]? = some (.int .i64 (nthT R i).f) ∧ (tCells R)[i * 3 + 2]? = some (.int .i64 (nthT R i).t)
  | [], i, hi => by simp at hi
  | e :: l, 0, _ => ⟨rfl, rfl, rfl⟩
  | e :: l, i + 1, hi => by
    obtain ⟨a, b, c⟩ := tCells_at l i (by simpa using hi)
    have h : tCells (e :: l) = Value.int .u8 (e.k : Nat) :: .int .i64 (e.f : Nat) :: .int .i64 (e.t : Nat) :: tCells l := rfl
    have n : nthT (e :: l) (i + 1) = nthT l i := rfl
    rw [h, n]
    refine ⟨?_, ?_, ?_⟩
    · rw [show (i + 1) * 3 = i * 3 + 1 + 1 + 1 by omega]; simpa using a
    · rw [show (i + 1) * 3 + 1 = i * 3 + 1 + 1 + 1 + 1 by omega]; simpa using b
    · rw [show (i + 1) * 3 + 2 = i * 3 + 2 + 1 + 1 + 1 by omega]; simpa using c

/-- Tokens in memory, as they are read. -/
def TkI (w : World) (x : Option Addr) (L : List Sc.Tk) : Prop :=
  0 < L.length → ∃ g, x = some ⟨g, 0, none⟩ ∧ g < w.heap.size ∧ ∀ i, i < L.length →
    w.cell? ⟨g, i * 3, none⟩ = some (.int .u8 (nthT L i).k) ∧ w.cell? ⟨g, i * 3 + 1, none⟩ = some (.int .i64 (nthT L i).f) ∧ w.cell? ⟨g, i * 3 + 2, none⟩ = some (.int .i64 (nthT L i).t)
theorem TkI.keep {w w' : World} {x : Option Addr} {L : List Sc.Tk} (h : TkI w x L) (hb : Below w.heap.size w w') : TkI w' x L := by
  intro hn
  obtain ⟨g, hx, hg, hc⟩ := h hn
  exact ⟨g, hx, Nat.lt_of_lt_of_le hg hb.size, fun i hi => ⟨(hb.cell hg).trans (hc i hi).1, (hb.cell hg).trans (hc i hi).2.1, (hb.cell hg).trans (hc i hi).2.2⟩⟩
theorem tkI_of_owns {w : World} {B e : Nat} {v : Value} {R : List Sc.Tk} (h : w.ownsRow B e 3 v R.length (tCells R)) :
    ∃ (x : Option Addr) (c : Nat), v = .slice x R.length c ∧ TkI w x R ∧ ∀ g o, x = some ⟨g, o, none⟩ → B ≤ g := by
  rcases h.2 with ⟨rfl, h0⟩ | ⟨g, cap, cur, rfl, hb, hg, hn, _, hs, ht⟩
  · exact ⟨none, 0, by rw [h0], fun h => by omega, fun g o e => by cases e⟩
  · refine ⟨_, cap, rfl, fun hp => ⟨g, rfl, (Array.getElem?_eq_some_iff.1 hg).1, fun i hi => ?_⟩, fun g' o e => by cases e; exact hb⟩
    have hc := h.cells (g := g) rfl
    obtain ⟨a, b, c⟩ := tCells_at R i hi
    have ad : ∀ j, (⟨g, 0, none⟩ : Addr).add j = ⟨g, j, none⟩ := fun j => by unfold Addr.add; split <;> simp_all
    have a' := hc _ _ a
    have b' := hc _ _ b
    have c' := hc _ _ c
    rw [ad] at a' b' c'
    exact ⟨a', b', c'⟩

/-- What All answers: the lexemes, the error, its place. -/
def allA (s : ByteArray) : List Sc.Tk × Int × Int :=
  if 65536 < s.size then ([], 2, 0)
  else if 0 ≤ Sc.clnI s then ([], 3, Sc.clnI s)
  else match (Sc.lexs isW s.size 0 (bl s)).2 with
    | none => ((Sc.lexs isW s.size 0 (bl s)).1, 0, 0)
    | some p => ([], 4, p)
def AllP (s : ByteArray) (w : World) (e : Ending) (w' : World) : Prop :=
  ∃ v, e = .returned (.tuple #[v, fauV (allA s).2.1 (allA s).2.2]) ∧ w'.ownsRow w.heap.size 41 3 v (allA s).1.length (tCells (allA s).1) ∧ Below w.heap.size w w'

theorem fau_box (w : World) : FBox (w.alloc (.cells #[.int .i64 0, .int .i64 0] 27)) w.heap.size 0 0 := heap_alloc_new w _
theorem fau_below (w : World) : Below w.heap.size w (w.alloc (.cells #[.int .i64 0, .int .i64 0] 27)) := (Below.refl _ _).alloc (Nat.le_refl _) _
theorem bset2 {B g : Nat} {w w' : World} (h : Below B w w') (hg : B ≤ g) (a b : Value) : Below B w ((w'.setCell ⟨g, 0, none⟩ a).setCell ⟨g, 1, none⟩ b) :=
  (h.setCell (p := ⟨g, 0, none⟩) hg a).setCell (p := ⟨g, 1, none⟩) hg b
theorem FBox.set {w : World} {g : Nat} {e a : Int} (h : FBox w g e a) (e' a' : Int) : FBox ((w.setCell ⟨g, 0, none⟩ (.int .i64 e')).setCell ⟨g, 1, none⟩ (.int .i64 a')) g e' a' := h.set0.set1
theorem grown_box {w w' : World} {row : Option Nat} (h : w.grownBy w' row) {g : Nat} {e a : Int} (hk : FBox w g e a) (hne : some g ≠ row) : FBox w' g e a := (h.block g hk.lt hne).trans hk
theorem grown_tbox {w w' : World} {row : Option Nat} (h : w.grownBy w' row) {g : Nat} {k f t : Int} (hk : TBox w g k f t) (hne : some g ≠ row) : TBox w' g k f t := (h.block g hk.lt hne).trans hk

theorem owns_far2 {w : World} {base g : Nat} {e : TypeId} {size : Nat} {v : Value} {n : Nat} {xs : List Value} (h : w.ownsRow base e size v n xs) (hg : g < base) (a b : Value) : ((w.setCell ⟨g, 0, none⟩ a).setCell ⟨g, 1, none⟩ b).ownsRow base e size v n xs :=
  own_far (own_far h ⟨g, 0, none⟩ a hg) ⟨g, 1, none⟩ b hg

set_option maxHeartbeats 4000000 in
theorem all_scan (s : ByteArray) (w : World) (hm : Mx w) : Calls Tryz.prog 14 #[.string s] w (AllP s w) := by
  have Hbx := Lib.hid (fau_box w)
  have Hb := Lib.hid (fau_below w)
  by_cases h1 : 65536 < s.size
  · have e1 : allA s = ([], 2, 0) := if_pos h1
    unfold AllP
    rw [e1]
    have h1' : (65536 : Int) < (s.size : Int) := by omega
    have k0 := Hbx.out.c0
    have k1 := Hbx.out.c1
    have f0 := Hbx.out.free 0
    have f1 := Hbx.out.free 1
    have Hb2 := Lib.hid ((Below.refl w.heap.size w).alloc (Nat.le_refl _) (.cells #[.int .i64 2, .int .i64 0] 27))
    clear e1 h1
    go_enter Tryz.func14, Tryz.ntmps14
    go_wp2
    refine bodyPost_ret (v := .tuple #[.slice none 0 0, fauV 2 0]) ?_ ?_ ?_
    · simp [fauV, results, Tryz.results14, go_sem]
    · rfl
    · exact ⟨_, rfl, World.ownsRow_nil _ _ _ _, Hb2.out⟩
  have h1' : ¬ (65536 : Int) < (s.size : Int) := by omega
  have HC := Lib.hid (fun w => clean_any s w)
  by_cases h2 : 0 ≤ Sc.clnI s
  · have e1 : allA s = ([], 3, Sc.clnI s) := by unfold allA; rw [if_neg h1, if_pos h2]
    unfold AllP
    rw [e1]
    clear e1
    generalize Sc.clnI s = cl at HC h2 ⊢
    go_enter Tryz.func14, Tryz.ntmps14
    go_wp2_with fail
    refine (HC.out _).mono ?_
    rintro e w1 ⟨rfl, hb1⟩
    have hbx1 := Hbx.out.keep hb1
    have k0 := hbx1.c0
    have k1 := hbx1.c1
    have f0 := hbx1.free 0
    have f1 := hbx1.free 1
    have hbf := hbx1.set 3 cl
    have r0 := hbf.c0
    have r1 := hbf.c1
    have Hb2 := Lib.hid (bset2 (Hb.out.trans (hb1.mono (by simp))) (Nat.le_refl _) (.int .i64 3) (.int .i64 cl))
    clear hbx1 hbf hb1
    go_wp2
    refine bodyPost_ret (v := .tuple #[.slice none 0 0, fauV 3 cl]) ?_ ?_ ?_
    · simp [fauV, results, Tryz.results14, go_sem, r0, r1]
    · rfl
    · exact ⟨_, rfl, World.ownsRow_nil _ _ _ _, Hb2.out⟩
  obtain ⟨i0, hi, hz0, hz1, hz2⟩ := info_parts info_tok
  have HW := Lib.hid (clean_wf (s := s) (by omega))
  have HA : Hid (allA s = match (Sc.lexs isW s.size 0 (bl s)).2 with | none => ((Sc.lexs isW s.size 0 (bl s)).1, 0, 0) | some p => ([], 4, (p : Int))) := Lib.hid (by unfold allA; rw [if_neg h1, if_neg h2])
  have Hm := Lib.hid hm
  have hd : ¬ (0 : Int) ≤ Sc.clnI s := h2
  generalize Sc.clnI s = cl at HC hd
  clear h2 hm
  go_enter Tryz.func14, Tryz.ntmps14
  go_wp2_with fail
  refine (HC.out _).mono ?_
  rintro e w1 ⟨rfl, hb1⟩
  have Hbx1 := Lib.hid (Hbx.out.keep hb1)
  have Hb1 := Lib.hid (Hb.out.trans (hb1.mono (by simp)))
  clear hb1
  go_wp2
  go_loopw [5, 6] (fun v at' wr => ∃ (p f n : Nat) (acc : List Sc.Tk), at' = .int .i64 p ∧ p ≤ s.size ∧ s.size ≤ p + f ∧ n ≤ p ∧ Hid (acc.length = n) ∧
      Hid (acc ++ (Sc.lexs isW f p ((bl s).drop p)).1 = (Sc.lexs isW s.size 0 (bl s)).1 ∧ (Sc.lexs isW f p ((bl s).drop p)).2 = (Sc.lexs isW s.size 0 (bl s)).2) ∧ Hid (Sc.Wf ((bl s).drop p)) ∧
      wr.ownsRow (w.heap.size + 1) 41 3 v n (tCells acc) ∧ FBox wr w.heap.size 0 0 ∧ Below w.heap.size w wr) (fun _ at' _ => s.size - (intOf at').toNat)
  case atStart => exact ⟨0, s.size, 0, [], rfl, by omega, by omega, by omega, Lib.hid rfl, Lib.hid ⟨rfl, rfl⟩, HW, World.ownsRow_nil _ _ _ _, Hbx1.out, Hb1.out⟩
  case round =>
    obtain ⟨p, f, n, acc, rfl, hp, hf, hn, Hlen, HL, Hwf, hown, hfb, hb⟩ := hrel
    have Hfb := Lib.hid hfb
    have HB := Lib.hid hb
    have hgs := hb.size
    have hlt := hfb.lt
    by_cases hlt2 : p < s.size
    · have hne : (bl s).drop p ≠ [] := fun e => by
        have := congrArg List.length e
        rw [List.length_drop, bl_size] at this
        simp at this; omega
      obtain ⟨g, rfl⟩ : ∃ g, f = g + 1 := ⟨f - 1, by omega⟩
      have HX := Lib.hid (fun w hm => lexeme_any s p w hlt2 (by omega) Hwf.out hm)
      have hcut := Sc.lex_cut isW Hwf.out
      have hk := Sc.lex_kind isW ((bl s).drop p)
      rw [List.length_drop, bl_size] at hcut
      have hpi : (p : Int) < (s.size : Int) := by omega
      by_cases hz : (Sc.lex isW ((bl s).drop p)).2 = 0
      · have hfin : allA s = ([], 4, (p : Int)) := by rw [HA.out, ← HL.out.2, Sc.lexs_no isW hne hz]
        rw [lexV_no hz] at HX
        dsimp only [tokV] at HX
        have Hfin := Lib.hid hfin
        clear hfin hz hcut hne hb hfb
        go_wp2_with fail
        refine (HX.out _ (Hm.out.keep HB.out)).mono ?_
        rintro e w3 ⟨rfl, hb3⟩
        have g1 := Hfb.out.keep hb3
        have hlt3 := g1.lt
        have k0 := g1.c0
        have k1 := g1.c1
        have f0 := g1.free 0
        have f1 := g1.free 1
        have hbf := (g1.set 4 p).alloc (.cells #[.int .u8 0, .int .i64 0, .int .i64 0] 41)
        have r0 := hbf.c0
        have r1 := hbf.c1
        have hb4 := HB.out.trans (hb3.mono HB.out.size)
        have Hb4 := Lib.hid ((bset2 hb4 (Nat.le_refl _) (.int .i64 4) (.int .i64 p)).alloc (by have := hb4.size; simp; omega) (.cells #[.int .u8 0, .int .i64 0, .int .i64 0] 41))
        clear g1 hbf hb3 hb4
        go_wp2
        refine bodyPost_ret (v := .tuple #[.slice none 0 0, fauV 4 p]) ?_ ?_ ?_
        · simp [fauV, results, Tryz.results14, go_sem, r0, r1]
        · rfl
        · unfold AllP
          rw [Hfin.out]
          exact ⟨_, rfl, World.ownsRow_nil _ _ _ _, Hb4.out⟩
      · obtain ⟨c1, _, c3⟩ := hcut hz
        have hst := Sc.lexs_yes isW (f := g) (p := p) hne hz
        rw [lexV_yes hz] at HX
        dsimp only [tokV] at HX
        rw [List.drop_drop] at hst c3
        have hm0 : 0 < (Sc.lex isW ((bl s).drop p)).2 := by omega
        generalize (Sc.lex isW ((bl s).drop p)).2 = m at HX hst c1 c3 hm0
        generalize (Sc.lex isW ((bl s).drop p)).1 = k at HX hst hk
        have Hst := Lib.hid hst
        have Hc3 := Lib.hid c3
        clear hst c3 hz hne hb hfb hcut
        go_wp2_with fail
        refine (HX.out _ (Hm.out.keep HB.out)).mono ?_
        rintro e w3 ⟨rfl, hb3⟩
        have Hfb3 := Lib.hid (Hfb.out.keep hb3)
        have hb4 := HB.out.trans (hb3.mono HB.out.size)
        have hgs4 := hb4.size
        have hgs5 := (Hfb.out.keep hb3).lt
        have hown3 := (own_below hown hb3).alloc (.cells #[.int .u8 k, .int .i64 p, .int .i64 ((p + m : Nat) : Int)] 41)
        have hl3 := (own_below hown hb3).lt
        have Hb4 := Lib.hid (hb4.alloc hgs4 (.cells #[.int .u8 k, .int .i64 p, .int .i64 ((p + m : Nat) : Int)] 41))
        have Hl3 := Lib.hid hl3
        have htb : TBox (w3.alloc (.cells #[.int .u8 k, .int .i64 p, .int .i64 ((p + m : Nat) : Int)] 41)) w3.heap.size k p ((p + m : Nat) : Int) := heap_alloc_new w3 _
        have Htb := Lib.hid htb
        clear hb3 hb4 htb hown hl3
        go_wp2_with (at_builtin; refine wpList_append_own _ rfl _ _ 23 rfl (w.heap.size + 1) 41 i0 _ 3 24 Tryz.underlying23 hi hz0 hz1 hz2 rfl (by decide) _ n (tCells acc) rfl (hown3.alloc _) ⟨w3.heap.size + 1, 0, none⟩ 1 1 [.int .u8 k, .int .i64 p, .int .i64 ((p + m : Nat) : Int)] rfl rfl ?c1 ?c2 ?c3 ?c4 ?c5 ?_)
        case c1 =>
          have := World.news_of_block (cs := #[.int .u8 k, .int .i64 p, .int .i64 ((p + m : Nat) : Int)]) (t := 41) (fr := (0, 0)) (heap_alloc_new (w3.alloc (.cells #[.int .u8 k, .int .i64 p, .int .i64 ((p + m : Nat) : Int)] 41)) (.cells #[.int .u8 k, .int .i64 p, .int .i64 ((p + m : Nat) : Int)] 41))
          simpa using this
        case c2 => simp [Value.oneCell']
        case c3 => unfold maxLen; omega
        case c4 => omega
        case c5 => simp; omega
        · intro v' w5 hown5 hgrow _
          have hb6 : Below w.heap.size w w5 := (Hb4.out.alloc (by simp; omega) _).grown hgrow (by simp; omega) (fun k e => by have := (Hl3.out k e).1; omega)
          have hfb6 : FBox w5 w.heap.size 0 0 := grown_box hgrow ((Hfb3.out.alloc _).alloc _) (fun e => by have := (Hl3.out _ e.symm).1; omega)
          have htb6 := grown_tbox hgrow (Htb.out.alloc _) (fun e => by have := (Hl3.out _ e.symm).2; omega)
          have t2 := htb6.c2
          clear htb6 hgrow
          go_wp2
          go_roundw
          case rel => exact ⟨p + m, g, n + 1, acc ++ [⟨k, p, p + m⟩], rfl, by omega, by omega, by omega, Lib.hid (by rw [List.length_append, Hlen.out]; rfl), Lib.hid (by
            have h1 := HL.out.1
            have h2 := HL.out.2
            rw [Hst.out] at h1 h2
            refine ⟨?_, h2⟩
            rw [← h1, List.append_assoc]; rfl), Hc3, by rw [tCells_snoc]; exact hown5, hfb6, hb6⟩
          case measure => simp [intOf]; omega
    · have hdn : (bl s).drop p = [] := List.drop_of_length_le (by rw [bl_size]; omega)
      have hfin : allA s = (acc, 0, 0) := by
        have h1 := HL.out.1
        have h2 := HL.out.2
        rw [hdn, Sc.lexs_nil] at h1 h2
        rw [HA.out, ← h2, ← h1]
        simp
      have Hfin := Lib.hid hfin
      have hpi : ¬ (p : Int) < (s.size : Int) := by omega
      have k0 := hfb.c0
      have k1 := hfb.c1
      have f0 := hfb.free 0
      have f1 := hfb.free 1
      have hbf := hfb.set 0 0
      have r0 := hbf.c0
      have r1 := hbf.c1
      have Hown := Lib.hid (owns_far2 hown (g := w.heap.size) (by omega) (.int .i64 0) (.int .i64 0))
      have Hb2 := Lib.hid (bset2 hb (Nat.le_refl _) (.int .i64 0) (.int .i64 0))
      clear hfin hdn hbf hb hfb hown
      go_wp2
      refine bodyPost_ret (v := .tuple #[u5, fauV 0 0]) ?_ ?_ ?_
      · simp [fauV, results, Tryz.results14, go_sem, r0, r1]
      · rfl
      · unfold AllP
        rw [Hfin.out]
        refine ⟨_, rfl, ?_, Hb2.out⟩
        rw [Hlen.out]
        exact own_weaken Hown.out (by omega)
end Go.Proofs.YtnkgbmnjehpkgabGreat

/- Two tokens, two faults compared; the laws' helper 'fixed' of layer 7: the document's examples. -/
namespace Go.Proofs.YtnkgbmnjehpkgabGreat
open Go.RowKit Em
set_option maxRecDepth 100000
set_option linter.unusedVariables false

def tkFields : Array Field := #[⟨"Kind", 5, 0, false, "", "", 0⟩, ⟨"From", 3, 1, false, "", "", 8⟩, ⟨"To", 3, 2, false, "", "", 16⟩]
theorem fieldsOf_tok : Tryz.prog.fieldsOf 41 = tkFields := by
  unfold Program.fieldsOf
  rw [Tryz.underlying41]
  rfl
def tkEq (k f t k' f' t' : Int) : Bool := k == k' && (f == f' && t == t')
theorem run_equal_tok (w : World) (k f t k' f' t' : Int) :
    (Op.equalIn 10000 41 (.agg #[.int .u8 k, .int .i64 f, .int .i64 t]) (.agg #[.int .u8 k', .int .i64 f', .int .i64 t'])).run Tryz.prog w = .ok (tkEq k f t k' f' t') w := by
  have hp : Tryz.prog.stoodInHeld 41 = false := by kernel_rfl
  have ha : ∀ w, (isAgg 3).run Tryz.prog w = .ok false w := fun _ => by kernel_rfl
  have hb : ∀ w, (isAgg 5).run Tryz.prog w = .ok false w := fun _ => by kernel_rfl
  rw [run_equalIn_agg (P := Tryz.prog) w 9999 41 _ _ (by rw [fieldsOf_tok]; exact Tryz.underlying41) hp, fieldsOf_tok]
  have u3 := Tryz.underlying3
  have u9 := Tryz.underlying5
  unfold tkEq
  simp [tkFields, go_sem, u3, u9, ha, hb]
  by_cases h1 : k = k' <;> by_cases h2 : f = f' <;> by_cases h3 : t = t' <;> simp [h1, h2, h3]
theorem guard_tok : Tryz.prog.eqGuardType Tryz.prog.depth 41 = false := by kernel_rfl

def faFields : Array Field := #[⟨"Err", 25, 0, false, "", "", 0⟩, ⟨"At", 3, 1, false, "", "", 8⟩]
theorem fieldsOf_fau : Tryz.prog.fieldsOf 27 = faFields := by
  unfold Program.fieldsOf
  rw [Tryz.underlying27]
  rfl
def faEq (e a e' a' : Int) : Bool := e == e' && a == a'
theorem run_equal_fau (w : World) (e a e' a' : Int) :
    (Op.equalIn 10000 27 (.agg #[.int .i64 e, .int .i64 a]) (.agg #[.int .i64 e', .int .i64 a'])).run Tryz.prog w = .ok (faEq e a e' a') w := by
  have hp : Tryz.prog.stoodInHeld 27 = false := by kernel_rfl
  have ha : ∀ w, (isAgg 3).run Tryz.prog w = .ok false w := fun _ => by kernel_rfl
  have hb : ∀ w, (isAgg 25).run Tryz.prog w = .ok false w := fun _ => by kernel_rfl
  rw [run_equalIn_agg (P := Tryz.prog) w 9999 27 _ _ (by rw [fieldsOf_fau]; exact Tryz.underlying27) hp, fieldsOf_fau]
  have u3 := Tryz.underlying3
  have u9 := Tryz.underlying25
  unfold faEq
  simp [faFields, go_sem, u3, u9, ha, hb]
  by_cases h1 : e = e' <;> by_cases h2 : a = a' <;> simp [h1, h2]
theorem guard_fau : Tryz.prog.eqGuardType Tryz.prog.depth 27 = false := by kernel_rfl

theorem tkEq_self (k f t : Int) : tkEq k f t k f t = true := by simp [tkEq]
theorem faEq_self (e a : Int) : faEq e a e a = true := by simp [faEq]

theorem fx7a : allA ⟨#[120, 58, 61, 49, 46, 53, 47, 47, 99]⟩ = ([⟨1, 0, 1⟩, ⟨8, 1, 3⟩, ⟨4, 3, 6⟩, ⟨11, 6, 9⟩], 0, 0) := by kernel_rfl
theorem fx7b : oneV ⟨#[97, 38, 94, 61, 98]⟩ 1 = .tuple #[tokV 8 1 4, .int .i64 0] := by kernel_rfl
theorem fx7c : allA ⟨#[97, 32, 47, 42, 32, 98]⟩ = ([], 4, 2) := by kernel_rfl

theorem TkI.cells {w : World} {x : Option Addr} {L : List Sc.Tk} (h : TkI w x L) {i : Nat} (hi : i < L.length) : ∃ g, x = some ⟨g, 0, none⟩ ∧ g < w.heap.size ∧
    w.cell? ⟨g, i * 3, none⟩ = some (.int .u8 (nthT L i).k) ∧ w.cell? ⟨g, i * 3 + 1, none⟩ = some (.int .i64 (nthT L i).f) ∧ w.cell? ⟨g, i * 3 + 2, none⟩ = some (.int .i64 (nthT L i).t) := by
  obtain ⟨g, hx, hg, hc⟩ := h (by omega)
  exact ⟨g, hx, hg, hc i hi⟩

end Go.Proofs.YtnkgbmnjehpkgabGreat

