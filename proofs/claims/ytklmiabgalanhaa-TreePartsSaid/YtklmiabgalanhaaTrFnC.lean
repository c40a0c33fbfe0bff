/- Contract of the closure in tree.Own. -/
import Derived.Test.YtklmiabgalanhaaTrFnB
namespace Go.Proofs.Ytklmiabgalanhaa
open Go.RowKit Km Tm
set_option maxRecDepth 100000
set_option linter.unusedVariables false

/-- Numbers of nodes in memory, as they are read. -/
def SlI (w : World) (a : Option Addr) (r : List Nat) : Prop :=
  0 < r.length → ∃ g o, a = some ⟨g, o, none⟩ ∧ (∃ cs fz, w.heap[g]? = some (.cells cs 3 fz)) ∧ ∀ j, j < r.length → w.cell? ⟨g, o + j, none⟩ = some (.int .i64 ((r.getD j 0 : Nat) : Int))
theorem SlI.keep {w w' : World} {a : Option Addr} {r : List Nat} (h : SlI w a r) (hb : Below w.heap.size w w') : SlI w' a r := by
  intro hn
  obtain ⟨g, o, hx, ⟨cs, fz, hg⟩, hc⟩ := h hn
  have hl := (Array.getElem?_eq_some_iff.1 hg).1
  exact ⟨g, o, hx, ⟨cs, fz, (hb.block g hl).trans hg⟩, fun j hj => (hb.cell hl).trans (hc j hj)⟩
/-- The memory of the closure. -/
structure OwM (w0 w : World) (x : Option Addr) (c : Nat) (L : List Nd) (kb lb : Nat) (a : Option Addr) (cc : Nat) (r : List Nat) : Prop where
  be : Below w0.heap.size w0 w
  k1 : w.heap[kb]? = some (.cells #[.slice a r.length cc] 30 (0, 0))
  k2 : w0.heap.size ≤ kb
  l1 : w.heap[lb]? = some (.cells #[.slice x L.length c] 22 (0, 0))
  sl : SlI w a r
  cp : r.length ≤ cc
  sb : 0 < r.length → ∀ g o, a = some ⟨g, o, none⟩ → g < kb
theorem OwM.keep {w0 w w' : World} {x : Option Addr} {c : Nat} {L : List Nd} {kb lb : Nat} {a : Option Addr} {cc : Nat} {r : List Nat} (h : OwM w0 w x c L kb lb a cc r) (hb : Below w.heap.size w w') : OwM w0 w' x c L kb lb a cc r :=
  ⟨h.be.trans (hb.mono h.be.size), (hb.block kb (Array.getElem?_eq_some_iff.1 h.k1).1).trans h.k1, h.k2, (hb.block lb (Array.getElem?_eq_some_iff.1 h.l1).1).trans h.l1, h.sl.keep hb, h.cp, h.sb⟩
theorem OwM.drew {w0 w : World} {x : Option Addr} {c : Nat} {L : List Nd} {kb lb : Nat} {a : Option Addr} {cc : Nat} {r : List Nat} (h : OwM w0 w x c L kb lb a cc r) (n : Nat) : OwM w0 (w.drewN n) x c L kb lb a cc r :=
  ⟨below_draw h.be n, h.k1, h.k2, h.l1, h.sl, h.cp, h.sb⟩
theorem OwM.kc {w0 w : World} {x : Option Addr} {c : Nat} {L : List Nd} {kb lb : Nat} {a : Option Addr} {cc : Nat} {r : List Nat} (h : OwM w0 w x c L kb lb a cc r) : w.cell? ⟨kb, 0, none⟩ = some (.slice a r.length cc) := by rw [cell_of_row w kb 0 _ _ _ h.k1]; rfl
theorem OwM.kf {w0 w : World} {x : Option Addr} {c : Nat} {L : List Nd} {kb lb : Nat} {a : Option Addr} {cc : Nat} {r : List Nat} (h : OwM w0 w x c L kb lb a cc r) : w.frozen? ⟨kb, 0, none⟩ = false := frozen_of_row w kb 0 _ _ h.k1
theorem OwM.lc {w0 w : World} {x : Option Addr} {c : Nat} {L : List Nd} {kb lb : Nat} {a : Option Addr} {cc : Nat} {r : List Nat} (h : OwM w0 w x c L kb lb a cc r) : w.cell? ⟨lb, 0, none⟩ = some (.slice x L.length c) := by rw [cell_of_row w lb 0 _ _ _ h.l1]; rfl
/-- The first one is dropped. -/
theorem OwM.drop {w0 w : World} {x : Option Addr} {c : Nat} {L : List Nd} {kb lb : Nat} {g o : Nat} {cc : Nat} {k : Nat} {r : List Nat} {a2 : Option Addr} (h : OwM w0 w x c L kb lb (some ⟨g, o, none⟩) cc (k :: r)) (ha : 0 < r.length → a2 = some ⟨g, o + 1, none⟩) :
    OwM w0 (w.setCell ⟨kb, 0, none⟩ (.slice a2 r.length (cc - 1))) x c L kb lb a2 (cc - 1) r := by
  have hne : ∀ {gg : Nat} {cs : Array Value} {fz : Nat × Nat} {t : TypeId}, w.heap[gg]? = some (.cells cs t fz) → t ≠ 30 → gg ≠ kb := by
    intro gg cs fz t hg ht e
    have h1 := h.k1
    rw [← e, hg] at h1
    injection h1 with h1
    injection h1 with h1 h2
    exact ht h2
  refine ⟨h.be.setCell (p := ⟨kb, 0, none⟩) h.k2 _, ?_, h.k2, ?_, ?_, by have := h.cp; rw [List.length_cons] at this; omega, fun hn gg oo e => by rw [ha hn] at e; injection e with e; injection e with e1 e2; rw [← e1]; exact h.sb (by simp) g o rfl⟩
  · have : (w.setCell ⟨kb, 0, none⟩ (.slice a2 r.length (cc - 1))).heap[kb]? = _ := heap_setCell_same w kb 0 _ _ _ h.k1
    simpa using this
  · exact (Below.heap_setCell w ⟨kb, 0, none⟩ _ lb (hne h.l1 (by decide))).trans h.l1
  · intro hn
    obtain ⟨g', o', hx, ⟨cs, fz, hg⟩, hc⟩ := h.sl (by simp)
    injection hx with hx
    injection hx with hx1 hx2
    subst hx1 hx2
    have hgk := hne hg (by decide)
    refine ⟨g, o + 1, ha hn, ⟨cs, fz, (Below.heap_setCell w ⟨kb, 0, none⟩ _ g hgk).trans hg⟩, fun j hj => ?_⟩
    have := hc (j + 1) (by rw [List.length_cons]; omega)
    rw [show o + 1 + j = o + (j + 1) by omega]
    rw [World.cell?_setCell_other w ⟨kb, 0, none⟩ ⟨g, o + (j + 1), none⟩ _ (fun e => hgk (congrArg Addr.block e).symm)]
    exact this
/-- It stays where a row of its own grows. -/
theorem OwM.grown {w0 w w' : World} {x : Option Addr} {c : Nat} {L : List Nd} {kb lb : Nat} {a : Option Addr} {cc : Nat} {r : List Nat} {row : Option Nat} (h : OwM w0 w x c L kb lb a cc r) (hg : w.grownBy w' row) (hl : lb < kb) (hrow : ∀ k, row = some k → kb < k) : OwM w0 w' x c L kb lb a cc r := by
  have hk : kb < w.heap.size := (Array.getElem?_eq_some_iff.1 h.k1).1
  have far : ∀ b, b ≤ kb → w'.heap[b]? = w.heap[b]? := fun b hb => hg.block b (by omega) (fun e => by have := hrow b e.symm; omega)
  refine ⟨h.be.grown hg h.be.size (fun k e => by have := hrow k e; have := h.k2; omega), (far kb (Nat.le_refl _)).trans h.k1, h.k2, (far lb (by omega)).trans h.l1, ?_, h.cp, h.sb⟩
  intro hn
  obtain ⟨g, o, hx, ⟨cs, fz, hgg⟩, hc⟩ := h.sl hn
  have hgk := h.sb hn g o hx
  have hf := far g (by omega)
  exact ⟨g, o, hx, ⟨cs, fz, hf.trans hgg⟩, fun j hj => (World.cell?_of_block (a := ⟨g, o + j, none⟩) hf).trans (hc j hj)⟩
/-- has, with what stays. -/
theorem has_held (x : Nd) (t : Int) (w : World) (g o : Nat) (A1 A2 A3 : Addr) (v1 v2 v3 : Value) (hp : At5 w g o x) (h1 : w.cell? A1 = some v1) (h2 : w.cell? A2 = some v2) (h3 : w.cell? A3 = some v3) :
    Calls Try.prog 27 #[ndV x, .int .i64 t] w fun e w' => e = .returned (.bool (decide (has x t)))
      ∧ w'.cell? ⟨g, o, none⟩ = some (.int .u8 (x.k : Int)) ∧ w'.cell? ⟨g, o + 1, none⟩ = some (.int .i64 x.c) ∧ w'.cell? ⟨g, o + 2, none⟩ = some (.int .i64 x.w) ∧ w'.cell? ⟨g, o + 3, none⟩ = some (.int .i64 x.f) ∧ w'.cell? ⟨g, o + 4, none⟩ = some (.int .i64 x.t)
      ∧ w'.cell? A1 = some v1 ∧ w'.cell? A2 = some v2 ∧ w'.cell? A3 = some v3 ∧ Below w.heap.size w w' := by
  refine (has_any x t w).mono ?_
  rintro e w' ⟨rfl, hb⟩
  have k : ∀ {A : Addr} {v : Value}, w.cell? A = some v → w'.cell? A = some v := fun {A v} h => (hb.cell (World.block_lt_of_cell? w A h)).trans h
  obtain ⟨p0, p1, p2, p3, p4⟩ := hp
  exact ⟨rfl, k p0, k p1, k p2, k p3, k p4, k h1, k h2, k h3, hb⟩

/-- What the closure answers. -/
def OwP (w0 w : World) (x : Option Addr) (c : Nat) (L : List Nd) (kb lb : Nat) (r : List Nat) (t : Int) (e : Ending) (w' : World) : Prop :=
  ∃ (b : Bool) (pre r2 : List Nat) (a : Option Addr) (cc : Nat), e = .returned (.bool b) ∧ r = pre ++ r2 ∧ (∀ k ∈ pre, (nthN L k).t ≤ t) ∧ (r2 = [] → b = false) ∧ (∀ k s, r2 = k :: s → t < (nthN L k).t ∧ b = decide (has (nthN L k) t))
    ∧ OwM w0 w' x c L kb lb a cc r2 ∧ w.grownBy w' (some kb)

/-- How long the slice in a cell is. -/
def lenC (w : World) (kb : Nat) : Nat := match w.cell? ⟨kb, 0, none⟩ with | some (.slice _ n _) => n | _ => 0
theorem grown_trans {w1 w2 w3 : World} {kb : Nat} (h : w1.grownBy w2 (some kb)) (h2 : w2.grownBy w3 (some kb)) : w1.grownBy w3 (some kb) :=
  ⟨h2.os.trans h.os, h2.tape.trans h.tape, h2.output.trans h.output, Nat.le_trans h.size h2.size, fun k a b => (h2.block k (Nat.lt_of_lt_of_le a h.size) b).trans (h.block k a b)⟩
theorem grown_draw {w1 w2 : World} {kb : Nat} (h : w1.grownBy w2 (some kb)) (n : Nat) : w1.grownBy (w2.drewN n) (some kb) := ⟨h.os, h.tape, h.output, h.size, h.block⟩
theorem grown_set {w1 w2 : World} {kb : Nat} (h : w1.grownBy w2 (some kb)) (v : Value) : w1.grownBy (w2.setCell ⟨kb, 0, none⟩ v) (some kb) :=
  ⟨h.os, h.tape, h.output, by simpa [World.setCell] using h.size, fun k a b => (Below.heap_setCell w2 ⟨kb, 0, none⟩ v k (fun e => b (by rw [e]))).trans (h.block k a b)⟩
theorem grown_below {w1 w2 w3 : World} {kb : Nat} (h : w1.grownBy w2 (some kb)) (hb : Below w2.heap.size w2 w3) : w1.grownBy w3 (some kb) :=
  ⟨hb.os.trans h.os, hb.tape.trans h.tape, hb.output.trans h.output, Nat.le_trans h.size hb.size, fun k a b => (hb.block k (Nat.lt_of_lt_of_le a h.size)).trans (h.block k a b)⟩

set_option maxHeartbeats 16000000 in
theorem isk_any (w0 w : World) (x : Option Addr) (c : Nat) (L : List Nd) (kb lb : Nat) (a : Option Addr) (cc : Nat) (r : List Nat) (t : Int) (hr : NdI w0 x L) (hl : L.length ≤ 5864062014805) (h : OwM w0 w x c L kb lb a cc r) (hrl : ∀ k ∈ r, k < L.length) (hlr : r.length ≤ L.length) :
    Calls Try.prog 28 #[.int .i64 t, .pointer (some ⟨kb, 0, none⟩), .pointer (some ⟨lb, 0, none⟩)] w (OwP w0 w x c L kb lb r t) := by
  have Hr := Lib.hid hr
  have H := Lib.hid h
  have Hrl := Lib.hid hrl
  have H0 : Hid (w.grownBy w (some kb)) := Lib.hid ⟨rfl, rfl, rfl, Nat.le_refl _, fun _ _ _ => rfl⟩
  clear hr h hrl
  go_enter Try.func28, Try.ntmps28
  go_wp2
  go_loopw [] (fun wr => ∃ (pre r2 : List Nat) (a : Option Addr) (cc : Nat), Hid (r = pre ++ r2) ∧ Hid (∀ k ∈ pre, (nthN L k).t ≤ t) ∧ Hid (OwM w0 wr x c L kb lb a cc r2) ∧ Hid (w.grownBy wr (some kb)) ∧ r2.length ≤ L.length) (fun wr => lenC wr kb)
  case atStart => exact ⟨[], r, a, cc, Lib.hid rfl, Lib.hid (fun k hk => by simp at hk), H, H0, hlr⟩
  case round =>
    obtain ⟨pre, r2, a, cc, HS, HP, HM, HG, hl2⟩ := hrel
    have k1 := HM.out.kc
    have k2 := HM.out.lc
    have k3 := HM.out.kf
    cases r2 with
    | nil =>
      rw [List.length_nil] at k1
      have Hf : Hid (∀ w', Below wr.heap.size wr w' → OwP w0 w x c L kb lb r t (.returned (.bool false)) w') := Lib.hid fun w' hb => ⟨false, pre, [], a, cc, rfl, HS.out, HP.out, fun _ => rfl, (fun k s e => by cases e), HM.out.keep hb, grown_below HG.out hb⟩
      go_wp2
      go_quiet (fail)
      go_wp2
      go_quiet (fail)
      go_wp2
      go_ret
      exact Hf.out _ (below_draw (below_draw (Below.refl _ _) _) _)
    | cons k s =>
      obtain ⟨g, o, rfl, hgg, hc⟩ := HM.out.sl (by simp)
      have k4 := hc 0 (by simp)
      rw [show (k :: s).getD 0 0 = k from rfl, Nat.add_zero] at k4
      have hk := Hrl.out k (by rw [HS.out]; simp)
      obtain ⟨g1, o1, rfl, hg1, hat⟩ := Hr.out.at HM.out.be hk
      obtain ⟨X, hX⟩ : ∃ X, X = nthN L k := ⟨_, rfl⟩
      have HX := Lib.hid hX
      rw [← hX] at hat
      obtain ⟨xk, xc, xw, xf, xt⟩ := X
      obtain ⟨d0, d1, d2, d3, d4⟩ := id hat
      dsimp only at d0 d1 d2 d3 d4
      have b0 : (0 : Int) ≤ (k : Int) := by omega
      have b1 : (k : Int) < (L.length : Int) := by omega
      have b2 : (0 : Int) < (s.length : Int) + 1 := by omega
      have b2' : decide ((0 : Int) < (s.length : Int) + 1) = true := decide_eq_true b2
      rw [List.length_cons] at k1 hl2
      push_cast at k1
      have hcap := HM.out.cp
      rw [List.length_cons] at hcap
      have b3 : (1 : Int) ≤ (cc : Int) := by omega
      have b4 : (1 : Int) ≤ (s.length : Int) + 1 := by omega
      clear hX hc hgg
      by_cases h1 : xt ≤ t
      · have e1 : decide (xt ≤ t) = true := decide_eq_true h1
        go_wp2
        go_quiet (fail)
        have M2 := Lib.hid ((HM.out.drew nq).drop (a2 := if cc = 1 then some ⟨g, o, none⟩ else some ⟨g, o + 1, none⟩) (fun hs => if_neg (by omega)))
        have G2 := Lib.hid (grown_set (grown_draw HG.out nq) (.slice (if cc = 1 then some ⟨g, o, none⟩ else some ⟨g, o + 1, none⟩) s.length (cc - 1)))
        have P2 : Hid (∀ j ∈ pre ++ [k], (nthN L j).t ≤ t) := Lib.hid fun j hj => by
          rcases List.mem_append.1 hj with hj | hj
          · exact HP.out j hj
          · rw [List.mem_singleton] at hj; subst hj; rw [← HX.out]; exact h1
        have S2 : Hid (r = (pre ++ [k]) ++ s) := Lib.hid (by rw [HS.out]; simp)
        have L1 : Hid (lenC wr kb = s.length + 1) := Lib.hid (by unfold lenC; rw [HM.out.kc]; rfl)
        clear k2 k4 d0 d1 d2 d3 d4 hcap
        go_wp2
        refine ⟨⟨pre ++ [k], s, _, _, S2, P2, M2, G2, by omega⟩, ?_⟩
        rw [L1.out]
        unfold lenC
        rw [M2.out.kc]
        exact Nat.lt_succ_self _
      · have e1 : decide (xt ≤ t) = false := decide_eq_false h1
        go_wp2
        go_quiet (fail)
        have HHH := fun w g o A1 A2 A3 v1 v2 v3 hp h1 h2 h3 => has_held ⟨xk, xc, xw, xf, xt⟩ t w g o A1 A2 A3 v1 v2 v3 hp h1 h2 h3
        unfold ndV At5 at HHH
        dsimp only at HHH
        obtain ⟨B, hB⟩ : ∃ B, decide (has ⟨xk, xc, xw, xf, xt⟩ t) = B := ⟨_, rfl⟩
        rw [hB] at HHH
        have HHH := Lib.hid HHH
        have Hf : Hid (∀ w', Below wr.heap.size wr w' → OwP w0 w (some ⟨g1, o1, none⟩) c L kb lb r t (.returned (.bool B)) w') := Lib.hid fun w' hb => ⟨B, pre, k :: s, some ⟨g, o, none⟩, cc, rfl, HS.out, HP.out, (fun e => by cases e), (fun k' s' e => by injection e with e1 e2; subst e1; rw [← HX.out]; exact ⟨by dsimp only; omega, hB.symm⟩), HM.out.keep hb, grown_below HG.out hb⟩
        clear hB
        go_wp2
        go_region_held3 (fun w' => w'.cell? ⟨g1, o1 + k * 5, none⟩ = some (.int .u8 (xk : Int)) ∧ w'.cell? ⟨g1, o1 + k * 5 + 1, none⟩ = some (.int .i64 xc) ∧ w'.cell? ⟨g1, o1 + k * 5 + 2, none⟩ = some (.int .i64 xw) ∧ w'.cell? ⟨g1, o1 + k * 5 + 3, none⟩ = some (.int .i64 xf) ∧ w'.cell? ⟨g1, o1 + k * 5 + 4, none⟩ = some (.int .i64 xt)
            ∧ w'.cell? ⟨kb, 0, none⟩ = some (.slice (some ⟨g, o, none⟩) (s.length + 1) cc) ∧ w'.cell? ⟨lb, 0, none⟩ = some (.slice (some ⟨g1, o1, none⟩) L.length c) ∧ w'.cell? ⟨g, o, none⟩ = some (.int .i64 (k : Int)))
          (go_keep)
          ((go_at_call 27; refine (HHH.out _ g1 (o1 + k * 5) ⟨kb, 0, none⟩ ⟨lb, 0, none⟩ ⟨g, o, none⟩ _ _ _ ⟨by assumption, by assumption, by assumption, by assumption, by assumption⟩ (by assumption) (by assumption) (by assumption)).mono ?_; rintro e w4 ⟨rfl, j0, j1, j2, j3, j4, j5, j6, j7, b4⟩))
        have HB4 := Lib.hid ((below_draw (Below.refl wr.heap.size wr) (nq + 1)).trans b4)
        clear b4
        go_wp2
        go_ret
        exact Hf.out _ HB4.out
end Go.Proofs.Ytklmiabgalanhaa
