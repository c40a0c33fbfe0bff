/- Contracts of lines.Off and of the reference's Off. -/
import Derived.Test.YtckioinjgdjohabLnPos
import Derived.Deep.RegionWith
namespace Go.Proofs.Ytckioinjgdjohab
open Go.RowKit Em

def offBad (s : ByteArray) (l c : Int) : Prop := l < 1 ∨ ((starts (bl s)).length : Int) < l ∨ c < 1 ∨ (fin (starts (bl s)) l.toNat s.size : Int) - (nthN (starts (bl s)) (l.toNat - 1) : Nat) + 1 < c
instance offDec (s : ByteArray) (l c : Int) : Decidable (offBad s l c) := by unfold offBad; infer_instance
def offR (s : ByteArray) (l c : Int) : Int := if offBad s l c then 0 else (nthN (starts (bl s)) (l.toNat - 1) : Nat) + c - 1
def offE (s : ByteArray) (l c : Int) : Int := if offBad s l c then 1 else 0

theorem off_bad {s : ByteArray} {l c : Int} (h : offBad s l c) : Ending.returned (.tuple #[.int .i64 0, .int .i64 1]) = .returned (.tuple #[.int .i64 (offR s l c), .int .i64 (offE s l c)]) := by
  unfold offR offE; rw [if_pos h, if_pos h]
theorem off_good {s : ByteArray} {l c r : Int} (h : ¬ offBad s l c) (hr : r = (nthN (starts (bl s)) (l.toNat - 1) : Nat) + c - 1) : Ending.returned (.tuple #[.int .i64 r, .int .i64 0]) = .returned (.tuple #[.int .i64 (offR s l c), .int .i64 (offE s l c)]) := by
  unfold offR offE; rw [if_neg h, if_neg h, hr]

set_option maxHeartbeats 4000000 in
set_option maxRecDepth 100000 in
theorem off_any (s : ByteArray) (l c : Int) (w : World) (hs : s.size ≤ 1099511627776) :
    Calls Try.prog 19 #[.string s, .agg #[.int .i64 l, .int .i64 c]] w fun e w' => e = .returned (.tuple #[.int .i64 (offR s l c), .int .i64 (offE s l c)]) ∧ Below w.heap.size w w' := by
  have hm := starts_most s
  have hp : PBox (w.alloc (.cells #[.int .i64 l, .int .i64 c] 33)) w.heap.size l c := heap_alloc_new w _
  have Hp := Lib.hid hp
  have Hb := Lib.hid ((Below.refl w.heap.size w).alloc (Nat.le_refl _) (.cells #[.int .i64 l, .int .i64 c] 33))
  have HS := Lib.hid (starts_any s (w.alloc (.cells #[.int .i64 l, .int .i64 c] 33)) hs)
  clear hp
  by_cases h1 : l < 1
  · have Hfin := Lib.hid (off_bad (s := s) (l := l) (c := c) (.inl h1))
    go_enter Try.func19, Try.ntmps19
    go_wp2_with fail
    refine HS.out.mono ?_
    rintro e w1 ⟨v, rfl, o1, b1⟩
    obtain ⟨x, cx, rfl, r1⟩ := rowN_of_owns o1
    have k0 := (Hp.out.keep b1).c0
    have k1 := (Hp.out.keep b1).c1
    have Hb1 := Lib.hid (Hb.out.trans (b1.mono (by simp)))
    clear o1 r1 b1
    go_wp2
    go_ret2
    exact ⟨Hfin.out, Hb1.out⟩
  · by_cases h2 : ((starts (bl s)).length : Int) < l
    · have Hfin := Lib.hid (off_bad (s := s) (l := l) (c := c) (.inr (.inl h2)))
      go_enter Try.func19, Try.ntmps19
      go_wp2_with fail
      refine HS.out.mono ?_
      rintro e w1 ⟨v, rfl, o1, b1⟩
      obtain ⟨x, cx, rfl, r1⟩ := rowN_of_owns o1
      have k0 := (Hp.out.keep b1).c0
      have k1 := (Hp.out.keep b1).c1
      have Hb1 := Lib.hid (Hb.out.trans (b1.mono (by simp)))
      clear o1 r1 b1
      go_wp2
      go_ret2
      exact ⟨Hfin.out, Hb1.out⟩
    · obtain ⟨i, rfl⟩ : ∃ i : Nat, l = (i : Int) + 1 := ⟨(l - 1).toNat, by omega⟩
      have hi : i < (starts (bl s)).length := by omega
      obtain ⟨a1, a2, _, _, _⟩ := line_spec s i hi
      have HE := Lib.hid (fun x c w h => end_any s x c i w h hi hs)
      have ebad : offBad s ((i : Int) + 1) c ↔ (c < 1 ∨ (fin (starts (bl s)) (i + 1) s.size : Int) - (nthN (starts (bl s)) i : Nat) + 1 < c) := by
        unfold offBad
        rw [show ((i : Int) + 1).toNat = i + 1 by omega, show i + 1 - 1 = i by omega]
        omega
      have egood : ∀ r, ¬ offBad s ((i : Int) + 1) c → r = (nthN (starts (bl s)) i : Nat) + c - 1 → Ending.returned (.tuple #[.int .i64 r, .int .i64 0]) = .returned (.tuple #[.int .i64 (offR s ((i : Int) + 1) c), .int .i64 (offE s ((i : Int) + 1) c)]) := fun r hb hr =>
        off_good hb (by rw [show ((i : Int) + 1).toNat = i + 1 by omega, show i + 1 - 1 = i by omega]; exact hr)
      have Ebad := Lib.hid ebad
      have Egood := Lib.hid egood
      clear ebad egood
      go_enter Try.func19, Try.ntmps19
      go_wp2_with fail
      refine HS.out.mono ?_
      rintro e w1 ⟨v, rfl, o1, b1⟩
      obtain ⟨x, cx, rfl, r1⟩ := rowN_of_owns o1
      have k0 := (Hp.out.keep b1).c0
      have k1 := (Hp.out.keep b1).c1
      have Hb1 := Lib.hid (Hb.out.trans (b1.mono (by simp)))
      obtain ⟨g, rfl, hg, hc⟩ := r1 (by omega)
      have c1 := hc i hi
      have HR := Lib.hid (fun q => HE.out _ cx (w1.drewN q) (r1.keep (below_draw (Below.refl _ _) q)))
      clear o1 hc r1 HE b1
      generalize fin (starts (bl s)) (i + 1) s.size = F at a1 a2 HR Ebad
      generalize nthN (starts (bl s)) i = G at a1 c1 Ebad Egood
      generalize (starts (bl s)).length = n at hm hi HR h2 ⊢
      have b0 : (0 : Int) ≤ (i : Int) := by omega
      have b2 : (i : Int) < (n : Int) := by omega
      have b3 : (i : Int) + 1 ≤ (n : Int) := by omega
      have b4 : (0 : Int) ≤ (G : Int) := by omega
      have b5 : (G : Int) ≤ (F : Int) := by omega
      have b6 : (F : Int) ≤ 1099511627776 := by omega
      by_cases h3 : c < 1
      · have Hfin := Lib.hid (off_bad (Ebad.out.2 (.inl h3)))
        have d1 : decide (c < 1) = true := decide_eq_true h3
        go_wp2
        go_quiet (fail)
        go_wp2
        go_ret2
        exact ⟨Hfin.out, below_draw Hb1.out _⟩
      · have d1 : decide (c < 1) = false := decide_eq_false h3
        have v1 : IntKind.i64.wrap ((F : Int) - (G : Int)) = (F : Int) - (G : Int) := by rw [IntKind.wrap_i64]; omega
        have v2 : IntKind.i64.wrap ((F : Int) - (G : Int) + 1) = (F : Int) - (G : Int) + 1 := by rw [IntKind.wrap_i64]; omega
        by_cases h4 : (F : Int) - (G : Int) + 1 < c
        · have Hfin := Lib.hid (off_bad (Ebad.out.2 (.inr h4)))
          have d2 : decide ((F : Int) - (G : Int) + 1 < c) = true := decide_eq_true h4
          go_wp2
          go_quiet ((go_at_call 22; exact Calls.quiet_of_same (HR.out _)))
          clear v1 v2
          go_wp2
          go_ret2
          exact ⟨Hfin.out, below_draw Hb1.out _⟩
        · have Hfin := Lib.hid (Egood.out ((G : Int) + c - 1) (fun hb => by have := Ebad.out.1 hb; omega) rfl)
          have d2 : decide ((F : Int) - (G : Int) + 1 < c) = false := decide_eq_false h4
          go_wp2
          go_quiet ((go_at_call 22; exact Calls.quiet_of_same (HR.out _)))
          clear v1 v2
          go_wp2
          go_ret2
          exact ⟨Hfin.out, below_draw Hb1.out _⟩

theorem rstarts_box (s : ByteArray) (w : World) {g : Nat} {l c : Int} (h : PBox w g l c) (hs : s.size ≤ 1099511627776) {i : Nat} (hi : i < (starts (bl s)).length) :
    Calls Try.prog 13 #[.string s] w fun e w' => ∃ gs cs, e = .returned (.slice (some ⟨gs, 0, none⟩) (starts (bl s)).length cs) ∧ (w'.cell? ⟨g, 0, none⟩ = some (.int .i64 l) ∧ w'.cell? ⟨g, 1, none⟩ = some (.int .i64 c)) ∧ w'.cell? ⟨gs, i, none⟩ = some (.int .i64 (nthN (starts (bl s)) i : Nat)) ∧ Below w.heap.size w w' :=
  (rstarts_any s w hs).mono fun _ w' ⟨v, he, o1, b1⟩ => by
    obtain ⟨x, cx, rfl, r1⟩ := rowN_of_owns o1
    obtain ⟨gs, rfl, _, hc⟩ := r1 (by omega)
    exact ⟨gs, cx, he, ⟨(h.keep b1).c0, (h.keep b1).c1⟩, hc i hi, b1⟩

set_option maxHeartbeats 4000000 in
set_option maxRecDepth 100000 in
theorem roff_any (s : ByteArray) (l c : Int) (w : World) (hs : s.size ≤ 1099511627776) (hcm : c ≤ 9223372036854775807) :
    Calls Try.prog 20 #[.string s, .agg #[.int .i64 l, .int .i64 c]] w fun e w' => e = .returned (.tuple #[.int .i64 (offR s l c), .int .i64 (offE s l c)]) ∧ Below w.heap.size w w' := by
  have hm := starts_most s
  have hp : PBox (w.alloc (.cells #[.int .i64 l, .int .i64 c] 33)) w.heap.size l c := heap_alloc_new w _
  have Hp := Lib.hid hp
  have Hb := Lib.hid ((Below.refl w.heap.size w).alloc (Nat.le_refl _) (.cells #[.int .i64 l, .int .i64 c] 33))
  have hL := rline_any s l (w.alloc (.cells #[.int .i64 l, .int .i64 c] 33)) hs
  clear hp
  by_cases h1 : l < 1 ∨ ((starts (bl s)).length : Int) < l
  · have Hfin := Lib.hid (off_bad (s := s) (l := l) (c := c) (by rcases h1 with h | h; exact .inl h; exact .inr (.inl h)))
    have e1 : linT s l = ⟨#[]⟩ := if_pos h1
    have e2 : linE s l = 1 := if_pos h1
    rw [e1, e2] at hL
    clear e1 e2 h1
    go_enter Try.func20, Try.ntmps20
    go_wp2_with fail
    refine hL.mono ?_
    rintro e w1 ⟨rfl, b1⟩
    have k0 := (Hp.out.keep b1).c0
    have k1 := (Hp.out.keep b1).c1
    have Hb1 := Lib.hid (Hb.out.trans (b1.mono (by simp)))
    clear b1
    go_wp2
    go_ret2
    exact ⟨Hfin.out, Hb1.out⟩
  · obtain ⟨i, rfl⟩ : ∃ i : Nat, l = (i : Int) + 1 := ⟨(l - 1).toNat, by omega⟩
    have hi : i < (starts (bl s)).length := by omega
    obtain ⟨a1, a2, _, _, _⟩ := line_spec s i hi
    have ebad : offBad s ((i : Int) + 1) c ↔ (c < 1 ∨ (fin (starts (bl s)) (i + 1) s.size : Int) - (nthN (starts (bl s)) i : Nat) + 1 < c) := by
      unfold offBad
      rw [show ((i : Int) + 1).toNat = i + 1 by omega, show i + 1 - 1 = i by omega]
      omega
    have egood : ∀ r, ¬ offBad s ((i : Int) + 1) c → r = (nthN (starts (bl s)) i : Nat) + c - 1 → Ending.returned (.tuple #[.int .i64 r, .int .i64 0]) = .returned (.tuple #[.int .i64 (offR s ((i : Int) + 1) c), .int .i64 (offE s ((i : Int) + 1) c)]) := fun r hb hr =>
      off_good hb (by rw [show ((i : Int) + 1).toNat = i + 1 by omega, show i + 1 - 1 = i by omega]; exact hr)
    have e1 : linT s ((i : Int) + 1) = s.extract (nthN (starts (bl s)) i) (fin (starts (bl s)) (i + 1) s.size) := by
      unfold linT
      rw [if_neg (by omega), show ((i : Int) + 1).toNat = i + 1 by omega, show i + 1 - 1 = i by omega]
    have e2 : linE s ((i : Int) + 1) = 0 := if_neg (by omega)
    rw [e1, e2] at hL
    have hsz : (s.extract (nthN (starts (bl s)) i) (fin (starts (bl s)) (i + 1) s.size)).size = fin (starts (bl s)) (i + 1) s.size - nthN (starts (bl s)) i := by rw [ByteArray.size_extract]; omega
    have HQ := Lib.hid (fun w h => rstarts_box s w (g := w.heap.size) (l := (i : Int) + 1) (c := c) h hs hi)
    have HQ2 := Lib.hid (fun (W : World) (g : Nat) (h : PBox W g ((i : Int) + 1) c) => rstarts_box s W h hs hi)
    have Ebad := Lib.hid ebad
    have Egood := Lib.hid egood
    clear ebad egood e1 e2 HQ h1
    generalize hT : s.extract (nthN (starts (bl s)) i) (fin (starts (bl s)) (i + 1) s.size) = T at hL hsz
    clear hT
    generalize fin (starts (bl s)) (i + 1) s.size = F at a1 a2 hsz Ebad
    generalize nthN (starts (bl s)) i = G at a1 hsz HQ2 Ebad Egood
    generalize (starts (bl s)).length = n at hm hi HQ2
    have hsz2 : (T.size : Int) = (F : Int) - (G : Int) := by omega
    have Hsz := Lib.hid hsz2
    clear hsz hsz2
    have b0 : (0 : Int) ≤ (i : Int) := by omega
    have b2 : (i : Int) < (n : Int) := by omega
    have b3 : (i : Int) + 1 ≤ (n : Int) := by omega
    by_cases h3 : c < 1
    · have Hfin := Lib.hid (off_bad (Ebad.out.2 (.inl h3)))
      go_enter Try.func20, Try.ntmps20
      go_wp2_with fail
      refine hL.mono ?_
      rintro e w1 ⟨rfl, b1⟩
      have k0 := (Hp.out.keep b1).c0
      have k1 := (Hp.out.keep b1).c1
      have Hb1 := Lib.hid (Hb.out.trans (b1.mono (by simp)))
      clear b1
      go_wp2
      go_ret2
      exact ⟨Hfin.out, Hb1.out⟩
    · by_cases h4 : (T.size : Int) < c - 1
      · have Hfin := Lib.hid (off_bad (Ebad.out.2 (.inr (by have := Hsz.out; omega))))
        have h5 : 1 ≤ c := by omega
        go_enter Try.func20, Try.ntmps20
        go_wp2_with fail
        refine hL.mono ?_
        rintro e w1 ⟨rfl, b1⟩
        have k0 := (Hp.out.keep b1).c0
        have k1 := (Hp.out.keep b1).c1
        have Hb1 := Lib.hid (Hb.out.trans (b1.mono (by simp)))
        clear b1
        go_wp2
        go_ret2
        exact ⟨Hfin.out, Hb1.out⟩
      · have Hfin := Lib.hid (Egood.out ((G : Int) + c - 1) (fun hb => by have := Ebad.out.1 hb; have := Hsz.out; omega) rfl)
        have h5 : 1 ≤ c := by omega
        have h6 : c - 1 ≤ 1099511627776 := by have := Hsz.out; omega
        have h7 : c ≤ 1099511627777 := by omega
        have hG : (G : Int) ≤ 1099511627776 := by omega
        go_enter Try.func20, Try.ntmps20
        go_wp2_with fail
        refine hL.mono ?_
        rintro e w1 ⟨rfl, b1⟩
        have P1 := Lib.hid (Hp.out.keep b1)
        have k0 := P1.out.c0
        have k1 := P1.out.c1
        have Hb1 := Lib.hid (Hb.out.trans (b1.mono (by simp)))
        clear b1
        go_wp2
        have v0 : IntKind.i64.wrap (i : Int) = (i : Int) := by rw [IntKind.wrap_i64]; omega
        have v1 : IntKind.i64.wrap ((i : Int) + 1 - 1) = (i : Int) := by rw [IntKind.wrap_i64]; omega
        have v2 : IntKind.i64.wrap ((G : Int) + c) = (G : Int) + c := by rw [IntKind.wrap_i64]; omega
        have v3 : IntKind.i64.wrap ((G : Int) + c - 1) = (G : Int) + c - 1 := by rw [IntKind.wrap_i64]; omega
        go_region_with (go_at_call 13; refine (HQ2.out _ w.heap.size (by exact P1.out)).mono ?_; rintro e w2 ⟨gs, cs, rfl, ⟨j0, j1⟩, j2, b2⟩)
        all_goals
          go_wp2
          go_ret2
          exact ⟨Hfin.out, (below_drew Hb1.out).trans (b2.mono Hb1.out.size)⟩
end Go.Proofs.Ytckioinjgdjohab
