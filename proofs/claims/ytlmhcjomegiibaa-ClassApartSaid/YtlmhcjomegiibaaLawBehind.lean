/- The walk of the law RunesBehind. -/
import Derived.Test.YtlmhcjomegiibaaLawBad
import Derived.Test.YtlmhcjomegiibaaReadsMath
namespace Go.Proofs.Ytlmhcjomegiibaa
open Go.RowKit

/-- An owned row of one-cell elements, as the walk reads it. -/
theorem owns_shape {w : World} {B : Nat} {e : TypeId} {v : Value} {n : Nat} {xs : List Value} (h : w.ownsRow B e 1 v n xs) :
    ∃ (x : Option Addr) (c : Nat), v = .slice x n c ∧ (0 < n → ∃ g, x = some ⟨g, 0, none⟩ ∧ B ≤ g ∧ g < w.heap.size ∧ ∀ i u, xs[i]? = some u → w.cell? ⟨g, i, none⟩ = some u) := by
  have hc := fun g (hg : v.ownBlock = some g) => h.cells (g := g) hg
  rcases h.2 with ⟨rfl, rfl⟩ | ⟨g, cap, cur, rfl, hb, hg, _⟩
  · exact ⟨none, 0, rfl, fun h => by omega⟩
  · refine ⟨_, _, rfl, fun _ => ⟨g, rfl, hb, (Array.getElem?_eq_some_iff.1 hg).1, fun i u hu => ?_⟩⟩
    have := hc g rfl i u hu
    rwa [add_zero] at this

/-- The number at a place of a list. -/
def nth (L : List Nat) (i : Nat) : Nat := L.getD i 0
theorem nth_left {A B : List Nat} {i : Nat} (h : i < A.length) : nth (A ++ B) i = nth A i := by unfold nth; simp [List.getD, List.getElem?_append_left h]
theorem nth_right {A B : List Nat} {i : Nat} (h : A.length ≤ i) : nth (A ++ B) i = nth B (i - A.length) := by unfold nth; simp [List.getD, List.getElem?_append_right h]
theorem nth_mem {L : List Nat} {i : Nat} (h : i < L.length) : nth L i ∈ L := by
  unfold nth
  rw [show L.getD i 0 = L[i] by simp [h]]
  exact List.getElem_mem h
theorem cells_at {k : IntKind} {L : List Nat} {i : Nat} (h : i < L.length) : (cells k L)[i]? = some (.int k (nth L i : Nat)) := by simp [cells, nth, h]

/-- A slice's address and the numbers behind it, if there is one. -/
def Row (w : World) (k : IntKind) (x : Option Addr) (n : Nat) (f : Nat → Nat) : Prop :=
  0 < n → ∃ g, x = some ⟨g, 0, none⟩ ∧ g < w.heap.size ∧ ∀ i, i < n → w.cell? ⟨g, i, none⟩ = some (.int k (f i : Nat))

theorem row_of {w : World} {B : Nat} {e : TypeId} {k : IntKind} {v : Value} {L : List Nat} (h : w.ownsRow B e 1 v L.length (cells k L)) :
    ∃ (x : Option Addr) (c : Nat), v = .slice x L.length c ∧ Row w k x L.length (nth L) := by
  obtain ⟨x, c, rfl, r⟩ := owns_shape h
  refine ⟨x, c, rfl, fun hn => ?_⟩
  obtain ⟨g, hx, _, hg, hc⟩ := r hn
  exact ⟨g, hx, hg, fun i hi => hc i _ (cells_at hi)⟩

theorem Row.below {w w' : World} {k : IntKind} {x : Option Addr} {n : Nat} {f : Nat → Nat} (h : Row w k x n f) (hb : Below w.heap.size w w') : Row w' k x n f := by
  intro hn
  obtain ⟨g, hx, hg, hc⟩ := h hn
  exact ⟨g, hx, Nat.lt_of_lt_of_le hg hb.size, fun i hi => (hb.cell hg).trans (hc i hi)⟩

theorem behind_bad (s t : ByteArray) (w : World) (hs : s.size ≤ 1048576) (ht : t.size ≤ 1048576) (h : Um.allB s = false ∨ Um.allB t = false) :
    Calls Try.prog 8 #[.string s, .string t] w fun e w' => e = .returned (.bool true) ∧ Below w.heap.size w w' := by
  have hsz : (s ++ t).size = s.size + t.size := Um.size_append s t
  have H3 := fun wx => all_any (s ++ t) wx (by omega)
  have b1 : Um.allB s = false → (0 : Int) ≤ Um.badI s := fun h => Um.bad_nonneg h
  have b2 : Um.allB t = false → (0 : Int) ≤ Um.badI t := fun h => Um.bad_nonneg h
  clear hsz
  cases h1 : Um.allB s with
  | true =>
    have h2 : Um.allB t = false := by rw [h1] at h; simpa using h
    have p2 := b2 h2
    clear b1 b2 h
    go_enter Try.func8, Try.ntmps8
    go_wp2_with fail
    refine (all_any s w (by omega)).mono ?_
    rintro e w1 ⟨va, rfl, -, g1⟩
    go_wp2_with fail
    refine (all_any t w1 (by omega)).mono ?_
    rintro e w2 ⟨vb, rfl, -, g2⟩
    go_wp2_with fail
    refine (H3 w2).mono ?_
    rintro e w3 ⟨vc, rfl, -, g3⟩
    go_wp2_with fail
    refine (fixed_any w3).mono ?_
    rintro e w4 ⟨rfl, g4⟩
    go_wp2_with fail
    refine (fixed_any w4).mono ?_
    rintro e w5 ⟨rfl, g5⟩
    go_wp2_with fail
    refine (bad_any t w5).mono ?_
    rintro e w6 ⟨rfl, g6⟩
    go_wp2
    go_ret
    have s1 := g1.size; have s2 := g2.size; have s3 := g3.size; have s4 := g4.size; have s5 := g5.size
    exact ⟨rfl, ((((g1.trans (g2.mono (by omega))).trans (g3.mono (by omega))).trans (g4.mono (by omega))).trans (g5.mono (by omega))).trans (g6.mono (by omega))⟩
  | false =>
    have p1 := b1 h1
    clear b1 h
    cases h2 : Um.allB t with
    | true =>
      clear b2
      go_enter Try.func8, Try.ntmps8
      go_wp2_with fail
      refine (all_any s w (by omega)).mono ?_
      rintro e w1 ⟨va, rfl, -, g1⟩
      go_wp2_with fail
      refine (all_any t w1 (by omega)).mono ?_
      rintro e w2 ⟨vb, rfl, -, g2⟩
      go_wp2_with fail
      refine (H3 w2).mono ?_
      rintro e w3 ⟨vc, rfl, -, g3⟩
      go_wp2_with fail
      refine (fixed_any w3).mono ?_
      rintro e w4 ⟨rfl, g4⟩
      go_wp2_with fail
      refine (fixed_any w4).mono ?_
      rintro e w5 ⟨rfl, g5⟩
      go_wp2_with fail
      refine (bad_any s w5).mono ?_
      rintro e w6 ⟨rfl, g6⟩
      go_wp2
      go_ret
      have s1 := g1.size; have s2 := g2.size; have s3 := g3.size; have s4 := g4.size; have s5 := g5.size
      exact ⟨rfl, ((((g1.trans (g2.mono (by omega))).trans (g3.mono (by omega))).trans (g4.mono (by omega))).trans (g5.mono (by omega))).trans (g6.mono (by omega))⟩
    | false =>
      have p2 := b2 h2
      clear b2
      go_enter Try.func8, Try.ntmps8
      go_wp2_with fail
      refine (all_any s w (by omega)).mono ?_
      rintro e w1 ⟨va, rfl, -, g1⟩
      go_wp2_with fail
      refine (all_any t w1 (by omega)).mono ?_
      rintro e w2 ⟨vb, rfl, -, g2⟩
      go_wp2_with fail
      refine (H3 w2).mono ?_
      rintro e w3 ⟨vc, rfl, -, g3⟩
      go_wp2_with fail
      refine (fixed_any w3).mono ?_
      rintro e w4 ⟨rfl, g4⟩
      go_wp2_with fail
      refine (fixed_any w4).mono ?_
      rintro e w5 ⟨rfl, g5⟩
      go_wp2_with fail
      refine (bad_any s w5).mono ?_
      rintro e w6 ⟨rfl, g6⟩
      go_wp2_with fail
      refine (bad_any t w6).mono ?_
      rintro e w7 ⟨rfl, g7⟩
      go_wp2
      go_ret
      have s1 := g1.size; have s2 := g2.size; have s3 := g3.size; have s4 := g4.size; have s5 := g5.size; have s6 := g6.size
      exact ⟨rfl, (((((g1.trans (g2.mono (by omega))).trans (g3.mono (by omega))).trans (g4.mono (by omega))).trans (g5.mono (by omega))).trans (g6.mono (by omega))).trans (g7.mono (by omega))⟩

set_option maxHeartbeats 4000000 in
theorem behind_good (s t : ByteArray) (w : World) (hs : s.size ≤ 1048576) (ht : t.size ≤ 1048576) (h1 : Um.allB s = true) (h2 : Um.allB t = true) :
    Calls Try.prog 8 #[.string s, .string t] w fun e w' => e = .returned (.bool true) ∧ Below w.heap.size w w' := by
  have hsz : (s ++ t).size = s.size + t.size := Um.size_append s t
  have H3 := fun wx => all_any (s ++ t) wx (by omega)
  have H4 := fun wx => bad_any (s ++ t) wx
  have H1 := fun wx => all_any s wx (by omega)
  have H2 := fun wx => all_any t wx (by omega)
  obtain ⟨e1, e2, e3⟩ := Um.all_append h1 h2
  have l1 := Um.allC_length s
  have l2 := Um.allC_length t
  rw [h1] at H1
  rw [h2] at H2
  rw [e1, e2] at H3
  rw [e3] at H4
  clear hsz e1 e2 e3 h1 h2
  generalize Um.allC s = A at H1 H2 H3 l1
  generalize Um.allC t = B at H1 H2 H3 l2
  go_enter Try.func8, Try.ntmps8
  go_wp2_with fail
  refine (H1 w).mono ?_
  rintro e w1 ⟨va, rfl, oa, g1⟩
  go_wp2_with fail
  refine (H2 w1).mono ?_
  rintro e w2 ⟨vb, rfl, ob, g2⟩
  go_wp2_with fail
  refine (H3 w2).mono ?_
  rintro e w3 ⟨vc, rfl, oc, g3⟩
  go_wp2_with fail
  refine (fixed_any w3).mono ?_
  rintro e w4 ⟨rfl, g4⟩
  obtain ⟨xa, ca, rfl, ra⟩ := row_of oa
  obtain ⟨xb, cb, rfl, rb⟩ := row_of ob
  obtain ⟨xc, cc, rfl, rc⟩ := row_of oc
  rw [List.length_append] at *
  go_wp2_with fail
  refine (H4 w4).mono ?_
  rintro e w5 ⟨rfl, g5⟩
  have ra5 := (((ra.below g2).below g3).below g4).below g5
  have rb5 := ((rb.below g3).below g4).below g5
  have rc5 := (rc.below g4).below g5
  have s1 := g1.size; have s2 := g2.size; have s3 := g3.size; have s4 := g4.size
  have gg := (((g1.trans (g2.mono (by omega))).trans (g3.mono (by omega))).trans (g4.mono (by omega))).trans (g5.mono (by omega))
  clear oa ob oc ra rb rc H1 H2 H3 H4 g1 g2 g3 g4 g5 s1 s2 s3 s4
  go_wp2
  go_loopw [11] (fun i wr => ∃ k q : Nat, k ≤ A.length + B.length ∧ i = .int .i64 k ∧ wr = w5.drewN q) (fun i _ => A.length + B.length - (intOf i).toNat)
  case atStart => exact ⟨0, 0, by omega, rfl, rfl⟩
  case round =>
    obtain ⟨k, q, hk, rfl, rfl⟩ := hrel
    by_cases hlt : k < A.length + B.length
    · obtain ⟨gc, rfl, _, hc⟩ := rc5 (by omega)
      have hck := hc k hlt
      by_cases ha : k < A.length
      · obtain ⟨ga, rfl, _, hca⟩ := ra5 (by omega)
        have hak := hca k ha
        rw [nth_left ha] at hck
        clear hc hca
        generalize nth A k = y at hck hak
        have y1 : ((y : Int) == (y : Int)) = true := beq_self_eq_true _
        have y2 : ((y : Int) != (y : Int)) = false := by unfold bne; rw [y1]; rfl
        have hd1 : decide ((k : Int) < (A.length : Int)) = true := by simp; omega
        have hd2 : decide (A.length ≤ k) = false := by simp; omega
        have hd3 : decide (k < A.length) = true := by simp; omega
        have b0 : (0 : Int) ≤ (k : Int) := by omega
        have b1 : (k : Int) < (A.length : Int) := by omega
        have b2 : (k : Int) < (A.length : Int) + (B.length : Int) := by omega
        go_wp2
        go_quiet (fail)
        clear y1 y2 hd1 hd2 hd3
        go_wp2
        go_roundw
        case rel => exact ⟨k + 1, q + nq, by omega, by go_num, rfl⟩
        case measure => simp [intOf]; omega
      · obtain ⟨gb, rfl, _, hcb⟩ := rb5 (by omega)
        have hbk := hcb (k - A.length) (by omega)
        rw [nth_right (by omega)] at hck
        clear hc hcb
        generalize nth B (k - A.length) = y at hck hbk
        have y1 : ((y : Int) == (y : Int)) = true := beq_self_eq_true _
        have y2 : ((y : Int) != (y : Int)) = false := by unfold bne; rw [y1]; rfl
        have hd1 : decide ((k : Int) < (A.length : Int)) = false := by simp; omega
        have hd2 : decide (A.length ≤ k) = true := by simp; omega
        have hd3 : decide (k < A.length) = false := by simp; omega
        have b0 : (0 : Int) ≤ (k : Int) := by omega
        have b2 : (k : Int) < (A.length : Int) + (B.length : Int) := by omega
        have b3 : (0 : Int) ≤ (k : Int) - (A.length : Int) := by omega
        have b4 : (k : Int) - (A.length : Int) < (B.length : Int) := by omega
        have b5 : ((k : Int) - (A.length : Int)).toNat = k - A.length := by omega
        have b6 : IntKind.i64.wrap ((k : Int) - (A.length : Int)) = (k : Int) - (A.length : Int) := IntWalk.i64_in _ (by omega)
        go_wp2
        go_quiet (fail)
        clear y1 y2 hd1 hd2 hd3 b5 b6
        go_wp2
        go_roundw
        case rel => exact ⟨k + 1, q + nq, by omega, by go_num, rfl⟩
        case measure => simp [intOf]; omega
    · go_wp2
      go_ret
      exact ⟨rfl, gg.trans ⟨rfl, rfl, rfl, Nat.le_refl _, fun _ _ => rfl⟩⟩

theorem walk_RunesBehind (s t : ByteArray) (w : World) (hs : s.size ≤ 1048576) (ht : t.size ≤ 1048576) :
    Calls Try.prog 8 #[.string s, .string t] w fun e w' => e = .returned (.bool true) ∧ Below w.heap.size w w' := by
  cases h1 : Um.allB s with
  | false => exact behind_bad s t w hs ht (.inl h1)
  | true =>
    cases h2 : Um.allB t with
    | false => exact behind_bad s t w hs ht (.inr h2)
    | true => exact behind_good s t w hs ht h1 h2
end Go.Proofs.Ytlmhcjomegiibaa
