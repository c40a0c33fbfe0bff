/- Contracts of lines.end, lines.Line and of the reference's Line. -/
import Derived.Test.YtckioinjgdjohabLnStarts
namespace Go.Proofs.Ytckioinjgdjohab
open Go.RowKit Em

abbrev sOf (s : ByteArray) : List Nat := starts (bl s)

theorem line_spec (s : ByteArray) (i : Nat) (hi : i < (starts (bl s)).length) :
    nthN (starts (bl s)) i ≤ fin (starts (bl s)) (i + 1) s.size ∧ fin (starts (bl s)) (i + 1) s.size ≤ s.size ∧
    (∀ j, nthN (starts (bl s)) i ≤ j → j < fin (starts (bl s)) (i + 1) s.size → (bl s)[j]? ≠ some 10) ∧
    (fin (starts (bl s)) (i + 1) s.size < s.size → (bl s)[fin (starts (bl s)) (i + 1) s.size]? = some 10) ∧
    (i + 1 < (starts (bl s)).length → nthN (starts (bl s)) (i + 1) = fin (starts (bl s)) (i + 1) s.size + 1) := by
  have h := fin_spec (bl s) 0 i hi
  rw [Nat.zero_add, bl_size] at h
  obtain ⟨_, a2, a3, a4, a5, a6⟩ := h
  exact ⟨a2, a3, fun j h1 h2 => by have := a4 j h1 h2; rwa [Nat.sub_zero] at this, fun h1 => by have := a5 h1; rwa [Nat.sub_zero] at this, a6⟩

theorem end_any (s : ByteArray) (x : Option Addr) (c i : Nat) (w : World) (hr : RowN w x (starts (bl s))) (hi : i < (starts (bl s)).length) (hs : s.size ≤ 1099511627776) :
    Calls Try.prog 22 #[.string s, .slice x (starts (bl s)).length c, .int .i64 ((i : Int) + 1)] w fun e w' => e = .returned (.int .i64 (fin (starts (bl s)) (i + 1) s.size : Nat)) ∧ w' = w := by
  obtain ⟨a1, a2, a3, a4, a5⟩ := line_spec s i hi
  have hm := starts_most s
  obtain ⟨g, rfl, hg, hc⟩ := hr (by omega)
  by_cases hlt : i + 1 < (starts (bl s)).length
  · have c1 := hc (i + 1) hlt
    have e1 := a5 hlt
    rw [e1] at c1
    generalize fin (starts (bl s)) (i + 1) s.size = F at a2 c1 ⊢
    generalize (starts (bl s)).length = n at hi hm hlt ⊢
    have b0 : (0 : Int) ≤ (i : Int) := by omega
    have b1 : (i : Int) + 1 < (n : Int) := by omega
    clear a1 a3 a4 a5 e1 hc
    go_enter Try.func22, Try.ntmps22
    go_wp2
    go_ret
    exact ⟨ret_int (by omega), rfl⟩
  · have e1 : fin (starts (bl s)) (i + 1) s.size = s.size := if_neg hlt
    rw [e1]
    generalize (starts (bl s)).length = n at hi hm hlt ⊢
    have b1 : ¬ (i : Int) + 1 < (n : Int) := by omega
    clear a1 a2 a3 a4 a5 e1 hc
    go_enter Try.func22, Try.ntmps22
    go_wp2
    go_ret
    exact ⟨rfl, rfl⟩

/-- What Line answers. -/
def linT (s : ByteArray) (n : Int) : ByteArray := if n < 1 ∨ ((starts (bl s)).length : Int) < n then ⟨#[]⟩ else s.extract (nthN (starts (bl s)) (n.toNat - 1)) (fin (starts (bl s)) n.toNat s.size)
def linE (s : ByteArray) (n : Int) : Int := if n < 1 ∨ ((starts (bl s)).length : Int) < n then 1 else 0

set_option maxHeartbeats 2000000 in
theorem line_any (s : ByteArray) (n : Int) (w : World) (hs : s.size ≤ 1099511627776) :
    Calls Try.prog 15 #[.string s, .int .i64 n] w fun e w' => e = .returned (.tuple #[.string (linT s n), .int .i64 (linE s n)]) ∧ Below w.heap.size w w' := by
  have hm := starts_most s
  by_cases h1 : n < 1
  · have e1 : linT s n = ⟨#[]⟩ := if_pos (.inl h1)
    have e2 : linE s n = 1 := if_pos (.inl h1)
    rw [e1, e2]
    clear e1 e2
    go_enter Try.func15, Try.ntmps15
    go_wp2_with fail
    refine (starts_any s w hs).mono ?_
    rintro e w1 ⟨v, rfl, o1, b1⟩
    obtain ⟨x, c, rfl, r1⟩ := rowN_of_owns o1
    clear o1 r1
    go_wp2
    go_ret2
    exact ⟨rfl, b1⟩
  · by_cases h2 : ((starts (bl s)).length : Int) < n
    · have e1 : linT s n = ⟨#[]⟩ := if_pos (.inr h2)
      have e2 : linE s n = 1 := if_pos (.inr h2)
      rw [e1, e2]
      clear e1 e2
      go_enter Try.func15, Try.ntmps15
      go_wp2_with fail
      refine (starts_any s w hs).mono ?_
      rintro e w1 ⟨v, rfl, o1, b1⟩
      obtain ⟨x, c, rfl, r1⟩ := rowN_of_owns o1
      clear o1 r1
      go_wp2
      go_ret2
      exact ⟨rfl, b1⟩
    · obtain ⟨i, rfl⟩ : ∃ i : Nat, n = (i : Int) + 1 := ⟨(n - 1).toNat, by omega⟩
      have hi : i < (starts (bl s)).length := by omega
      have e1 : linT s ((i : Int) + 1) = s.extract (nthN (starts (bl s)) i) (fin (starts (bl s)) (i + 1) s.size) := by
        unfold linT
        rw [if_neg (by omega), show ((i : Int) + 1).toNat = i + 1 by omega, show i + 1 - 1 = i by omega]
      have e2 : linE s ((i : Int) + 1) = 0 := if_neg (by omega)
      rw [e1, e2]
      obtain ⟨a1, a2, a3, a4, a5⟩ := line_spec s i hi
      have HE := Lib.hid (fun x c w h => end_any s x c i w h hi hs)
      clear e1 e2 a3 a4 a5 h1 h2
      go_enter Try.func15, Try.ntmps15
      go_wp2_with fail
      refine (starts_any s w hs).mono ?_
      rintro e w1 ⟨v, rfl, o1, b1⟩
      obtain ⟨x, c, rfl, r1⟩ := rowN_of_owns o1
      obtain ⟨g, rfl, hg, hc⟩ := r1 (by omega)
      have c1 := hc i hi
      have HR := Lib.hid (fun q => HE.out _ c (w1.drewN q) (r1.keep (below_draw (Below.refl _ _) q)))
      have B1 := Lib.hid b1
      clear o1 hc r1 HE
      generalize hF : fin (starts (bl s)) (i + 1) s.size = F at a1 a2 HR
      generalize hG : nthN (starts (bl s)) i = G at a1 c1
      have HF := Lib.hid hF
      have HG := Lib.hid hG
      clear hF hG
      generalize (starts (bl s)).length = n at hm hi HR ⊢
      have b0 : (0 : Int) ≤ (i : Int) := by omega
      have b2 : (i : Int) < (n : Int) := by omega
      have b3 : (i : Int) + 1 ≤ (n : Int) := by omega
      have b4 : (0 : Int) ≤ (G : Int) := by omega
      have b5 : (G : Int) ≤ (F : Int) := by omega
      have b6 : (F : Int) ≤ (s.size : Int) := by omega
      have hw : IntKind.i64.wrap ((i : Int) + 1 - 1) = (i : Int) := by rw [IntKind.wrap_i64]; omega
      clear b1
      go_wp2
      go_quiet ((go_at_call 22; exact Calls.quiet_of_same (HR.out _)))
      clear hw
      go_wp2
      go_ret2
      exact ⟨by rw [HG.out, HF.out]; rfl, below_draw B1.out _⟩

set_option maxHeartbeats 2000000 in
theorem rline_any (s : ByteArray) (n : Int) (w : World) (hs : s.size ≤ 1099511627776) :
    Calls Try.prog 16 #[.string s, .int .i64 n] w fun e w' => e = .returned (.tuple #[.string (linT s n), .int .i64 (linE s n)]) ∧ Below w.heap.size w w' := by
  have hm := starts_most s
  by_cases h1 : n < 1
  · have e1 : linT s n = ⟨#[]⟩ := if_pos (.inl h1)
    have e2 : linE s n = 1 := if_pos (.inl h1)
    rw [e1, e2]
    clear e1 e2
    go_enter Try.func16, Try.ntmps16
    go_wp2_with fail
    refine (rstarts_any s w hs).mono ?_
    rintro e w1 ⟨v, rfl, o1, b1⟩
    obtain ⟨x, c, rfl, r1⟩ := rowN_of_owns o1
    clear o1 r1
    go_wp2
    go_ret2
    exact ⟨rfl, b1⟩
  · by_cases h2 : ((starts (bl s)).length : Int) < n
    · have e1 : linT s n = ⟨#[]⟩ := if_pos (.inr h2)
      have e2 : linE s n = 1 := if_pos (.inr h2)
      rw [e1, e2]
      clear e1 e2
      go_enter Try.func16, Try.ntmps16
      go_wp2_with fail
      refine (rstarts_any s w hs).mono ?_
      rintro e w1 ⟨v, rfl, o1, b1⟩
      obtain ⟨x, c, rfl, r1⟩ := rowN_of_owns o1
      clear o1 r1
      go_wp2
      go_ret2
      exact ⟨rfl, b1⟩
    · obtain ⟨i, rfl⟩ : ∃ i : Nat, n = (i : Int) + 1 := ⟨(n - 1).toNat, by omega⟩
      have hi : i < (starts (bl s)).length := by omega
      have e1 : linT s ((i : Int) + 1) = s.extract (nthN (starts (bl s)) i) (fin (starts (bl s)) (i + 1) s.size) := by
        unfold linT
        rw [if_neg (by omega), show ((i : Int) + 1).toNat = i + 1 by omega, show i + 1 - 1 = i by omega]
      have e2 : linE s ((i : Int) + 1) = 0 := if_neg (by omega)
      rw [e1, e2]
      obtain ⟨a1, a2, a3, a4, a5⟩ := line_spec s i hi
      have A3 := Lib.hid a3
      have A4 := Lib.hid a4
      clear e1 e2 a3 a4 a5 h1 h2
      go_enter Try.func16, Try.ntmps16
      go_wp2_with fail
      refine (rstarts_any s w hs).mono ?_
      rintro e w1 ⟨v, rfl, o1, b1⟩
      obtain ⟨x, c, rfl, r1⟩ := rowN_of_owns o1
      obtain ⟨g, rfl, hg, hc⟩ := r1 (by omega)
      have c1 := hc i hi
      have B1 := Lib.hid b1
      clear o1 hc r1
      generalize hF : fin (starts (bl s)) (i + 1) s.size = F at a1 a2 A3 A4
      generalize hG : nthN (starts (bl s)) i = G at a1 c1 A3
      have HF := Lib.hid hF
      have HG := Lib.hid hG
      clear hF hG
      generalize (starts (bl s)).length = n at hm hi ⊢
      have b0 : (0 : Int) ≤ (i : Int) := by omega
      have b2 : (i : Int) < (n : Int) := by omega
      have b3 : (i : Int) + 1 ≤ (n : Int) := by omega
      have b4 : (0 : Int) ≤ (G : Int) := by omega
      clear b1
      go_wp2
      go_loopw [7] (fun p wr => ∃ k : Nat, p = .int .i64 k ∧ G ≤ k ∧ k ≤ F ∧ wr = w1) (fun p _ => s.size - (intOf p).toNat)
      case atStart => exact ⟨G, rfl, Nat.le_refl _, a1, rfl⟩
      case round =>
        obtain ⟨k, rfl, hk1, hk2, rfl⟩ := hrel
        have k0 : (0 : Int) ≤ (k : Int) := by omega
        by_cases hlt : k < F
        · have hks : k < s.size := by omega
          have k1 : (k : Int) < (s.size : Int) := by omega
          obtain ⟨t1, t2⟩ := byte_test hks
          have hn := A3.out k hk1 hlt
          have e1 := byN_get s k hks
          have l1 := byN_lt s k
          have hne : byN s k ≠ 10 := fun e => hn (by rw [t1, t2.1 e])
          have d1 : ((byN s k : Int) != 10) = true := bne_iff_ne.2 (by omega)
          have d2 : ((byN s k : Int) == 10) = false := beq_eq_false_iff_ne.2 (by omega)
          clear t1 t2 hn hne
          generalize byN s k = B at e1 l1 d1 d2
          go_wp2
          go_roundw
          case rel => exact ⟨k + 1, by go_num, by omega, by omega, trivial⟩
          case measure => simp [intOf]; omega
        · obtain rfl : k = F := by omega
          by_cases hks : k < s.size
          · have k1 : (k : Int) < (s.size : Int) := by omega
            obtain ⟨t1, t2⟩ := byte_test hks
            have hn := A4.out hks
            rw [t1] at hn
            have e1 := byN_get s k hks
            rw [t2.2 (Option.some.inj hn)] at e1
            have b5 : (G : Int) ≤ (k : Int) := by omega
            clear t1 t2 hn
            go_wp2
            go_ret2
            exact ⟨by rw [HG.out, HF.out]; rfl, B1.out⟩
          · have b5 : (G : Int) ≤ (k : Int) := by omega
            have b6 : (k : Int) ≤ (s.size : Int) := by omega
            go_wp2
            go_ret2
            exact ⟨by rw [HG.out, HF.out]; rfl, B1.out⟩
end Go.Proofs.Ytckioinjgdjohab
