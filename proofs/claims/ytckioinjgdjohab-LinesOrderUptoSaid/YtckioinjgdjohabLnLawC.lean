/- The walks of the laws LinesOrder, LinesWhole. -/
import Derived.Test.YtckioinjgdjohabLnLawB
namespace Go.Proofs.Ytckioinjgdjohab
open Go.RowKit Em

theorem ln_mono (s : ByteArray) {a b : Nat} (h : a ≤ b) (hb : b ≤ s.size) : ln (bl s) a ≤ ln (bl s) b := by
  have h1 := ln_pos (bl s) a
  have h2 := ln_le (bl s) a (by rw [bl_size]; omega)
  have h3 := (starts_side (bl s) a (by rw [bl_size]; omega) (ln (bl s) a - 1) (by omega)).2 (by omega)
  have h4 := (starts_side (bl s) b (by rw [bl_size]; omega) (ln (bl s) a - 1) (by omega)).1 (by omega)
  omega
theorem order_all (s : ByteArray) (a b : Nat) (ha : a ≤ s.size) (hb : b ≤ s.size) :
    (a < b → ln (bl s) a < ln (bl s) b ∨ (ln (bl s) a = ln (bl s) b ∧ (a : Int) - (bg (bl s) a : Nat) + 1 < (b : Int) - (bg (bl s) b : Nat) + 1)) ∧
    (¬ a < b → ln (bl s) b < ln (bl s) a ∨ (ln (bl s) a = ln (bl s) b ∧ (b : Int) - (bg (bl s) b : Nat) + 1 ≤ (a : Int) - (bg (bl s) a : Nat) + 1)) := by
  have e1 := starts_bg (bl s) a (by rw [bl_size]; exact ha)
  have e2 := starts_bg (bl s) b (by rw [bl_size]; exact hb)
  constructor
  · intro h
    have hm := ln_mono s (show a ≤ b by omega) hb
    rcases Nat.lt_or_ge (ln (bl s) a) (ln (bl s) b) with h1 | h1
    · exact .inl h1
    · have he : ln (bl s) a = ln (bl s) b := by omega
      rw [he] at e1
      exact .inr ⟨he, by omega⟩
  · intro h
    have hm := ln_mono s (show b ≤ a by omega) ha
    rcases Nat.lt_or_ge (ln (bl s) b) (ln (bl s) a) with h1 | h1
    · exact .inl h1
    · have he : ln (bl s) a = ln (bl s) b := by omega
      rw [he] at e1
      exact .inr ⟨he, by omega⟩

set_option maxRecDepth 100000 in
set_option maxHeartbeats 8000000 in
theorem walk_LinesOrder (s : ByteArray) (a b : Int) (w : World) (hs' : s.size ≤ 1048576) (_ : (Lit.int .i64 a).wf = true) (_ : (Lit.int .i64 b).wf = true) :
    Calls Try.prog 9 #[.string s, .int .i64 a, .int .i64 b] w fun e w' => e = .returned (.bool true) ∧ Below w.heap.size w w' := by
  have hs : s.size ≤ 1099511627776 := by omega
  have H1 := Lib.hid (fun w => at_any s a w hs)
  have H2 := Lib.hid (fun w => at_any s b w hs)
  have hcase : (∃ l c e : Int, atV s a = .tuple #[.agg #[.int .i64 l, .int .i64 c], .int .i64 e] ∧ ∃ l' c' e' : Int, atV s b = .tuple #[.agg #[.int .i64 l', .int .i64 c'], .int .i64 e'] ∧ (e = 1 ∨ (e = 0 ∧ e' = 1))) ∨
      (∃ (L L' : Nat) (C C' : Int), atV s a = .tuple #[.agg #[.int .i64 L, .int .i64 C], .int .i64 0] ∧ atV s b = .tuple #[.agg #[.int .i64 L', .int .i64 C'], .int .i64 0] ∧ ((a < b ∧ (L < L' ∨ (L = L' ∧ C < C'))) ∨ (¬ a < b ∧ (L' < L ∨ (L = L' ∧ C' ≤ C))))) := by
    by_cases ha : a < 0 ∨ (s.size : Int) < a
    · obtain ⟨l', c', e', hb⟩ := atV_form s b
      exact .inl ⟨_, _, _, atV_bad ha, _, _, _, hb, .inl rfl⟩
    · by_cases hb : b < 0 ∨ (s.size : Int) < b
      · exact .inl ⟨_, _, _, atV_good (by omega) (by omega), _, _, _, atV_bad hb, .inr ⟨rfl, rfl⟩⟩
      · obtain ⟨x, rfl⟩ := Int.eq_ofNat_of_zero_le (show 0 ≤ a by omega)
        obtain ⟨y, rfl⟩ := Int.eq_ofNat_of_zero_le (show 0 ≤ b by omega)
        obtain ⟨o1, o2⟩ := order_all s x y (by omega) (by omega)
        refine .inr ⟨_, _, _, _, atV_good (by omega) (by omega), atV_good (by omega) (by omega), ?_⟩
        simp only [Int.toNat_natCast]
        by_cases h : x < y
        · exact .inl ⟨by omega, o1 h⟩
        · exact .inr ⟨by omega, o2 h⟩
  rcases hcase with ⟨l, c, e, hv, l', c', e', hv', hbad⟩ | ⟨L, L', C, C', hv, hv', hord⟩
  · rw [hv] at H1
    rw [hv'] at H2
    clear hv hv'
    rcases hbad with rfl | ⟨rfl, rfl⟩
    all_goals
      go_enter Try.func9, Try.ntmps9
      go_wp2_with fail
      refine (H1.out w).mono ?_
      rintro e1 w1 ⟨rfl, b1⟩
      have B1 := Lib.hid (b1.alloc b1.size (.cells #[.int .i64 l, .int .i64 c] 33))
      clear b1
      go_wp2_with fail
      refine (H2.out _).mono ?_
      rintro e2 w2 ⟨rfl, b2⟩
      have B2' := B1.out.trans (b2.mono B1.out.size)
      have B2 := Lib.hid (B2'.alloc B2'.size (.cells #[.int .i64 l', .int .i64 c'] 33))
      clear b2 B2'
      go_wp2_with fail
      refine (fixed_any _).mono ?_
      rintro e3 w3 ⟨rfl, b3⟩
      have B3 := Lib.hid (B2.out.trans (b3.mono B2.out.size))
      clear b3
      go_wp2_with fail
      refine (fixed_any _).mono ?_
      rintro e4 w4 ⟨rfl, b4⟩
      have B4 := Lib.hid (B3.out.trans (b4.mono B3.out.size))
      clear b4
      go_wp2
      go_ret
      exact ⟨rfl, B4.out⟩
  · rw [hv] at H1
    rw [hv'] at H2
    clear hv hv'
    have hfacts : (a < b ∧ ((L < L') ∨ (¬ L < L' ∧ ((L : Int) == (L' : Int)) = true ∧ C < C'))) ∨ (¬ a < b ∧ ¬ L < L' ∧ (((L : Int) == (L' : Int)) = false ∨ (((L : Int) == (L' : Int)) = true ∧ ¬ C < C'))) := by
      rcases hord with ⟨h1, h2 | ⟨h2, h3⟩⟩ | ⟨h1, h2 | ⟨h2, h3⟩⟩
      · exact .inl ⟨h1, .inl h2⟩
      · exact .inl ⟨h1, .inr ⟨by omega, beq_iff_eq.2 (by omega), h3⟩⟩
      · exact .inr ⟨h1, by omega, .inl (beq_eq_false_iff_ne.2 (by omega))⟩
      · exact .inr ⟨h1, by omega, .inr ⟨beq_iff_eq.2 (by omega), by omega⟩⟩
    have HF := Lib.hid hfacts
    clear hord hfacts
    go_enter Try.func9, Try.ntmps9
    go_wp2_with fail
    refine (H1.out w).mono ?_
    rintro e1 w1 ⟨rfl, b1⟩
    have P1 : Hid (PBox (w1.alloc (.cells #[.int .i64 L, .int .i64 C] 33)) w1.heap.size L C) := Lib.hid (heap_alloc_new w1 _)
    have B1 := Lib.hid (b1.alloc b1.size (.cells #[.int .i64 L, .int .i64 C] 33))
    clear b1
    go_wp2_with fail
    refine (H2.out _).mono ?_
    rintro e2 w2 ⟨rfl, b2⟩
    have Q2 : Hid (PBox (w2.alloc (.cells #[.int .i64 L', .int .i64 C'] 33)) w2.heap.size L' C') := Lib.hid (heap_alloc_new w2 _)
    have P2 := Lib.hid ((P1.out.keep b2).keep ((Below.refl w2.heap.size w2).alloc (Nat.le_refl _) (.cells #[.int .i64 L', .int .i64 C'] 33)))
    have B2' := B1.out.trans (b2.mono B1.out.size)
    have B2 := Lib.hid (B2'.alloc B2'.size (.cells #[.int .i64 L', .int .i64 C'] 33))
    clear b2 B2'
    go_wp2_with fail
    refine (fixed_any _).mono ?_
    rintro e3 w3 ⟨rfl, b3⟩
    have k0 := (P2.out.keep b3).c0
    have k1 := (P2.out.keep b3).c1
    have j0 := (Q2.out.keep b3).c0
    have j1 := (Q2.out.keep b3).c1
    have B3 := Lib.hid (B2.out.trans (b3.mono B2.out.size))
    clear b3
    rcases HF.out with ⟨h1, h2 | ⟨h2, h3, h4⟩⟩ | ⟨h1, h2, h3 | ⟨h3, h4⟩⟩
    all_goals
      go_wp2
      go_ret
      exact ⟨by first | rfl | (simp [*]; done) | (simp; omega) | (simp [*]; omega), B3.out⟩

theorem whole_step (s : ByteArray) (k : Nat) (y : ByteArray) (hk : k + 1 < (starts (bl s)).length) (hy : bl y = (bl s).take (fin (starts (bl s)) (k + 1) s.size)) :
    bl (y ++ ⟨#[10]⟩ ++ s.extract (nthN (starts (bl s)) (k + 1)) (fin (starts (bl s)) (k + 1 + 1) s.size)) = (bl s).take (fin (starts (bl s)) (k + 1 + 1) s.size) := by
  obtain ⟨a1, a2, a3, a4, a5⟩ := line_spec s k (by omega)
  obtain ⟨c1, c2, _, _, _⟩ := line_spec s (k + 1) hk
  have e := a5 hk
  have hlt : fin (starts (bl s)) (k + 1) s.size < s.size := by omega
  have h10 := a4 hlt
  rw [bl_append, bl_append, bl_extract, hy, e]
  rw [e] at c1
  generalize fin (starts (bl s)) (k + 1) s.size = F at *
  generalize fin (starts (bl s)) (k + 1 + 1) s.size = F2 at *
  have h11 : (bl s).take (F + 1) = (bl s).take F ++ [10] := take_step h10
  have h12 : (bl s).take F2 = (bl s).take (F + 1) ++ ((bl s).take F2).drop (F + 1) := take_drop_split (bl s) c1
  rw [h12, h11]
  have h13 : ((bl s).take F ++ [10]).length = F + 1 := by rw [List.length_append, List.length_take, bl_size]; simp; omega
  rw [List.drop_append_of_le_length (by rw [h13]; exact Nat.le_refl _), List.drop_of_length_le (by rw [h13]; exact Nat.le_refl _), List.nil_append]
  rfl

set_option maxRecDepth 100000 in
set_option maxHeartbeats 8000000 in
theorem walk_LinesWhole (s : ByteArray) (w : World) (_ : s.size ≤ maxLen) :
    Calls Try.prog 8 #[.string s] w fun e w' => e = .returned (.bool true) ∧ Below w.heap.size w w' := by
  by_cases hbig : 4000 < s.size
  · go_enter Try.func8, Try.ntmps8
    go_wp2_with fail
    refine (fixed_any _).mono ?_
    rintro e1 w1 ⟨rfl, b1⟩
    have B1 := Lib.hid b1
    clear b1
    go_wp2_with fail
    refine (fixed_any _).mono ?_
    rintro e2 w2 ⟨rfl, b2⟩
    have B2 := Lib.hid (B1.out.trans (b2.mono B1.out.size))
    clear b2
    go_wp2
    go_ret
    exact ⟨rfl, B2.out⟩
  · have hs : s.size ≤ 1099511627776 := by omega
    have hm := starts_most s
    have hpos := starts_pos (bl s)
    have HC := Lib.hid (fun w => count_any s w hs)
    have HL := Lib.hid (fun (n : Int) w => line_any s n w hs)
    have HT : Hid (∀ k : Nat, k < (starts (bl s)).length → linT s ((k : Int) + 1) = s.extract (nthN (starts (bl s)) k) (fin (starts (bl s)) (k + 1) s.size) ∧ linE s ((k : Int) + 1) = 0) := Lib.hid fun k hk => by
      unfold linT linE
      rw [if_neg (by omega), if_neg (by omega), show ((k : Int) + 1).toNat = k + 1 by omega, show k + 1 - 1 = k by omega]
      exact ⟨rfl, rfl⟩
    have HW := Lib.hid (whole_step s)
    have HS := Lib.hid (line_spec s)
    have HE : Hid (fin (starts (bl s)) (starts (bl s)).length s.size = s.size) := Lib.hid (if_neg (by omega))
    have H0 : Hid (nthN (starts (bl s)) 0 = 0) := Lib.hid rfl
    generalize starts (bl s) = S at *
    go_enter Try.func8, Try.ntmps8
    go_wp2_with fail
    refine (fixed_any _).mono ?_
    rintro e1 w1 ⟨rfl, b1⟩
    have B1 := Lib.hid b1
    clear b1
    go_wp2
    go_loopw [3, 4] (fun t n wr => ∃ (k : Nat) (y : ByteArray), t = .string y ∧ n = .int .i64 ((k : Int) + 1) ∧ k ≤ S.length ∧ y.size ≤ 4000 ∧ (k = 0 → y = ⟨#[]⟩) ∧ (∀ j, k = j + 1 → bl y = (bl s).take (fin S (j + 1) s.size)) ∧ Below w1.heap.size w1 wr) (fun _ n _ => (S.length + 1 - (intOf n).toNat))
    case atStart => exact ⟨0, ⟨#[]⟩, rfl, rfl, by omega, by decide, fun _ => rfl, fun j h => by omega, Below.refl _ _⟩
    case round =>
      obtain ⟨k, y, rfl, rfl, hk, hy, hy0, hyj, hb⟩ := hrel
      have Hy0 := Lib.hid hy0
      have Hyj := Lib.hid hyj
      have Hb := Lib.hid hb
      have hgs := hb.size
      clear hy0 hyj hb
      by_cases hlt : k < S.length
      · obtain ⟨t1, t2⟩ := HT.out k hlt
        obtain ⟨a1, a2, _, _, _⟩ := HS.out k hlt
        have HLk := Lib.hid (HL.out ((k : Int) + 1))
        rw [t1, t2] at HLk
        have hu : (s.extract (nthN S k) (fin S (k + 1) s.size)).size ≤ 4000 := by rw [ByteArray.size_extract]; omega
        have Ha2 := Lib.hid a2
        have hk2 : (k : Int) + 1 ≤ 4001 := by omega
        have hk3 : (k : Int) + 1 ≤ (S.length : Int) := by omega
        clear t1 t2 a1
        cases k with
        | zero =>
          have hy1 := Hy0.out rfl
          subst hy1
          have hfin : bl (⟨#[]⟩ ++ s.extract (nthN S 0) (fin S (0 + 1) s.size)) = (bl s).take (fin S (0 + 1) s.size) := by
            rw [bl_append, bl_extract, H0.out]; rfl
          have Hfin := Lib.hid hfin
          have hsz : (s.extract (nthN S 0) (fin S (0 + 1) s.size)).size ≤ 9223372036854775807 := by omega
          generalize s.extract (nthN S 0) (fin S (0 + 1) s.size) = U at HLk Hfin hu hsz
          have hsz2 : ¬ 9223372036854775807 < U.size := by omega
          have hn1 : U.size ≤ 4000 := hu
          clear hfin a2
          simp only [Int.natCast_zero, Int.zero_add] at HLk hk2 hk3 ⊢
          go_wp2_with fail
          refine (HC.out _).mono ?_
          rintro e2 w2 ⟨rfl, rfl⟩
          go_wp2_with fail
          refine (HLk.out _).mono ?_
          rintro e3 w3 ⟨rfl, b3⟩
          have Hb3 := Lib.hid (Hb.out.trans (b3.mono hgs))
          clear b3
          go_wp2
          go_roundw
          case rel => exact ⟨1, _, rfl, by go_num, by omega, by have : (⟨#[]⟩ : ByteArray).size = 0 := rfl; rw [ByteArray.size_append]; omega, fun h => by omega, fun j h => by cases h; exact Hfin.out, Hb3.out⟩
          case measure => simp [intOf]; omega
        | succ j =>
          have hfin := HW.out j y hlt (Hyj.out j rfl)
          have Hfin := Lib.hid hfin
          have hsize := congrArg List.length hfin
          rw [bl_size, List.length_take, bl_size] at hsize
          have Hsize := Lib.hid hsize
          generalize s.extract (nthN S (j + 1)) (fin S (j + 1 + 1) s.size) = U at HLk Hfin hu Hsize
          have x1 : ¬ 9223372036854775807 < y.size + 1 := by omega
          have x2 : ¬ 9223372036854775807 < y.size + 1 + U.size := by omega
          have x3 : y.size + 1 ≤ 9223372036854775807 := by omega
          have x4 : y.size + 1 + U.size ≤ 9223372036854775807 := by omega
          have x5 : (1 : Int) < (j : Int) + 1 + 1 := by omega
          clear hfin hsize a2
          push_cast at HLk hk2 hk3 ⊢
          go_wp2_with fail
          refine (HC.out _).mono ?_
          rintro e2 w2 ⟨rfl, rfl⟩
          go_wp2_with fail
          refine (HLk.out _).mono ?_
          rintro e3 w3 ⟨rfl, b3⟩
          have Hb3 := Lib.hid (Hb.out.trans (b3.mono hgs))
          clear b3
          go_wp2
          go_roundw
          case rel => exact ⟨j + 1 + 1, _, rfl, by go_num, by omega, by have := Hsize.out; have := Ha2.out; omega, fun h => by omega, fun i h => by cases h; exact Hfin.out, Hb3.out⟩
          case measure => simp [intOf]; omega
      · have hkn : k = S.length := by omega
        obtain ⟨j, hj⟩ : ∃ j, k = j + 1 := ⟨k - 1, by omega⟩
        have hfin : y = s := bl_inj (by
          rw [Hyj.out j hj, ← hj, hkn, HE.out, ← bl_size, List.take_length])
        have hneg : ¬ (k : Int) + 1 ≤ (S.length : Int) := by omega
        subst hfin
        clear hj hkn
        go_wp2_with fail
        refine (HC.out _).mono ?_
        rintro e2 w2 ⟨rfl, rfl⟩
        go_wp2
        go_ret
        exact ⟨rfl, B1.out.trans (Hb.out.mono B1.out.size)⟩
end Go.Proofs.Ytckioinjgdjohab
