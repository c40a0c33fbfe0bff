/- Contracts of span.Move and of the reference's Move. -/
import Derived.Test.YtckioinjgdjohaaEdCheck
namespace Go.Proofs.Ytckioinjgdjohaa
open Go.RowKit Em

/-- Where a place comes to, reckoned as the program does. -/
def mvW (p : Int) : Int → List Ed → Option Int
  | a, [] => some a
  | a, e :: l => if e.f ≤ p ∧ p < e.t then none else if e.t ≤ p then mvW p (wrap64 (a + gr e)) l else mvW p a l

theorem mvW_gone {p a : Int} {e : Ed} {l : List Ed} (h1 : e.f ≤ p) (h2 : p < e.t) : mvW p a (e :: l) = none := by simp [mvW, h1, h2]
theorem mvW_ahead {p a : Int} {e : Ed} {l : List Ed} (h1 : e.t ≤ p) : mvW p a (e :: l) = mvW p (wrap64 (a + gr e)) l := by
  rw [mvW, if_neg (by omega), if_pos h1]
theorem mvW_behind {p a : Int} {e : Ed} {l : List Ed} (h1 : ¬ e.f ≤ p) (h2 : ¬ e.t ≤ p) : mvW p a (e :: l) = mvW p a l := by
  rw [mvW, if_neg (by omega), if_neg h2]

/-- What Move answers. -/
def movO (n : Int) (L : List Ed) (p : Int) : Option Int := if errC n L = 0 ∧ 0 ≤ p ∧ p ≤ n then mvW p p L else none
def movV (o : Option Int) : Value := .tuple #[.int .i64 (o.getD 0), .bool o.isSome]
theorem ret_none {o : Option Int} (h : o = none) : Ending.returned (.tuple #[.int .i64 0, .bool false]) = .returned (movV o) := by rw [h]; rfl
theorem ret_some {o : Option Int} {a : Int} (h : o = some a) : Ending.returned (.tuple #[.int .i64 a, .bool true]) = .returned (movV o) := by rw [h]; rfl

theorem errC_zero {n : Int} {L : List Ed} (h : errC n L = 0) : 0 ≤ n ∧ n ≤ 65536 ∧ sd n 0 L = true := by
  unfold errC at h
  split at h
  · omega
  · unfold errS at h
    split at h
    · exact ⟨by omega, by omega, by assumption⟩
    · omega

/-- Texts that are no greater than any text that there is. -/
def Sizes (L : List Ed) : Prop := ∀ i, i < L.length → (nthE L i).x.size ≤ 4611686018427387904

set_option maxHeartbeats 2000000 in
theorem move_any (n : Int) (x : Option Addr) (c : Nat) (L : List Ed) (p : Int) (w : World) (hr : EdI w x L) (hl : L.length ≤ 4611686018427387904) (hz : Sizes L) :
    Calls Try.prog 16 #[.int .i64 n, .slice x L.length c, .int .i64 p] w fun e w' => e = .returned (movV (movO n L p)) ∧ Below w.heap.size w w' := by
  have Hr := Lib.hid hr
  have Hz := Lib.hid hz
  clear hr hz
  cases hE : (errC n L == 0) with
  | false =>
    have hne : errC n L ≠ 0 := by simpa using hE
    have hfin : movO n L p = none := if_neg (fun h => hne h.1)
    have Hfin := Lib.hid hfin
    have hN : (errC n L != 0) = true := by simpa using hE
    clear hfin hne
    have HC := Lib.hid (check_any n x c L w Hr.out hl)
    generalize errC n L = E at hE hN HC
    go_enter Try.func16, Try.ntmps16
    go_wp2_with fail
    refine HC.out.mono ?_
    rintro e w1 ⟨rfl, hb⟩
    go_wp2
    go_ret2
    exact ⟨ret_none Hfin.out, hb⟩
  | true =>
    have h0 : errC n L = 0 := by simpa using hE
    have H0 := Lib.hid h0
    have HC := Lib.hid (check_any n x c L w Hr.out hl)
    rw [h0] at HC
    clear h0 hE
    by_cases h1 : p < 0
    · have hfin : movO n L p = none := if_neg (by omega)
      have Hfin := Lib.hid hfin
      clear hfin
      go_enter Try.func16, Try.ntmps16
      go_wp2_with fail
      refine HC.out.mono ?_
      rintro e w1 ⟨rfl, hb⟩
      go_wp2
      go_ret2
      exact ⟨ret_none Hfin.out, hb⟩
    · by_cases h2 : n < p
      · have hfin : movO n L p = none := if_neg (by omega)
        have Hfin := Lib.hid hfin
        clear hfin
        go_enter Try.func16, Try.ntmps16
        go_wp2_with fail
        refine HC.out.mono ?_
        rintro e w1 ⟨rfl, hb⟩
        go_wp2
        go_ret2
        exact ⟨ret_none Hfin.out, hb⟩
      · have hmo : movO n L p = mvW p p L := if_pos ⟨H0.out, by omega, by omega⟩
        have Hmo := Lib.hid hmo
        clear hmo
        go_enter Try.func16, Try.ntmps16
        go_wp2_with fail
        refine HC.out.mono ?_
        rintro e w1 ⟨rfl, hb1⟩
        have Hr1 := Lib.hid (Hr.out.keep hb1)
        have hs1 := hb1.size
        have Hb1 := Lib.hid hb1
        clear hb1
        go_wp2
        go_loopw [8, 27] (fun a i wr => ∃ (k : Nat) (q : Int), k ≤ L.length ∧ i = .int .i64 k ∧ a = .int .i64 q ∧ mvW p q (L.drop k) = mvW p p L ∧ Below w1.heap.size w1 wr) (fun _ i _ => L.length - (intOf i).toNat)
        case atStart => exact ⟨0, p, by omega, rfl, rfl, rfl, Below.refl _ _⟩
        case round =>
          obtain ⟨k, q, hk, rfl, rfl, hsd, hb⟩ := hrel
          have Hsd := Lib.hid hsd
          clear hsd
          by_cases hlt : k < L.length
          · obtain ⟨g, o, f, t, s, rfl, hg, he, d0, d1, d2⟩ := Hr1.out.at hb hlt
            have HE := Lib.hid (drop_nth hlt)
            obtain ⟨m1, m2, m3⟩ := errC_zero H0.out
            obtain ⟨n1, n2, n3⟩ := sd_nth m3 k hlt
            have n4 := Hz.out k hlt
            rw [he] at HE n1 n2 n3 n4
            change 0 ≤ f at n1
            change f ≤ t at n2
            change t ≤ n at n3
            change s.size ≤ _ at n4
            have n5 : t ≤ 4611686018427387904 := by omega
            have Hb := Lib.hid hb
            have hgs := hb.size
            have b0 : (0 : Int) ≤ (k : Int) := by omega
            have b1 : (k : Int) < (L.length : Int) := by omega
            clear hb he m3
            by_cases c1 : f ≤ p
            · by_cases c2 : p < t
              · have hfin : movO n L p = none := by rw [Hmo.out, ← Hsd.out, HE.out]; exact mvW_gone c1 c2
                have Hfin := Lib.hid hfin
                clear hfin
                go_wp2
                go_ret2
                exact ⟨ret_none Hfin.out, Hb1.out.trans ((Hb.out.alloc hgs _).mono hs1)⟩
              · have c3 : t ≤ p := by omega
                have hst : mvW p (wrap64 (q + gr ⟨f, t, s⟩)) (L.drop (k + 1)) = mvW p p L := by rw [← Hsd.out, HE.out]; exact (mvW_ahead c3).symm
                have Hst := Lib.hid hst
                clear hst
                go_wp2_with fail
                refine (grown_any f t s _ n1 n2 n5 n4).mono ?_
                rintro e w2 ⟨rfl, hb2⟩
                generalize gr ⟨f, t, s⟩ = G at Hst
                go_wp2
                go_roundw
                case rel => exact ⟨k + 1, _, by omega, by go_num, rfl, Hst.out, (Hb.out.alloc hgs _).trans (hb2.mono (by simp; omega))⟩
                case measure => simp [intOf]; omega
            · have c3 : ¬ t ≤ p := by omega
              have hst : mvW p q (L.drop (k + 1)) = mvW p p L := by rw [← Hsd.out, HE.out]; exact (mvW_behind c1 c3).symm
              have Hst := Lib.hid hst
              clear hst
              go_wp2
              go_roundw
              case rel => exact ⟨k + 1, _, by omega, by go_num, rfl, Hst.out, Hb.out.alloc hgs _⟩
              case measure => simp [intOf]; omega
          · have hfin : movO n L p = some q := by
              have : L.drop k = [] := List.drop_of_length_le (by omega)
              rw [Hmo.out, ← Hsd.out, this]; rfl
            have Hfin := Lib.hid hfin
            clear hfin
            go_wp2
            go_ret2
            exact ⟨ret_some Hfin.out, Hb1.out.trans (hb.mono hs1)⟩

theorem wrap_two (a b c : Int) : wrap64 (wrap64 (a + b) - c) = wrap64 (a + (b - c)) := by unfold wrap64; omega

set_option maxHeartbeats 2000000 in
theorem rmove_any (n : Int) (x : Option Addr) (c : Nat) (L : List Ed) (p : Int) (w : World) (hr : EdI w x L) (hl : L.length ≤ 4611686018427387904) (hz : Sizes L) :
    Calls Try.prog 17 #[.int .i64 n, .slice x L.length c, .int .i64 p] w fun e w' => e = .returned (movV (movO n L p)) ∧ Below w.heap.size w w' := by
  have Hr := Lib.hid hr
  have Hz := Lib.hid hz
  clear hr hz
  cases hE : (errC n L == 0) with
  | false =>
    have hne : errC n L ≠ 0 := by simpa using hE
    have hfin : movO n L p = none := if_neg (fun h => hne h.1)
    have Hfin := Lib.hid hfin
    have hN : (errC n L != 0) = true := by simpa using hE
    clear hfin hne
    have HC := Lib.hid (rcheck_any n x c L w Hr.out hl)
    generalize errC n L = E at hE hN HC
    go_enter Try.func17, Try.ntmps17
    go_wp2_with fail
    refine HC.out.mono ?_
    rintro e w1 ⟨rfl, hb⟩
    go_wp2
    go_ret2
    exact ⟨ret_none Hfin.out, hb⟩
  | true =>
    have h0 : errC n L = 0 := by simpa using hE
    have H0 := Lib.hid h0
    have HC := Lib.hid (rcheck_any n x c L w Hr.out hl)
    rw [h0] at HC
    clear h0 hE
    by_cases h1 : p < 0
    · have hfin : movO n L p = none := if_neg (by omega)
      have Hfin := Lib.hid hfin
      clear hfin
      go_enter Try.func17, Try.ntmps17
      go_wp2_with fail
      refine HC.out.mono ?_
      rintro e w1 ⟨rfl, hb⟩
      go_wp2
      go_ret2
      exact ⟨ret_none Hfin.out, hb⟩
    · by_cases h2 : n < p
      · have hfin : movO n L p = none := if_neg (by omega)
        have Hfin := Lib.hid hfin
        clear hfin
        go_enter Try.func17, Try.ntmps17
        go_wp2_with fail
        refine HC.out.mono ?_
        rintro e w1 ⟨rfl, hb⟩
        go_wp2
        go_ret2
        exact ⟨ret_none Hfin.out, hb⟩
      · have hmo : movO n L p = mvW p p L := if_pos ⟨H0.out, by omega, by omega⟩
        have Hmo := Lib.hid hmo
        clear hmo
        go_enter Try.func17, Try.ntmps17
        go_wp2_with fail
        refine HC.out.mono ?_
        rintro e w1 ⟨rfl, hb1⟩
        have Hr1 := Lib.hid (Hr.out.keep hb1)
        have hs1 := hb1.size
        have Hb1 := Lib.hid hb1
        clear hb1
        go_wp2
        go_loopw [8, 9] (fun a i wr => ∃ (k : Nat) (q : Int), k ≤ L.length ∧ i = .int .i64 k ∧ a = .int .i64 q ∧ mvW p q (L.drop k) = mvW p p L ∧ Below w1.heap.size w1 wr) (fun _ i _ => L.length - (intOf i).toNat)
        case atStart => exact ⟨0, p, by omega, rfl, rfl, rfl, Below.refl _ _⟩
        case round =>
          obtain ⟨k, q, hk, rfl, rfl, hsd, hb⟩ := hrel
          have Hsd := Lib.hid hsd
          clear hsd
          by_cases hlt : k < L.length
          · obtain ⟨g, o, f, t, s, rfl, hg, he, d0, d1, d2⟩ := Hr1.out.at hb hlt
            have HE := Lib.hid (drop_nth hlt)
            obtain ⟨m1, m2, m3⟩ := errC_zero H0.out
            obtain ⟨n1, n2, n3⟩ := sd_nth m3 k hlt
            have n4 := Hz.out k hlt
            rw [he] at HE n1 n2 n3 n4
            change 0 ≤ f at n1
            change f ≤ t at n2
            change t ≤ n at n3
            change s.size ≤ _ at n4
            have Hb := Lib.hid hb
            have hgs := hb.size
            have b0 : (0 : Int) ≤ (k : Int) := by omega
            have b1 : (k : Int) < (L.length : Int) := by omega
            clear hb he m3
            by_cases c1 : f ≤ p
            · by_cases c2 : p < t
              · have hfin : movO n L p = none := by rw [Hmo.out, ← Hsd.out, HE.out]; exact mvW_gone c1 c2
                have Hfin := Lib.hid hfin
                clear hfin
                go_wp2
                go_ret2
                exact ⟨ret_none Hfin.out, Hb1.out.trans (Hb.out.mono hs1)⟩
              · have c3 : t ≤ p := by omega
                have hst : mvW p (wrap64 (wrap64 (q + s.size) - (t - f))) (L.drop (k + 1)) = mvW p p L := by rw [← Hsd.out, HE.out, wrap_two]; exact (mvW_ahead (p := p) (a := q) (e := ⟨f, t, s⟩) (l := L.drop (k + 1)) c3).symm
                have Hst := Lib.hid hst
                clear hst
                go_wp2
                go_quiet (fail)
                go_wp2
                go_roundw
                case rel => exact ⟨k + 1, _, by omega, by go_num, rfl, Hst.out, below_draw Hb.out _⟩
                case measure => simp [intOf]; omega
            · have c3 : ¬ t ≤ p := by omega
              have hst : mvW p q (L.drop (k + 1)) = mvW p p L := by rw [← Hsd.out, HE.out]; exact (mvW_behind c1 c3).symm
              have Hst := Lib.hid hst
              clear hst
              go_wp2
              go_roundw
              case rel => exact ⟨k + 1, _, by omega, by go_num, rfl, Hst.out, Hb.out⟩
              case measure => simp [intOf]; omega
          · have hfin : movO n L p = some q := by
              have : L.drop k = [] := List.drop_of_length_le (by omega)
              rw [Hmo.out, ← Hsd.out, this]; rfl
            have Hfin := Lib.hid hfin
            clear hfin
            go_wp2
            go_ret2
            exact ⟨ret_some Hfin.out, Hb1.out.trans (hb.mono hs1)⟩
end Go.Proofs.Ytckioinjgdjohaa
