/- Contracts of span.Check, check, grown, gain and of the reference's Check. -/
import Derived.Test.YtckioinjgdjohaaEdCore
import Derived.IntWalk
namespace Go.Proofs.Ytckioinjgdjohaa
open Go.RowKit Em

/-- What Check answers. -/
def errC (n : Int) (L : List Ed) : Int := if n < 0 ∨ 65536 < n then 1 else errS n L
/-- What check answers. -/
def errT (s : ByteArray) (L : List Ed) : Int := if 65536 < s.size then 2 else errS s.size L

theorem check_any (n : Int) (x : Option Addr) (c : Nat) (L : List Ed) (w : World) (hr : EdI w x L) (hl : L.length ≤ 4611686018427387904) :
    Calls Try.prog 12 #[.int .i64 n, .slice x L.length c] w fun e w' => e = .returned (.int .i64 (errC n L)) ∧ Below w.heap.size w w' := by
  by_cases h1 : n < 0
  · have hfin : errC n L = 1 := if_pos (.inl h1)
    rw [hfin]
    clear hfin hr
    go_enter Try.func12, Try.ntmps12
    go_wp2
    go_ret
    exact ⟨rfl, Below.refl _ _⟩
  · by_cases h2 : 65536 < n
    · have hfin : errC n L = 1 := if_pos (.inr h2)
      rw [hfin]
      clear hfin hr
      go_enter Try.func12, Try.ntmps12
      go_wp2
      go_ret
      exact ⟨rfl, Below.refl _ _⟩
    · have hfin : errC n L = errS n L := if_neg (by omega)
      rw [hfin]
      have Hr := Lib.hid hr
      clear hfin hr
      go_enter Try.func12, Try.ntmps12
      go_wp2_with fail
      refine (stand_any n x c L w Hr.out hl).mono ?_
      rintro e w1 ⟨rfl, hb⟩
      go_wp2
      go_ret
      exact ⟨rfl, hb⟩

theorem rcheck_any (n : Int) (x : Option Addr) (c : Nat) (L : List Ed) (w : World) (hr : EdI w x L) (hl : L.length ≤ 4611686018427387904) :
    Calls Try.prog 13 #[.int .i64 n, .slice x L.length c] w fun e w' => e = .returned (.int .i64 (errC n L)) ∧ Below w.heap.size w w' := by
  by_cases h1 : n < 0
  · have hfin : errC n L = 1 := if_pos (.inl h1)
    rw [hfin]
    clear hfin hr
    go_enter Try.func13, Try.ntmps13
    go_wp2
    go_ret
    exact ⟨rfl, Below.refl _ _⟩
  · by_cases h2 : 65536 < n
    · have hfin : errC n L = 1 := if_pos (.inr h2)
      rw [hfin]
      clear hfin hr
      go_enter Try.func13, Try.ntmps13
      go_wp2
      go_ret
      exact ⟨rfl, Below.refl _ _⟩
    · have hfin : errC n L = errS n L := if_neg (by omega)
      rw [hfin]
      have Hr := Lib.hid hr
      clear hfin hr
      cases hs : sd n 0 L with
      | true =>
        have hfin : errS n L = 0 := if_pos hs
        rw [hfin]
        have Hs := Lib.hid hs
        clear hfin hs
        go_enter Try.func13, Try.ntmps13
        go_wp2_with fail
        refine (rstand_any n x c L w Hr.out hl).mono ?_
        rw [Hs.out]
        rintro e w1 ⟨rfl, hb⟩
        go_wp2
        go_ret
        exact ⟨rfl, hb⟩
      | false =>
        have hfin : errS n L = 13 := if_neg (by rw [hs]; decide)
        rw [hfin]
        have Hs := Lib.hid hs
        clear hfin hs
        go_enter Try.func13, Try.ntmps13
        go_wp2_with fail
        refine (rstand_any n x c L w Hr.out hl).mono ?_
        rw [Hs.out]
        rintro e w1 ⟨rfl, hb⟩
        go_wp2
        go_ret
        exact ⟨rfl, hb⟩

theorem scheck_any (s : ByteArray) (x : Option Addr) (c : Nat) (L : List Ed) (w : World) (hr : EdI w x L) (hl : L.length ≤ 4611686018427387904) :
    Calls Try.prog 26 #[.string s, .slice x L.length c] w fun e w' => e = .returned (.int .i64 (errT s L)) ∧ Below w.heap.size w w' := by
  by_cases h2 : 65536 < s.size
  · have hfin : errT s L = 2 := if_pos h2
    rw [hfin]
    clear hfin hr
    go_enter Try.func26, Try.ntmps26
    go_wp2
    go_ret
    exact ⟨rfl, Below.refl _ _⟩
  · have hfin : errT s L = errS s.size L := if_neg (by omega)
    rw [hfin]
    have Hr := Lib.hid hr
    clear hfin hr
    go_enter Try.func26, Try.ntmps26
    go_wp2_with fail
    refine (stand_any s.size x c L w Hr.out hl).mono ?_
    rintro e w1 ⟨rfl, hb⟩
    go_wp2
    go_ret
    exact ⟨rfl, hb⟩

theorem grown_any (f t : Int) (s : ByteArray) (w : World) (h1 : 0 ≤ f) (h2 : f ≤ t) (h3 : t ≤ 4611686018427387904) (h4 : s.size ≤ 4611686018427387904) :
    Calls Try.prog 30 #[.agg #[.int .i64 f, .int .i64 t, .string s]] w fun e w' => e = .returned (.int .i64 (gr ⟨f, t, s⟩)) ∧ Below w.heap.size w w' := by
  unfold gr
  go_enter Try.func30, Try.ntmps30
  go_wp2
  go_ret
  exact ⟨rfl, (Below.refl _ _).alloc (Nat.le_refl _) _⟩

/-- A sum that wraps. -/
def gnW : Int → List Ed → Int
  | a, [] => a
  | a, e :: l => gnW (wrap64 (a + gr e)) l

/-- Edits that may be reckoned with. -/
def Fine (n : Int) (L : List Ed) : Prop := n ≤ 4611686018427387904 ∧ sd n 0 L = true ∧ ∀ i, i < L.length → (nthE L i).x.size ≤ 4611686018427387904

theorem sd_nth {n : Int} : ∀ {L : List Ed} {p : Int}, sd n p L = true → ∀ i, i < L.length → p ≤ (nthE L i).f ∧ (nthE L i).f ≤ (nthE L i).t ∧ (nthE L i).t ≤ n
  | [], _, _, i, hi => by simp at hi
  | e :: l, p, h, i, hi => by
    obtain ⟨h1, h2, h3, h4⟩ := sd_cons.1 h
    cases i with
    | zero => exact ⟨h1, h2, h3⟩
    | succ i =>
      have := sd_nth h4 i (by simpa using hi)
      have e1 : nthE (e :: l) (i + 1) = nthE l i := rfl
      rw [e1]
      omega

set_option maxHeartbeats 1000000 in
theorem gain_any (n : Int) (x : Option Addr) (c : Nat) (L : List Ed) (w : World) (hr : EdI w x L) (hl : L.length ≤ 4611686018427387904) (hf : Fine n L) :
    Calls Try.prog 27 #[.slice x L.length c] w fun e w' => e = .returned (.int .i64 (gnW 0 L)) ∧ Below w.heap.size w w' := by
  have Hr := Lib.hid hr
  have Hf := Lib.hid hf
  clear hr hf
  go_enter Try.func27, Try.ntmps27
  go_wp2
  go_loopw [3, 8] (fun a i wr => ∃ (k : Nat) (p : Int), k ≤ L.length ∧ i = .int .i64 k ∧ a = .int .i64 p ∧ gnW p (L.drop k) = gnW 0 L ∧ Below w.heap.size w wr) (fun _ i _ => L.length - (intOf i).toNat)
  case atStart => exact ⟨0, 0, by omega, rfl, rfl, rfl, Below.refl _ _⟩
  case round =>
    obtain ⟨k, p, hk, rfl, rfl, hsd, hb⟩ := hrel
    have Hsd := Lib.hid hsd
    clear hsd
    by_cases hlt : k < L.length
    · obtain ⟨g, o, f, t, s, rfl, hg, he, d0, d1, d2⟩ := Hr.out.at hb hlt
      have HE := Lib.hid (drop_nth hlt)
      obtain ⟨f1, f2, f3⟩ := Hf.out
      obtain ⟨n1, n2, n3⟩ := sd_nth f2 k hlt
      have n4 := f3 k hlt
      rw [he] at HE n1 n2 n3 n4
      change 0 ≤ f at n1
      change f ≤ t at n2
      change t ≤ n at n3
      change s.size ≤ _ at n4
      have n5 : t ≤ 4611686018427387904 := by omega
      have Hb := Lib.hid hb
      have hgs := hb.size
      have b0 : (0 : Int) ≤ (k : Int) := by omega
      have b1 : (k : Int) < (L.length : Int) := by omega
      have hst : gnW (wrap64 (p + gr ⟨f, t, s⟩)) (L.drop (k + 1)) = gnW 0 L := by
        rw [← Hsd.out, HE.out]; rfl
      have Hst := Lib.hid hst
      clear hb he hst f1 f2 f3 n3
      go_wp2_with fail
      refine (grown_any f t s _ n1 n2 n5 n4).mono ?_
      rintro e w1 ⟨rfl, hb1⟩
      generalize gr ⟨f, t, s⟩ = G at Hst
      go_wp2
      go_roundw
      case rel => exact ⟨k + 1, _, by omega, by go_num, rfl, Hst.out, (Hb.out.alloc hgs _).trans (hb1.mono (by simp; omega))⟩
      case measure => simp [intOf]; omega
    · have hfin : p = gnW 0 L := by
        have : L.drop k = [] := List.drop_of_length_le (by omega)
        rw [← Hsd.out, this]; rfl
      have Hfin := Lib.hid hfin
      clear hfin
      go_wp2
      go_ret
      exact ⟨ret_int Hfin.out, hb⟩
end Go.Proofs.Ytckioinjgdjohaa
