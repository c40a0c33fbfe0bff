/- Contracts of quoted's reader whole, of quoted.Scan and quoted.Value. -/
import Derived.Test.YtdpngmhjdafdpaaQuSin
namespace Go.Proofs.Ytdpngmhjdafdpaa
open Go.RowKit Em Go.Shelf
set_option linter.unusedVariables false
set_option linter.unusedSimpArgs false

theorem whole_cons (c : UInt8) (m : List UInt8) : Qm.whole (c :: m) = if c.toNat = 39 then (Qm.rune m).map fun x => (6, x.1, x.2)
    else if c.toNat = 34 then (Qm.strF (m.length + 1) m).map fun x => (7, x.1, x.2)
    else if c.toNat = 96 then (Qm.raw m).map fun x => (7, x.1, x.2)
    else none := rfl
def wholeK (r : List UInt8) : Nat := match Qm.whole r with | some (k, _, _) => k | none => 0
def WholeP (g : Nat) (s : ByteArray) (T r : List UInt8) (w : World) (e : Ending) (w' : World) : Prop :=
  e = .returned (.int .u8 (wholeK r : Nat)) ∧ (∀ k t q, Qm.whole r = some (k, t, q) → Rd w' g s q (T ++ t)) ∧ ∀ B, B ≤ g → Below B w w'

theorem whole_none {g : Nat} {s : ByteArray} {T r : List UInt8} {w w' : World} (h : Qm.whole r = none) (hb : ∀ B, B ≤ g → Below B w w') : WholeP g s T r w (.returned (.int .u8 0)) w' := by
  refine ⟨by unfold wholeK; rw [h]; rfl, (fun k t q h' => by rw [h] at h'; cases h'), hb⟩
theorem whole_part {g : Nat} {s : ByteArray} {T r : List UInt8} {w w' : World} {K : Nat} {x : Option (List UInt8 × List UInt8)} (h : Qm.whole r = x.map fun z => (K, z.1, z.2)) (hs : x.isSome = true) (hr : ∀ t q, x = some (t, q) → Rd w' g s q (T ++ t)) (hb : ∀ B, B ≤ g → Below B w w') : WholeP g s T r w (.returned (.int .u8 (K : Int))) w' := by
  cases x with
  | none => cases hs
  | some z =>
    refine ⟨by unfold wholeK; rw [h]; rfl, (fun k t q h' => ?_), hb⟩
    rw [h] at h'
    obtain ⟨rfl, h2⟩ := Prod.mk.inj (Option.some.inj h')
    obtain ⟨rfl, rfl⟩ := Prod.mk.inj h2
    exact hr _ _ rfl
theorem whole_part_no {g : Nat} {s : ByteArray} {T r : List UInt8} {w w' : World} {K : Nat} {x : Option (List UInt8 × List UInt8)} (h : Qm.whole r = x.map fun z => (K, z.1, z.2)) (hs : x.isSome = false) (hb : ∀ B, B ≤ g → Below B w w') : WholeP g s T r w (.returned (.int .u8 0)) w' := by
  cases x with
  | none => exact whole_none h hb
  | some z => cases hs

set_option maxHeartbeats 4000000 in
theorem whole_any (g : Nat) (s : ByteArray) (r T : List UInt8) (w : World) (h : Rd w g s r T) (hs : s.size ≤ 4611686018427387000) (hT : T.length + r.length ≤ 140737488355300) :
    Calls Try.prog 32 #[.pointer (some ⟨g, 0, none⟩)] w (WholeP g s T r w) := by
  cases h39 : hdN 39 r with
  | true =>
    have h1 := one_is g s r T 39 true w h (by omega) hs h39
    have hW : Qm.whole r = (Qm.rune r.tail).map fun z => (6, z.1, z.2) := by
      match r, h39 with
      | c :: r, h39 => rw [whole_cons, if_pos (of_decide_eq_true h39)]; rfl
    have hl : r.tail.length ≤ r.length := by rw [List.length_tail]; omega
    have HW := Lib.hid hW
    clear h hW
    go_enter Try.func32, Try.ntmps32
    go_wp2_with fail
    refine h1.mono ?_
    rintro e w1 ⟨rfl, k1, b1⟩
    have h2 := single_any g s r.tail T w1 k1 hs (by omega)
    have Hb1 := Lib.hid b1
    clear h1 k1 b1
    go_wp2_with fail
    refine h2.mono ?_
    rintro e w2 ⟨rfl, k2, b2⟩
    have Hk2 := Lib.hid k2
    have Hb2 := Lib.hid b2
    clear h2 k2 b2
    cases hv : (Qm.rune r.tail).isSome with
    | true =>
      have Hv := Lib.hid hv
      clear hv
      go_wp2
      go_ret
      exact whole_part HW.out Hv.out Hk2.out (fun B hB => (Hb1.out B hB).trans (Hb2.out B hB))
    | false =>
      have Hv := Lib.hid hv
      clear hv
      go_wp2
      go_ret
      exact whole_part_no HW.out Hv.out (fun B hB => (Hb1.out B hB).trans (Hb2.out B hB))
  | false =>
    have h1 := one_is g s r T 39 false w h (by omega) hs h39
    clear h
    cases h34 : hdN 34 r with
    | true =>
      have hW : Qm.whole r = (Qm.strF (r.tail.length + 1) r.tail).map fun z => (7, z.1, z.2) := by
        match r, h39, h34 with
        | c :: r, h39, h34 => rw [whole_cons, if_neg (of_decide_eq_false h39), if_pos (of_decide_eq_true h34)]; rfl
      have hl : r.tail.length ≤ r.length := by rw [List.length_tail]; omega
      have HW := Lib.hid hW
      clear hW
      go_enter Try.func32, Try.ntmps32
      go_wp2_with fail
      refine h1.mono ?_
      rintro e w0 ⟨rfl, k0, b0⟩
      have h1b := one_is g s r T 34 true w0 k0 (by omega) hs h34
      have Hb0 := Lib.hid b0
      clear h1 k0 b0 h34 h39
      go_wp2_with fail
      refine h1b.mono ?_
      rintro e w1 ⟨rfl, k1, b1⟩
      have h2 := several_any g s r.tail T w1 k1 hs (by omega)
      have Hb1 := Lib.hid b1
      clear h1b k1 b1
      go_wp2_with fail
      refine h2.mono ?_
      rintro e w2 ⟨rfl, k2, b2⟩
      have Hk2 := Lib.hid k2
      have Hb2 := Lib.hid b2
      clear h2 k2 b2
      cases hv : (Qm.strF (r.tail.length + 1) r.tail).isSome with
      | true =>
        have Hv := Lib.hid hv
        clear hv
        go_wp2
        go_ret
        exact whole_part HW.out Hv.out Hk2.out (fun B hB => ((Hb0.out B hB).trans (Hb1.out B hB)).trans (Hb2.out B hB))
      | false =>
        have Hv := Lib.hid hv
        clear hv
        go_wp2
        go_ret
        exact whole_part_no HW.out Hv.out (fun B hB => ((Hb0.out B hB).trans (Hb1.out B hB)).trans (Hb2.out B hB))
    | false =>
      cases h96 : hdN 96 r with
      | true =>
        have hW : Qm.whole r = (Qm.raw r.tail).map fun z => (7, z.1, z.2) := by
          match r, h39, h34, h96 with
          | c :: r, h39, h34, h96 => rw [whole_cons, if_neg (of_decide_eq_false h39), if_neg (of_decide_eq_false h34), if_pos (of_decide_eq_true h96)]; rfl
        have hl : r.tail.length ≤ r.length := by rw [List.length_tail]; omega
        have HW := Lib.hid hW
        clear hW
        go_enter Try.func32, Try.ntmps32
        go_wp2_with fail
        refine h1.mono ?_
        rintro e w0 ⟨rfl, k0, b0⟩
        have h1b := one_is g s r T 34 false w0 k0 (by omega) hs h34
        have Hb0 := Lib.hid b0
        clear h1 k0 b0 h34 h39
        go_wp2_with fail
        refine h1b.mono ?_
        rintro e w1 ⟨rfl, k1, b1⟩
        have h1c := one_is g s r T 96 true w1 k1 (by omega) hs h96
        have Hb1 := Lib.hid b1
        clear h1b k1 b1 h96
        go_wp2_with fail
        refine h1c.mono ?_
        rintro e w1b ⟨rfl, k1, b1⟩
        have h2 := raw_any g s r.tail T w1b k1 hs (by omega)
        have Hb1b := Lib.hid b1
        clear h1c k1 b1
        go_wp2_with fail
        refine h2.mono ?_
        rintro e w2 ⟨rfl, k2, b2⟩
        have Hk2 := Lib.hid k2
        have Hb2 := Lib.hid b2
        clear h2 k2 b2
        cases hv : (Qm.raw r.tail).isSome with
        | true =>
          have Hv := Lib.hid hv
          clear hv
          go_wp2
          go_ret
          exact whole_part HW.out Hv.out Hk2.out (fun B hB => (((Hb0.out B hB).trans (Hb1.out B hB)).trans (Hb1b.out B hB)).trans (Hb2.out B hB))
        | false =>
          have Hv := Lib.hid hv
          clear hv
          go_wp2
          go_ret
          exact whole_part_no HW.out Hv.out (fun B hB => (((Hb0.out B hB).trans (Hb1.out B hB)).trans (Hb1b.out B hB)).trans (Hb2.out B hB))
      | false =>
        have hW : Qm.whole r = none := by
          match r, h39, h34, h96 with
          | [], _, _, _ => rfl
          | c :: r, h39, h34, h96 => rw [whole_cons, if_neg (of_decide_eq_false h39), if_neg (of_decide_eq_false h34), if_neg (of_decide_eq_false h96)]
        have HW := Lib.hid hW
        clear hW
        go_enter Try.func32, Try.ntmps32
        go_wp2_with fail
        refine h1.mono ?_
        rintro e w0 ⟨rfl, k0, b0⟩
        have h1b := one_is g s r T 34 false w0 k0 (by omega) hs h34
        have Hb0 := Lib.hid b0
        clear h1 k0 b0 h34 h39
        go_wp2_with fail
        refine h1b.mono ?_
        rintro e w1 ⟨rfl, k1, b1⟩
        have h1c := one_is g s r T 96 false w1 k1 (by omega) hs h96
        have Hb1 := Lib.hid b1
        clear h1b k1 b1 h96
        go_wp2_with fail
        refine h1c.mono ?_
        rintro e w1b ⟨rfl, k1, b1⟩
        have Hb1b := Lib.hid b1
        clear h1c k1 b1
        go_wp2
        go_ret
        exact whole_none HW.out (fun B hB => ((Hb0.out B hB).trans (Hb1.out B hB)).trans (Hb1b.out B hB))

/-- A mark. -/
def mkN (n : Nat) : Bool := decide (n = 39 ∨ n = 34 ∨ n = 96)
theorem ismark_any (n : Nat) (hn : n < 256) (w : World) :
    Calls Try.prog 31 #[.int .u8 n] w fun e w' => e = .returned (.bool (mkN n)) ∧ w = w' := by
  by_cases h1 : n = 39
  · subst h1
    go_enter Try.func31, Try.ntmps31
    go_wp2
    go_ret
    exact ⟨rfl, rfl⟩
  · by_cases h2 : n = 34
    · subst h2
      go_enter Try.func31, Try.ntmps31
      go_wp2
      go_ret
      exact ⟨rfl, rfl⟩
    · by_cases h3 : n = 96
      · subst h3
        go_enter Try.func31, Try.ntmps31
        go_wp2
        go_ret
        exact ⟨rfl, rfl⟩
      · have hv : mkN n = false := decide_eq_false (by omega)
        rw [hv]
        have d1 : ((n : Int) == 39) = false := beq_eq_false_iff_ne.2 (by omega)
        have d2 : ((n : Int) == 34) = false := beq_eq_false_iff_ne.2 (by omega)
        have d3 : ((n : Int) == 96) = false := beq_eq_false_iff_ne.2 (by omega)
        go_enter Try.func31, Try.ntmps31
        go_wp2
        go_ret
        exact ⟨rfl, rfl⟩

theorem rd_start (w : World) (m : ByteArray) : Rd (w.alloc (.cells #[.string m, .int .i64 0, .slice none 0 0] 41)) w.heap.size m (bl m) [] := by
  refine ⟨0, .slice none 0 0, by omega, rfl, heap_alloc_new w _, ?_⟩
  exact World.ownsRow_nil _ _ _ _

/-- What Scan answers where a mark stands. -/
def qK (l : List UInt8) : Nat := wholeK l
def qT (n : Nat) (l : List UInt8) : Int := match Qm.whole l with | some (_, _, q) => (n : Int) - (q.length : Int) | none => 0
def qE (l : List UInt8) : Int := match Qm.whole l with | some _ => 0 | none => 4

theorem ret_3q {a a' : Nat} {b b' c c' : Int} (h1 : a = a') (h2 : b = b') (h3 : c = c') : Ending.returned (.tuple #[.int .u8 (a : Int), .int .i64 b, .int .i64 c]) = .returned (.tuple #[.int .u8 (a' : Int), .int .i64 b', .int .i64 c']) := by rw [h1, h2, h3]

theorem qscan_no (s : ByteArray) (at' : Int) (w : World) (h : at' < 0 ∨ (s.size : Int) ≤ at' ∨ ∃ k : Nat, at' = k ∧ k < s.size ∧ mkN (byN s k) = false) :
    Calls Try.prog 17 #[.string s, .int .i64 at'] w fun e w' => e = .returned (.tuple #[.int .u8 0, .int .i64 0, .int .i64 15]) ∧ w = w' := by
  by_cases h0 : at' < 0
  · clear h
    go_enter Try.func17, Try.ntmps17
    go_wp2
    all_goals (go_ret3; exact ⟨rfl, rfl⟩)
  · by_cases h1 : (s.size : Int) ≤ at'
    · clear h
      go_enter Try.func17, Try.ntmps17
      go_wp2
      all_goals (go_ret3; exact ⟨rfl, rfl⟩)
    · obtain ⟨k, rfl, hk, hm⟩ := (h.resolve_left h0).resolve_left h1
      have b0 : (0 : Int) ≤ (k : Int) := by omega
      have b1 : (k : Int) < (s.size : Int) := by omega
      have e1 := byN_get s k hk
      have l1 := byN_lt s k
      have HM := fun w => ismark_any (byN s k) l1 w
      rw [hm] at HM
      clear h hm
      generalize byN s k = B at e1 l1 HM
      go_enter Try.func17, Try.ntmps17
      go_wp2_with fail
      refine (HM _).mono ?_
      rintro e w' ⟨rfl, rfl⟩
      go_wp2
      go_ret3
      exact ⟨rfl, rfl⟩

theorem wholeK_pos {l : List UInt8} {k : Nat} {t q : List UInt8} (h : Qm.whole l = some (k, t, q)) : k = 6 ∨ k = 7 := by
  match l, h with
  | c :: l, h =>
    rw [whole_cons] at h
    have key : ∀ (x : Option (List UInt8 × List UInt8)) (K : Nat), (x.map fun z => (K, z.1, z.2)) = some (k, t, q) → k = K := by
      intro x K h
      cases x with
      | none => cases h
      | some z => exact (Prod.mk.inj (Option.some.inj h)).1.symm
    by_cases h1 : c.toNat = 39
    · rw [if_pos h1] at h; exact .inl (key _ _ h)
    · rw [if_neg h1] at h
      by_cases h2 : c.toNat = 34
      · rw [if_pos h2] at h; exact .inr (key _ _ h)
      · rw [if_neg h2] at h
        by_cases h3 : c.toNat = 96
        · rw [if_pos h3] at h; exact .inr (key _ _ h)
        · rw [if_neg h3] at h; cases h

set_option maxHeartbeats 2000000 in
theorem qscan_yes (s : ByteArray) (k : Nat) (w : World) (hk : k < s.size) (hm : mkN (byN s k) = true) (hs : s.size ≤ 140737488355300) :
    Calls Try.prog 17 #[.string s, .int .i64 k] w fun e w' => e = .returned (.tuple #[.int .u8 (qK ((bl s).drop k) : Nat), .int .i64 (qT s.size ((bl s).drop k)), .int .i64 (qE ((bl s).drop k))]) ∧ Below w.heap.size w w' := by
  have b0 : (0 : Int) ≤ (k : Int) := by omega
  have b1 : (k : Int) < (s.size : Int) := by omega
  have b2 : (k : Int) ≤ (s.size : Int) := by omega
  have e1 := byN_get s k hk
  have l1 := byN_lt s k
  have HM := fun w => ismark_any (byN s k) l1 w
  rw [hm] at HM
  have hbl : bl (s.extract k s.size) = (bl s).drop k := by rw [bl_extract, List.take_of_length_le (by rw [bl_size]; omega)]
  have hsz : (s.extract k s.size).size = s.size - k := by rw [← bl_size, hbl, List.length_drop, bl_size]
  have hst := rd_start w (s.extract k s.size)
  have hW := whole_any w.heap.size (s.extract k s.size) _ [] _ hst (by omega) (by rw [bl_size]; simp; omega)
  rw [hbl] at hW
  have HW := Lib.hid hW
  have hba : Below w.heap.size w (w.alloc (.cells #[.string (s.extract k s.size), .int .i64 0, .slice none 0 0] 41)) := (Below.refl _ _).alloc (Nat.le_refl _) _
  have Hba := Lib.hid hba
  have Hsz := Lib.hid hsz
  have Hbl := Lib.hid hbl
  clear hm hbl hst hW hba hsz
  generalize byN s k = B at e1 l1 HM
  go_enter Try.func17, Try.ntmps17
  go_wp2_with fail
  refine (HM _).mono ?_
  rintro e w' ⟨rfl, rfl⟩
  clear HM
  go_wp2_with fail
  refine HW.out.mono ?_
  clear HW
  cases hx : Qm.whole ((bl s).drop k) with
  | none =>
    rintro e w1 ⟨he, _, b3⟩
    have hz : wholeK ((bl s).drop k) = 0 := by unfold wholeK; rw [hx]
    rw [hz] at he
    subst he
    have HB3 := Lib.hid (Hba.out.trans (b3 w.heap.size (Nat.le_refl _)))
    have e2 : qT s.size ((bl s).drop k) = 0 := by unfold qT; rw [hx]
    have e3 : qE ((bl s).drop k) = 4 := by unfold qE; rw [hx]
    have Hz := Lib.hid hz
    have He2 := Lib.hid e2
    have He3 := Lib.hid e3
    clear hz hx b3 e2 e3
    go_wp2
    go_ret3
    exact ⟨ret_3q Hz.out.symm He2.out.symm He3.out.symm, HB3.out⟩
  | some y =>
    obtain ⟨K, t, q⟩ := y
    rintro e w1 ⟨he, hr, b3⟩
    have hz : wholeK ((bl s).drop k) = K := by unfold wholeK; rw [hx]
    rw [hz] at he
    subst he
    have hK := wholeK_pos hx
    have d1 : ((K : Int) == 0) = false := beq_eq_false_iff_ne.2 (by omega)
    obtain ⟨p, u, hp, hrd, c0, c1, c2, f1, f2, ho, hh⟩ := (hr K t q hx).cells
    have hlen := congrArg List.length hrd
    rw [Hbl.out, List.length_drop, List.length_drop, bl_size] at hlen
    rw [Hsz.out] at hp
    have hfin : (k : Int) + (p : Int) = (s.size : Int) - (q.length : Int) := by omega
    have Hfin := Lib.hid hfin
    have HB3 := Lib.hid (Hba.out.trans (b3 w.heap.size (Nat.le_refl _)))
    have e2 : qT s.size ((bl s).drop k) = (s.size : Int) - (q.length : Int) := by unfold qT; rw [hx]
    have e3 : qE ((bl s).drop k) = 0 := by unfold qE; rw [hx]
    have Hz := Lib.hid hz
    have He2 := Lib.hid e2
    have He3 := Lib.hid e3
    clear hz hx b3 hr ho hh hrd hlen hfin e2 e3
    go_wp2
    go_quiet (fail)
    go_wp2
    go_ret3
    exact ⟨ret_3q Hz.out.symm (by rw [He2.out]; exact Hfin.out) He3.out.symm, below_drw HB3.out _⟩

/-- What Value answers. -/
def vT (s : ByteArray) : ByteArray := match Qm.whole (bl s) with | some (_, t, []) => txt t | _ => ByteArray.empty
def vE (s : ByteArray) : Int := match Qm.whole (bl s) with | some (_, _, []) => 0 | _ => 4

theorem ret_se {a a' : ByteArray} {b b' : Int} (h1 : a = a') (h2 : b = b') : Ending.returned (.tuple #[.string a, .int .i64 b]) = .returned (.tuple #[.string a', .int .i64 b']) := by rw [h1, h2]

set_option maxHeartbeats 2000000 in
theorem value_any (s : ByteArray) (w : World) (hs : s.size ≤ 140737488355300) :
    Calls Try.prog 20 #[.string s] w fun e w' => e = .returned (.tuple #[.string (vT s), .int .i64 (vE s)]) ∧ Below w.heap.size w w' := by
  have hst := rd_start w s
  have hW := whole_any w.heap.size s _ [] _ hst (by omega) (by rw [bl_size]; simp; omega)
  have HW := Lib.hid hW
  have Hba := Lib.hid (show Below w.heap.size w (w.alloc (.cells #[.string s, .int .i64 0, .slice none 0 0] 41)) from (Below.refl _ _).alloc (Nat.le_refl _) _)
  clear hst hW
  go_enter Try.func20, Try.ntmps20
  go_wp2_with fail
  refine HW.out.mono ?_
  clear HW
  cases hx : Qm.whole (bl s) with
  | none =>
    rintro e w1 ⟨he, _, b3⟩
    have hz : wholeK (bl s) = 0 := by unfold wholeK; rw [hx]
    rw [hz] at he
    subst he
    have HB3 := Lib.hid (Hba.out.trans (b3 w.heap.size (Nat.le_refl _)))
    have e1 : vT s = ByteArray.empty := by unfold vT; rw [hx]
    have e2 : vE s = 4 := by unfold vE; rw [hx]
    have He1 := Lib.hid e1
    have He2 := Lib.hid e2
    clear hz hx b3 e1 e2
    go_wp2
    go_ret2
    exact ⟨ret_se He1.out.symm He2.out.symm, HB3.out⟩
  | some y =>
    obtain ⟨K, t, q⟩ := y
    rintro e w1 ⟨he, hr, b3⟩
    have hz : wholeK (bl s) = K := by unfold wholeK; rw [hx]
    rw [hz] at he
    subst he
    have hK := wholeK_pos hx
    have d1 : ((K : Int) == 0) = false := beq_eq_false_iff_ne.2 (by omega)
    obtain ⟨p, u, hp, hrd, c0, c1, c2, f1, f2, ho, hh⟩ := (hr K t q hx).cells
    have hlen := congrArg List.length hrd
    rw [List.length_drop, bl_size] at hlen
    have HB3 := Lib.hid (Hba.out.trans (b3 w.heap.size (Nat.le_refl _)))
    match q, hlen with
    | [], hlen =>
      have hps : p = s.size := by simp at hlen; omega
      subst hps
      rw [List.nil_append] at ho
      obtain ⟨x, c, rfl, hconv⟩ := conv_own ho
      have hcv := hconv 0
      simp only [World.drewN_zero] at hcv
      have dd : ((s.size : Int) != (s.size : Int)) = false := by simp
      have e1 : vT s = txt t := by unfold vT; rw [hx]
      have e2 : vE s = 0 := by unfold vE; rw [hx]
      have He1 := Lib.hid e1
      have He2 := Lib.hid e2
      clear hz hx b3 hr ho hh hrd hlen hconv e1 e2
      go_wp2
      go_ret2
      exact ⟨ret_se He1.out.symm He2.out.symm, HB3.out⟩
    | c :: q, hlen =>
      rw [List.length_cons] at hlen
      have dd : ((p : Int) != (s.size : Int)) = true := by simp; omega
      have dd2 : ((p : Int) == (s.size : Int)) = false := beq_eq_false_iff_ne.2 (by omega)
      have e1 : vT s = ByteArray.empty := by unfold vT; rw [hx]
      have e2 : vE s = 4 := by unfold vE; rw [hx]
      have He1 := Lib.hid e1
      have He2 := Lib.hid e2
      clear hz hx b3 hr ho hh hrd hlen e1 e2
      go_wp2
      go_ret2
      exact ⟨ret_se He1.out.symm He2.out.symm, HB3.out⟩
end Go.Proofs.Ytdpngmhjdafdpaa
