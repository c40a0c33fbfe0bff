/- Contract of quoted's reader: escape. -/
import Derived.Test.YtdpngmhjdafdpaaQuSay
namespace Go.Proofs.Ytdpngmhjdafdpaa
open Go.RowKit Em Go.Shelf
set_option linter.unusedVariables false
set_option linter.unusedSimpArgs false

/-- What escape answers. -/
def EscP (g : Nat) (s : ByteArray) (r T : List UInt8) (m : Nat) (w : World) (e : Ending) (w' : World) : Prop :=
  ∃ N b, e = .returned (.tuple #[.int .i32 N, .bool b, .bool (Qm.esc m r).isSome]) ∧ (∀ n b' q, Qm.esc m r = some (n, b', q) → N = (n : Int) ∧ b = b' ∧ Rd w' g s q T) ∧ ∀ B, B ≤ g → Below B w w'

theorem esc_end (g : Nat) (s : ByteArray) (T : List UInt8) (m : Nat) (w : World) (h : Rd w g s [] T) (hs : s.size ≤ 4611686018427387000) :
    Calls Try.prog 63 #[.pointer (some ⟨g, 0, none⟩), .int .u8 m] w (EscP g s [] T m w) := by
  have hN := next_end g s T w h hs
  clear h
  go_enter Try.func63, Try.ntmps63
  go_wp2_with fail
  refine hN.mono ?_
  rintro e w1 ⟨rfl, k1, b1⟩
  have Hb1 := Lib.hid b1
  clear b1 k1 hN
  go_wp2
  go_ret3
  exact ⟨0, false, rfl, (fun n b' q h => by cases h), Hb1.out⟩

theorem esc_said {g : Nat} {s : ByteArray} {r T : List UInt8} {m : Nat} {w w' : World} {n : Nat} {b : Bool} {q : List UInt8} (h : Qm.esc m r = some (n, b, q)) (hr : Rd w' g s q T) (hb : ∀ B, B ≤ g → Below B w w') :
    EscP g s r T m w (.returned (.tuple #[.int .i32 (n : Int), .bool b, .bool true])) w' := by
  refine ⟨n, b, by rw [h]; rfl, fun n' b' q' h' => ?_, hb⟩
  rw [h] at h'
  obtain ⟨rfl, h2⟩ := Prod.mk.inj (Option.some.inj h')
  obtain ⟨rfl, rfl⟩ := Prod.mk.inj h2
  exact ⟨rfl, rfl, hr⟩
theorem esc_none {g : Nat} {s : ByteArray} {r T : List UInt8} {m : Nat} {w w' : World} {N : Int} {b : Bool} (h : Qm.esc m r = none) (hb : ∀ B, B ≤ g → Below B w w') :
    EscP g s r T m w (.returned (.tuple #[.int .i32 N, .bool b, .bool false])) w' := by
  refine ⟨N, b, by rw [h]; rfl, fun n' b' q' h' => ?_, hb⟩
  rw [h] at h'; cases h'

theorem valid_w32 {n : Nat} (h : n < 4294967296) : (Utf8.valid (W32 n) = true ↔ Um.okN n) ∧ (Um.okN n → W32 n = n) := by
  by_cases h1 : n < 2147483648
  · have : W32 (n : Int) = (n : Int) := by unfold W32; omega
    rw [this]
    exact ⟨Um.valid_iff n, fun _ => rfl⟩
  · have hw : W32 (n : Int) < 0 := by unfold W32; omega
    have hn : ¬ Um.okN n := by unfold Um.okN; omega
    have hv : ¬ (Utf8.valid (W32 (n : Int)) = true) := by
      generalize W32 (n : Int) = x at hw
      intro hv
      simp [Utf8.valid] at hv
      omega
    exact ⟨⟨fun h => absurd h hv, fun h => absurd h hn⟩, fun h => absurd h hn⟩

theorem form_same (r : Int) : formOf r = Um.form r := rfl
theorem formOf_ne (c : Int) : ((formOf c).toList == []) = !(Utf8.valid c) := by
  rw [Um.toList_eq, form_same]
  cases hv : Utf8.valid c with
  | true =>
    obtain ⟨n, rfl, hn⟩ := Um.okN_of_valid hv
    have := Qm.fm_ne hn
    rw [Qm.fm_eq] at this
    cases hl : (Um.form (n : Int)).data.toList with
    | nil => exact absurd hl this
    | cons x l => rfl
  | false =>
    have : Um.form c = ByteArray.empty := by unfold Um.form; rw [hv]; rfl
    rw [this]; rfl

theorem rd_back {w1 : World} {g : Nat} {s : ByteArray} {c : UInt8} {r T : List UInt8} (h0 : ∃ p, p < s.size ∧ (bl s).drop p = c :: r) (h : Rd w1 g s r T) :
    ∃ p : Nat, w1.cell? ⟨g, 1, none⟩ = some (.int .i64 ((p : Int) + 1)) ∧ w1.frozen? ⟨g, 1, none⟩ = false ∧ p < s.size ∧ Rd (w1.setCell ⟨g, 1, none⟩ (.int .i64 (p : Int))) g s (c :: r) T := by
  obtain ⟨p, hp, hd⟩ := h0
  obtain ⟨q, u, hq, hr, c0, c1, c2, f1, f2, ho, hh⟩ := h.cells
  have hd2 := bl_drop' s p hp
  rw [hd] at hd2
  have e2 : r = (bl s).drop (p + 1) := (List.cons.inj hd2).2
  have hlen := congrArg List.length (hr.trans e2)
  rw [List.length_drop, List.length_drop, bl_size] at hlen
  have hqp : q = p + 1 := by omega
  subst hqp
  refine ⟨p, by rw [c1]; push_cast; rfl, f1, hp, ?_⟩
  have := Rd.setAt hh ho p (by omega)
  rw [hd] at this; exact this

set_option maxRecDepth 100000 in
set_option maxHeartbeats 8000000 in
theorem esc_some (g : Nat) (s : ByteArray) (c : UInt8) (r T : List UInt8) (m : Nat) (w : World) (h : Rd w g s (c :: r) T) (hm : m = 39 ∨ m = 34) (hs : s.size ≤ 4611686018427387000) :
    Calls Try.prog 63 #[.pointer (some ⟨g, 0, none⟩), .int .u8 m] w (EscP g s (c :: r) T m w) := by
  have hN := next_some g s c r T w h hs
  have HP : Hid (∃ p, p < s.size ∧ (bl s).drop p = c :: r) := Lib.hid (by
    obtain ⟨p, u, hp, hr, _⟩ := h.x
    refine ⟨p, ?_, hr⟩
    by_cases hlt : p < s.size
    · exact hlt
    · rw [List.drop_eq_nil_of_le (by rw [bl_size]; omega)] at hr; cases hr)
  have hlt := c.toNat_lt
  have hm8 : m < 256 := by omega
  clear h
  have hesc : Qm.esc m (c :: r) = if c.toNat = m ∨ c.toNat = 92 then some (c.toNat, true, r)
    else if 48 ≤ c.toNat ∧ c.toNat ≤ 55 then
      match Qm.numA 8 3 0 (c :: r) with
      | some (n, r) => if n ≤ 255 then some (n, true, r) else none
      | none => none
    else if c.toNat = 85 ∨ c.toNat = 117 ∨ c.toNat = 120 then
      match Qm.numA 16 (Qm.wide c.toNat) 0 r with
      | some (n, r) => if Um.okN n then some (n, decide (c.toNat = 120), r) else none
      | none => none
    else match Qm.ctl c.toNat with
      | some v => some (v, true, r)
      | none => none := rfl
  have E8 := fun w1 h1 => number_8 g s (c :: r) T 3 w1 h1 (by omega) hs
  have E16 := fun k hk w1 h1 => number_16 g s r T k w1 h1 hk hs
  have D : ∀ n : Nat, c.toNat ≠ n → ((c.toNat : Int) == (n : Int)) = false := fun n h => beq_eq_false_iff_ne.2 (by omega)
  by_cases hA : c.toNat = m
  · have hf := hesc
    rw [if_pos (.inl hA)] at hf
    have Hf := Lib.hid hf
    clear hesc hf E8 E16 D HP
    generalize c.toNat = C at hN hlt hA Hf
    subst hA
    have wc : IntKind.i32.wrap (C : Int) = (C : Int) := by rw [IntKind.wrap_i32]; omega
    go_enter Try.func63, Try.ntmps63
    go_wp2_with fail
    refine hN.mono ?_
    rintro e w1 ⟨rfl, k1, b1⟩
    have Hk1 := Lib.hid k1
    have Hb1 := Lib.hid b1
    clear b1 k1 hN
    go_wp2
    go_ret3
    exact esc_said Hf.out Hk1.out Hb1.out
  by_cases h92 : c.toNat = 92
  · have hf := hesc
    rw [if_pos (.inr h92)] at hf
    rw [h92] at hN hf
    have Hf := Lib.hid hf
    have dm : ((92 : Int) == (m : Int)) = false := beq_eq_false_iff_ne.2 (by omega)
    clear hesc hf E8 E16 D HP hA
    go_enter Try.func63, Try.ntmps63
    go_wp2_with fail
    refine hN.mono ?_
    rintro e w1 ⟨rfl, k1, b1⟩
    have Hk1 := Lib.hid k1
    have Hb1 := Lib.hid b1
    clear b1 k1 hN
    go_wp2
    go_ret3
    exact esc_said Hf.out Hk1.out Hb1.out
  rw [if_neg (fun h => h.elim hA h92)] at hesc
  by_cases hB : 48 ≤ c.toNat ∧ c.toNat ≤ 55
  · rw [if_pos hB] at hesc
    have Hesc := Lib.hid hesc
    have hv : ∀ n q, Qm.numA 8 3 0 (c :: r) = some (n, q) → n < 512 := by
      intro n q h
      have := Qm.numA_bound (by omega) h
      omega
    have HV := Lib.hid hv
    clear hesc hv E16 D
    have ways : c.toNat = 48 ∨ c.toNat = 49 ∨ c.toNat = 50 ∨ c.toNat = 51 ∨ c.toNat = 52 ∨ c.toNat = 53 ∨ c.toNat = 54 ∨ c.toNat = 55 := by omega
    have HE8 := Lib.hid E8
    clear E8
    rcases ways with hw | hw | hw | hw | hw | hw | hw | hw
    · rw [hw] at hN
      have dm : ((48 : Int) == (m : Int)) = false := beq_eq_false_iff_ne.2 (by omega)
      clear hA h92 hB hw
      go_enter Try.func63, Try.ntmps63
      go_wp2_with fail
      refine hN.mono ?_
      rintro e w1 ⟨rfl, k1, b1⟩
      have Hk1 := Lib.hid k1
      have Hb1 := Lib.hid b1
      obtain ⟨p, c1, f1, hp, back⟩ := rd_back HP.out k1
      clear b1 k1 hN
      have hback := HE8.out _ back
      unfold numV at hback
      have Back := Lib.hid back
      clear back
      go_wp2_with fail
      refine hback.mono ?_
      cases hq : Qm.numA 8 3 0 (c :: r) with
      | none =>
        rintro e w2 ⟨rfl, _, b2⟩
        have hf : Qm.esc m (c :: r) = none := by rw [Hesc.out, hq]
        have Hf := Lib.hid hf
        clear hf hq hback
        go_wp2
        go_ret3
        exact esc_none Hf.out (fun B hB => (Hb1.out B hB).trans ((Below.refl B _).setCell hB _ |>.trans (b2 B hB)))
      | some x =>
        obtain ⟨n, q⟩ := x
        have hn := HV.out n q hq
        rintro e w2 ⟨rfl, k2, b2⟩
        have k3 := Lib.hid (k2 n q rfl)
        have hw32 : W32 (n : Int) = (n : Int) := by unfold W32; omega
        by_cases h255 : n ≤ 255
        · have hf : Qm.esc m (c :: r) = some (n, true, q) := by rw [Hesc.out, hq]; exact if_pos h255
          have Hf := Lib.hid hf
          have h255' : (n : Int) ≤ 255 := by omega
          clear hf hq k2 hback h255
          simp only [hw32]
          clear hw32
          go_wp2
          go_ret3
          exact esc_said Hf.out k3.out (fun B hB => (Hb1.out B hB).trans ((Below.refl B _).setCell hB _ |>.trans (b2 B hB)))
        · have hf : Qm.esc m (c :: r) = none := by rw [Hesc.out, hq]; exact if_neg h255
          have Hf := Lib.hid hf
          have h255' : ¬ (n : Int) ≤ 255 := by omega
          clear hf hq k2 hback h255
          simp only [hw32]
          clear hw32
          go_wp2
          go_ret3
          exact esc_none Hf.out (fun B hB => (Hb1.out B hB).trans ((Below.refl B _).setCell hB _ |>.trans (b2 B hB)))
    · rw [hw] at hN
      have dm : ((49 : Int) == (m : Int)) = false := beq_eq_false_iff_ne.2 (by omega)
      clear hA h92 hB hw
      go_enter Try.func63, Try.ntmps63
      go_wp2_with fail
      refine hN.mono ?_
      rintro e w1 ⟨rfl, k1, b1⟩
      have Hk1 := Lib.hid k1
      have Hb1 := Lib.hid b1
      obtain ⟨p, c1, f1, hp, back⟩ := rd_back HP.out k1
      clear b1 k1 hN
      have hback := HE8.out _ back
      unfold numV at hback
      have Back := Lib.hid back
      clear back
      go_wp2_with fail
      refine hback.mono ?_
      cases hq : Qm.numA 8 3 0 (c :: r) with
      | none =>
        rintro e w2 ⟨rfl, _, b2⟩
        have hf : Qm.esc m (c :: r) = none := by rw [Hesc.out, hq]
        have Hf := Lib.hid hf
        clear hf hq hback
        go_wp2
        go_ret3
        exact esc_none Hf.out (fun B hB => (Hb1.out B hB).trans ((Below.refl B _).setCell hB _ |>.trans (b2 B hB)))
      | some x =>
        obtain ⟨n, q⟩ := x
        have hn := HV.out n q hq
        rintro e w2 ⟨rfl, k2, b2⟩
        have k3 := Lib.hid (k2 n q rfl)
        have hw32 : W32 (n : Int) = (n : Int) := by unfold W32; omega
        by_cases h255 : n ≤ 255
        · have hf : Qm.esc m (c :: r) = some (n, true, q) := by rw [Hesc.out, hq]; exact if_pos h255
          have Hf := Lib.hid hf
          have h255' : (n : Int) ≤ 255 := by omega
          clear hf hq k2 hback h255
          simp only [hw32]
          clear hw32
          go_wp2
          go_ret3
          exact esc_said Hf.out k3.out (fun B hB => (Hb1.out B hB).trans ((Below.refl B _).setCell hB _ |>.trans (b2 B hB)))
        · have hf : Qm.esc m (c :: r) = none := by rw [Hesc.out, hq]; exact if_neg h255
          have Hf := Lib.hid hf
          have h255' : ¬ (n : Int) ≤ 255 := by omega
          clear hf hq k2 hback h255
          simp only [hw32]
          clear hw32
          go_wp2
          go_ret3
          exact esc_none Hf.out (fun B hB => (Hb1.out B hB).trans ((Below.refl B _).setCell hB _ |>.trans (b2 B hB)))
    · rw [hw] at hN
      have dm : ((50 : Int) == (m : Int)) = false := beq_eq_false_iff_ne.2 (by omega)
      clear hA h92 hB hw
      go_enter Try.func63, Try.ntmps63
      go_wp2_with fail
      refine hN.mono ?_
      rintro e w1 ⟨rfl, k1, b1⟩
      have Hk1 := Lib.hid k1
      have Hb1 := Lib.hid b1
      obtain ⟨p, c1, f1, hp, back⟩ := rd_back HP.out k1
      clear b1 k1 hN
      have hback := HE8.out _ back
      unfold numV at hback
      have Back := Lib.hid back
      clear back
      go_wp2_with fail
      refine hback.mono ?_
      cases hq : Qm.numA 8 3 0 (c :: r) with
      | none =>
        rintro e w2 ⟨rfl, _, b2⟩
        have hf : Qm.esc m (c :: r) = none := by rw [Hesc.out, hq]
        have Hf := Lib.hid hf
        clear hf hq hback
        go_wp2
        go_ret3
        exact esc_none Hf.out (fun B hB => (Hb1.out B hB).trans ((Below.refl B _).setCell hB _ |>.trans (b2 B hB)))
      | some x =>
        obtain ⟨n, q⟩ := x
        have hn := HV.out n q hq
        rintro e w2 ⟨rfl, k2, b2⟩
        have k3 := Lib.hid (k2 n q rfl)
        have hw32 : W32 (n : Int) = (n : Int) := by unfold W32; omega
        by_cases h255 : n ≤ 255
        · have hf : Qm.esc m (c :: r) = some (n, true, q) := by rw [Hesc.out, hq]; exact if_pos h255
          have Hf := Lib.hid hf
          have h255' : (n : Int) ≤ 255 := by omega
          clear hf hq k2 hback h255
          simp only [hw32]
          clear hw32
          go_wp2
          go_ret3
          exact esc_said Hf.out k3.out (fun B hB => (Hb1.out B hB).trans ((Below.refl B _).setCell hB _ |>.trans (b2 B hB)))
        · have hf : Qm.esc m (c :: r) = none := by rw [Hesc.out, hq]; exact if_neg h255
          have Hf := Lib.hid hf
          have h255' : ¬ (n : Int) ≤ 255 := by omega
          clear hf hq k2 hback h255
          simp only [hw32]
          clear hw32
          go_wp2
          go_ret3
          exact esc_none Hf.out (fun B hB => (Hb1.out B hB).trans ((Below.refl B _).setCell hB _ |>.trans (b2 B hB)))
    · rw [hw] at hN
      have dm : ((51 : Int) == (m : Int)) = false := beq_eq_false_iff_ne.2 (by omega)
      clear hA h92 hB hw
      go_enter Try.func63, Try.ntmps63
      go_wp2_with fail
      refine hN.mono ?_
      rintro e w1 ⟨rfl, k1, b1⟩
      have Hk1 := Lib.hid k1
      have Hb1 := Lib.hid b1
      obtain ⟨p, c1, f1, hp, back⟩ := rd_back HP.out k1
      clear b1 k1 hN
      have hback := HE8.out _ back
      unfold numV at hback
      have Back := Lib.hid back
      clear back
      go_wp2_with fail
      refine hback.mono ?_
      cases hq : Qm.numA 8 3 0 (c :: r) with
      | none =>
        rintro e w2 ⟨rfl, _, b2⟩
        have hf : Qm.esc m (c :: r) = none := by rw [Hesc.out, hq]
        have Hf := Lib.hid hf
        clear hf hq hback
        go_wp2
        go_ret3
        exact esc_none Hf.out (fun B hB => (Hb1.out B hB).trans ((Below.refl B _).setCell hB _ |>.trans (b2 B hB)))
      | some x =>
        obtain ⟨n, q⟩ := x
        have hn := HV.out n q hq
        rintro e w2 ⟨rfl, k2, b2⟩
        have k3 := Lib.hid (k2 n q rfl)
        have hw32 : W32 (n : Int) = (n : Int) := by unfold W32; omega
        by_cases h255 : n ≤ 255
        · have hf : Qm.esc m (c :: r) = some (n, true, q) := by rw [Hesc.out, hq]; exact if_pos h255
          have Hf := Lib.hid hf
          have h255' : (n : Int) ≤ 255 := by omega
          clear hf hq k2 hback h255
          simp only [hw32]
          clear hw32
          go_wp2
          go_ret3
          exact esc_said Hf.out k3.out (fun B hB => (Hb1.out B hB).trans ((Below.refl B _).setCell hB _ |>.trans (b2 B hB)))
        · have hf : Qm.esc m (c :: r) = none := by rw [Hesc.out, hq]; exact if_neg h255
          have Hf := Lib.hid hf
          have h255' : ¬ (n : Int) ≤ 255 := by omega
          clear hf hq k2 hback h255
          simp only [hw32]
          clear hw32
          go_wp2
          go_ret3
          exact esc_none Hf.out (fun B hB => (Hb1.out B hB).trans ((Below.refl B _).setCell hB _ |>.trans (b2 B hB)))
    · rw [hw] at hN
      have dm : ((52 : Int) == (m : Int)) = false := beq_eq_false_iff_ne.2 (by omega)
      clear hA h92 hB hw
      go_enter Try.func63, Try.ntmps63
      go_wp2_with fail
      refine hN.mono ?_
      rintro e w1 ⟨rfl, k1, b1⟩
      have Hk1 := Lib.hid k1
      have Hb1 := Lib.hid b1
      obtain ⟨p, c1, f1, hp, back⟩ := rd_back HP.out k1
      clear b1 k1 hN
      have hback := HE8.out _ back
      unfold numV at hback
      have Back := Lib.hid back
      clear back
      go_wp2_with fail
      refine hback.mono ?_
      cases hq : Qm.numA 8 3 0 (c :: r) with
      | none =>
        rintro e w2 ⟨rfl, _, b2⟩
        have hf : Qm.esc m (c :: r) = none := by rw [Hesc.out, hq]
        have Hf := Lib.hid hf
        clear hf hq hback
        go_wp2
        go_ret3
        exact esc_none Hf.out (fun B hB => (Hb1.out B hB).trans ((Below.refl B _).setCell hB _ |>.trans (b2 B hB)))
      | some x =>
        obtain ⟨n, q⟩ := x
        have hn := HV.out n q hq
        rintro e w2 ⟨rfl, k2, b2⟩
        have k3 := Lib.hid (k2 n q rfl)
        have hw32 : W32 (n : Int) = (n : Int) := by unfold W32; omega
        by_cases h255 : n ≤ 255
        · have hf : Qm.esc m (c :: r) = some (n, true, q) := by rw [Hesc.out, hq]; exact if_pos h255
          have Hf := Lib.hid hf
          have h255' : (n : Int) ≤ 255 := by omega
          clear hf hq k2 hback h255
          simp only [hw32]
          clear hw32
          go_wp2
          go_ret3
          exact esc_said Hf.out k3.out (fun B hB => (Hb1.out B hB).trans ((Below.refl B _).setCell hB _ |>.trans (b2 B hB)))
        · have hf : Qm.esc m (c :: r) = none := by rw [Hesc.out, hq]; exact if_neg h255
          have Hf := Lib.hid hf
          have h255' : ¬ (n : Int) ≤ 255 := by omega
          clear hf hq k2 hback h255
          simp only [hw32]
          clear hw32
          go_wp2
          go_ret3
          exact esc_none Hf.out (fun B hB => (Hb1.out B hB).trans ((Below.refl B _).setCell hB _ |>.trans (b2 B hB)))
    · rw [hw] at hN
      have dm : ((53 : Int) == (m : Int)) = false := beq_eq_false_iff_ne.2 (by omega)
      clear hA h92 hB hw
      go_enter Try.func63, Try.ntmps63
      go_wp2_with fail
      refine hN.mono ?_
      rintro e w1 ⟨rfl, k1, b1⟩
      have Hk1 := Lib.hid k1
      have Hb1 := Lib.hid b1
      obtain ⟨p, c1, f1, hp, back⟩ := rd_back HP.out k1
      clear b1 k1 hN
      have hback := HE8.out _ back
      unfold numV at hback
      have Back := Lib.hid back
      clear back
      go_wp2_with fail
      refine hback.mono ?_
      cases hq : Qm.numA 8 3 0 (c :: r) with
      | none =>
        rintro e w2 ⟨rfl, _, b2⟩
        have hf : Qm.esc m (c :: r) = none := by rw [Hesc.out, hq]
        have Hf := Lib.hid hf
        clear hf hq hback
        go_wp2
        go_ret3
        exact esc_none Hf.out (fun B hB => (Hb1.out B hB).trans ((Below.refl B _).setCell hB _ |>.trans (b2 B hB)))
      | some x =>
        obtain ⟨n, q⟩ := x
        have hn := HV.out n q hq
        rintro e w2 ⟨rfl, k2, b2⟩
        have k3 := Lib.hid (k2 n q rfl)
        have hw32 : W32 (n : Int) = (n : Int) := by unfold W32; omega
        by_cases h255 : n ≤ 255
        · have hf : Qm.esc m (c :: r) = some (n, true, q) := by rw [Hesc.out, hq]; exact if_pos h255
          have Hf := Lib.hid hf
          have h255' : (n : Int) ≤ 255 := by omega
          clear hf hq k2 hback h255
          simp only [hw32]
          clear hw32
          go_wp2
          go_ret3
          exact esc_said Hf.out k3.out (fun B hB => (Hb1.out B hB).trans ((Below.refl B _).setCell hB _ |>.trans (b2 B hB)))
        · have hf : Qm.esc m (c :: r) = none := by rw [Hesc.out, hq]; exact if_neg h255
          have Hf := Lib.hid hf
          have h255' : ¬ (n : Int) ≤ 255 := by omega
          clear hf hq k2 hback h255
          simp only [hw32]
          clear hw32
          go_wp2
          go_ret3
          exact esc_none Hf.out (fun B hB => (Hb1.out B hB).trans ((Below.refl B _).setCell hB _ |>.trans (b2 B hB)))
    · rw [hw] at hN
      have dm : ((54 : Int) == (m : Int)) = false := beq_eq_false_iff_ne.2 (by omega)
      clear hA h92 hB hw
      go_enter Try.func63, Try.ntmps63
      go_wp2_with fail
      refine hN.mono ?_
      rintro e w1 ⟨rfl, k1, b1⟩
      have Hk1 := Lib.hid k1
      have Hb1 := Lib.hid b1
      obtain ⟨p, c1, f1, hp, back⟩ := rd_back HP.out k1
      clear b1 k1 hN
      have hback := HE8.out _ back
      unfold numV at hback
      have Back := Lib.hid back
      clear back
      go_wp2_with fail
      refine hback.mono ?_
      cases hq : Qm.numA 8 3 0 (c :: r) with
      | none =>
        rintro e w2 ⟨rfl, _, b2⟩
        have hf : Qm.esc m (c :: r) = none := by rw [Hesc.out, hq]
        have Hf := Lib.hid hf
        clear hf hq hback
        go_wp2
        go_ret3
        exact esc_none Hf.out (fun B hB => (Hb1.out B hB).trans ((Below.refl B _).setCell hB _ |>.trans (b2 B hB)))
      | some x =>
        obtain ⟨n, q⟩ := x
        have hn := HV.out n q hq
        rintro e w2 ⟨rfl, k2, b2⟩
        have k3 := Lib.hid (k2 n q rfl)
        have hw32 : W32 (n : Int) = (n : Int) := by unfold W32; omega
        by_cases h255 : n ≤ 255
        · have hf : Qm.esc m (c :: r) = some (n, true, q) := by rw [Hesc.out, hq]; exact if_pos h255
          have Hf := Lib.hid hf
          have h255' : (n : Int) ≤ 255 := by omega
          clear hf hq k2 hback h255
          simp only [hw32]
          clear hw32
          go_wp2
          go_ret3
          exact esc_said Hf.out k3.out (fun B hB => (Hb1.out B hB).trans ((Below.refl B _).setCell hB _ |>.trans (b2 B hB)))
        · have hf : Qm.esc m (c :: r) = none := by rw [Hesc.out, hq]; exact if_neg h255
          have Hf := Lib.hid hf
          have h255' : ¬ (n : Int) ≤ 255 := by omega
          clear hf hq k2 hback h255
          simp only [hw32]
          clear hw32
          go_wp2
          go_ret3
          exact esc_none Hf.out (fun B hB => (Hb1.out B hB).trans ((Below.refl B _).setCell hB _ |>.trans (b2 B hB)))
    · rw [hw] at hN
      have dm : ((55 : Int) == (m : Int)) = false := beq_eq_false_iff_ne.2 (by omega)
      clear hA h92 hB hw
      go_enter Try.func63, Try.ntmps63
      go_wp2_with fail
      refine hN.mono ?_
      rintro e w1 ⟨rfl, k1, b1⟩
      have Hk1 := Lib.hid k1
      have Hb1 := Lib.hid b1
      obtain ⟨p, c1, f1, hp, back⟩ := rd_back HP.out k1
      clear b1 k1 hN
      have hback := HE8.out _ back
      unfold numV at hback
      have Back := Lib.hid back
      clear back
      go_wp2_with fail
      refine hback.mono ?_
      cases hq : Qm.numA 8 3 0 (c :: r) with
      | none =>
        rintro e w2 ⟨rfl, _, b2⟩
        have hf : Qm.esc m (c :: r) = none := by rw [Hesc.out, hq]
        have Hf := Lib.hid hf
        clear hf hq hback
        go_wp2
        go_ret3
        exact esc_none Hf.out (fun B hB => (Hb1.out B hB).trans ((Below.refl B _).setCell hB _ |>.trans (b2 B hB)))
      | some x =>
        obtain ⟨n, q⟩ := x
        have hn := HV.out n q hq
        rintro e w2 ⟨rfl, k2, b2⟩
        have k3 := Lib.hid (k2 n q rfl)
        have hw32 : W32 (n : Int) = (n : Int) := by unfold W32; omega
        by_cases h255 : n ≤ 255
        · have hf : Qm.esc m (c :: r) = some (n, true, q) := by rw [Hesc.out, hq]; exact if_pos h255
          have Hf := Lib.hid hf
          have h255' : (n : Int) ≤ 255 := by omega
          clear hf hq k2 hback h255
          simp only [hw32]
          clear hw32
          go_wp2
          go_ret3
          exact esc_said Hf.out k3.out (fun B hB => (Hb1.out B hB).trans ((Below.refl B _).setCell hB _ |>.trans (b2 B hB)))
        · have hf : Qm.esc m (c :: r) = none := by rw [Hesc.out, hq]; exact if_neg h255
          have Hf := Lib.hid hf
          have h255' : ¬ (n : Int) ≤ 255 := by omega
          clear hf hq k2 hback h255
          simp only [hw32]
          clear hw32
          go_wp2
          go_ret3
          exact esc_none Hf.out (fun B hB => (Hb1.out B hB).trans ((Below.refl B _).setCell hB _ |>.trans (b2 B hB)))
  rw [if_neg hB] at hesc
  have eq48 : ∀ n : Nat, 48 ≤ n → n ≤ 55 → ((c.toNat : Int) == (n : Int)) = false := fun n h1 h2 => D n (by omega)
  by_cases hC : c.toNat = 85 ∨ c.toNat = 117 ∨ c.toNat = 120
  · rw [if_pos hC] at hesc
    have Hesc := Lib.hid hesc
    clear hesc E8 D eq48 HP
    rcases hC with hw | hw | hw
    · rw [hw] at hN Hesc
      rw [show Qm.wide 85 = 8 from by decide] at Hesc
      have dm : ((85 : Int) == (m : Int)) = false := beq_eq_false_iff_ne.2 (by omega)
      have hv : ∀ n q, Qm.numA 16 8 0 r = some (n, q) → n < 4294967296 := by
        intro n q h
        have := Qm.numA_bound (by omega) h
        omega
      have HV := Lib.hid hv
      have E := E16 8 (by omega)
      have HE := Lib.hid E
      clear hv E16 E hA h92 hB hw
      go_enter Try.func63, Try.ntmps63
      go_wp2_with fail
      refine hN.mono ?_
      rintro e w1 ⟨rfl, k1, b1⟩
      have Hk1 := Lib.hid k1
      have Hb1 := Lib.hid b1
      have hnum := HE.out _ k1
      unfold numV at hnum
      clear b1 k1 hN
      go_wp2_with fail
      refine hnum.mono ?_
      cases hq : Qm.numA 16 8 0 r with
      | none =>
        rintro e w2 ⟨rfl, _, b2⟩
        have hf : Qm.esc m (c :: r) = none := by rw [Hesc.out, hq]
        have Hf := Lib.hid hf
        clear hf hq hnum
        go_wp2
        go_ret3
        exact esc_none Hf.out (fun B hB => (Hb1.out B hB).trans (b2 B hB))
      | some x =>
        obtain ⟨n, q⟩ := x
        have hn := HV.out n q hq
        rintro e w2 ⟨rfl, k2, b2⟩
        have k3 := Lib.hid (k2 n q rfl)
        obtain ⟨hval, hself⟩ := valid_w32 hn
        have hne := formOf_ne (W32 (n : Int))
        have HF := fun w => form_any (W32 (n : Int)) w
        by_cases hok : Um.okN n
        · have hf : Qm.esc m (c :: r) = some (n, false, q) := by rw [Hesc.out, hq]; exact if_pos hok
          have Hf := Lib.hid hf
          rw [hval.2 hok] at hne
          have hself' := Lib.hid (hself hok)
          clear hf hq k2 hnum hval hself hok
          dsimp only
          generalize W32 (n : Int) = N at hne HF hself' ⊢
          generalize formOf N = F at hne HF
          simp only [Bool.not_true] at hne
          have hne2 : (F.toList != []) = true := by simp only [bne, hne]; rfl
          go_wp2_with fail
          refine (HF _).mono ?_
          rintro e w3 ⟨rfl, rfl⟩
          go_wp2
          go_ret3
          rw [hself'.out]
          exact esc_said Hf.out k3.out (fun B hB => (Hb1.out B hB).trans (b2 B hB))
        · have hf : Qm.esc m (c :: r) = none := by rw [Hesc.out, hq]; exact if_neg hok
          have Hf := Lib.hid hf
          have hvf : Utf8.valid (W32 (n : Int)) = false := by
            cases hx : Utf8.valid (W32 (n : Int)) with
            | false => rfl
            | true => exact absurd (hval.1 hx) hok
          rw [hvf] at hne
          clear hf hq k2 hnum hval hself hok hvf
          dsimp only
          generalize W32 (n : Int) = N at hne HF ⊢
          generalize formOf N = F at hne HF
          simp only [Bool.not_false] at hne
          have hne2 : (F.toList != []) = false := by simp only [bne, hne]; rfl
          go_wp2_with fail
          refine (HF _).mono ?_
          rintro e w3 ⟨rfl, rfl⟩
          go_wp2
          go_ret3
          exact esc_none Hf.out (fun B hB => (Hb1.out B hB).trans (b2 B hB))
    · rw [hw] at hN Hesc
      rw [show Qm.wide 117 = 4 from by decide] at Hesc
      have dm : ((117 : Int) == (m : Int)) = false := beq_eq_false_iff_ne.2 (by omega)
      have hv : ∀ n q, Qm.numA 16 4 0 r = some (n, q) → n < 4294967296 := by
        intro n q h
        have := Qm.numA_bound (by omega) h
        omega
      have HV := Lib.hid hv
      have E := E16 4 (by omega)
      have HE := Lib.hid E
      clear hv E16 E hA h92 hB hw
      go_enter Try.func63, Try.ntmps63
      go_wp2_with fail
      refine hN.mono ?_
      rintro e w1 ⟨rfl, k1, b1⟩
      have Hk1 := Lib.hid k1
      have Hb1 := Lib.hid b1
      have hnum := HE.out _ k1
      unfold numV at hnum
      clear b1 k1 hN
      go_wp2_with fail
      refine hnum.mono ?_
      cases hq : Qm.numA 16 4 0 r with
      | none =>
        rintro e w2 ⟨rfl, _, b2⟩
        have hf : Qm.esc m (c :: r) = none := by rw [Hesc.out, hq]
        have Hf := Lib.hid hf
        clear hf hq hnum
        go_wp2
        go_ret3
        exact esc_none Hf.out (fun B hB => (Hb1.out B hB).trans (b2 B hB))
      | some x =>
        obtain ⟨n, q⟩ := x
        have hn := HV.out n q hq
        rintro e w2 ⟨rfl, k2, b2⟩
        have k3 := Lib.hid (k2 n q rfl)
        obtain ⟨hval, hself⟩ := valid_w32 hn
        have hne := formOf_ne (W32 (n : Int))
        have HF := fun w => form_any (W32 (n : Int)) w
        by_cases hok : Um.okN n
        · have hf : Qm.esc m (c :: r) = some (n, false, q) := by rw [Hesc.out, hq]; exact if_pos hok
          have Hf := Lib.hid hf
          rw [hval.2 hok] at hne
          have hself' := Lib.hid (hself hok)
          clear hf hq k2 hnum hval hself hok
          dsimp only
          generalize W32 (n : Int) = N at hne HF hself' ⊢
          generalize formOf N = F at hne HF
          simp only [Bool.not_true] at hne
          have hne2 : (F.toList != []) = true := by simp only [bne, hne]; rfl
          go_wp2_with fail
          refine (HF _).mono ?_
          rintro e w3 ⟨rfl, rfl⟩
          go_wp2
          go_ret3
          rw [hself'.out]
          exact esc_said Hf.out k3.out (fun B hB => (Hb1.out B hB).trans (b2 B hB))
        · have hf : Qm.esc m (c :: r) = none := by rw [Hesc.out, hq]; exact if_neg hok
          have Hf := Lib.hid hf
          have hvf : Utf8.valid (W32 (n : Int)) = false := by
            cases hx : Utf8.valid (W32 (n : Int)) with
            | false => rfl
            | true => exact absurd (hval.1 hx) hok
          rw [hvf] at hne
          clear hf hq k2 hnum hval hself hok hvf
          dsimp only
          generalize W32 (n : Int) = N at hne HF ⊢
          generalize formOf N = F at hne HF
          simp only [Bool.not_false] at hne
          have hne2 : (F.toList != []) = false := by simp only [bne, hne]; rfl
          go_wp2_with fail
          refine (HF _).mono ?_
          rintro e w3 ⟨rfl, rfl⟩
          go_wp2
          go_ret3
          exact esc_none Hf.out (fun B hB => (Hb1.out B hB).trans (b2 B hB))
    · rw [hw] at hN Hesc
      rw [show Qm.wide 120 = 2 from by decide] at Hesc
      have dm : ((120 : Int) == (m : Int)) = false := beq_eq_false_iff_ne.2 (by omega)
      have hv : ∀ n q, Qm.numA 16 2 0 r = some (n, q) → n < 4294967296 := by
        intro n q h
        have := Qm.numA_bound (by omega) h
        omega
      have HV := Lib.hid hv
      have E := E16 2 (by omega)
      have HE := Lib.hid E
      clear hv E16 E hA h92 hB hw
      go_enter Try.func63, Try.ntmps63
      go_wp2_with fail
      refine hN.mono ?_
      rintro e w1 ⟨rfl, k1, b1⟩
      have Hk1 := Lib.hid k1
      have Hb1 := Lib.hid b1
      have hnum := HE.out _ k1
      unfold numV at hnum
      clear b1 k1 hN
      go_wp2_with fail
      refine hnum.mono ?_
      cases hq : Qm.numA 16 2 0 r with
      | none =>
        rintro e w2 ⟨rfl, _, b2⟩
        have hf : Qm.esc m (c :: r) = none := by rw [Hesc.out, hq]
        have Hf := Lib.hid hf
        clear hf hq hnum
        go_wp2
        go_ret3
        exact esc_none Hf.out (fun B hB => (Hb1.out B hB).trans (b2 B hB))
      | some x =>
        obtain ⟨n, q⟩ := x
        have hn := HV.out n q hq
        rintro e w2 ⟨rfl, k2, b2⟩
        have k3 := Lib.hid (k2 n q rfl)
        obtain ⟨hval, hself⟩ := valid_w32 hn
        have hne := formOf_ne (W32 (n : Int))
        have HF := fun w => form_any (W32 (n : Int)) w
        by_cases hok : Um.okN n
        · have hf : Qm.esc m (c :: r) = some (n, true, q) := by rw [Hesc.out, hq]; exact if_pos hok
          have Hf := Lib.hid hf
          rw [hval.2 hok] at hne
          have hself' := Lib.hid (hself hok)
          clear hf hq k2 hnum hval hself hok
          dsimp only
          generalize W32 (n : Int) = N at hne HF hself' ⊢
          generalize formOf N = F at hne HF
          simp only [Bool.not_true] at hne
          have hne2 : (F.toList != []) = true := by simp only [bne, hne]; rfl
          go_wp2_with fail
          refine (HF _).mono ?_
          rintro e w3 ⟨rfl, rfl⟩
          go_wp2
          go_ret3
          rw [hself'.out]
          exact esc_said Hf.out k3.out (fun B hB => (Hb1.out B hB).trans (b2 B hB))
        · have hf : Qm.esc m (c :: r) = none := by rw [Hesc.out, hq]; exact if_neg hok
          have Hf := Lib.hid hf
          have hvf : Utf8.valid (W32 (n : Int)) = false := by
            cases hx : Utf8.valid (W32 (n : Int)) with
            | false => rfl
            | true => exact absurd (hval.1 hx) hok
          rw [hvf] at hne
          clear hf hq k2 hnum hval hself hok hvf
          dsimp only
          generalize W32 (n : Int) = N at hne HF ⊢
          generalize formOf N = F at hne HF
          simp only [Bool.not_false] at hne
          have hne2 : (F.toList != []) = false := by simp only [bne, hne]; rfl
          go_wp2_with fail
          refine (HF _).mono ?_
          rintro e w3 ⟨rfl, rfl⟩
          go_wp2
          go_ret3
          exact esc_none Hf.out (fun B hB => (Hb1.out B hB).trans (b2 B hB))
  rw [if_neg hC] at hesc
  have Hesc := Lib.hid hesc
  have hctl := fun w => control_any c.toNat hlt w
  unfold ctlV ctlB at hctl
  have dm := D m hA
  have d92 : ((c.toNat : Int) == 92) = false := D 92 h92
  have d48 : ((c.toNat : Int) == 48) = false := eq48 48 (by omega) (by omega)
  have d49 : ((c.toNat : Int) == 49) = false := eq48 49 (by omega) (by omega)
  have d50 : ((c.toNat : Int) == 50) = false := eq48 50 (by omega) (by omega)
  have d51 : ((c.toNat : Int) == 51) = false := eq48 51 (by omega) (by omega)
  have d52 : ((c.toNat : Int) == 52) = false := eq48 52 (by omega) (by omega)
  have d53 : ((c.toNat : Int) == 53) = false := eq48 53 (by omega) (by omega)
  have d54 : ((c.toNat : Int) == 54) = false := eq48 54 (by omega) (by omega)
  have d55 : ((c.toNat : Int) == 55) = false := eq48 55 (by omega) (by omega)
  have d85 : ((c.toNat : Int) == 85) = false := D 85 (by omega)
  have d117 : ((c.toNat : Int) == 117) = false := D 117 (by omega)
  have d120 : ((c.toNat : Int) == 120) = false := D 120 (by omega)
  cases hx : Qm.ctl c.toNat with
  | none =>
    have hf : Qm.esc m (c :: r) = none := by rw [Hesc.out, hx]
    have Hf := Lib.hid hf
    rw [hx] at hctl
    simp only [Option.isSome_none] at hctl
    clear hf hesc Hesc E8 E16 D eq48 HP hA h92 hB hC hx
    generalize c.toNat = C at *
    go_enter Try.func63, Try.ntmps63
    go_wp2_with fail
    refine hN.mono ?_
    rintro e w1 ⟨rfl, k1, b1⟩
    have Hk1 := Lib.hid k1
    have Hb1 := Lib.hid b1
    clear b1 k1 hN
    go_wp2_with fail
    refine (hctl _).mono ?_
    rintro e w2 ⟨rfl, rfl⟩
    go_wp2
    go_ret3
    exact esc_none Hf.out Hb1.out
  | some v =>
    have hf : Qm.esc m (c :: r) = some (v, true, r) := by rw [Hesc.out, hx]
    have Hf := Lib.hid hf
    rw [hx] at hctl
    simp only [Option.isSome_some] at hctl
    clear hf hesc Hesc E8 E16 D eq48 HP hA h92 hB hC hx
    generalize c.toNat = C at *
    go_enter Try.func63, Try.ntmps63
    go_wp2_with fail
    refine hN.mono ?_
    rintro e w1 ⟨rfl, k1, b1⟩
    have Hk1 := Lib.hid k1
    have Hb1 := Lib.hid b1
    clear b1 k1 hN
    go_wp2_with fail
    refine (hctl _).mono ?_
    rintro e w2 ⟨rfl, rfl⟩
    go_wp2
    go_ret3
    exact esc_said Hf.out Hk1.out Hb1.out

theorem escape_any (g : Nat) (s : ByteArray) (r T : List UInt8) (m : Nat) (w : World) (h : Rd w g s r T) (hm : m = 39 ∨ m = 34) (hs : s.size ≤ 4611686018427387000) :
    Calls Try.prog 63 #[.pointer (some ⟨g, 0, none⟩), .int .u8 m] w (EscP g s r T m w) := by
  match r, h with
  | [], h => exact esc_end g s T m w h hs
  | c :: r, h => exact esc_some g s c r T m w h hm hs
end Go.Proofs.Ytdpngmhjdafdpaa
