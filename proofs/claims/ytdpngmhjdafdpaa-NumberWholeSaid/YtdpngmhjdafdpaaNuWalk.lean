/- Contracts of the closures that number.walk hands out. -/
import Derived.Test.YtdpngmhjdafdpaaNuCore
import Derived.Deep.QuietTactic
import Derived.BigQuiet
namespace Go.Proofs.Ytdpngmhjdafdpaa
open Go.RowKit Em
set_option linter.unusedVariables false

theorem bl_drop (s : ByteArray) (p : Nat) (h : p < s.size) : (bl s).drop p = (s[p]'h) :: (bl s).drop (p + 1) := by
  have hl : p < (bl s).length := by rw [bl_size]; exact h
  rw [List.drop_eq_getElem_cons hl]
  rfl
theorem bl_over (s : ByteArray) (p : Nat) (h : ¬ p < s.size) : (bl s).drop p = [] := List.drop_eq_nil_of_le (by rw [bl_size]; omega)

theorem hd_at (s : ByteArray) (p b : Nat) (h : p < s.size) : Nm.hd b ((bl s).drop p) = decide ((dgN (byN s p) : Int) < (b : Int)) := by
  rw [bl_drop s p h]
  unfold Nm.hd
  rw [← byN_get s p h, dgN_eq]
  exact decide_eq_decide.2 (by omega)

set_option maxHeartbeats 1000000 in
/-- Does a digit stand at a place? -/
theorem stands_any (s : ByteArray) (p b bs : Nat) (w : World) (hs : w.cell? ⟨bs, 0, none⟩ = some (.string s)) (hp : p ≤ 4611686018427387904) (hb : b ≤ 16) :
    Calls Try.prog 58 #[.int .i64 p, .int .i64 b, .pointer (some ⟨bs, 0, none⟩)] w fun e w' => e = .returned (.bool (Nm.hd b ((bl s).drop p))) ∧ w = w' := by
  have b0 : (0 : Int) ≤ (p : Int) := by omega
  by_cases h : p < s.size
  · have hlt : (p : Int) < (s.size : Int) := by omega
    have e1 := byN_get s p h
    have l1 := byN_lt s p
    rw [hd_at s p b h]
    generalize byN s p = B at e1 l1
    have HD := fun w => digit_any B l1 w
    have hx := dgN_le B
    generalize dgN B = D at HD hx
    go_enter Try.func58, Try.ntmps58
    go_wp2_with (go_at_call 45; refine (HD _).mono ?_; rintro e w' ⟨rfl, rfl⟩)
    go_ret
    exact ⟨ret_bool (decide_eq_decide.2 (by omega)), rfl⟩
  · have hlt : ¬ (p : Int) < (s.size : Int) := by omega
    rw [bl_over s p h]
    go_enter Try.func58, Try.ntmps58
    go_wp2
    go_ret
    exact ⟨rfl, rfl⟩

/-- The three blocks of the closures: the text, the place, the test; what is left of the text. -/
structure Wk (w : World) (bs ba bt : Nat) (s : ByteArray) (r : List UInt8) : Prop where
  x : w.heap[bs]? = some (.cells #[.string s] 9 (0, 0))
  a : ∃ p : Nat, p ≤ s.size ∧ (bl s).drop p = r ∧ w.heap[ba]? = some (.cells #[.int .i64 p] 3 (0, 0))
  t : w.heap[bt]? = some (.cells #[.func (.func 58) #[] #[.pointer (some ⟨bs, 0, none⟩)]] 71 (0, 0))
  d1 : ba ≠ bs
  d2 : ba ≠ bt

theorem Wk.keep {w w' : World} {bs ba bt : Nat} {s : ByteArray} {r : List UInt8} (h : Wk w bs ba bt s r) (hb : Below w.heap.size w w') : Wk w' bs ba bt s r := by
  obtain ⟨h1, ⟨p, h2, h3, h4⟩, h5, h6, h7⟩ := h
  have k := fun (j : Nat) o (hj : w.heap[j]? = some o) => (hb.block j (Array.getElem?_eq_some_iff.1 hj).1).trans hj
  exact ⟨k _ _ h1, ⟨p, h2, h3, k _ _ h4⟩, k _ _ h5, h6, h7⟩

theorem Wk.set {w : World} {bs ba bt : Nat} {s : ByteArray} {r : List UInt8} (h : Wk w bs ba bt s r) (p : Nat) (hp : p ≤ s.size) : Wk (w.setCell ⟨ba, 0, none⟩ (.int .i64 p)) bs ba bt s ((bl s).drop p) := by
  obtain ⟨h1, ⟨q, h2, h3, h4⟩, h5, h6, h7⟩ := h
  refine ⟨(Below.heap_setCell _ _ _ _ (fun e => h6 e.symm)).trans h1, ⟨p, hp, rfl, ?_⟩, (Below.heap_setCell _ _ _ _ (fun e => h7 e.symm)).trans h5, h6, h7⟩
  have := heap_setCell_same w ba 0 _ _ (.int .i64 p) h4
  rw [this]; rfl
theorem Wk.draw {w : World} {bs ba bt : Nat} {s : ByteArray} {r : List UInt8} (h : Wk w bs ba bt s r) (n : Nat) : Wk (w.drewN n) bs ba bt s r := ⟨h.x, h.a, h.t, h.d1, h.d2⟩
theorem Wk.cs {w : World} {bs ba bt : Nat} {s : ByteArray} {r : List UInt8} (h : Wk w bs ba bt s r) : w.cell? ⟨bs, 0, none⟩ = some (.string s) := by rw [cell_of_row w bs 0 _ _ _ h.x]; rfl
theorem Wk.ct {w : World} {bs ba bt : Nat} {s : ByteArray} {r : List UInt8} (h : Wk w bs ba bt s r) : w.cell? ⟨bt, 0, none⟩ = some (.func (.func 58) #[] #[.pointer (some ⟨bs, 0, none⟩)]) := by rw [cell_of_row w bt 0 _ _ _ h.t]; rfl
theorem Wk.ca {w : World} {bs ba bt : Nat} {s : ByteArray} {r : List UInt8} (h : Wk w bs ba bt s r) : ∃ p : Nat, p ≤ s.size ∧ (bl s).drop p = r ∧ w.cell? ⟨ba, 0, none⟩ = some (.int .i64 p) ∧ w.frozen? ⟨ba, 0, none⟩ = false := by
  obtain ⟨p, h1, h2, h3⟩ := h.a
  exact ⟨p, h1, h2, by rw [cell_of_row w ba 0 _ _ _ h3]; rfl, frozen_of_row w ba 0 _ _ h3⟩

def placeN (w : World) (ba : Nat) : Nat := match w.cell? ⟨ba, 0, none⟩ with | some v => (intOf v).toNat | none => 0
theorem placeN_of {w : World} {ba : Nat} {x : Int} (h : w.cell? ⟨ba, 0, none⟩ = some (.int .i64 x)) : placeN w ba = x.toNat := by unfold placeN; rw [h]; simp [intOf]
theorem Wk.ca_set {w : World} {bs ba bt : Nat} {s : ByteArray} {r : List UInt8} (h : Wk w bs ba bt s r) (x : Int) : (w.setCell ⟨ba, 0, none⟩ (.int .i64 x)).cell? ⟨ba, 0, none⟩ = some (.int .i64 x) := by
  obtain ⟨p, h1, h2, h3⟩ := h.a
  rw [cell_of_row _ ba 0 _ _ _ (heap_setCell_same w ba 0 _ _ _ h3)]; rfl

/-- One step of a row of digits. -/
theorem go_over {b : Nat} (hb : b ≤ 16) {c : UInt8} {r : List UInt8} (h : Nm.hd b (c :: r) = true) (h1 : Nm.at1 95 r = true) (h2 : Nm.hd b r.tail = true) : Nm.go b (c :: r) = Nm.go b r.tail := by
  simp [Nm.hd] at h
  match r, h1, h2 with
  | d :: e :: r, h1, h2 =>
    simp [Nm.at1] at h1; subst h1
    simp [Nm.hd] at h2
    simp [Nm.go, h, h2]
theorem go_plain {b : Nat} (hb : b ≤ 16) {c : UInt8} {r : List UInt8} (h : Nm.hd b (c :: r) = true) (h1 : (Nm.at1 95 r && Nm.hd b r.tail) = false) : Nm.go b (c :: r) = Nm.go b r := by
  simp [Nm.hd] at h
  match r, h1 with
  | [], _ => simp [Nm.go, h]
  | d :: r, h1 =>
    by_cases hd' : d = 95
    · subst hd'
      have h2 : Nm.hd b r = false := by simpa [Nm.at1] using h1
      have e1 : Nm.go b (95 :: r) = 95 :: r := Nm.go_no (by simp [Nm.hd, Nm.dg_under]; omega)
      rw [e1]
      match r, h2 with
      | [], _ => simp [Nm.go, h]
      | e :: r, h2 =>
        simp [Nm.hd] at h2
        simp [Nm.go, h]; omega
    · simp [Nm.go, h, hd']

theorem at1_at (s : ByteArray) (p : Nat) (h : p < s.size) (c : UInt8) : Nm.at1 c ((bl s).drop p) = decide ((byN s p : Int) = (c.toNat : Int)) := by
  rw [bl_drop s p h]
  unfold Nm.at1
  rw [← byN_get s p h]
  refine decide_eq_decide.2 ⟨fun e => by rw [e], fun e => UInt8.toNat_inj.1 (by omega)⟩

set_option maxHeartbeats 4000000 in
/-- row -/
theorem row_any (bs ba bt : Nat) (s : ByteArray) (r : List UInt8) (b : Nat) (w : World) (h : Wk w bs ba bt s r) (hb : b ≤ 16) (hs : s.size ≤ 4611686018427387000) :
    Calls Try.prog 59 #[.int .i64 b, .pointer (some ⟨bt, 0, none⟩), .pointer (some ⟨ba, 0, none⟩), .pointer (some ⟨bs, 0, none⟩)] w fun e w' => e = .returned (.bool (Nm.hd b r)) ∧ Wk w' bs ba bt s (Nm.go b r) ∧ ∀ B, B ≤ ba → Below B w w' := by
  obtain ⟨p, hp, hr, ca, fa⟩ := h.ca
  have cs := h.cs
  have ct := h.ct
  have H := Lib.hid h
  have HS := stands_any s p b bs w cs (by omega) hb
  rw [hr] at HS
  clear h
  cases hh : Nm.hd b r with
  | false =>
    rw [hh] at HS
    rw [Nm.go_no hh]
    clear hr hh
    go_enter Try.func59, Try.ntmps59
    go_wp2_with fail
    refine HS.mono ?_
    rintro e w1 ⟨rfl, rfl⟩
    go_wp2
    go_ret
    exact ⟨rfl, H.out, fun B _ => Below.refl _ _⟩
  | true =>
    rw [hh] at HS
    have Hh := Lib.hid hh
    have Hr := Lib.hid hr
    clear hr hh
    go_enter Try.func59, Try.ntmps59
    go_wp2_with fail
    refine HS.mono ?_
    rintro e w1 ⟨rfl, rfl⟩
    clear HS
    go_wp2
    go_loopw [15] (fun _ wr => ∃ q, Wk wr bs ba bt s q ∧ Nm.go b q = Nm.go b r ∧ ∀ B, B ≤ ba → Below B w wr) (fun _ wr => s.size - placeN wr ba)
    case atStart => exact ⟨r, H.out, rfl, fun B _ => Below.refl _ _⟩
    case round =>
      clear ca fa cs ct hp
      obtain ⟨q, hk, hgo, hbel⟩ := hrel
      obtain ⟨a, ha, hq, ca, fa⟩ := hk.ca
      have cs := hk.cs
      have ct := hk.ct
      have HK := Lib.hid hk
      have Hgo := Lib.hid hgo
      have Hbel := Lib.hid hbel
      have HS := stands_any s a b bs wr cs (by omega) hb
      have HS2 := fun w2 (c2 : World.cell? w2 ⟨bs, 0, none⟩ = some (.string s)) => stands_any s (a + 2) b bs w2 c2 (by omega) hb
      clear hk hgo hbel
      rw [hq] at HS
      cases hh : Nm.hd b q with
      | false =>
        rw [hh] at HS
        have hfin := Nm.go_no hh
        rw [Hgo.out] at hfin
        have Hfin := Lib.hid hfin
        clear hfin hh hq
        go_wp2_with fail
        refine HS.mono ?_
        rintro e w1 ⟨rfl, rfl⟩
        go_wp2
        go_ret
        exact ⟨rfl, by rw [Hfin.out]; exact HK.out, Hbel.out⟩
      | true =>
        rw [hh] at HS
        have has : a < s.size := by
          by_cases h : a < s.size
          · exact h
          · rw [bl_over s a h] at hq; subst hq; simp [Nm.hd] at hh
        have hd1 := bl_drop s a has
        rw [hq] at hd1
        have hpa := placeN_of ca
        have n1 : ¬ ba = bs := HK.out.d1
        have n2 : ¬ bs = ba := fun e => n1 e.symm
        have n3 : ¬ ba = bt := HK.out.d2
        have n4 : ¬ bt = ba := fun e => n3 e.symm
        have v1 : ((a + 1 : Nat) : Int) = (a : Int) + 1 := by push_cast; rfl
        have v2 : ((a + 2 : Nat) : Int) = (a : Int) + 1 + 1 := by push_cast; omega
        have K1 := Lib.hid (HK.out.set (a + 1) (by omega))
        rw [v1] at K1
        have B1 : Hid (∀ B, B ≤ ba → Below B w (wr.setCell ⟨ba, 0, none⟩ (.int .i64 ((a : Int) + 1)))) := Lib.hid fun B hB => (Hbel.out B hB).setCell hB _
        have pa1 : placeN (wr.setCell ⟨ba, 0, none⟩ (.int .i64 ((a : Int) + 1))) ba = a + 1 := by rw [placeN_of (HK.out.ca_set _)]; omega
        have b0 : (0 : Int) ≤ (a : Int) + 1 := by omega
        have HP1 := Lib.hid pa1
        have HPA := Lib.hid hpa
        clear pa1 hpa
        by_cases hl2 : a + 1 < s.size
        · have hl2' : (a : Int) + 1 < (s.size : Int) := by omega
          have e1 := byN_get s (a + 1) hl2
          have l1 := byN_lt s (a + 1)
          have t1 := at1_at s (a + 1) hl2 95
          have hd2 := bl_drop s (a + 1) hl2
          have tl2 : ((bl s).drop (a + 1)).tail = (bl s).drop (a + 2) := by rw [hd2]; rfl
          by_cases hc : byN s (a + 1) = 95
          · rw [hc] at e1 t1 l1
            have HT := HS2 (wr.setCell ⟨ba, 0, none⟩ (.int .i64 ((a : Int) + 1))) K1.out.cs
            cases hh2 : Nm.hd b ((bl s).drop (a + 2)) with
            | true =>
              rw [hh2, v2] at HT
              have Hgo2 : Hid (Nm.go b ((bl s).drop (a + 2)) = Nm.go b r) := Lib.hid (by rw [← Hgo.out, hd1, go_over hb (by rw [← hd1]; exact hh) (by rw [t1]; rfl) (by rw [tl2]; exact hh2), tl2])
              have K2 := Lib.hid (K1.out.set (a + 2) (by
                by_cases h : a + 2 ≤ s.size
                · exact h
                · rw [bl_over s (a + 2) (by omega)] at hh2; simp [Nm.hd] at hh2))
              rw [v2] at K2
              have B2 : Hid (∀ B, B ≤ ba → Below B w ((wr.setCell ⟨ba, 0, none⟩ (.int .i64 ((a : Int) + 1))).setCell ⟨ba, 0, none⟩ (.int .i64 ((a : Int) + 1 + 1)))) := Lib.hid fun B hB => (B1.out B hB).setCell hB _
              have HP2 := Lib.hid (placeN_of (K1.out.ca_set ((a : Int) + 1 + 1)))
              clear hh hh2 hd1 hd2 tl2 t1 hc hq HS2 v1 v2
              go_wp2_with fail
              refine HS.mono ?_
              rintro e w1 ⟨rfl, rfl⟩
              clear HS
              go_wp2_with fail
              refine HT.mono ?_
              rintro e w1 ⟨rfl, rfl⟩
              clear HT
              go_wp2
              go_roundw
              case rel => exact ⟨_, K2.out, Hgo2.out, B2.out⟩
              case measure =>
                have x1 := HP2.out
                have x2 := HPA.out
                omega
            | false =>
              rw [hh2, v2] at HT
              have Hgo2 : Hid (Nm.go b ((bl s).drop (a + 1)) = Nm.go b r) := Lib.hid (by rw [← Hgo.out, hd1, go_plain hb (by rw [← hd1]; exact hh) (by rw [tl2, hh2, Bool.and_false])])
              clear hh hh2 hd1 hd2 tl2 t1 hc hq HS2 v1 v2
              go_wp2_with fail
              refine HS.mono ?_
              rintro e w1 ⟨rfl, rfl⟩
              clear HS
              go_wp2_with fail
              refine HT.mono ?_
              rintro e w1 ⟨rfl, rfl⟩
              clear HT
              go_wp2
              go_roundw
              case rel => exact ⟨_, K1.out, Hgo2.out, B1.out⟩
              case measure =>
                have x1 := HP1.out
                have x2 := HPA.out
                omega
          · have d1 : ((byN s (a + 1) : Int) == 95) = false := beq_eq_false_iff_ne.2 (by omega)
            have Hgo2 : Hid (Nm.go b ((bl s).drop (a + 1)) = Nm.go b r) := Lib.hid (by rw [← Hgo.out, hd1, go_plain hb (by rw [← hd1]; exact hh) (by rw [t1, decide_eq_false (fun e => hc (by simpa using Int.ofNat.inj e))]; rfl)])
            clear hh hd1 hd2 tl2 t1 hc hq HS2 v1 v2
            generalize byN s (a + 1) = C at e1 l1 d1
            go_wp2_with fail
            refine HS.mono ?_
            rintro e w1 ⟨rfl, rfl⟩
            clear HS
            go_wp2
            go_roundw
            case rel => exact ⟨_, K1.out, Hgo2.out, B1.out⟩
            case measure =>
              have x1 := HP1.out
              have x2 := HPA.out
              omega
        · have hl2' : ¬ (a : Int) + 1 < (s.size : Int) := by omega
          have Hgo2 : Hid (Nm.go b ((bl s).drop (a + 1)) = Nm.go b r) := Lib.hid (by rw [← Hgo.out, hd1, go_plain hb (by rw [← hd1]; exact hh) (by rw [bl_over s (a + 1) hl2]; rfl)])
          clear hh hd1 hq HS2 v1 v2
          go_wp2_with fail
          refine HS.mono ?_
          rintro e w1 ⟨rfl, rfl⟩
          clear HS
          go_wp2
          go_roundw
          case rel => exact ⟨_, K1.out, Hgo2.out, B1.out⟩
          case measure =>
            have x1 := HP1.out
            have x2 := HPA.out
            omega
end Go.Proofs.Ytdpngmhjdafdpaa
