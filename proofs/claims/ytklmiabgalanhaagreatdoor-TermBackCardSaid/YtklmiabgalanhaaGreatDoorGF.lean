/- Contracts of the small functions of number (layer 5): digit, inner, prefix; strings.IndexByte and strings.CutSuffix. -/
import Derived.Test.YtklmiabgalanhaaGreatDoorRows
import Derived.Test.YtklmiabgalanhaaGreatDoorGB
import Derived.WalkKit
import Derived.WalkSpells
import Derived.WalkLawsBesides
import Derived.Outline
import Derived.Lib.Hide
import Derived.Lib.Strings
import Derived.Lib.Bytealg
import Derived.Deep.Draws
import Derived.BigCall
import Derived.BigGuard
import Derived.RegionTactic
import Derived.Deep.QuietTactic
import Derived.BigQuiet
import Derived.OwnWalk
import Derived.Laws.EntriesVeiled
namespace Go.Proofs.YtklmiabgalanhaaGreatDoor
open Go.RowKit Em
set_option maxRecDepth 100000

theorem nret_bool {a b : Bool} (h : a = b) : Ending.returned (.bool a) = .returned (.bool b) := by rw [h]
theorem nret_int {k : IntKind} {a b : Int} (h : a = b) : Ending.returned (.int k a) = .returned (.int k b) := by rw [h]

/-- digit of a number below 256. -/
def dgN (n : Nat) : Nat := if 48 ≤ n ∧ n ≤ 57 then n - 48 else if 97 ≤ n ∧ n ≤ 102 then n - 97 + 10 else if 65 ≤ n ∧ n ≤ 70 then n - 65 + 10 else 16
theorem dgN_eq (c : UInt8) : dgN c.toNat = Nm.dg c := rfl
theorem dgN_le (n : Nat) : dgN n ≤ 16 := by unfold dgN; repeat' split
                                            all_goals omega

/-- number.digit -/
theorem ndigit_any (n : Nat) (hn : n < 256) (w : World) :
    Calls Tryz.prog 149 #[.int .u8 n] w fun e w' => e = .returned (.int .i64 (dgN n : Nat)) ∧ w = w' := by
  by_cases h1 : 48 ≤ n ∧ n ≤ 57
  · have e : ((dgN n : Nat) : Int) = (n : Int) - 48 := by unfold dgN; rw [if_pos h1]; omega
    rw [e]
    have a : (48 : Int) ≤ n := by omega
    have b : (n : Int) ≤ 57 := by omega
    have v1 : IntKind.u8.wrap ((n : Int) - 48) = (n : Int) - 48 := by rw [IntKind.wrap_u8]; omega
    have v2 : IntKind.i64.wrap ((n : Int) - 48) = (n : Int) - 48 := by rw [IntKind.wrap_i64]; omega
    clear h1 e
    go_enter Tryz.func149, Tryz.ntmps149
    go_wp2
    go_ret
    exact ⟨rfl, rfl⟩
  · have g1 : ¬ ((48 : Int) ≤ n ∧ (n : Int) ≤ 57) := by omega
    by_cases h2 : 97 ≤ n ∧ n ≤ 102
    · have e : ((dgN n : Nat) : Int) = (n : Int) - 97 + 10 := by unfold dgN; rw [if_neg h1, if_pos h2]; omega
      rw [e]
      have a : (97 : Int) ≤ n := by omega
      have b : (n : Int) ≤ 102 := by omega
      have c : ¬ (n : Int) ≤ 57 := by omega
      have c2 : (48 : Int) ≤ n := by omega
      clear h1 e g1
      go_enter Tryz.func149, Tryz.ntmps149
      go_wp2
      go_ret
      exact ⟨nret_int (by omega), rfl⟩
    · by_cases h3 : 65 ≤ n ∧ n ≤ 70
      · have e : ((dgN n : Nat) : Int) = (n : Int) - 65 + 10 := by unfold dgN; rw [if_neg h1, if_neg h2, if_pos h3]; omega
        rw [e]
        have a : (65 : Int) ≤ n := by omega
        have b : (n : Int) ≤ 70 := by omega
        have c : ¬ (n : Int) ≤ 57 := by omega
        have c2 : (48 : Int) ≤ n := by omega
        have c3 : ¬ (97 : Int) ≤ n := by omega
        clear h1 h2 e g1
        go_enter Tryz.func149, Tryz.ntmps149
        go_wp2
        go_ret
        exact ⟨nret_int (by omega), rfl⟩
      · have e : ((dgN n : Nat) : Int) = 16 := by unfold dgN; rw [if_neg h1, if_neg h2, if_neg h3]; rfl
        rw [e]
        clear e
        go_enter Tryz.func149, Tryz.ntmps149
        go_wp2
        all_goals first | (exfalso; omega) | (go_ret; exact ⟨rfl, rfl⟩)

/-- strings.IndexByte -/
theorem index_any (s : ByteArray) (c : Int) (w : World) :
    Calls Tryz.prog 152 #[.string s, .int .u8 c] w fun e w' => e = .returned (.int .i64 (Lib.indexByte (bl s) c.toNat.toUInt8)) ∧ w = w' := by
  have h1 : Calls Tryz.prog 159 #[.string s, .int .u8 c] w fun e w' => e = .returned (.int .i64 (Lib.indexByte (bl s) c.toNat.toUInt8)) ∧ w = w' := by
    go_enter Tryz.func159, Tryz.ntmps159
    go_wp2_with fail
    rw [run_callFunc_extern Tryz.func161 (by kernel_rfl) (by kernel_rfl) (by kernel_rfl) (e := Extern.BytealgIndexByte.indexByte) (by kernel_rfl), Lib.run_indexByteString]
    simp only [Result.andThen]
    rw [Oper.upon_value]
    go_wp2
    go_ret
    exact ⟨rfl, rfl⟩
  go_enter Tryz.func152, Tryz.ntmps152
  go_wp2_with fail
  refine h1.mono ?_
  rintro e w' ⟨rfl, rfl⟩
  go_wp2
  go_ret
  exact ⟨rfl, rfl⟩
end Go.Proofs.YtklmiabgalanhaaGreatDoor

/- Contracts of the closures that number.walk hands out. -/
namespace Go.Proofs.YtklmiabgalanhaaGreatDoor
open Go.RowKit Em
set_option maxRecDepth 100000
set_option linter.unusedVariables false

theorem bl_drop (s : ByteArray) (p : Nat) (h : p < s.size) : (bl s).drop p = (s[p]'h) :: (bl s).drop (p + 1) := by
  have hl : p < (bl s).length := by rw [bl_size]; exact h
  rw [List.drop_eq_getElem_cons hl]
  rfl
theorem bl_over (s : ByteArray) (p : Nat) (h : ¬ p < s.size) : (bl s).drop p = [] := List.drop_eq_nil_of_le (by rw [bl_size]; omega)

theorem hd_at (s : ByteArray) (p b : Nat) (h : p < s.size) : Nm.hd b ((bl s).drop p) = decide ((dgN (byN s p) : Int) < (b : Int)) := by
  rw [bl_drop s p h]
  unfold Nm.hd
  rw [← byN_get s p h, dgN_eq]
  exact decide_eq_decide.2 (by omega)

set_option maxHeartbeats 1000000 in
/-- Does a digit stand at a place? -/
theorem stands_any (s : ByteArray) (p b bs : Nat) (w : World) (hs : w.cell? ⟨bs, 0, none⟩ = some (.string s)) (hp : p ≤ 4611686018427387904) (hb : b ≤ 16) :
    Calls Tryz.prog 148 #[.int .i64 p, .int .i64 b, .pointer (some ⟨bs, 0, none⟩)] w fun e w' => e = .returned (.bool (Nm.hd b ((bl s).drop p))) ∧ w = w' := by
  have b0 : (0 : Int) ≤ (p : Int) := by omega
  by_cases h : p < s.size
  · have hlt : (p : Int) < (s.size : Int) := by omega
    have e1 := byN_get s p h
    have l1 := byN_lt s p
    rw [hd_at s p b h]
    generalize byN s p = B at e1 l1
    have HD := fun w => ndigit_any B l1 w
    have hx := dgN_le B
    generalize dgN B = D at HD hx
    go_enter Tryz.func148, Tryz.ntmps148
    go_wp2_with (go_at_call 149; refine (HD _).mono ?_; rintro e w' ⟨rfl, rfl⟩)
    go_ret
    exact ⟨nret_bool (decide_eq_decide.2 (by omega)), rfl⟩
  · have hlt : ¬ (p : Int) < (s.size : Int) := by omega
    rw [bl_over s p h]
    go_enter Tryz.func148, Tryz.ntmps148
    go_wp2
    go_ret
    exact ⟨rfl, rfl⟩

/-- The three blocks of the closures: the text, the place, the test; what is left of the text. -/
structure Wk (w : World) (bs ba bt : Nat) (s : ByteArray) (r : List UInt8) : Prop where
  x : w.heap[bs]? = some (.cells #[.string s] 9 (0, 0))
  a : ∃ p : Nat, p ≤ s.size ∧ (bl s).drop p = r ∧ w.heap[ba]? = some (.cells #[.int .i64 p] 3 (0, 0))
  t : w.heap[bt]? = some (.cells #[.func (.func 148) #[] #[.pointer (some ⟨bs, 0, none⟩)]] 169 (0, 0))
  d1 : ba ≠ bs
  d2 : ba ≠ bt

theorem Wk.keep {w w' : World} {bs ba bt : Nat} {s : ByteArray} {r : List UInt8} (h : Wk w bs ba bt s r) (hb : Below w.heap.size w w') : Wk w' bs ba bt s r := by
  obtain ⟨h1, ⟨p, h2, h3, h4⟩, h5, h6, h7⟩ := h
  have k := fun (j : Nat) o (hj : w.heap[j]? = some o) => (hb.block j (Array.getElem?_eq_some_iff.1 hj).1).trans hj
  exact ⟨k _ _ h1, ⟨p, h2, h3, k _ _ h4⟩, k _ _ h5, h6, h7⟩

theorem Wk.set {w : World} {bs ba bt : Nat} {s : ByteArray} {r : List UInt8} (h : Wk w bs ba bt s r) (p : Nat) (hp : p ≤ s.size) : Wk (w.setCell ⟨ba, 0, none⟩ (.int .i64 p)) bs ba bt s ((bl s).drop p) := by
  obtain ⟨h1, ⟨q, h2, h3, h4⟩, h5, h6, h7⟩ := h
  refine ⟨(Below.heap_setCell _ _ _ _ (fun e => h6 e.symm)).trans h1, ⟨p, hp, rfl, ?_⟩, (Below.heap_setCell _ _ _ _ (fun e => h7 e.symm)).trans h5, h6, h7⟩
  have := heap_setCell_same w ba 0 _ _ (.int .i64 p) h4
  rw [this]; rfl
theorem Wk.draw {w : World} {bs ba bt : Nat} {s : ByteArray} {r : List UInt8} (h : Wk w bs ba bt s r) (n : Nat) : Wk (w.drewN n) bs ba bt s r := ⟨h.x, h.a, h.t, h.d1, h.d2⟩
theorem Wk.cs {w : World} {bs ba bt : Nat} {s : ByteArray} {r : List UInt8} (h : Wk w bs ba bt s r) : w.cell? ⟨bs, 0, none⟩ = some (.string s) := by rw [cell_of_row w bs 0 _ _ _ h.x]; rfl
theorem Wk.ct {w : World} {bs ba bt : Nat} {s : ByteArray} {r : List UInt8} (h : Wk w bs ba bt s r) : w.cell? ⟨bt, 0, none⟩ = some (.func (.func 148) #[] #[.pointer (some ⟨bs, 0, none⟩)]) := by rw [cell_of_row w bt 0 _ _ _ h.t]; rfl
theorem Wk.ca {w : World} {bs ba bt : Nat} {s : ByteArray} {r : List UInt8} (h : Wk w bs ba bt s r) : ∃ p : Nat, p ≤ s.size ∧ (bl s).drop p = r ∧ w.cell? ⟨ba, 0, none⟩ = some (.int .i64 p) ∧ w.frozen? ⟨ba, 0, none⟩ = false := by
  obtain ⟨p, h1, h2, h3⟩ := h.a
  exact ⟨p, h1, h2, by rw [cell_of_row w ba 0 _ _ _ h3]; rfl, frozen_of_row w ba 0 _ _ h3⟩

def placeN (w : World) (ba : Nat) : Nat := match w.cell? ⟨ba, 0, none⟩ with | some v => (intOf v).toNat | none => 0
theorem placeN_of {w : World} {ba : Nat} {x : Int} (h : w.cell? ⟨ba, 0, none⟩ = some (.int .i64 x)) : placeN w ba = x.toNat := by unfold placeN; rw [h]; simp [intOf]
theorem Wk.ca_set {w : World} {bs ba bt : Nat} {s : ByteArray} {r : List UInt8} (h : Wk w bs ba bt s r) (x : Int) : (w.setCell ⟨ba, 0, none⟩ (.int .i64 x)).cell? ⟨ba, 0, none⟩ = some (.int .i64 x) := by
  obtain ⟨p, h1, h2, h3⟩ := h.a
  rw [cell_of_row _ ba 0 _ _ _ (heap_setCell_same w ba 0 _ _ _ h3)]; rfl

/-- One step of a row of digits. -/
theorem go_over {b : Nat} (hb : b ≤ 16) {c : UInt8} {r : List UInt8} (h : Nm.hd b (c :: r) = true) (h1 : Nm.at1 95 r = true) (h2 : Nm.hd b r.tail = true) : Nm.go b (c :: r) = Nm.go b r.tail := by
  simp [Nm.hd] at h
  match r, h1, h2 with
  | d :: e :: r, h1, h2 =>
    simp [Nm.at1] at h1; subst h1
    simp [Nm.hd] at h2
    simp [Nm.go, h, h2]
theorem go_plain {b : Nat} (hb : b ≤ 16) {c : UInt8} {r : List UInt8} (h : Nm.hd b (c :: r) = true) (h1 : (Nm.at1 95 r && Nm.hd b r.tail) = false) : Nm.go b (c :: r) = Nm.go b r := by
  simp [Nm.hd] at h
  match r, h1 with
  | [], _ => simp [Nm.go, h]
  | d :: r, h1 =>
    by_cases hd' : d = 95
    · subst hd'
      have h2 : Nm.hd b r = false := by simpa [Nm.at1] using h1
      have e1 : Nm.go b (95 :: r) = 95 :: r := Nm.go_no (by simp [Nm.hd, Nm.dg_under]; omega)
      rw [e1]
      match r, h2 with
      | [], _ => simp [Nm.go, h]
      | e :: r, h2 =>
        simp [Nm.hd] at h2
        simp [Nm.go, h]; omega
    · simp [Nm.go, h, hd']

theorem at1_at (s : ByteArray) (p : Nat) (h : p < s.size) (c : UInt8) : Nm.at1 c ((bl s).drop p) = decide ((byN s p : Int) = (c.toNat : Int)) := by
  rw [bl_drop s p h]
  unfold Nm.at1
  rw [← byN_get s p h]
  refine decide_eq_decide.2 ⟨fun e => by rw [e], fun e => UInt8.toNat_inj.1 (by omega)⟩

set_option maxHeartbeats 4000000 in
/-- row -/
theorem row_any (bs ba bt : Nat) (s : ByteArray) (r : List UInt8) (b : Nat) (w : World) (h : Wk w bs ba bt s r) (hb : b ≤ 16) (hs : s.size ≤ 4611686018427387000) :
    Calls Tryz.prog 150 #[.int .i64 b, .pointer (some ⟨bt, 0, none⟩), .pointer (some ⟨ba, 0, none⟩), .pointer (some ⟨bs, 0, none⟩)] w fun e w' => e = .returned (.bool (Nm.hd b r)) ∧ Wk w' bs ba bt s (Nm.go b r) ∧ ∀ B, B ≤ ba → Below B w w' := by
  obtain ⟨p, hp, hr, ca, fa⟩ := h.ca
  have cs := h.cs
  have ct := h.ct
  have H := Lib.hid h
  have HS := stands_any s p b bs w cs (by omega) hb
  rw [hr] at HS
  clear h
  cases hh : Nm.hd b r with
  | false =>
    rw [hh] at HS
    rw [Nm.go_no hh]
    clear hr hh
    go_enter Tryz.func150, Tryz.ntmps150
    go_wp2_with fail
    refine HS.mono ?_
    rintro e w1 ⟨rfl, rfl⟩
    go_wp2
    go_ret
    exact ⟨rfl, H.out, fun B _ => Below.refl _ _⟩
  | true =>
    rw [hh] at HS
    have Hh := Lib.hid hh
    have Hr := Lib.hid hr
    clear hr hh
    go_enter Tryz.func150, Tryz.ntmps150
    go_wp2_with fail
    refine HS.mono ?_
    rintro e w1 ⟨rfl, rfl⟩
    clear HS
    go_wp2
    go_loopw [15] (fun _ wr => ∃ q, Wk wr bs ba bt s q ∧ Nm.go b q = Nm.go b r ∧ ∀ B, B ≤ ba → Below B w wr) (fun _ wr => s.size - placeN wr ba)
    case atStart => exact ⟨r, H.out, rfl, fun B _ => Below.refl _ _⟩
    case round =>
      clear ca fa cs ct hp
      obtain ⟨q, hk, hgo, hbel⟩ := hrel
      obtain ⟨a, ha, hq, ca, fa⟩ := hk.ca
      have cs := hk.cs
      have ct := hk.ct
      have HK := Lib.hid hk
      have Hgo := Lib.hid hgo
      have Hbel := Lib.hid hbel
      have HS := stands_any s a b bs wr cs (by omega) hb
      have HS2 := fun w2 (c2 : World.cell? w2 ⟨bs, 0, none⟩ = some (.string s)) => stands_any s (a + 2) b bs w2 c2 (by omega) hb
      clear hk hgo hbel
      rw [hq] at HS
      cases hh : Nm.hd b q with
      | false =>
        rw [hh] at HS
        have hfin := Nm.go_no hh
        rw [Hgo.out] at hfin
        have Hfin := Lib.hid hfin
        clear hfin hh hq
        go_wp2_with fail
        refine HS.mono ?_
        rintro e w1 ⟨rfl, rfl⟩
        go_wp2
        go_ret
        exact ⟨rfl, by rw [Hfin.out]; exact HK.out, Hbel.out⟩
      | true =>
        rw [hh] at HS
        have has : a < s.size := by
          by_cases h : a < s.size
          · exact h
          · rw [bl_over s a h] at hq; subst hq; simp [Nm.hd] at hh
        have hd1 := bl_drop s a has
        rw [hq] at hd1
        have hpa := placeN_of ca
        have n1 : ¬ ba = bs := HK.out.d1
        have n2 : ¬ bs = ba := fun e => n1 e.symm
        have n3 : ¬ ba = bt := HK.out.d2
        have n4 : ¬ bt = ba := fun e => n3 e.symm
        have v1 : ((a + 1 : Nat) : Int) = (a : Int) + 1 := by push_cast; rfl
        have v2 : ((a + 2 : Nat) : Int) = (a : Int) + 1 + 1 := by push_cast; omega
        have K1 := Lib.hid (HK.out.set (a + 1) (by omega))
        rw [v1] at K1
        have B1 : Hid (∀ B, B ≤ ba → Below B w (wr.setCell ⟨ba, 0, none⟩ (.int .i64 ((a : Int) + 1)))) := Lib.hid fun B hB => (Hbel.out B hB).setCell hB _
        have pa1 : placeN (wr.setCell ⟨ba, 0, none⟩ (.int .i64 ((a : Int) + 1))) ba = a + 1 := by rw [placeN_of (HK.out.ca_set _)]; omega
        have b0 : (0 : Int) ≤ (a : Int) + 1 := by omega
        have HP1 := Lib.hid pa1
        have HPA := Lib.hid hpa
        clear pa1 hpa
        by_cases hl2 : a + 1 < s.size
        · have hl2' : (a : Int) + 1 < (s.size : Int) := by omega
          have e1 := byN_get s (a + 1) hl2
          have l1 := byN_lt s (a + 1)
          have t1 := at1_at s (a + 1) hl2 95
          have hd2 := bl_drop s (a + 1) hl2
          have tl2 : ((bl s).drop (a + 1)).tail = (bl s).drop (a + 2) := by rw [hd2]; rfl
          by_cases hc : byN s (a + 1) = 95
          · rw [hc] at e1 t1 l1
            have HT := HS2 (wr.setCell ⟨ba, 0, none⟩ (.int .i64 ((a : Int) + 1))) K1.out.cs
            cases hh2 : Nm.hd b ((bl s).drop (a + 2)) with
            | true =>
              rw [hh2, v2] at HT
              have Hgo2 : Hid (Nm.go b ((bl s).drop (a + 2)) = Nm.go b r) := Lib.hid (by rw [← Hgo.out, hd1, go_over hb (by rw [← hd1]; exact hh) (by rw [t1]; rfl) (by rw [tl2]; exact hh2), tl2])
              have K2 := Lib.hid (K1.out.set (a + 2) (by
                by_cases h : a + 2 ≤ s.size
                · exact h
                · rw [bl_over s (a + 2) (by omega)] at hh2; simp [Nm.hd] at hh2))
              rw [v2] at K2
              have B2 : Hid (∀ B, B ≤ ba → Below B w ((wr.setCell ⟨ba, 0, none⟩ (.int .i64 ((a : Int) + 1))).setCell ⟨ba, 0, none⟩ (.int .i64 ((a : Int) + 1 + 1)))) := Lib.hid fun B hB => (B1.out B hB).setCell hB _
              have HP2 := Lib.hid (placeN_of (K1.out.ca_set ((a : Int) + 1 + 1)))
              clear hh hh2 hd1 hd2 tl2 t1 hc hq HS2 v1 v2
              go_wp2_with fail
              refine HS.mono ?_
              rintro e w1 ⟨rfl, rfl⟩
              clear HS
              go_wp2_with fail
              refine HT.mono ?_
              rintro e w1 ⟨rfl, rfl⟩
              clear HT
              go_wp2
              go_roundw
              case rel => exact ⟨_, K2.out, Hgo2.out, B2.out⟩
              case measure =>
                have x1 := HP2.out
                have x2 := HPA.out
                omega
            | false =>
              rw [hh2, v2] at HT
              have Hgo2 : Hid (Nm.go b ((bl s).drop (a + 1)) = Nm.go b r) := Lib.hid (by rw [← Hgo.out, hd1, go_plain hb (by rw [← hd1]; exact hh) (by rw [tl2, hh2, Bool.and_false])])
              clear hh hh2 hd1 hd2 tl2 t1 hc hq HS2 v1 v2
              go_wp2_with fail
              refine HS.mono ?_
              rintro e w1 ⟨rfl, rfl⟩
              clear HS
              go_wp2_with fail
              refine HT.mono ?_
              rintro e w1 ⟨rfl, rfl⟩
              clear HT
              go_wp2
              go_roundw
              case rel => exact ⟨_, K1.out, Hgo2.out, B1.out⟩
              case measure =>
                have x1 := HP1.out
                have x2 := HPA.out
                omega
          · have d1 : ((byN s (a + 1) : Int) == 95) = false := beq_eq_false_iff_ne.2 (by omega)
            have Hgo2 : Hid (Nm.go b ((bl s).drop (a + 1)) = Nm.go b r) := Lib.hid (by rw [← Hgo.out, hd1, go_plain hb (by rw [← hd1]; exact hh) (by rw [t1, decide_eq_false (fun e => hc (by simpa using Int.ofNat.inj e))]; rfl)])
            clear hh hd1 hd2 tl2 t1 hc hq HS2 v1 v2
            generalize byN s (a + 1) = C at e1 l1 d1
            go_wp2_with fail
            refine HS.mono ?_
            rintro e w1 ⟨rfl, rfl⟩
            clear HS
            go_wp2
            go_roundw
            case rel => exact ⟨_, K1.out, Hgo2.out, B1.out⟩
            case measure =>
              have x1 := HP1.out
              have x2 := HPA.out
              omega
        · have hl2' : ¬ (a : Int) + 1 < (s.size : Int) := by omega
          have Hgo2 : Hid (Nm.go b ((bl s).drop (a + 1)) = Nm.go b r) := Lib.hid (by rw [← Hgo.out, hd1, go_plain hb (by rw [← hd1]; exact hh) (by rw [bl_over s (a + 1) hl2]; rfl)])
          clear hh hd1 hq HS2 v1 v2
          go_wp2_with fail
          refine HS.mono ?_
          rintro e w1 ⟨rfl, rfl⟩
          clear HS
          go_wp2
          go_roundw
          case rel => exact ⟨_, K1.out, Hgo2.out, B1.out⟩
          case measure =>
            have x1 := HP1.out
            have x2 := HPA.out
            omega
end Go.Proofs.YtklmiabgalanhaaGreatDoor

/- Contracts of the other closures of number.walk, and of walk, exponent, isRow. -/
namespace Go.Proofs.YtklmiabgalanhaaGreatDoor
open Go.RowKit Em
set_option maxRecDepth 100000
set_option linter.unusedVariables false

/-- Is the first byte one of some? -/
def inS (o : ByteArray) : List UInt8 → Bool
  | [] => false
  | c :: _ => decide (0 ≤ Lib.indexByte (bl o) c)

theorem inS1 (c : UInt8) (r : List UInt8) : inS ⟨#[c]⟩ r = Nm.at1 c r := by
  match r with
  | [] => rfl
  | x :: r =>
    unfold inS Nm.at1
    refine decide_eq_decide.2 ?_
    show 0 ≤ Lib.indexByte [c] x ↔ _
    unfold Lib.indexByte Lib.indexByte
    by_cases h : c = x
    · subst h; simp
    · rw [if_neg (by simpa using h)]; simp; exact fun e => h e.symm
theorem inS2 (c d : UInt8) (r : List UInt8) : inS ⟨#[c, d]⟩ r = Nm.at2 c d r := by
  match r with
  | [] => rfl
  | x :: r =>
    unfold inS Nm.at2
    refine decide_eq_decide.2 ?_
    show 0 ≤ Lib.indexByte [c, d] x ↔ _
    unfold Lib.indexByte Lib.indexByte Lib.indexByte
    by_cases h : c = x
    · subst h; simp
    · by_cases h2 : d = x
      · subst h2; simp [h]
      · simp [h, h2]
        exact ⟨fun e => h e.symm, fun e => h2 e.symm⟩

theorem byte_back (s : ByteArray) (p : Nat) (h : p < s.size) : ((byN s p : Nat) : Int).toNat.toUInt8 = s[p]'h := by
  rw [← byN_get s p h]; simp

set_option maxHeartbeats 4000000 in
/-- one -/
theorem one_any (bs ba bt : Nat) (s : ByteArray) (r : List UInt8) (o : ByteArray) (v : Bool) (w : World) (h : Wk w bs ba bt s r) (hs : s.size ≤ 4611686018427387000) (hv : inS o r = v) :
    Calls Tryz.prog 151 #[.string o, .pointer (some ⟨ba, 0, none⟩), .pointer (some ⟨bs, 0, none⟩)] w fun e w' => e = .returned (.bool v) ∧ Wk w' bs ba bt s (bif v then r.tail else r) ∧ ∀ B, B ≤ ba → Below B w w' := by
  obtain ⟨p, hp, hr, ca, fa⟩ := h.ca
  have cs := h.cs
  have H := Lib.hid h
  have b0 : (0 : Int) ≤ (p : Int) := by omega
  clear h
  by_cases hps : p < s.size
  · have hlt : (p : Int) < (s.size : Int) := by omega
    have e1 := byN_get s p hps
    have l1 := byN_lt s p
    have hd1 := bl_drop s p hps
    rw [hr] at hd1
    have hne : ((p : Int) == (s.size : Int)) = false := beq_eq_false_iff_ne.2 (by omega)
    have HI := fun w => index_any o (byN s p : Int) w
    have hb := byte_back s p hps
    rw [hb] at HI
    rw [hd1] at hv
    have ht : r.tail = (bl s).drop (p + 1) := by rw [hd1]; rfl
    have HT := Lib.hid ht
    have K1 := Lib.hid (H.out.set (p + 1) (by omega))
    have v1 : ((p + 1 : Nat) : Int) = (p : Int) + 1 := by push_cast; rfl
    rw [v1] at K1
    clear ht hd1 hb hr v1
    unfold inS at hv
    simp only [] at hv
    generalize byN s p = C at e1 l1 HI
    have hge := Lib.indexByte_ge (bl o) s[p]
    generalize Lib.indexByte (bl o) s[p] = X at HI hv hge
    cases v with
    | true =>
      have hx := of_decide_eq_true hv
      clear hv
      go_enter Tryz.func151, Tryz.ntmps151
      go_wp2_with (go_at_call 152; refine (HI _).mono ?_; rintro e w' ⟨rfl, rfl⟩)
      go_ret
      exact ⟨rfl, by rw [cond_true, HT.out]; exact K1.out, fun B hB => (Below.refl _ _).setCell hB _⟩
    | false =>
      have hx := of_decide_eq_false hv
      have hx2 : X < 0 := by omega
      clear hv
      go_enter Tryz.func151, Tryz.ntmps151
      go_wp2_with (go_at_call 152; refine (HI _).mono ?_; rintro e w' ⟨rfl, rfl⟩)
      go_ret
      exact ⟨rfl, H.out, fun B _ => Below.refl _ _⟩
  · obtain rfl : p = s.size := by omega
    rw [bl_over s s.size hps] at hr
    subst hr
    have : v = false := hv.symm
    subst this
    go_enter Tryz.func151, Tryz.ntmps151
    go_wp2
    go_ret
    exact ⟨rfl, H.out, fun B _ => Below.refl _ _⟩

/-- end -/
theorem end_any (bs ba bt : Nat) (s : ByteArray) (r : List UInt8) (v : Bool) (w : World) (h : Wk w bs ba bt s r) (hv : r.isEmpty = v) :
    Calls Tryz.prog 153 #[.pointer (some ⟨ba, 0, none⟩), .pointer (some ⟨bs, 0, none⟩)] w fun e w' => e = .returned (.bool v) ∧ w = w' := by
  obtain ⟨p, hp, hr, ca, fa⟩ := h.ca
  have cs := h.cs
  have hx : ((p : Int) == (s.size : Int)) = v := by
    rw [← hv, ← hr, Bool.eq_iff_iff, beq_iff_eq, List.isEmpty_iff, List.drop_eq_nil_iff, bl_size]
    omega
  clear h hv hr
  go_enter Tryz.func153, Tryz.ntmps153
  go_wp2
  go_ret
  exact ⟨rfl, rfl⟩

theorem row_is (bs ba bt : Nat) (s : ByteArray) (r : List UInt8) (b : Nat) (v : Bool) (w : World) (h : Wk w bs ba bt s r) (hb : b ≤ 16) (hs : s.size ≤ 4611686018427387000) (hv : Nm.hd b r = v) :
    Calls Tryz.prog 150 #[.int .i64 b, .pointer (some ⟨bt, 0, none⟩), .pointer (some ⟨ba, 0, none⟩), .pointer (some ⟨bs, 0, none⟩)] w fun e w' => e = .returned (.bool v) ∧ Wk w' bs ba bt s (Nm.go b r) ∧ ∀ B, B ≤ ba → Below B w w' := by
  have := row_any bs ba bt s r b w h hb hs
  rw [hv] at this
  exact this

/-- What walk hands out. -/
def rowF (bs ba bt : Nat) : Value := .func (.func 150) #[] #[.pointer (some ⟨bt, 0, none⟩), .pointer (some ⟨ba, 0, none⟩), .pointer (some ⟨bs, 0, none⟩)]
def oneF (bs ba : Nat) : Value := .func (.func 151) #[] #[.pointer (some ⟨ba, 0, none⟩), .pointer (some ⟨bs, 0, none⟩)]
def endF (bs ba : Nat) : Value := .func (.func 153) #[] #[.pointer (some ⟨ba, 0, none⟩), .pointer (some ⟨bs, 0, none⟩)]

theorem walk_any (s : ByteArray) (w : World) :
    Calls Tryz.prog 129 #[.string s] w fun e w' => ∃ bs ba bt, e = .returned (.tuple #[rowF bs ba bt, oneF bs ba, endF bs ba]) ∧ Wk w' bs ba bt s (bl s) ∧ w.heap.size ≤ ba ∧ Below w.heap.size w w' := by
  have a1 := heap_alloc_new w (.cells #[.string s] 9)
  have a2 := heap_alloc_new (w.alloc (.cells #[.string s] 9)) (.cells #[.int .i64 0] 3)
  have a3 := heap_alloc_new ((w.alloc (.cells #[.string s] 9)).alloc (.cells #[.int .i64 0] 3)) (.cells #[.func (.func 148) #[] #[.pointer (some ⟨w.heap.size, 0, none⟩)]] 169)
  have z1 : (w.alloc (.cells #[.string s] 9)).heap.size = w.heap.size + 1 := by simp
  have z2 : ((w.alloc (.cells #[.string s] 9)).alloc (.cells #[.int .i64 0] 3)).heap.size = w.heap.size + 1 + 1 := by simp
  have hb : Below w.heap.size w (((w.alloc (.cells #[.string s] 9)).alloc (.cells #[.int .i64 0] 3)).alloc (.cells #[.func (.func 148) #[] #[.pointer (some ⟨w.heap.size, 0, none⟩)]] 169)) :=
    (((Below.refl _ _).alloc (Nat.le_refl _) _).alloc (by omega) _).alloc (by omega) _
  have hk : Wk (((w.alloc (.cells #[.string s] 9)).alloc (.cells #[.int .i64 0] 3)).alloc (.cells #[.func (.func 148) #[] #[.pointer (some ⟨w.heap.size, 0, none⟩)]] 169)) w.heap.size (w.heap.size + 1) (w.heap.size + 1 + 1) s (bl s) := by
    refine ⟨?_, ⟨0, by omega, rfl, ?_⟩, ?_, by omega, by omega⟩
    · rw [Below.heap_alloc _ _ _ (by omega), Below.heap_alloc _ _ _ (by omega)]; exact a1
    · rw [Below.heap_alloc _ _ _ (by omega), ← z1]; exact a2
    · rw [← z2]; exact a3
  have Hk := Lib.hid hk
  have Hb := Lib.hid hb
  clear a1 a2 a3 z1 z2 hb hk
  go_enter Tryz.func129, Tryz.ntmps129
  go_wp2
  go_ret3
  exact ⟨w.heap.size, w.heap.size + 1, w.heap.size + 1 + 1, rfl, Hk.out, by omega, Hb.out⟩

theorem sg_eq (r : List UInt8) : Nm.sg r = bif Nm.at2 43 45 r then r.tail else r := by
  match r with
  | [] => rfl
  | c :: r =>
    simp only [Nm.sg, Nm.at2]
    by_cases h : c = 43 ∨ c = 45
    · rw [if_pos h, decide_eq_true h]; rfl
    · rw [if_neg h, decide_eq_false h]; rfl

/-- exponent -/
theorem exponent_is (bs ba bt : Nat) (s : ByteArray) (r : List UInt8) (v : Bool) (w : World) (h : Wk w bs ba bt s r) (hs : s.size ≤ 4611686018427387000) (hv : Nm.hd 10 (Nm.sg r) = v) :
    Calls Tryz.prog 147 #[rowF bs ba bt, oneF bs ba] w fun e w' => e = .returned (.bool v) ∧ Wk w' bs ba bt s (Nm.go 10 (Nm.sg r)) ∧ ∀ B, B ≤ ba → Below B w w' := by
  have C := one_any bs ba bt s r ⟨#[43, 45]⟩ (Nm.at2 43 45 r) w h hs (inS2 43 45 r)
  rw [← sg_eq] at C
  unfold rowF oneF
  go_enter Tryz.func147, Tryz.ntmps147
  go_wp2_with fail
  refine C.mono ?_
  rintro e w1 ⟨rfl, k1, b1⟩
  clear C
  go_wp2_with fail
  refine (row_is bs ba bt s _ 10 v w1 k1 (by omega) hs hv).mono ?_
  rintro e w2 ⟨rfl, k2, b2⟩
  go_wp2
  go_ret
  exact ⟨rfl, k2, fun B hB => (b1 B hB).trans (b2 B hB)⟩

/-- isRow -/
theorem isrow_any (s : ByteArray) (b : Nat) (w : World) (hb : b ≤ 16) (hs : s.size ≤ 4611686018427387000) :
    Calls Tryz.prog 98 #[.string s, .int .i64 b] w fun e w' => e = .returned (.bool (Nm.whole b (bl s))) ∧ Below w.heap.size w w' := by
  unfold Nm.whole
  cases hh : Nm.hd b (bl s) with
  | false =>
    go_enter Tryz.func98, Tryz.ntmps98
    go_wp2_with fail
    refine (walk_any s w).mono ?_
    rintro e w1 ⟨bs, ba, bt, rfl, k1, h1, b1⟩
    unfold rowF oneF endF
    go_wp2_with fail
    refine (row_is bs ba bt s _ b _ w1 k1 hb hs hh).mono ?_
    rintro e w2 ⟨rfl, k2, b2⟩
    go_wp2
    go_ret
    exact ⟨rfl, b1.trans (b2 _ h1)⟩
  | true =>
    go_enter Tryz.func98, Tryz.ntmps98
    go_wp2_with fail
    refine (walk_any s w).mono ?_
    rintro e w1 ⟨bs, ba, bt, rfl, k1, h1, b1⟩
    unfold rowF oneF endF
    go_wp2_with fail
    refine (row_is bs ba bt s _ b _ w1 k1 hb hs hh).mono ?_
    rintro e w2 ⟨rfl, k2, b2⟩
    have Hk2 := Lib.hid k2
    go_wp2_with fail
    refine (end_any bs ba bt s _ _ w2 k2 rfl).mono ?_
    rintro e w3 ⟨rfl, rfl⟩
    go_wp2
    go_ret
    exact ⟨rfl, b1.trans (b2 _ h1)⟩
end Go.Proofs.YtklmiabgalanhaaGreatDoor

/- Contract of number.prefixed. -/
namespace Go.Proofs.YtklmiabgalanhaaGreatDoor
open Go.RowKit Em
set_option maxRecDepth 100000
set_option linter.unusedVariables false
set_option linter.unusedSimpArgs false

theorem isE {l : List UInt8} {v : Bool} (h : l.isEmpty = v) : (l = []) ↔ v = true := by rw [← h, List.isEmpty_iff]

theorem ret_u8 {a b : Nat} (h : a = b) : Ending.returned (.int .u8 (a : Int)) = .returned (.int .u8 (b : Int)) := by rw [h]

set_option maxHeartbeats 8000000 in
theorem prefixed_any (s : ByteArray) (b : Nat) (w : World) (hb : b ≤ 16) (hs : s.size ≤ 4611686018427387000) :
    Calls Tryz.prog 127 #[.string s, .int .i64 b] w fun e w' => e = .returned (.int .u8 (Nm.pre (bl s) b : Nat)) ∧ Below w.heap.size w w' := by
  go_enter Tryz.func127, Tryz.ntmps127
  go_wp2_with fail
  refine (walk_any s w).mono ?_
  rintro e w1 ⟨bs, ba, bt, rfl, k1, h1, b1⟩
  unfold rowF oneF endF
  cases hl : Nm.at1 95 (bl s) with
  | true =>
    go_wp2_with fail
    refine (one_any bs ba bt s (bl s) ⟨#[95]⟩ true w1 k1 hs ((inS1 _ _).trans hl)).mono ?_
    rintro e w2 ⟨rfl, k2, c2⟩
    have b2 := b1.trans (c2 _ h1)
    clear k1 b1 c2
    simp only [cond_true, cond_false] at k2
    cases hw : Nm.hd b ((bl s).tail) with
    | true =>
      go_wp2_with fail
      refine (row_is bs ba bt s ((bl s).tail) b true w2 k2 (by omega) hs hw).mono ?_
      rintro e w3 ⟨rfl, k3, c3⟩
      have b3 := b2.trans (c3 _ h1)
      clear k2 b2 c3
      cases hemp : (Nm.go b ((bl s).tail)).isEmpty with
      | true =>
        have Hk3e := Lib.hid k3
        have Hb3e := Lib.hid b3
        go_wp2_with fail
        refine (end_any bs ba bt s (Nm.go b ((bl s).tail)) true w3 k3 hemp).mono ?_
        rintro e w4 ⟨rfl, rfl⟩
        go_wp2
        go_ret
        exact ⟨ret_u8 (show 3 = Nm.pre (bl s) b by unfold Nm.pre; simp [hl, hw, isE hemp]), b3⟩
      | false =>
        have Hk3e := Lib.hid k3
        have Hb3e := Lib.hid b3
        go_wp2_with fail
        refine (end_any bs ba bt s (Nm.go b ((bl s).tail)) false w3 k3 hemp).mono ?_
        rintro e w4 ⟨rfl, rfl⟩
        by_cases h16 : b = 16
        · subst h16
          cases hpt : Nm.at1 46 (Nm.go 16 ((bl s).tail)) with
          | true =>
            go_wp2_with fail
            refine (one_any bs ba bt s (Nm.go 16 ((bl s).tail)) ⟨#[46]⟩ true w3 k3 hs ((inS1 _ _).trans hpt)).mono ?_
            rintro e w4 ⟨rfl, k4, c4⟩
            have b4 := b3.trans (c4 _ h1)
            clear k3 b3 c4
            simp only [cond_true, cond_false] at k4
            cases hq : Nm.hd 16 ((Nm.go 16 ((bl s).tail)).tail) with
            | true =>
              go_wp2_with fail
              refine (row_is bs ba bt s ((Nm.go 16 ((bl s).tail)).tail) 16 true w4 k4 (by omega) hs hq).mono ?_
              rintro e w5 ⟨rfl, k5, c5⟩
              have b5 := b4.trans (c5 _ h1)
              clear k4 b4 c5
              cases hpw : Nm.at2 112 80 (Nm.go 16 ((Nm.go 16 ((bl s).tail)).tail)) with
              | true =>
                go_wp2_with fail
                refine (one_any bs ba bt s (Nm.go 16 ((Nm.go 16 ((bl s).tail)).tail)) ⟨#[112, 80]⟩ true w5 k5 hs ((inS2 _ _ _).trans hpw)).mono ?_
                rintro e w6 ⟨rfl, k6, c6⟩
                have b6 := b5.trans (c6 _ h1)
                clear k5 b5 c6
                simp only [cond_true, cond_false] at k6
                cases hex : Nm.hd 10 (Nm.sg (Nm.go 16 ((Nm.go 16 ((bl s).tail)).tail)).tail) with
                | true =>
                  go_wp2_with fail
                  refine (exponent_is bs ba bt s ((Nm.go 16 ((Nm.go 16 ((bl s).tail)).tail)).tail) true w6 k6 hs hex).mono ?_
                  rintro e w7 ⟨rfl, k7, c7⟩
                  have b7 := b6.trans (c7 _ h1)
                  clear k6 b6 c7
                  cases hem : (Nm.go 10 (Nm.sg (Nm.go 16 ((Nm.go 16 ((bl s).tail)).tail)).tail)).isEmpty with
                  | true =>
                    have Hk7e := Lib.hid k7
                    have Hb7e := Lib.hid b7
                    go_wp2_with fail
                    refine (end_any bs ba bt s (Nm.go 10 (Nm.sg (Nm.go 16 ((Nm.go 16 ((bl s).tail)).tail)).tail)) true w7 k7 hem).mono ?_
                    rintro e w8 ⟨rfl, rfl⟩
                    go_wp2
                    go_ret
                    exact ⟨ret_u8 (show 4 = Nm.pre (bl s) 16 by unfold Nm.pre; simp [hl, hw, isE hemp, hpt, hq, hpw, Nm.expo, Nm.whole, hex, isE hem]), b7⟩
                  | false =>
                    have Hk7e := Lib.hid k7
                    have Hb7e := Lib.hid b7
                    go_wp2_with fail
                    refine (end_any bs ba bt s (Nm.go 10 (Nm.sg (Nm.go 16 ((Nm.go 16 ((bl s).tail)).tail)).tail)) false w7 k7 hem).mono ?_
                    rintro e w8 ⟨rfl, rfl⟩
                    go_wp2
                    go_ret
                    exact ⟨ret_u8 (show 0 = Nm.pre (bl s) 16 by unfold Nm.pre; simp [hl, hw, isE hemp, hpt, hq, hpw, Nm.expo, Nm.whole, hex, isE hem]), b7⟩
                | false =>
                  go_wp2_with fail
                  refine (exponent_is bs ba bt s ((Nm.go 16 ((Nm.go 16 ((bl s).tail)).tail)).tail) false w6 k6 hs hex).mono ?_
                  rintro e w7 ⟨rfl, k7, c7⟩
                  have b7 := b6.trans (c7 _ h1)
                  clear k6 b6 c7
                  go_wp2
                  go_ret
                  exact ⟨ret_u8 (show 0 = Nm.pre (bl s) 16 by unfold Nm.pre; simp [hl, hw, isE hemp, hpt, hq, hpw, Nm.expo, Nm.whole, hex]), b7⟩
              | false =>
                go_wp2_with fail
                refine (one_any bs ba bt s (Nm.go 16 ((Nm.go 16 ((bl s).tail)).tail)) ⟨#[112, 80]⟩ false w5 k5 hs ((inS2 _ _ _).trans hpw)).mono ?_
                rintro e w6 ⟨rfl, k6, c6⟩
                have b6 := b5.trans (c6 _ h1)
                clear k5 b5 c6
                simp only [cond_true, cond_false] at k6
                go_wp2
                go_ret
                exact ⟨ret_u8 (show 0 = Nm.pre (bl s) 16 by unfold Nm.pre; simp [hl, hw, isE hemp, hpt, hq, hpw]), b6⟩
            | false =>
              go_wp2_with fail
              refine (row_is bs ba bt s ((Nm.go 16 ((bl s).tail)).tail) 16 false w4 k4 (by omega) hs hq).mono ?_
              rintro e w5 ⟨rfl, k5, c5⟩
              have b5 := b4.trans (c5 _ h1)
              clear k4 b4 c5
              rw [Nm.go_no hq] at k5
              cases hpw : Nm.at2 112 80 ((Nm.go 16 ((bl s).tail)).tail) with
              | true =>
                go_wp2_with fail
                refine (one_any bs ba bt s ((Nm.go 16 ((bl s).tail)).tail) ⟨#[112, 80]⟩ true w5 k5 hs ((inS2 _ _ _).trans hpw)).mono ?_
                rintro e w6 ⟨rfl, k6, c6⟩
                have b6 := b5.trans (c6 _ h1)
                clear k5 b5 c6
                simp only [cond_true, cond_false] at k6
                cases hex : Nm.hd 10 (Nm.sg ((Nm.go 16 ((bl s).tail)).tail).tail) with
                | true =>
                  go_wp2_with fail
                  refine (exponent_is bs ba bt s (((Nm.go 16 ((bl s).tail)).tail).tail) true w6 k6 hs hex).mono ?_
                  rintro e w7 ⟨rfl, k7, c7⟩
                  have b7 := b6.trans (c7 _ h1)
                  clear k6 b6 c7
                  cases hem : (Nm.go 10 (Nm.sg ((Nm.go 16 ((bl s).tail)).tail).tail)).isEmpty with
                  | true =>
                    have Hk7e := Lib.hid k7
                    have Hb7e := Lib.hid b7
                    go_wp2_with fail
                    refine (end_any bs ba bt s (Nm.go 10 (Nm.sg ((Nm.go 16 ((bl s).tail)).tail).tail)) true w7 k7 hem).mono ?_
                    rintro e w8 ⟨rfl, rfl⟩
                    go_wp2
                    go_ret
                    exact ⟨ret_u8 (show 4 = Nm.pre (bl s) 16 by unfold Nm.pre; simp [hl, hw, isE hemp, hpt, hq, hpw, Nm.expo, Nm.whole, hex, isE hem]), b7⟩
                  | false =>
                    have Hk7e := Lib.hid k7
                    have Hb7e := Lib.hid b7
                    go_wp2_with fail
                    refine (end_any bs ba bt s (Nm.go 10 (Nm.sg ((Nm.go 16 ((bl s).tail)).tail).tail)) false w7 k7 hem).mono ?_
                    rintro e w8 ⟨rfl, rfl⟩
                    go_wp2
                    go_ret
                    exact ⟨ret_u8 (show 0 = Nm.pre (bl s) 16 by unfold Nm.pre; simp [hl, hw, isE hemp, hpt, hq, hpw, Nm.expo, Nm.whole, hex, isE hem]), b7⟩
                | false =>
                  go_wp2_with fail
                  refine (exponent_is bs ba bt s (((Nm.go 16 ((bl s).tail)).tail).tail) false w6 k6 hs hex).mono ?_
                  rintro e w7 ⟨rfl, k7, c7⟩
                  have b7 := b6.trans (c7 _ h1)
                  clear k6 b6 c7
                  go_wp2
                  go_ret
                  exact ⟨ret_u8 (show 0 = Nm.pre (bl s) 16 by unfold Nm.pre; simp [hl, hw, isE hemp, hpt, hq, hpw, Nm.expo, Nm.whole, hex]), b7⟩
              | false =>
                go_wp2_with fail
                refine (one_any bs ba bt s ((Nm.go 16 ((bl s).tail)).tail) ⟨#[112, 80]⟩ false w5 k5 hs ((inS2 _ _ _).trans hpw)).mono ?_
                rintro e w6 ⟨rfl, k6, c6⟩
                have b6 := b5.trans (c6 _ h1)
                clear k5 b5 c6
                simp only [cond_true, cond_false] at k6
                go_wp2
                go_ret
                exact ⟨ret_u8 (show 0 = Nm.pre (bl s) 16 by unfold Nm.pre; simp [hl, hw, isE hemp, hpt, hq, hpw]), b6⟩
          | false =>
            go_wp2_with fail
            refine (one_any bs ba bt s (Nm.go 16 ((bl s).tail)) ⟨#[46]⟩ false w3 k3 hs ((inS1 _ _).trans hpt)).mono ?_
            rintro e w4 ⟨rfl, k4, c4⟩
            have b4 := b3.trans (c4 _ h1)
            clear k3 b3 c4
            simp only [cond_true, cond_false] at k4
            cases hpw : Nm.at2 112 80 (Nm.go 16 ((bl s).tail)) with
            | true =>
              go_wp2_with fail
              refine (one_any bs ba bt s (Nm.go 16 ((bl s).tail)) ⟨#[112, 80]⟩ true w4 k4 hs ((inS2 _ _ _).trans hpw)).mono ?_
              rintro e w5 ⟨rfl, k5, c5⟩
              have b5 := b4.trans (c5 _ h1)
              clear k4 b4 c5
              simp only [cond_true, cond_false] at k5
              cases hex : Nm.hd 10 (Nm.sg (Nm.go 16 ((bl s).tail)).tail) with
              | true =>
                go_wp2_with fail
                refine (exponent_is bs ba bt s ((Nm.go 16 ((bl s).tail)).tail) true w5 k5 hs hex).mono ?_
                rintro e w6 ⟨rfl, k6, c6⟩
                have b6 := b5.trans (c6 _ h1)
                clear k5 b5 c6
                cases hem : (Nm.go 10 (Nm.sg (Nm.go 16 ((bl s).tail)).tail)).isEmpty with
                | true =>
                  have Hk6e := Lib.hid k6
                  have Hb6e := Lib.hid b6
                  go_wp2_with fail
                  refine (end_any bs ba bt s (Nm.go 10 (Nm.sg (Nm.go 16 ((bl s).tail)).tail)) true w6 k6 hem).mono ?_
                  rintro e w7 ⟨rfl, rfl⟩
                  go_wp2
                  go_ret
                  exact ⟨ret_u8 (show 4 = Nm.pre (bl s) 16 by unfold Nm.pre; simp [hl, hw, isE hemp, hpt, hpw, Nm.expo, Nm.whole, hex, isE hem]), b6⟩
                | false =>
                  have Hk6e := Lib.hid k6
                  have Hb6e := Lib.hid b6
                  go_wp2_with fail
                  refine (end_any bs ba bt s (Nm.go 10 (Nm.sg (Nm.go 16 ((bl s).tail)).tail)) false w6 k6 hem).mono ?_
                  rintro e w7 ⟨rfl, rfl⟩
                  go_wp2
                  go_ret
                  exact ⟨ret_u8 (show 0 = Nm.pre (bl s) 16 by unfold Nm.pre; simp [hl, hw, isE hemp, hpt, hpw, Nm.expo, Nm.whole, hex, isE hem]), b6⟩
              | false =>
                go_wp2_with fail
                refine (exponent_is bs ba bt s ((Nm.go 16 ((bl s).tail)).tail) false w5 k5 hs hex).mono ?_
                rintro e w6 ⟨rfl, k6, c6⟩
                have b6 := b5.trans (c6 _ h1)
                clear k5 b5 c6
                go_wp2
                go_ret
                exact ⟨ret_u8 (show 0 = Nm.pre (bl s) 16 by unfold Nm.pre; simp [hl, hw, isE hemp, hpt, hpw, Nm.expo, Nm.whole, hex]), b6⟩
            | false =>
              go_wp2_with fail
              refine (one_any bs ba bt s (Nm.go 16 ((bl s).tail)) ⟨#[112, 80]⟩ false w4 k4 hs ((inS2 _ _ _).trans hpw)).mono ?_
              rintro e w5 ⟨rfl, k5, c5⟩
              have b5 := b4.trans (c5 _ h1)
              clear k4 b4 c5
              simp only [cond_true, cond_false] at k5
              go_wp2
              go_ret
              exact ⟨ret_u8 (show 0 = Nm.pre (bl s) 16 by unfold Nm.pre; simp [hl, hw, isE hemp, hpt, hpw]), b5⟩
        · have hn1 : ((b : Int) != 16) = true := by simp; omega
          have hn2 : ((b : Int) == 16) = false := beq_eq_false_iff_ne.2 (by omega)
          go_wp2
          go_ret
          exact ⟨ret_u8 (show 0 = Nm.pre (bl s) b by unfold Nm.pre; simp [hl, hw, isE hemp, h16]), b3⟩
    | false =>
      go_wp2_with fail
      refine (row_is bs ba bt s ((bl s).tail) b false w2 k2 (by omega) hs hw).mono ?_
      rintro e w3 ⟨rfl, k3, c3⟩
      have b3 := b2.trans (c3 _ h1)
      clear k2 b2 c3
      have hgo := Nm.go_no hw
      rw [hgo] at k3
      by_cases h16 : b = 16
      · subst h16
        go_wp2
        go_ret
        exact ⟨ret_u8 (show 0 = Nm.pre (bl s) 16 by unfold Nm.pre; simp [hl, hw, hgo]), b3⟩
      · have hn1 : ((b : Int) != 16) = true := by simp; omega
        have hn2 : ((b : Int) == 16) = false := beq_eq_false_iff_ne.2 (by omega)
        go_wp2
        go_ret
        exact ⟨ret_u8 (show 0 = Nm.pre (bl s) b by unfold Nm.pre; simp [hl, hw, hgo, h16]), b3⟩
  | false =>
    go_wp2_with fail
    refine (one_any bs ba bt s (bl s) ⟨#[95]⟩ false w1 k1 hs ((inS1 _ _).trans hl)).mono ?_
    rintro e w2 ⟨rfl, k2, c2⟩
    have b2 := b1.trans (c2 _ h1)
    clear k1 b1 c2
    simp only [cond_true, cond_false] at k2
    cases hw : Nm.hd b (bl s) with
    | true =>
      go_wp2_with fail
      refine (row_is bs ba bt s (bl s) b true w2 k2 (by omega) hs hw).mono ?_
      rintro e w3 ⟨rfl, k3, c3⟩
      have b3 := b2.trans (c3 _ h1)
      clear k2 b2 c3
      cases hemp : (Nm.go b (bl s)).isEmpty with
      | true =>
        have Hk3e := Lib.hid k3
        have Hb3e := Lib.hid b3
        go_wp2_with fail
        refine (end_any bs ba bt s (Nm.go b (bl s)) true w3 k3 hemp).mono ?_
        rintro e w4 ⟨rfl, rfl⟩
        go_wp2
        go_ret
        exact ⟨ret_u8 (show 3 = Nm.pre (bl s) b by unfold Nm.pre; simp [hl, hw, isE hemp]), b3⟩
      | false =>
        have Hk3e := Lib.hid k3
        have Hb3e := Lib.hid b3
        go_wp2_with fail
        refine (end_any bs ba bt s (Nm.go b (bl s)) false w3 k3 hemp).mono ?_
        rintro e w4 ⟨rfl, rfl⟩
        by_cases h16 : b = 16
        · subst h16
          cases hpt : Nm.at1 46 (Nm.go 16 (bl s)) with
          | true =>
            go_wp2_with fail
            refine (one_any bs ba bt s (Nm.go 16 (bl s)) ⟨#[46]⟩ true w3 k3 hs ((inS1 _ _).trans hpt)).mono ?_
            rintro e w4 ⟨rfl, k4, c4⟩
            have b4 := b3.trans (c4 _ h1)
            clear k3 b3 c4
            simp only [cond_true, cond_false] at k4
            cases hq : Nm.hd 16 ((Nm.go 16 (bl s)).tail) with
            | true =>
              go_wp2_with fail
              refine (row_is bs ba bt s ((Nm.go 16 (bl s)).tail) 16 true w4 k4 (by omega) hs hq).mono ?_
              rintro e w5 ⟨rfl, k5, c5⟩
              have b5 := b4.trans (c5 _ h1)
              clear k4 b4 c5
              cases hpw : Nm.at2 112 80 (Nm.go 16 ((Nm.go 16 (bl s)).tail)) with
              | true =>
                go_wp2_with fail
                refine (one_any bs ba bt s (Nm.go 16 ((Nm.go 16 (bl s)).tail)) ⟨#[112, 80]⟩ true w5 k5 hs ((inS2 _ _ _).trans hpw)).mono ?_
                rintro e w6 ⟨rfl, k6, c6⟩
                have b6 := b5.trans (c6 _ h1)
                clear k5 b5 c6
                simp only [cond_true, cond_false] at k6
                cases hex : Nm.hd 10 (Nm.sg (Nm.go 16 ((Nm.go 16 (bl s)).tail)).tail) with
                | true =>
                  go_wp2_with fail
                  refine (exponent_is bs ba bt s ((Nm.go 16 ((Nm.go 16 (bl s)).tail)).tail) true w6 k6 hs hex).mono ?_
                  rintro e w7 ⟨rfl, k7, c7⟩
                  have b7 := b6.trans (c7 _ h1)
                  clear k6 b6 c7
                  cases hem : (Nm.go 10 (Nm.sg (Nm.go 16 ((Nm.go 16 (bl s)).tail)).tail)).isEmpty with
                  | true =>
                    have Hk7e := Lib.hid k7
                    have Hb7e := Lib.hid b7
                    go_wp2_with fail
                    refine (end_any bs ba bt s (Nm.go 10 (Nm.sg (Nm.go 16 ((Nm.go 16 (bl s)).tail)).tail)) true w7 k7 hem).mono ?_
                    rintro e w8 ⟨rfl, rfl⟩
                    go_wp2
                    go_ret
                    exact ⟨ret_u8 (show 4 = Nm.pre (bl s) 16 by unfold Nm.pre; simp [hl, hw, isE hemp, hpt, hq, hpw, Nm.expo, Nm.whole, hex, isE hem]), b7⟩
                  | false =>
                    have Hk7e := Lib.hid k7
                    have Hb7e := Lib.hid b7
                    go_wp2_with fail
                    refine (end_any bs ba bt s (Nm.go 10 (Nm.sg (Nm.go 16 ((Nm.go 16 (bl s)).tail)).tail)) false w7 k7 hem).mono ?_
                    rintro e w8 ⟨rfl, rfl⟩
                    go_wp2
                    go_ret
                    exact ⟨ret_u8 (show 0 = Nm.pre (bl s) 16 by unfold Nm.pre; simp [hl, hw, isE hemp, hpt, hq, hpw, Nm.expo, Nm.whole, hex, isE hem]), b7⟩
                | false =>
                  go_wp2_with fail
                  refine (exponent_is bs ba bt s ((Nm.go 16 ((Nm.go 16 (bl s)).tail)).tail) false w6 k6 hs hex).mono ?_
                  rintro e w7 ⟨rfl, k7, c7⟩
                  have b7 := b6.trans (c7 _ h1)
                  clear k6 b6 c7
                  go_wp2
                  go_ret
                  exact ⟨ret_u8 (show 0 = Nm.pre (bl s) 16 by unfold Nm.pre; simp [hl, hw, isE hemp, hpt, hq, hpw, Nm.expo, Nm.whole, hex]), b7⟩
              | false =>
                go_wp2_with fail
                refine (one_any bs ba bt s (Nm.go 16 ((Nm.go 16 (bl s)).tail)) ⟨#[112, 80]⟩ false w5 k5 hs ((inS2 _ _ _).trans hpw)).mono ?_
                rintro e w6 ⟨rfl, k6, c6⟩
                have b6 := b5.trans (c6 _ h1)
                clear k5 b5 c6
                simp only [cond_true, cond_false] at k6
                go_wp2
                go_ret
                exact ⟨ret_u8 (show 0 = Nm.pre (bl s) 16 by unfold Nm.pre; simp [hl, hw, isE hemp, hpt, hq, hpw]), b6⟩
            | false =>
              go_wp2_with fail
              refine (row_is bs ba bt s ((Nm.go 16 (bl s)).tail) 16 false w4 k4 (by omega) hs hq).mono ?_
              rintro e w5 ⟨rfl, k5, c5⟩
              have b5 := b4.trans (c5 _ h1)
              clear k4 b4 c5
              rw [Nm.go_no hq] at k5
              cases hpw : Nm.at2 112 80 ((Nm.go 16 (bl s)).tail) with
              | true =>
                go_wp2_with fail
                refine (one_any bs ba bt s ((Nm.go 16 (bl s)).tail) ⟨#[112, 80]⟩ true w5 k5 hs ((inS2 _ _ _).trans hpw)).mono ?_
                rintro e w6 ⟨rfl, k6, c6⟩
                have b6 := b5.trans (c6 _ h1)
                clear k5 b5 c6
                simp only [cond_true, cond_false] at k6
                cases hex : Nm.hd 10 (Nm.sg ((Nm.go 16 (bl s)).tail).tail) with
                | true =>
                  go_wp2_with fail
                  refine (exponent_is bs ba bt s (((Nm.go 16 (bl s)).tail).tail) true w6 k6 hs hex).mono ?_
                  rintro e w7 ⟨rfl, k7, c7⟩
                  have b7 := b6.trans (c7 _ h1)
                  clear k6 b6 c7
                  cases hem : (Nm.go 10 (Nm.sg ((Nm.go 16 (bl s)).tail).tail)).isEmpty with
                  | true =>
                    have Hk7e := Lib.hid k7
                    have Hb7e := Lib.hid b7
                    go_wp2_with fail
                    refine (end_any bs ba bt s (Nm.go 10 (Nm.sg ((Nm.go 16 (bl s)).tail).tail)) true w7 k7 hem).mono ?_
                    rintro e w8 ⟨rfl, rfl⟩
                    go_wp2
                    go_ret
                    exact ⟨ret_u8 (show 4 = Nm.pre (bl s) 16 by unfold Nm.pre; simp [hl, hw, isE hemp, hpt, hq, hpw, Nm.expo, Nm.whole, hex, isE hem]), b7⟩
                  | false =>
                    have Hk7e := Lib.hid k7
                    have Hb7e := Lib.hid b7
                    go_wp2_with fail
                    refine (end_any bs ba bt s (Nm.go 10 (Nm.sg ((Nm.go 16 (bl s)).tail).tail)) false w7 k7 hem).mono ?_
                    rintro e w8 ⟨rfl, rfl⟩
                    go_wp2
                    go_ret
                    exact ⟨ret_u8 (show 0 = Nm.pre (bl s) 16 by unfold Nm.pre; simp [hl, hw, isE hemp, hpt, hq, hpw, Nm.expo, Nm.whole, hex, isE hem]), b7⟩
                | false =>
                  go_wp2_with fail
                  refine (exponent_is bs ba bt s (((Nm.go 16 (bl s)).tail).tail) false w6 k6 hs hex).mono ?_
                  rintro e w7 ⟨rfl, k7, c7⟩
                  have b7 := b6.trans (c7 _ h1)
                  clear k6 b6 c7
                  go_wp2
                  go_ret
                  exact ⟨ret_u8 (show 0 = Nm.pre (bl s) 16 by unfold Nm.pre; simp [hl, hw, isE hemp, hpt, hq, hpw, Nm.expo, Nm.whole, hex]), b7⟩
              | false =>
                go_wp2_with fail
                refine (one_any bs ba bt s ((Nm.go 16 (bl s)).tail) ⟨#[112, 80]⟩ false w5 k5 hs ((inS2 _ _ _).trans hpw)).mono ?_
                rintro e w6 ⟨rfl, k6, c6⟩
                have b6 := b5.trans (c6 _ h1)
                clear k5 b5 c6
                simp only [cond_true, cond_false] at k6
                go_wp2
                go_ret
                exact ⟨ret_u8 (show 0 = Nm.pre (bl s) 16 by unfold Nm.pre; simp [hl, hw, isE hemp, hpt, hq, hpw]), b6⟩
          | false =>
            go_wp2_with fail
            refine (one_any bs ba bt s (Nm.go 16 (bl s)) ⟨#[46]⟩ false w3 k3 hs ((inS1 _ _).trans hpt)).mono ?_
            rintro e w4 ⟨rfl, k4, c4⟩
            have b4 := b3.trans (c4 _ h1)
            clear k3 b3 c4
            simp only [cond_true, cond_false] at k4
            cases hpw : Nm.at2 112 80 (Nm.go 16 (bl s)) with
            | true =>
              go_wp2_with fail
              refine (one_any bs ba bt s (Nm.go 16 (bl s)) ⟨#[112, 80]⟩ true w4 k4 hs ((inS2 _ _ _).trans hpw)).mono ?_
              rintro e w5 ⟨rfl, k5, c5⟩
              have b5 := b4.trans (c5 _ h1)
              clear k4 b4 c5
              simp only [cond_true, cond_false] at k5
              cases hex : Nm.hd 10 (Nm.sg (Nm.go 16 (bl s)).tail) with
              | true =>
                go_wp2_with fail
                refine (exponent_is bs ba bt s ((Nm.go 16 (bl s)).tail) true w5 k5 hs hex).mono ?_
                rintro e w6 ⟨rfl, k6, c6⟩
                have b6 := b5.trans (c6 _ h1)
                clear k5 b5 c6
                cases hem : (Nm.go 10 (Nm.sg (Nm.go 16 (bl s)).tail)).isEmpty with
                | true =>
                  have Hk6e := Lib.hid k6
                  have Hb6e := Lib.hid b6
                  go_wp2_with fail
                  refine (end_any bs ba bt s (Nm.go 10 (Nm.sg (Nm.go 16 (bl s)).tail)) true w6 k6 hem).mono ?_
                  rintro e w7 ⟨rfl, rfl⟩
                  go_wp2
                  go_ret
                  exact ⟨ret_u8 (show 4 = Nm.pre (bl s) 16 by unfold Nm.pre; simp [hl, hw, isE hemp, hpt, hpw, Nm.expo, Nm.whole, hex, isE hem]), b6⟩
                | false =>
                  have Hk6e := Lib.hid k6
                  have Hb6e := Lib.hid b6
                  go_wp2_with fail
                  refine (end_any bs ba bt s (Nm.go 10 (Nm.sg (Nm.go 16 (bl s)).tail)) false w6 k6 hem).mono ?_
                  rintro e w7 ⟨rfl, rfl⟩
                  go_wp2
                  go_ret
                  exact ⟨ret_u8 (show 0 = Nm.pre (bl s) 16 by unfold Nm.pre; simp [hl, hw, isE hemp, hpt, hpw, Nm.expo, Nm.whole, hex, isE hem]), b6⟩
              | false =>
                go_wp2_with fail
                refine (exponent_is bs ba bt s ((Nm.go 16 (bl s)).tail) false w5 k5 hs hex).mono ?_
                rintro e w6 ⟨rfl, k6, c6⟩
                have b6 := b5.trans (c6 _ h1)
                clear k5 b5 c6
                go_wp2
                go_ret
                exact ⟨ret_u8 (show 0 = Nm.pre (bl s) 16 by unfold Nm.pre; simp [hl, hw, isE hemp, hpt, hpw, Nm.expo, Nm.whole, hex]), b6⟩
            | false =>
              go_wp2_with fail
              refine (one_any bs ba bt s (Nm.go 16 (bl s)) ⟨#[112, 80]⟩ false w4 k4 hs ((inS2 _ _ _).trans hpw)).mono ?_
              rintro e w5 ⟨rfl, k5, c5⟩
              have b5 := b4.trans (c5 _ h1)
              clear k4 b4 c5
              simp only [cond_true, cond_false] at k5
              go_wp2
              go_ret
              exact ⟨ret_u8 (show 0 = Nm.pre (bl s) 16 by unfold Nm.pre; simp [hl, hw, isE hemp, hpt, hpw]), b5⟩
        · have hn1 : ((b : Int) != 16) = true := by simp; omega
          have hn2 : ((b : Int) == 16) = false := beq_eq_false_iff_ne.2 (by omega)
          go_wp2
          go_ret
          exact ⟨ret_u8 (show 0 = Nm.pre (bl s) b by unfold Nm.pre; simp [hl, hw, isE hemp, h16]), b3⟩
    | false =>
      go_wp2_with fail
      refine (row_is bs ba bt s (bl s) b false w2 k2 (by omega) hs hw).mono ?_
      rintro e w3 ⟨rfl, k3, c3⟩
      have b3 := b2.trans (c3 _ h1)
      clear k2 b2 c3
      have hgo := Nm.go_no hw
      rw [hgo] at k3
      by_cases h16 : b = 16
      · subst h16
        cases hpt : Nm.at1 46 (bl s) with
        | true =>
          go_wp2_with fail
          refine (one_any bs ba bt s (bl s) ⟨#[46]⟩ true w3 k3 hs ((inS1 _ _).trans hpt)).mono ?_
          rintro e w4 ⟨rfl, k4, c4⟩
          have b4 := b3.trans (c4 _ h1)
          clear k3 b3 c4
          simp only [cond_true, cond_false] at k4
          cases hq : Nm.hd 16 ((bl s).tail) with
          | true =>
            go_wp2_with fail
            refine (row_is bs ba bt s ((bl s).tail) 16 true w4 k4 (by omega) hs hq).mono ?_
            rintro e w5 ⟨rfl, k5, c5⟩
            have b5 := b4.trans (c5 _ h1)
            clear k4 b4 c5
            cases hpw : Nm.at2 112 80 (Nm.go 16 ((bl s).tail)) with
            | true =>
              go_wp2_with fail
              refine (one_any bs ba bt s (Nm.go 16 ((bl s).tail)) ⟨#[112, 80]⟩ true w5 k5 hs ((inS2 _ _ _).trans hpw)).mono ?_
              rintro e w6 ⟨rfl, k6, c6⟩
              have b6 := b5.trans (c6 _ h1)
              clear k5 b5 c6
              simp only [cond_true, cond_false] at k6
              cases hex : Nm.hd 10 (Nm.sg (Nm.go 16 ((bl s).tail)).tail) with
              | true =>
                go_wp2_with fail
                refine (exponent_is bs ba bt s ((Nm.go 16 ((bl s).tail)).tail) true w6 k6 hs hex).mono ?_
                rintro e w7 ⟨rfl, k7, c7⟩
                have b7 := b6.trans (c7 _ h1)
                clear k6 b6 c7
                cases hem : (Nm.go 10 (Nm.sg (Nm.go 16 ((bl s).tail)).tail)).isEmpty with
                | true =>
                  have Hk7e := Lib.hid k7
                  have Hb7e := Lib.hid b7
                  go_wp2_with fail
                  refine (end_any bs ba bt s (Nm.go 10 (Nm.sg (Nm.go 16 ((bl s).tail)).tail)) true w7 k7 hem).mono ?_
                  rintro e w8 ⟨rfl, rfl⟩
                  go_wp2
                  go_ret
                  exact ⟨ret_u8 (show 4 = Nm.pre (bl s) 16 by unfold Nm.pre; simp [hl, hw, hgo, hpt, hq, hpw, Nm.expo, Nm.whole, hex, isE hem]), b7⟩
                | false =>
                  have Hk7e := Lib.hid k7
                  have Hb7e := Lib.hid b7
                  go_wp2_with fail
                  refine (end_any bs ba bt s (Nm.go 10 (Nm.sg (Nm.go 16 ((bl s).tail)).tail)) false w7 k7 hem).mono ?_
                  rintro e w8 ⟨rfl, rfl⟩
                  go_wp2
                  go_ret
                  exact ⟨ret_u8 (show 0 = Nm.pre (bl s) 16 by unfold Nm.pre; simp [hl, hw, hgo, hpt, hq, hpw, Nm.expo, Nm.whole, hex, isE hem]), b7⟩
              | false =>
                go_wp2_with fail
                refine (exponent_is bs ba bt s ((Nm.go 16 ((bl s).tail)).tail) false w6 k6 hs hex).mono ?_
                rintro e w7 ⟨rfl, k7, c7⟩
                have b7 := b6.trans (c7 _ h1)
                clear k6 b6 c7
                go_wp2
                go_ret
                exact ⟨ret_u8 (show 0 = Nm.pre (bl s) 16 by unfold Nm.pre; simp [hl, hw, hgo, hpt, hq, hpw, Nm.expo, Nm.whole, hex]), b7⟩
            | false =>
              go_wp2_with fail
              refine (one_any bs ba bt s (Nm.go 16 ((bl s).tail)) ⟨#[112, 80]⟩ false w5 k5 hs ((inS2 _ _ _).trans hpw)).mono ?_
              rintro e w6 ⟨rfl, k6, c6⟩
              have b6 := b5.trans (c6 _ h1)
              clear k5 b5 c6
              simp only [cond_true, cond_false] at k6
              go_wp2
              go_ret
              exact ⟨ret_u8 (show 0 = Nm.pre (bl s) 16 by unfold Nm.pre; simp [hl, hw, hgo, hpt, hq, hpw]), b6⟩
          | false =>
            go_wp2_with fail
            refine (row_is bs ba bt s ((bl s).tail) 16 false w4 k4 (by omega) hs hq).mono ?_
            rintro e w5 ⟨rfl, k5, c5⟩
            have b5 := b4.trans (c5 _ h1)
            clear k4 b4 c5
            rw [Nm.go_no hq] at k5
            go_wp2
            go_ret
            exact ⟨ret_u8 (show 0 = Nm.pre (bl s) 16 by unfold Nm.pre; simp [hl, hw, hgo, hpt, hq]), b5⟩
        | false =>
          go_wp2_with fail
          refine (one_any bs ba bt s (bl s) ⟨#[46]⟩ false w3 k3 hs ((inS1 _ _).trans hpt)).mono ?_
          rintro e w4 ⟨rfl, k4, c4⟩
          have b4 := b3.trans (c4 _ h1)
          clear k3 b3 c4
          simp only [cond_true, cond_false] at k4
          go_wp2
          go_ret
          exact ⟨ret_u8 (show 0 = Nm.pre (bl s) 16 by unfold Nm.pre; simp [hl, hw, hgo, hpt]), b4⟩
      · have hn1 : ((b : Int) != 16) = true := by simp; omega
        have hn2 : ((b : Int) == 16) = false := beq_eq_false_iff_ne.2 (by omega)
        go_wp2
        go_ret
        exact ⟨ret_u8 (show 0 = Nm.pre (bl s) b by unfold Nm.pre; simp [hl, hw, hgo, h16]), b3⟩
end Go.Proofs.YtklmiabgalanhaaGreatDoor

