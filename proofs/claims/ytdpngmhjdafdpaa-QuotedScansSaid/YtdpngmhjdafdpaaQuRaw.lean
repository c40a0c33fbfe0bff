/- Contracts of quoted's reader: raw, several. -/
import Derived.Test.YtdpngmhjdafdpaaQuEsc
namespace Go.Proofs.Ytdpngmhjdafdpaa
open Go.RowKit Em Go.Shelf
set_option linter.unusedVariables false
set_option linter.unusedSimpArgs false

def leftN (w : World) (g : Nat) (s : ByteArray) : Nat := s.size - (match w.cell? ⟨g, 1, none⟩ with | some v => (intOf v).toNat | none => 0)
theorem left_of {w : World} {g : Nat} {s : ByteArray} {r T : List UInt8} (h : Rd w g s r T) : leftN w g s = r.length := by
  obtain ⟨p, u, hp, hr, c0, c1, _⟩ := h.cells
  unfold leftN
  rw [c1, ← hr, List.length_drop, bl_size]
  simp [intOf]

theorem one_cell2 {w : World} {v : Value} {t : TypeId} : ∀ j u, ([v] : List Value)[j]? = some u → (w.alloc (.cells #[v] t)).cell? ((⟨w.heap.size, 0, none⟩ : Addr).add j) = some u := by
  intro j u hj
  match j, hj with
  | 0, hj => simp at hj; subst hj; simp [Addr.add]

/-- What a reading of a part answers. -/
def PartP (g : Nat) (s : ByteArray) (T : List UInt8) (x : Option (List UInt8 × List UInt8)) (w : World) (e : Ending) (w' : World) : Prop :=
  e = .returned (.bool x.isSome) ∧ (∀ t q, x = some (t, q) → Rd w' g s q (T ++ t)) ∧ ∀ B, B ≤ g → Below B w w'

theorem map_nil {x : Option (List UInt8 × List UInt8)} {T : List UInt8} {y : Option (List UInt8 × List UInt8)} (h : (none : Option (List UInt8 × List UInt8)).map (fun z => (T, z)) = none) : True := trivial

def onto (T : List UInt8) (x : Option (List UInt8 × List UInt8)) : Option (List UInt8 × List UInt8) := x.map fun z => (T ++ z.1, z.2)
theorem part_none {g : Nat} {s : ByteArray} {T T' : List UInt8} {x : Option (List UInt8 × List UInt8)} {w w' : World} (h : onto T' none = onto T x) (hb : ∀ B, B ≤ g → Below B w w') : PartP g s T x w (.returned (.bool false)) w' := by
  cases x with
  | none => exact ⟨rfl, (fun t q h => by cases h), hb⟩
  | some z => cases h
theorem part_some {g : Nat} {s : ByteArray} {T T' t q : List UInt8} {x : Option (List UInt8 × List UInt8)} {w w' : World} (h : onto T' (some (t, q)) = onto T x) (hr : Rd w' g s q (T' ++ t)) (hb : ∀ B, B ≤ g → Below B w w') : PartP g s T x w (.returned (.bool true)) w' := by
  cases x with
  | none => cases h
  | some z =>
    obtain ⟨t', q'⟩ := z
    obtain ⟨h1, h2⟩ := Prod.mk.inj (Option.some.inj h)
    refine ⟨rfl, (fun t'' q'' h' => ?_), hb⟩
    obtain ⟨h3, h4⟩ := Prod.mk.inj (Option.some.inj h')
    simp only [] at h1 h2
    rw [← h3, ← h4, ← h1, ← h2]
    exact hr

theorem onto_cons (T : List UInt8) (c : UInt8) (x : Option (List UInt8 × List UInt8)) : onto T (x.map fun z => (c :: z.1, z.2)) = onto (T ++ [c]) x := by
  cases x with
  | none => rfl
  | some z => simp [onto]
theorem onto_app (T t : List UInt8) (x : Option (List UInt8 × List UInt8)) : onto T (x.map fun z => (t ++ z.1, z.2)) = onto (T ++ t) x := by
  cases x with
  | none => rfl
  | some z => simp [onto]

set_option maxHeartbeats 8000000 in
theorem raw_any (g : Nat) (s : ByteArray) (r T : List UInt8) (w : World) (h : Rd w g s r T) (hs : s.size ≤ 4611686018427387000) (hT : T.length + r.length ≤ 140737488355300) :
    Calls Try.prog 51 #[.pointer (some ⟨g, 0, none⟩)] w (PartP g s T (Qm.raw r) w) := by
  obtain ⟨i0, hi, hz0, hz1, hz2⟩ := info_parts info_u8
  have H := Lib.hid h
  clear h
  go_enter Try.func51, Try.ntmps51
  go_wp2
  go_loopw [7] (fun _ wr => ∃ q T', Rd wr g s q T' ∧ onto T' (Qm.raw q) = onto T (Qm.raw r) ∧ T'.length + q.length ≤ T.length + r.length ∧ ∀ B, B ≤ g → Below B w wr) (fun _ wr => leftN wr g s)
  case atStart => exact ⟨r, T, H.out, rfl, Nat.le_refl _, fun B _ => Below.refl _ _⟩
  case round =>
    obtain ⟨q, T', hr, hq, hlen, hbel⟩ := hrel
    have hleft := left_of hr
    have Hleft := Lib.hid hleft
    have Hbel := Lib.hid hbel
    have Hq := Lib.hid hq
    clear hbel hleft hq
    match q, hr, Hq, hlen, Hleft with
    | [], hr, Hq, hlen, Hleft =>
      have h1 := one_is g s [] T' 96 false wr hr (by omega) hs rfl
      go_wp2_with fail
      refine h1.mono ?_
      rintro e w1 ⟨rfl, k1, b1⟩
      have h2 := next_end g s T' w1 k1 hs
      have Hb1 := Lib.hid b1
      clear h1 k1 b1
      go_wp2_with fail
      refine h2.mono ?_
      rintro e w2 ⟨rfl, k2, b2⟩
      have Hb2 := Lib.hid b2
      clear h2 b2
      go_wp2
      go_ret
      exact part_none Hq.out (fun B hB => ((Hbel.out B hB).trans (Hb1.out B hB)).trans (Hb2.out B hB))
    | c :: q, hr, Hq, hlen, Hleft =>
      by_cases hc : c.toNat = 96
      · have h1 := one_is g s (c :: q) T' 96 true wr hr (by omega) hs (decide_eq_true hc)
        have hq2 := Hq.out
        rw [Qm.raw, if_pos hc] at hq2
        have Hq2 := Lib.hid hq2
        clear hq2
        go_wp2_with fail
        refine h1.mono ?_
        rintro e w1 ⟨rfl, k1, b1⟩
        have Hk1 := Lib.hid k1
        have Hb1 := Lib.hid b1
        clear h1 k1 b1
        go_wp2
        go_ret
        exact part_some Hq2.out (by rw [List.append_nil]; exact Hk1.out) (fun B hB => (Hbel.out B hB).trans (Hb1.out B hB))
      · have h1 := one_is g s (c :: q) T' 96 false wr hr (by omega) hs (decide_eq_false hc)
        have hq2 := Hq.out
        rw [Qm.raw, if_neg hc] at hq2
        have hcl := c.toNat_lt
        rw [List.length_cons] at hlen
        by_cases h13 : c.toNat = 13
        · simp only [h13, if_true] at hq2
          have Hq2 := Lib.hid hq2
          clear hq2
          go_wp2_with fail
          refine h1.mono ?_
          rintro e w1 ⟨rfl, k1, b1⟩
          have h2 := next_some g s c q T' w1 k1 hs
          rw [h13] at h2
          have Hb1 := Lib.hid b1
          clear h1 k1 b1
          go_wp2_with fail
          refine h2.mono ?_
          rintro e w2 ⟨rfl, k2, b2⟩
          have Hb2 := Lib.hid b2
          have Hk2 := Lib.hid k2
          have hl2 := Lib.hid (left_of k2)
          clear h2 b2 k2
          go_wp2
          go_roundw
          case rel => exact ⟨q, T', Hk2.out, (by rw [← Hq2.out]; cases Qm.raw q <;> rfl), by omega, fun B hB => ((Hbel.out B hB).trans (Hb1.out B hB)).trans (Hb2.out B hB)⟩
          case measure => rw [hl2.out, Hleft.out, List.length_cons]; omega
        · simp only [h13, if_false] at hq2
          rw [onto_cons] at hq2
          have Hq2 := Lib.hid hq2
          clear hq2
          have hd : ((c.toNat : Int) != 13) = true := by simp; omega
          have hd2 : ((c.toNat : Int) == 13) = false := beq_eq_false_iff_ne.2 (by omega)
          go_wp2_with fail
          refine h1.mono ?_
          rintro e w1 ⟨rfl, k1, b1⟩
          have h2 := next_some g s c q T' w1 k1 hs
          have Hb1 := Lib.hid b1
          clear h1 k1 b1 hc h13
          obtain ⟨C, hC⟩ : ∃ C, c.toNat = C := ⟨_, rfl⟩
          rw [hC] at h2 hd hd2 hcl
          have HC := Lib.hid hC
          clear hC
          go_wp2_with fail
          refine h2.mono ?_
          rintro e w2 ⟨rfl, k2, b2⟩
          have Hb2 := Lib.hid b2
          obtain ⟨p, u, hp, hrd, c0, c1, c2, f1, f2, ho, hh⟩ := k2.cells
          have hglt := k2.lt
          have hoa := ho.alloc (.cells #[.int .u8 C] 5)
          have hha : (w2.alloc (.cells #[.int .u8 C] 5)).heap[g]? = some (.cells #[.string s, .int .i64 p, u] 41 (0, 0)) := (Below.heap_alloc w2 _ g hglt).trans hh
          clear h2 b2 k2
          go_wp2_with (at_builtin; refine wpList_append_own _ rfl _ _ 38 rfl (g + 1) 5 i0 (.int .u8 0) 1 1 Try.underlying38 hi hz0 hz1 hz2 rfl (by decide) _ _ _ rfl hoa ⟨w2.heap.size, 0, none⟩ 1 1 [.int .u8 C] rfl rfl ?c1 ?c2 ?c3 ?c4 ?c5 ?_)
          case c1 => exact one_cell2
          case c2 => intro u hu; simp at hu; subst hu; rfl
          case c3 => unfold maxLen; omega
          case c4 => omega
          case c5 => simp; omega
          · intro v' w3 hown3 hgrow _
            obtain ⟨x', cc, rfl⟩ := own_slice hown3
            have hT3 : bCells T' ++ [.int .u8 (C : Int)] = bCells (T' ++ [c]) := by rw [bCells_snoc, HC.out]
            rw [hT3] at hown3
            have hput := rd_put (T' := T' ++ [c]) hha hoa (by rw [List.length_append]; exact hown3) hgrow hp hrd
            obtain ⟨m2, m3, K, B⟩ := hput
            have HK := Lib.hid K
            have HB := Lib.hid B
            have hl3 := Lib.hid (left_of K)
            clear K B hown3 hgrow hoa hha ho hh hT3
            go_wp2
            go_roundw
            case rel => exact ⟨q, T' ++ [c], HK.out, Hq2.out, by rw [List.length_append, List.length_singleton]; omega, fun B hB => (((Hbel.out B hB).trans (Hb1.out B hB)).trans (Hb2.out B hB)).trans (((Below.refl B _).alloc (by omega) _).trans (HB.out B hB))⟩
            case measure => rw [hl3.out, Hleft.out, List.length_cons]; omega
end Go.Proofs.Ytdpngmhjdafdpaa
