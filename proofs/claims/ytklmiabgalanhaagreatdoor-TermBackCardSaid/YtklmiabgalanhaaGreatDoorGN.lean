/- Contracts of quoted's reader: raw, several. -/
import Derived.Test.YtklmiabgalanhaaGreatDoorGM
namespace Go.Proofs.YtklmiabgalanhaaGreatDoor
open Go.RowKit Em Go.Shelf
set_option maxRecDepth 100000
set_option linter.unusedVariables false
set_option linter.unusedSimpArgs false

def leftN (w : World) (g : Nat) (s : ByteArray) : Nat := s.size - (match w.cell? ⟨g, 1, none⟩ with | some v => (intOf v).toNat | none => 0)
theorem left_of {w : World} {g : Nat} {s : ByteArray} {r T : List UInt8} (h : Rd w g s r T) : leftN w g s = r.length := by
  obtain ⟨p, u, hp, hr, c0, c1, _⟩ := h.cells
  unfold leftN
  rw [c1, ← hr, List.length_drop, bl_size]
  simp [intOf]

theorem one_cell2 {w : World} {v : Value} {t : TypeId} : ∀ j u, ([v] : List Value)[j]? = some u → (w.alloc (.cells #[v] t)).cell? ((⟨w.heap.size, 0, none⟩ : Addr).add j) = some u := by
  intro j u hj
  match j, hj with
  | 0, hj => simp at hj; subst hj; simp [Addr.add]

/-- What a reading of a part answers. -/
def PartP (g : Nat) (s : ByteArray) (T : List UInt8) (x : Option (List UInt8 × List UInt8)) (w : World) (e : Ending) (w' : World) : Prop :=
  e = .returned (.bool x.isSome) ∧ (∀ t q, x = some (t, q) → Rd w' g s q (T ++ t)) ∧ ∀ B, B ≤ g → Below B w w'

theorem map_nil {x : Option (List UInt8 × List UInt8)} {T : List UInt8} {y : Option (List UInt8 × List UInt8)} (h : (none : Option (List UInt8 × List UInt8)).map (fun z => (T, z)) = none) : True := trivial

def onto (T : List UInt8) (x : Option (List UInt8 × List UInt8)) : Option (List UInt8 × List UInt8) := x.map fun z => (T ++ z.1, z.2)
theorem part_none {g : Nat} {s : ByteArray} {T T' : List UInt8} {x : Option (List UInt8 × List UInt8)} {w w' : World} (h : onto T' none = onto T x) (hb : ∀ B, B ≤ g → Below B w w') : PartP g s T x w (.returned (.bool false)) w' := by
  cases x with
  | none => exact ⟨rfl, (fun t q h => by cases h), hb⟩
  | some z => cases h
theorem part_some {g : Nat} {s : ByteArray} {T T' t q : List UInt8} {x : Option (List UInt8 × List UInt8)} {w w' : World} (h : onto T' (some (t, q)) = onto T x) (hr : Rd w' g s q (T' ++ t)) (hb : ∀ B, B ≤ g → Below B w w') : PartP g s T x w (.returned (.bool true)) w' := by
  cases x with
  | none => cases h
  | some z =>
    obtain ⟨t', q'⟩ := z
    obtain ⟨h1, h2⟩ := Prod.mk.inj (Option.some.inj h)
    refine ⟨rfl, (fun t'' q'' h' => ?_), hb⟩
    obtain ⟨h3, h4⟩ := Prod.mk.inj (Option.some.inj h')
    simp only [] at h1 h2
    rw [← h3, ← h4, ← h1, ← h2]
    exact hr

theorem onto_cons (T : List UInt8) (c : UInt8) (x : Option (List UInt8 × List UInt8)) : onto T (x.map fun z => (c :: z.1, z.2)) = onto (T ++ [c]) x := by
  cases x with
  | none => rfl
  | some z => simp [onto]
theorem onto_app (T t : List UInt8) (x : Option (List UInt8 × List UInt8)) : onto T (x.map fun z => (t ++ z.1, z.2)) = onto (T ++ t) x := by
  cases x with
  | none => rfl
  | some z => simp [onto]

set_option maxHeartbeats 8000000 in
theorem raw_any (g : Nat) (s : ByteArray) (r T : List UInt8) (w : World) (h : Rd w g s r T) (hs : s.size ≤ 4611686018427387000) (hT : T.length + r.length ≤ 140737488355300) :
    Calls Tryz.prog 122 #[.pointer (some ⟨g, 0, none⟩)] w (PartP g s T (Qm.raw r) w) := by
  obtain ⟨i0, hi, hz0, hz1, hz2⟩ := info_parts info_u8
  have H := Lib.hid h
  clear h
  go_enter Tryz.func122, Tryz.ntmps122
  go_wp2
  go_loopw [7] (fun _ wr => ∃ q T', Rd wr g s q T' ∧ onto T' (Qm.raw q) = onto T (Qm.raw r) ∧ T'.length + q.length ≤ T.length + r.length ∧ ∀ B, B ≤ g → Below B w wr) (fun _ wr => leftN wr g s)
  case atStart => exact ⟨r, T, H.out, rfl, Nat.le_refl _, fun B _ => Below.refl _ _⟩
  case round =>
    obtain ⟨q, T', hr, hq, hlen, hbel⟩ := hrel
    have hleft := left_of hr
    have Hleft := Lib.hid hleft
    have Hbel := Lib.hid hbel
    have Hq := Lib.hid hq
    clear hbel hleft hq
    match q, hr, Hq, hlen, Hleft with
    | [], hr, Hq, hlen, Hleft =>
      have h1 := one_is g s [] T' 96 false wr hr (by omega) hs rfl
      go_wp2_with fail
      refine h1.mono ?_
      rintro e w1 ⟨rfl, k1, b1⟩
      have h2 := next_end g s T' w1 k1 hs
      have Hb1 := Lib.hid b1
      clear h1 k1 b1
      go_wp2_with fail
      refine h2.mono ?_
      rintro e w2 ⟨rfl, k2, b2⟩
      have Hb2 := Lib.hid b2
      clear h2 b2
      go_wp2
      go_ret
      exact part_none Hq.out (fun B hB => ((Hbel.out B hB).trans (Hb1.out B hB)).trans (Hb2.out B hB))
    | c :: q, hr, Hq, hlen, Hleft =>
      by_cases hc : c.toNat = 96
      · have h1 := one_is g s (c :: q) T' 96 true wr hr (by omega) hs (decide_eq_true hc)
        have hq2 := Hq.out
        rw [Qm.raw, if_pos hc] at hq2
        have Hq2 := Lib.hid hq2
        clear hq2
        go_wp2_with fail
        refine h1.mono ?_
        rintro e w1 ⟨rfl, k1, b1⟩
        have Hk1 := Lib.hid k1
        have Hb1 := Lib.hid b1
        clear h1 k1 b1
        go_wp2
        go_ret
        exact part_some Hq2.out (by rw [List.append_nil]; exact Hk1.out) (fun B hB => (Hbel.out B hB).trans (Hb1.out B hB))
      · have h1 := one_is g s (c :: q) T' 96 false wr hr (by omega) hs (decide_eq_false hc)
        have hq2 := Hq.out
        rw [Qm.raw, if_neg hc] at hq2
        have hcl := c.toNat_lt
        rw [List.length_cons] at hlen
        by_cases h13 : c.toNat = 13
        · simp only [h13, if_true] at hq2
          have Hq2 := Lib.hid hq2
          clear hq2
          go_wp2_with fail
          refine h1.mono ?_
          rintro e w1 ⟨rfl, k1, b1⟩
          have h2 := next_some g s c q T' w1 k1 hs
          rw [h13] at h2
          have Hb1 := Lib.hid b1
          clear h1 k1 b1
          go_wp2_with fail
          refine h2.mono ?_
          rintro e w2 ⟨rfl, k2, b2⟩
          have Hb2 := Lib.hid b2
          have Hk2 := Lib.hid k2
          have hl2 := Lib.hid (left_of k2)
          clear h2 b2 k2
          go_wp2
          go_roundw
          case rel => exact ⟨q, T', Hk2.out, (by rw [← Hq2.out]; cases Qm.raw q <;> rfl), by omega, fun B hB => ((Hbel.out B hB).trans (Hb1.out B hB)).trans (Hb2.out B hB)⟩
          case measure => rw [hl2.out, Hleft.out, List.length_cons]; omega
        · simp only [h13, if_false] at hq2
          rw [onto_cons] at hq2
          have Hq2 := Lib.hid hq2
          clear hq2
          have hd : ((c.toNat : Int) != 13) = true := by simp; omega
          have hd2 : ((c.toNat : Int) == 13) = false := beq_eq_false_iff_ne.2 (by omega)
          go_wp2_with fail
          refine h1.mono ?_
          rintro e w1 ⟨rfl, k1, b1⟩
          have h2 := next_some g s c q T' w1 k1 hs
          have Hb1 := Lib.hid b1
          clear h1 k1 b1 hc h13
          obtain ⟨C, hC⟩ : ∃ C, c.toNat = C := ⟨_, rfl⟩
          rw [hC] at h2 hd hd2 hcl
          have HC := Lib.hid hC
          clear hC
          go_wp2_with fail
          refine h2.mono ?_
          rintro e w2 ⟨rfl, k2, b2⟩
          have Hb2 := Lib.hid b2
          obtain ⟨p, u, hp, hrd, c0, c1, c2, f1, f2, ho, hh⟩ := k2.cells
          have hglt := k2.lt
          have hoa := ho.alloc (.cells #[.int .u8 C] 5)
          have hha : (w2.alloc (.cells #[.int .u8 C] 5)).heap[g]? = some (.cells #[.string s, .int .i64 p, u] 108 (0, 0)) := (Below.heap_alloc w2 _ g hglt).trans hh
          clear h2 b2 k2
          go_wp2_with (at_builtin; refine wpList_append_own _ rfl _ _ 56 rfl (g + 1) 5 i0 (.int .u8 0) 1 1 Tryz.underlying56 hi hz0 hz1 hz2 rfl (by decide) _ _ _ rfl hoa ⟨w2.heap.size, 0, none⟩ 1 1 [.int .u8 C] rfl rfl ?c1 ?c2 ?c3 ?c4 ?c5 ?_)
          case c1 => exact one_cell2
          case c2 => intro u hu; simp at hu; subst hu; rfl
          case c3 => unfold maxLen; omega
          case c4 => omega
          case c5 => simp; omega
          · intro v' w3 hown3 hgrow _
            obtain ⟨x', cc, rfl⟩ := own_slice hown3
            have hT3 : bCells T' ++ [.int .u8 (C : Int)] = bCells (T' ++ [c]) := by rw [bCells_snoc, HC.out]
            rw [hT3] at hown3
            have hput := rd_put (T' := T' ++ [c]) hha hoa (by rw [List.length_append]; exact hown3) hgrow hp hrd
            obtain ⟨m2, m3, K, B⟩ := hput
            have HK := Lib.hid K
            have HB := Lib.hid B
            have hl3 := Lib.hid (left_of K)
            clear K B hown3 hgrow hoa hha ho hh hT3
            go_wp2
            go_roundw
            case rel => exact ⟨q, T' ++ [c], HK.out, Hq2.out, by rw [List.length_append, List.length_singleton]; omega, fun B hB => (((Hbel.out B hB).trans (Hb1.out B hB)).trans (Hb2.out B hB)).trans (((Below.refl B _).alloc (by omega) _).trans (HB.out B hB))⟩
            case measure => rw [hl3.out, Hleft.out, List.length_cons]; omega
end Go.Proofs.YtklmiabgalanhaaGreatDoor

/- Contracts of quoted's reader: several, single. -/
namespace Go.Proofs.YtklmiabgalanhaaGreatDoor
open Go.RowKit Em Go.Shelf
set_option maxRecDepth 100000
set_option linter.unusedVariables false
set_option linter.unusedSimpArgs false

/-- A character's escape is longer than its form. -/
theorem esc_wide {mark : Nat} {m : List UInt8} {n : Nat} {q : List UInt8} (h : Qm.esc mark m = some (n, false, q)) : q.length + 5 ≤ m.length := by
  match m, h with
  | c :: l, h =>
    simp only [Qm.esc] at h
    split at h
    · simp at h
    · split at h
      · split at h
        · split at h <;> simp at h
        · cases h
      · split at h
        · rename_i h3
          split at h
          · rename_i v q' hq
            split at h
            · simp only [Option.some.injEq, Prod.mk.injEq, decide_eq_false_iff_not] at h
              obtain ⟨_, h5, rfl⟩ := h
              obtain ⟨e, e1, e2, _⟩ := Qm.numA_len hq
              have hw : 4 ≤ Qm.wide c.toNat := by
                unfold Qm.wide
                rcases h3 with h3 | h3 | h3
                · rw [if_pos h3]; omega
                · rw [if_neg (by omega), if_pos h3]; omega
                · exact absurd h3 h5
              rw [e1, List.length_cons, List.length_append]; omega
            · cases h
          · cases h
        · split at h <;> simp at h

theorem fm_le (n : Nat) : (Qm.fm n).length ≤ 4 := by
  by_cases h : Um.okN n
  · rw [Qm.fm_len h]; exact (Um.len_pos n).2
  · rw [Qm.fm_none h]; simp
theorem formOf_fm (n : Nat) : bl (formOf (n : Int)) = Qm.fm n := by rw [form_same, Qm.fm_def]
theorem formOf_le (n : Nat) : (formOf (n : Int)).size ≤ 4 := by rw [← bl_size, formOf_fm]; exact fm_le n

set_option maxHeartbeats 8000000 in
theorem several_any (g : Nat) (s : ByteArray) (r T : List UInt8) (w : World) (h : Rd w g s r T) (hs : s.size ≤ 4611686018427387000) (hT : T.length + r.length ≤ 140737488355300) :
    Calls Tryz.prog 121 #[.pointer (some ⟨g, 0, none⟩)] w (PartP g s T (Qm.strF (r.length + 1) r) w) := by
  obtain ⟨i0, hi, hz0, hz1, hz2⟩ := info_parts info_u8
  have H := Lib.hid h
  clear h
  go_enter Tryz.func121, Tryz.ntmps121
  go_wp2
  go_loopw [10] (fun _ wr => ∃ f q T', Rd wr g s q T' ∧ q.length < f ∧ onto T' (Qm.strF f q) = onto T (Qm.strF (r.length + 1) r) ∧ T'.length + q.length ≤ T.length + r.length ∧ ∀ B, B ≤ g → Below B w wr) (fun _ wr => leftN wr g s)
  case atStart => exact ⟨r.length + 1, r, T, H.out, by omega, rfl, Nat.le_refl _, fun B _ => Below.refl _ _⟩
  case round =>
    obtain ⟨f, q, T', hr, hf, hq, hlen, hbel⟩ := hrel
    obtain ⟨f, rfl⟩ : ∃ f', f = f' + 1 := ⟨f - 1, by omega⟩
    have hleft := left_of hr
    have Hleft := Lib.hid hleft
    have Hbel := Lib.hid hbel
    have Hq := Lib.hid hq
    clear hbel hleft hq
    match q, hr, Hq, hlen, Hleft, hf with
    | [], hr, Hq, hlen, Hleft, hf =>
      have h1 := one_is g s [] T' 34 false wr hr (by omega) hs rfl
      go_wp2_with fail
      refine h1.mono ?_
      rintro e w1 ⟨rfl, k1, b1⟩
      have h1b := one_is g s [] T' 92 false w1 k1 (by omega) hs rfl
      have Hb1 := Lib.hid b1
      clear h1 k1 b1
      go_wp2_with fail
      refine h1b.mono ?_
      rintro e w1b ⟨rfl, k1, b1⟩
      have h2 := next_end g s T' w1b k1 hs
      have Hb1b := Lib.hid b1
      clear h1b k1 b1
      go_wp2_with fail
      refine h2.mono ?_
      rintro e w2 ⟨rfl, k2, b2⟩
      have Hb2 := Lib.hid b2
      clear h2 b2
      go_wp2
      go_ret
      exact part_none Hq.out (fun B hB => (((Hbel.out B hB).trans (Hb1.out B hB)).trans (Hb1b.out B hB)).trans (Hb2.out B hB))
    | c :: q, hr, Hq, hlen, Hleft, hf =>
      rw [List.length_cons] at hlen hf
      by_cases hc : c.toNat = 34
      · have h1 := one_is g s (c :: q) T' 34 true wr hr (by omega) hs (decide_eq_true hc)
        have hq2 := Hq.out
        rw [Qm.strF, if_pos hc] at hq2
        have Hq2 := Lib.hid hq2
        clear hq2
        go_wp2_with fail
        refine h1.mono ?_
        rintro e w1 ⟨rfl, k1, b1⟩
        have Hk1 := Lib.hid k1
        have Hb1 := Lib.hid b1
        clear h1 k1 b1
        go_wp2
        go_ret
        exact part_some Hq2.out (by rw [List.append_nil]; exact Hk1.out) (fun B hB => (Hbel.out B hB).trans (Hb1.out B hB))
      · have h1 := one_is g s (c :: q) T' 34 false wr hr (by omega) hs (decide_eq_false hc)
        have hq2 := Hq.out
        rw [Qm.strF, if_neg hc] at hq2
        have hcl := c.toNat_lt
        by_cases h92 : c.toNat = 92
        · rw [if_pos h92] at hq2
          go_wp2_with fail
          refine h1.mono ?_
          rintro e w1 ⟨rfl, k1, b1⟩
          have h1b := one_is g s (c :: q) T' 92 true w1 k1 (by omega) hs (decide_eq_true h92)
          have Hb1 := Lib.hid b1
          clear h1 k1 b1
          go_wp2_with fail
          refine h1b.mono ?_
          rintro e w1b ⟨rfl, k1, b1⟩
          have h2 := escape_any g s q T' 34 w1b k1 (.inr rfl) hs
          have Hb1b := Lib.hid b1
          clear h1b k1 b1
          go_wp2_with fail
          refine h2.mono ?_
          clear h2
          cases hx : Qm.esc 34 q with
          | none =>
            rintro e w2 ⟨N, b, he, _, b2⟩
            rw [hx] at he
            simp only [Option.isSome_none] at he
            subst he
            rw [hx] at hq2
            have Hq2 := Lib.hid hq2
            have Hb2 := Lib.hid b2
            clear hq2 b2 hx
            go_wp2
            go_ret
            exact part_none Hq2.out (fun B hB => (((Hbel.out B hB).trans (Hb1.out B hB)).trans (Hb1b.out B hB)).trans (Hb2.out B hB))
          | some y =>
            obtain ⟨n, b', q'⟩ := y
            rintro e w2 ⟨N, b, he, hsome, b2⟩
            obtain ⟨rfl, rfl, k2⟩ := hsome n b' q' hx
            rw [hx] at he
            simp only [Option.isSome_some] at he
            subst he
            rw [hx] at hq2
            simp only [] at hq2
            rw [onto_app] at hq2
            have hq'len := Qm.esc_rest hx
            obtain ⟨hnb, hok⟩ := Qm.esc_num (by omega) hx
            cases b with
            | true =>
              have hn := hnb rfl
              have hT3 : bCells T' ++ [.int .u8 (n : Int)] = bCells (T' ++ Qm.sayS true n) := by
                have e1 : Qm.sayS true n = [UInt8.ofNat n] := rfl
                have e2 : (UInt8.ofNat n).toNat = n := Um.toNat_ofNat hn
                rw [e1, bCells_snoc, e2]
              have hsl : (Qm.sayS true n).length = 1 := rfl
              have Hq2 := Lib.hid hq2
              have HT3 := Lib.hid hT3
              have Hsl := Lib.hid hsl
              have wn : IntKind.u8.wrap (n : Int) = (n : Int) := by rw [IntKind.wrap_u8]; omega
              have Hb2 := Lib.hid b2
              obtain ⟨p, u, hp, hrd, c0, c1, c2, f1, f2, ho, hh⟩ := k2.cells
              have hglt := k2.lt
              have hoa := ho.alloc (.cells #[.int .u8 n] 5)
              have hha : (w2.alloc (.cells #[.int .u8 n] 5)).heap[g]? = some (.cells #[.string s, .int .i64 p, u] 108 (0, 0)) := (Below.heap_alloc w2 _ g hglt).trans hh
              clear hq2 b2 hx hsome hnb hok hT3 hsl k2 hc h92
              go_wp2_with (at_builtin; refine wpList_append_own _ rfl _ _ 56 rfl (g + 1) 5 i0 (.int .u8 0) 1 1 Tryz.underlying56 hi hz0 hz1 hz2 rfl (by decide) _ _ _ rfl hoa ⟨w2.heap.size, 0, none⟩ 1 1 [.int .u8 n] rfl rfl ?c1 ?c2 ?c3 ?c4 ?c5 ?_)
              case c1 => exact one_cell2
              case c2 => intro u hu; simp at hu; subst hu; rfl
              case c3 => unfold maxLen; omega
              case c4 => omega
              case c5 => simp; omega
              · intro v' w3 hown3 hgrow _
                obtain ⟨x', cc, rfl⟩ := own_slice hown3
                rw [HT3.out] at hown3
                have hput := rd_put (T' := T' ++ Qm.sayS true n) hha hoa (by rw [List.length_append, Hsl.out]; exact hown3) hgrow hp hrd
                obtain ⟨m2, m3, K, B⟩ := hput
                have HK := Lib.hid K
                have HB := Lib.hid B
                have hl3 := Lib.hid (left_of K)
                clear K B hown3 hgrow hoa hha ho hh
                go_wp2
                go_roundw
                case rel => exact ⟨f, q', T' ++ Qm.sayS true n, HK.out, by omega, Hq2.out, by rw [List.length_append, Hsl.out]; omega, fun B hB => ((((Hbel.out B hB).trans (Hb1.out B hB)).trans (Hb1b.out B hB)).trans (Hb2.out B hB)).trans (((Below.refl B _).alloc (by omega) _).trans (HB.out B hB))⟩
                case measure => rw [hl3.out, Hleft.out, List.length_cons]; omega
            | false =>
              have hwd := esc_wide hx
              have h4 := fm_le n
              have hsay := say_any g s q' T' (n : Int) w2 k2 (by omega) (formOf_le n)
              rw [formOf_fm] at hsay
              have hT3 : T' ++ Qm.sayS false n = T' ++ Qm.fm n := rfl
              rw [hT3] at hq2
              have Hq2 := Lib.hid hq2
              have Hb2 := Lib.hid b2
              clear hq2 b2 hx hsome hnb hok hT3 k2 hc h92
              go_wp2_with fail
              refine hsay.mono ?_
              rintro e w3 ⟨rfl, k3, b3⟩
              have Hk3 := Lib.hid k3
              have Hb3 := Lib.hid b3
              have hl3 := Lib.hid (left_of k3)
              clear hsay k3 b3
              go_wp2
              go_roundw
              case rel => exact ⟨f, q', T' ++ Qm.fm n, Hk3.out, by omega, Hq2.out, by rw [List.length_append]; omega, fun B hB => ((((Hbel.out B hB).trans (Hb1.out B hB)).trans (Hb1b.out B hB)).trans (Hb2.out B hB)).trans (Hb3.out B hB)⟩
              case measure => rw [hl3.out, Hleft.out, List.length_cons]; omega
        · rw [if_neg h92] at hq2
          go_wp2_with fail
          refine h1.mono ?_
          rintro e w1 ⟨rfl, k1, b1⟩
          have h1b := one_is g s (c :: q) T' 92 false w1 k1 (by omega) hs (decide_eq_false h92)
          have Hb1 := Lib.hid b1
          clear h1 k1 b1
          go_wp2_with fail
          refine h1b.mono ?_
          rintro e w1b ⟨rfl, k1, b1⟩
          have h2 := next_some g s c q T' w1b k1 hs
          have Hb1b := Lib.hid b1
          clear h1b k1 b1
          by_cases h10 : c.toNat = 10
          · rw [if_pos h10] at hq2
            rw [h10] at h2
            have Hq2 := Lib.hid hq2
            clear hq2 hc h92
            go_wp2_with fail
            refine h2.mono ?_
            rintro e w2 ⟨rfl, k2, b2⟩
            have Hb2 := Lib.hid b2
            clear h2 b2 k2
            go_wp2
            go_ret
            exact part_none Hq2.out (fun B hB => (((Hbel.out B hB).trans (Hb1.out B hB)).trans (Hb1b.out B hB)).trans (Hb2.out B hB))
          · rw [if_neg h10, onto_cons] at hq2
            have Hq2 := Lib.hid hq2
            have hd : ((c.toNat : Int) != 10) = true := by simp; omega
            have hd2 : ((c.toNat : Int) == 10) = false := beq_eq_false_iff_ne.2 (by omega)
            clear hq2 hc h92 h10
            obtain ⟨C, hC⟩ : ∃ C, c.toNat = C := ⟨_, rfl⟩
            rw [hC] at h2 hd hd2 hcl
            have HC := Lib.hid hC
            clear hC
            go_wp2_with fail
            refine h2.mono ?_
            rintro e w2 ⟨rfl, k2, b2⟩
            have Hb2 := Lib.hid b2
            obtain ⟨p, u, hp, hrd, c0, c1, c2, f1, f2, ho, hh⟩ := k2.cells
            have hglt := k2.lt
            have hoa := ho.alloc (.cells #[.int .u8 C] 5)
            have hha : (w2.alloc (.cells #[.int .u8 C] 5)).heap[g]? = some (.cells #[.string s, .int .i64 p, u] 108 (0, 0)) := (Below.heap_alloc w2 _ g hglt).trans hh
            clear h2 b2 k2
            go_wp2_with (at_builtin; refine wpList_append_own _ rfl _ _ 56 rfl (g + 1) 5 i0 (.int .u8 0) 1 1 Tryz.underlying56 hi hz0 hz1 hz2 rfl (by decide) _ _ _ rfl hoa ⟨w2.heap.size, 0, none⟩ 1 1 [.int .u8 C] rfl rfl ?c1 ?c2 ?c3 ?c4 ?c5 ?_)
            case c1 => exact one_cell2
            case c2 => intro u hu; simp at hu; subst hu; rfl
            case c3 => unfold maxLen; omega
            case c4 => omega
            case c5 => simp; omega
            · intro v' w3 hown3 hgrow _
              obtain ⟨x', cc, rfl⟩ := own_slice hown3
              have hT3 : bCells T' ++ [.int .u8 (C : Int)] = bCells (T' ++ [c]) := by rw [bCells_snoc, HC.out]
              rw [hT3] at hown3
              have hput := rd_put (T' := T' ++ [c]) hha hoa (by rw [List.length_append]; exact hown3) hgrow hp hrd
              obtain ⟨m2, m3, K, B⟩ := hput
              have HK := Lib.hid K
              have HB := Lib.hid B
              have hl3 := Lib.hid (left_of K)
              clear K B hown3 hgrow hoa hha ho hh hT3
              go_wp2
              go_roundw
              case rel => exact ⟨f, q, T' ++ [c], HK.out, by omega, Hq2.out, by rw [List.length_append, List.length_singleton]; omega, fun B hB => ((((Hbel.out B hB).trans (Hb1.out B hB)).trans (Hb1b.out B hB)).trans (Hb2.out B hB)).trans (((Below.refl B _).alloc (by omega) _).trans (HB.out B hB))⟩
              case measure => rw [hl3.out, Hleft.out, List.length_cons]; omega
end Go.Proofs.YtklmiabgalanhaaGreatDoor

/- Contracts of quoted's reader: single, whole. -/
namespace Go.Proofs.YtklmiabgalanhaaGreatDoor
open Go.RowKit Em Go.Shelf
set_option maxRecDepth 100000
set_option linter.unusedVariables false
set_option linter.unusedSimpArgs false

theorem rd_keep2 {w w' : World} {g : Nat} {s : ByteArray} {r T : List UInt8} (h : Rd w g s r T) (hb : Below w.heap.size w w') : Rd w' g s r T := h.keep hb

/-- What is read at a place, in words of what is left. -/
theorem rd_at (s : ByteArray) (p : Nat) (h : p < s.size) : Qm.rd ((bl s).drop p) = if rdN s p = 0 then none else some (rdC s p, (bl s).drop (p + rdN s p)) := by
  have e : txt ((bl s).drop p) = s.extract p s.size := bl_inj (by rw [txt_bl, bl_extract, List.take_of_length_le (by rw [bl_size]; omega)])
  have hne : ((bl s).drop p).isEmpty = false := by rw [bl_drop' s p h]; rfl
  have hk := Um.okAt_tail s p
  have hd := Lib.tail_decode s p 0
  rw [Nat.add_zero] at hd
  unfold Qm.rd
  rw [e, hk, hne]
  unfold rdN rdC
  cases hok : Um.okAt s p with
  | false => simp
  | true =>
    have hpos := Um.decode_pos s p
    simp only [if_true, true_and]
    rw [if_neg (by omega), Qm.chr_def, Qm.wid_def, hd, List.drop_drop]

theorem rd_fits (s : ByteArray) (p : Nat) (h : p < s.size) : p + rdN s p ≤ s.size := by
  unfold rdN
  split
  · rename_i hk; exact Um.ok_fits h hk
  · omega
theorem rdC_ok (s : ByteArray) (p : Nat) (h : p < s.size) (h0 : rdN s p ≠ 0) : Um.okN (rdC s p) := by
  unfold rdN at h0
  unfold rdC
  split at h0
  · rename_i hk
    rw [if_pos hk]
    have ho : Utf8.decode s p ≠ (65533, 1) := by unfold Um.okAt at hk; exact of_decide_eq_true hk
    exact (Um.decode_at h ho).1
  · exact absurd rfl h0

theorem close_eq (t q : List UInt8) : Qm.close 39 t q = if hdN 39 q = true then some (t, q.tail) else none := by
  match q with
  | [] => rfl
  | c :: q =>
    by_cases h : c.toNat = 39 <;> simp [Qm.close, hdN, h]

theorem hd92 (r : List UInt8) : Nm.at1 92 r = hdN 92 r := by
  match r with
  | [] => rfl
  | c :: r =>
    unfold Nm.at1 hdN
    exact decide_eq_decide.2 ⟨fun h => by rw [h]; rfl, fun h => UInt8.toNat_inj.1 h⟩

/-- The last mark: what it makes of a reading. -/
theorem close_part {g : Nat} {s : ByteArray} {T t q : List UInt8} {x : Option (List UInt8 × List UInt8)} {w w' : World} {v : Bool} (hx : x = Qm.close 39 t q) (hv : hdN 39 q = v) (hr : Rd w' g s (bif v then q.tail else q) (T ++ t)) (hb : ∀ B, B ≤ g → Below B w w') :
    PartP g s T x w (.returned (.bool v)) w' := by
  subst hx
  rw [close_eq, hv]
  cases v with
  | true => exact ⟨rfl, (fun t' q' h => by obtain ⟨rfl, rfl⟩ := Prod.mk.inj (Option.some.inj h); exact hr), hb⟩
  | false => exact ⟨rfl, (fun t' q' h => by cases h), hb⟩

theorem part_no {g : Nat} {s : ByteArray} {T : List UInt8} {x : Option (List UInt8 × List UInt8)} {w w' : World} (hx : x = none) (hb : ∀ B, B ≤ g → Below B w w') : PartP g s T x w (.returned (.bool false)) w' := by
  subst hx; exact ⟨rfl, (fun t' q' h => by cases h), hb⟩

set_option maxHeartbeats 8000000 in
theorem single_any (g : Nat) (s : ByteArray) (r T : List UInt8) (w : World) (h : Rd w g s r T) (hs : s.size ≤ 4611686018427387000) (hT : T.length + r.length ≤ 140737488355300) :
    Calls Tryz.prog 120 #[.pointer (some ⟨g, 0, none⟩)] w (PartP g s T (Qm.rune r) w) := by
  cases h92 : hdN 92 r with
  | true =>
    have h1 := one_is g s r T 92 true w h (by omega) hs h92
    have hR : Qm.rune r = match Qm.esc 39 r.tail with | some (n, _, q) => Qm.close 39 (Qm.fm n) q | none => none := by unfold Qm.rune; rw [hd92, h92, if_pos rfl]; rfl
    have HR0 := Lib.hid hR
    clear hR
    have hrl : r.tail.length < r.length := by
      match r, h92 with
      | c :: r, _ => simp
    clear h
    go_enter Tryz.func120, Tryz.ntmps120
    go_wp2_with fail
    refine h1.mono ?_
    rintro e w1 ⟨rfl, k1, b1⟩
    have h2 := escape_any g s r.tail T 39 w1 k1 (.inl rfl) hs
    have Hb1 := Lib.hid b1
    clear h1 k1 b1
    go_wp2_with fail
    refine h2.mono ?_
    clear h2
    have hR := HR0.out
    clear HR0
    cases hx : Qm.esc 39 r.tail with
    | none =>
      rintro e w2 ⟨N, b, he, _, b2⟩
      rw [hx] at he hR
      simp only [Option.isSome_none] at he
      subst he
      have HR := Lib.hid hR
      have Hb2 := Lib.hid b2
      clear hR b2 hx
      go_wp2
      go_ret
      exact part_no HR.out (fun B hB => (Hb1.out B hB).trans (Hb2.out B hB))
    | some y =>
      obtain ⟨n, b', q⟩ := y
      rintro e w2 ⟨N, b, he, hsome, b2⟩
      obtain ⟨rfl, rfl, k2⟩ := hsome n b' q hx
      rw [hx] at he hR
      simp only [Option.isSome_some] at he
      subst he
      have hql := Qm.esc_rest hx
      have h4 := fm_le n
      have hsay := say_any g s q T (n : Int) w2 k2 (by omega) (formOf_le n)
      rw [formOf_fm] at hsay
      have HR := Lib.hid hR
      have Hb2 := Lib.hid b2
      clear hR b2 hx hsome k2
      go_wp2_with fail
      refine hsay.mono ?_
      rintro e w3 ⟨rfl, k3, b3⟩
      have h5 := one_is g s q (T ++ Qm.fm n) 39 _ w3 k3 (by omega) hs rfl
      have Hb3 := Lib.hid b3
      clear hsay k3 b3
      go_wp2_with fail
      refine h5.mono ?_
      rintro e w4 ⟨rfl, k4, b4⟩
      have Hk4 := Lib.hid k4
      have Hb4 := Lib.hid b4
      clear h5 k4 b4
      go_wp2
      go_ret
      exact close_part HR.out rfl Hk4.out (fun B hB => (((Hb1.out B hB).trans (Hb2.out B hB)).trans (Hb3.out B hB)).trans (Hb4.out B hB))
  | false =>
    have h1 := one_is g s r T 92 false w h (by omega) hs h92
    have hR : Qm.rune r = match Qm.rd r with | some (c, q) => if c = 39 ∨ c = 10 then none else Qm.close 39 (Qm.fm c) q | none => none := by unfold Qm.rune; rw [hd92, h92, if_neg (by simp)]; rfl
    have HR0 := Lib.hid hR
    clear hR
    clear h h92
    go_enter Tryz.func120, Tryz.ntmps120
    go_wp2_with fail
    refine h1.mono ?_
    rintro e w1 ⟨rfl, k1, b1⟩
    have Hb1 := Lib.hid b1
    simp only [cond_false] at k1
    obtain ⟨p, u, hp, hrd, c0, c1, c2, f1, f2, ho, hh⟩ := k1.cells
    have Hk1 := Lib.hid k1
    clear h1 k1 b1
    have hR := HR0.out
    clear HR0
    by_cases hps : p < s.size
    · have hat := rd_at s p hps
      rw [hrd] at hat
      have hfit := rd_fits s p hps
      have hcok := rdC_ok s p hps
      have HR1 := fun w => read_at s p w hps
      by_cases h0 : rdN s p = 0
      · rw [if_pos h0] at hat
        rw [hat] at hR
        rw [h0] at HR1
        have HR := Lib.hid hR
        clear hR hat hcok hfit h0 ho hh hrd hps
        generalize rdC s p = C at HR1
        go_wp2
        go_region_with (go_at_call 140; refine (HR1 _).mono ?_; rintro e w2 ⟨rfl, b2⟩)
        all_goals (
          go_wp2
          go_ret
          exact part_no HR.out (fun B hB => (Hb1.out B hB).trans ((below_drw (Below.refl B _) 1).trans (b2.mono (by have := Hk1.out.lt; show B ≤ w1.heap.size; omega)))))
      · rw [if_neg h0] at hat
        rw [hat] at hR
        have hc := hcok h0
        have h4 := formOf_le (rdC s p)
        have hn1 : ((rdN s p : Int) == 0) = false := beq_eq_false_iff_ne.2 (by omega)
        clear hcok
        obtain ⟨n, hn⟩ : ∃ n, rdN s p = n := ⟨_, rfl⟩
        rw [hn] at HR1 hR hfit hn1 h0
        obtain ⟨C, hC⟩ : ∃ C, rdC s p = C := ⟨_, rfl⟩
        rw [hC] at HR1 hR hc h4
        clear hat hn hC hrd
        by_cases hbad : C = 39 ∨ C = 10
        · rw [show (match some (C, (bl s).drop (p + n)) with | some (c, q) => if c = 39 ∨ c = 10 then none else Qm.close 39 (Qm.fm c) q | none => none) = (none : Option (List UInt8 × List UInt8)) from if_pos hbad] at hR
          have HR := Lib.hid hR
          clear hR ho hh hps h4 hc
          rcases hbad with rfl | rfl
          all_goals (
            go_wp2
            go_region_with (go_at_call 140; refine (HR1 _).mono ?_; rintro e w2 ⟨rfl, b2⟩)
            all_goals (
              go_wp2
              go_ret
              exact part_no HR.out (fun B hB => (Hb1.out B hB).trans ((below_drw (Below.refl B _) 1).trans (b2.mono (by have := Hk1.out.lt; show B ≤ w1.heap.size; omega))))))
        · rw [show (match some (C, (bl s).drop (p + n)) with | some (c, q) => if c = 39 ∨ c = 10 then none else Qm.close 39 (Qm.fm c) q | none => none) = Qm.close 39 (Qm.fm C) ((bl s).drop (p + n)) from if_neg hbad] at hR
          have HR := Lib.hid hR
          have q1 : ((C : Int) == 39) = false := beq_eq_false_iff_ne.2 (by omega)
          have q2 : ((C : Int) == 10) = false := beq_eq_false_iff_ne.2 (by omega)
          have Hho := Lib.hid ho
          have Hhh := Lib.hid hh
          have hTl : T.length + 4 ≤ 140737488355328 := by omega
          clear hR ho hh hps hc hbad
          go_wp2
          go_region_with (go_at_call 140; refine (HR1 _).mono ?_; rintro e w2 ⟨rfl, b2⟩)
          all_goals (
            have b3 : Below w1.heap.size w1 w2 := (below_drw (Below.refl _ w1) 1).trans b2
            have k2 := Hk1.out.keep b3
            have hh2 : w2.heap[g]? = some (.cells #[.string s, .int .i64 p, u] 108 (0, 0)) := (b3.block g Hk1.out.lt).trans Hhh.out
            have ho2 := own_below Hho.out b3
            have c1' : w2.cell? ⟨g, 1, none⟩ = some (.int .i64 p) := by rw [cell_of_row w2 g 1 _ _ _ hh2]; rfl
            have f1' : w2.frozen? ⟨g, 1, none⟩ = false := frozen_of_row w2 g 1 _ _ hh2
            have k3 := Rd.setAt hh2 ho2 (p + n) hfit
            have v1 : ((p + n : Nat) : Int) = (p : Int) + (n : Int) := by push_cast; rfl
            rw [v1] at k3
            have hsay := say_any g s _ T (C : Int) _ k3 hTl h4
            rw [formOf_fm] at hsay
            have Hb3 := Lib.hid b3
            clear k3 hh2 ho2 k2 b3 b2
            go_wp2_with fail
            refine hsay.mono ?_
            rintro e w3 ⟨rfl, k4, b4⟩
            have h5 := one_is g s _ (T ++ Qm.fm C) 39 _ w3 k4 (by omega) hs rfl
            have Hb4 := Lib.hid b4
            clear hsay k4 b4
            go_wp2_with fail
            refine h5.mono ?_
            rintro e w4 ⟨rfl, k5, b5⟩
            have Hk5 := Lib.hid k5
            have Hb5 := Lib.hid b5
            clear h5 k5 b5
            go_wp2
            go_ret
            exact close_part HR.out rfl Hk5.out (fun B hB => (((Hb1.out B hB).trans (Hb3.out.mono (by have := Hk1.out.lt; omega))).trans ((Below.refl B _).setCell hB _)).trans ((Hb4.out B hB).trans (Hb5.out B hB))))
    · have hnil : r = [] := by rw [← hrd]; exact List.drop_eq_nil_of_le (by rw [bl_size]; omega)
      subst hnil
      have hR' : Qm.rune [] = none := by rw [hR]; rfl
      have HR := Lib.hid hR'
      have HR1 := fun w => read_no s (p : Int) w (.inr (by omega))
      clear hR hR' ho hh hrd
      go_wp2
      go_region_with (go_at_call 140; refine (HR1 _).mono ?_; rintro e w2 ⟨rfl, rfl⟩)
      all_goals (
        go_wp2
        go_ret
        exact part_no HR.out (fun B hB => (Hb1.out B hB).trans (below_drw (Below.refl B _) 1)))
end Go.Proofs.YtklmiabgalanhaaGreatDoor

/- Contracts of quoted's reader whole, of quoted.Scan and quoted.Value. -/
namespace Go.Proofs.YtklmiabgalanhaaGreatDoor
open Go.RowKit Em Go.Shelf
set_option maxRecDepth 100000
set_option linter.unusedVariables false
set_option linter.unusedSimpArgs false

theorem whole_cons (c : UInt8) (m : List UInt8) : Qm.whole (c :: m) = if c.toNat = 39 then (Qm.rune m).map fun x => (6, x.1, x.2)
    else if c.toNat = 34 then (Qm.strF (m.length + 1) m).map fun x => (7, x.1, x.2)
    else if c.toNat = 96 then (Qm.raw m).map fun x => (7, x.1, x.2)
    else none := rfl
def wholeK (r : List UInt8) : Nat := match Qm.whole r with | some (k, _, _) => k | none => 0
def WholeP (g : Nat) (s : ByteArray) (T r : List UInt8) (w : World) (e : Ending) (w' : World) : Prop :=
  e = .returned (.int .u8 (wholeK r : Nat)) ∧ (∀ k t q, Qm.whole r = some (k, t, q) → Rd w' g s q (T ++ t)) ∧ ∀ B, B ≤ g → Below B w w'

theorem whole_none {g : Nat} {s : ByteArray} {T r : List UInt8} {w w' : World} (h : Qm.whole r = none) (hb : ∀ B, B ≤ g → Below B w w') : WholeP g s T r w (.returned (.int .u8 0)) w' := by
  refine ⟨by unfold wholeK; rw [h]; rfl, (fun k t q h' => by rw [h] at h'; cases h'), hb⟩
theorem whole_part {g : Nat} {s : ByteArray} {T r : List UInt8} {w w' : World} {K : Nat} {x : Option (List UInt8 × List UInt8)} (h : Qm.whole r = x.map fun z => (K, z.1, z.2)) (hs : x.isSome = true) (hr : ∀ t q, x = some (t, q) → Rd w' g s q (T ++ t)) (hb : ∀ B, B ≤ g → Below B w w') : WholeP g s T r w (.returned (.int .u8 (K : Int))) w' := by
  cases x with
  | none => cases hs
  | some z =>
    refine ⟨by unfold wholeK; rw [h]; rfl, (fun k t q h' => ?_), hb⟩
    rw [h] at h'
    obtain ⟨rfl, h2⟩ := Prod.mk.inj (Option.some.inj h')
    obtain ⟨rfl, rfl⟩ := Prod.mk.inj h2
    exact hr _ _ rfl
theorem whole_part_no {g : Nat} {s : ByteArray} {T r : List UInt8} {w w' : World} {K : Nat} {x : Option (List UInt8 × List UInt8)} (h : Qm.whole r = x.map fun z => (K, z.1, z.2)) (hs : x.isSome = false) (hb : ∀ B, B ≤ g → Below B w w') : WholeP g s T r w (.returned (.int .u8 0)) w' := by
  cases x with
  | none => exact whole_none h hb
  | some z => cases hs

set_option maxHeartbeats 4000000 in
theorem whole_any (g : Nat) (s : ByteArray) (r T : List UInt8) (w : World) (h : Rd w g s r T) (hs : s.size ≤ 4611686018427387000) (hT : T.length + r.length ≤ 140737488355300) :
    Calls Tryz.prog 92 #[.pointer (some ⟨g, 0, none⟩)] w (WholeP g s T r w) := by
  cases h39 : hdN 39 r with
  | true =>
    have h1 := one_is g s r T 39 true w h (by omega) hs h39
    have hW : Qm.whole r = (Qm.rune r.tail).map fun z => (6, z.1, z.2) := by
      match r, h39 with
      | c :: r, h39 => rw [whole_cons, if_pos (of_decide_eq_true h39)]; rfl
    have hl : r.tail.length ≤ r.length := by rw [List.length_tail]; omega
    have HW := Lib.hid hW
    clear h hW
    go_enter Tryz.func92, Tryz.ntmps92
    go_wp2_with fail
    refine h1.mono ?_
    rintro e w1 ⟨rfl, k1, b1⟩
    have h2 := single_any g s r.tail T w1 k1 hs (by omega)
    have Hb1 := Lib.hid b1
    clear h1 k1 b1
    go_wp2_with fail
    refine h2.mono ?_
    rintro e w2 ⟨rfl, k2, b2⟩
    have Hk2 := Lib.hid k2
    have Hb2 := Lib.hid b2
    clear h2 k2 b2
    cases hv : (Qm.rune r.tail).isSome with
    | true =>
      have Hv := Lib.hid hv
      clear hv
      go_wp2
      go_ret
      exact whole_part HW.out Hv.out Hk2.out (fun B hB => (Hb1.out B hB).trans (Hb2.out B hB))
    | false =>
      have Hv := Lib.hid hv
      clear hv
      go_wp2
      go_ret
      exact whole_part_no HW.out Hv.out (fun B hB => (Hb1.out B hB).trans (Hb2.out B hB))
  | false =>
    have h1 := one_is g s r T 39 false w h (by omega) hs h39
    clear h
    cases h34 : hdN 34 r with
    | true =>
      have hW : Qm.whole r = (Qm.strF (r.tail.length + 1) r.tail).map fun z => (7, z.1, z.2) := by
        match r, h39, h34 with
        | c :: r, h39, h34 => rw [whole_cons, if_neg (of_decide_eq_false h39), if_pos (of_decide_eq_true h34)]; rfl
      have hl : r.tail.length ≤ r.length := by rw [List.length_tail]; omega
      have HW := Lib.hid hW
      clear hW
      go_enter Tryz.func92, Tryz.ntmps92
      go_wp2_with fail
      refine h1.mono ?_
      rintro e w0 ⟨rfl, k0, b0⟩
      have h1b := one_is g s r T 34 true w0 k0 (by omega) hs h34
      have Hb0 := Lib.hid b0
      clear h1 k0 b0 h34 h39
      go_wp2_with fail
      refine h1b.mono ?_
      rintro e w1 ⟨rfl, k1, b1⟩
      have h2 := several_any g s r.tail T w1 k1 hs (by omega)
      have Hb1 := Lib.hid b1
      clear h1b k1 b1
      go_wp2_with fail
      refine h2.mono ?_
      rintro e w2 ⟨rfl, k2, b2⟩
      have Hk2 := Lib.hid k2
      have Hb2 := Lib.hid b2
      clear h2 k2 b2
      cases hv : (Qm.strF (r.tail.length + 1) r.tail).isSome with
      | true =>
        have Hv := Lib.hid hv
        clear hv
        go_wp2
        go_ret
        exact whole_part HW.out Hv.out Hk2.out (fun B hB => ((Hb0.out B hB).trans (Hb1.out B hB)).trans (Hb2.out B hB))
      | false =>
        have Hv := Lib.hid hv
        clear hv
        go_wp2
        go_ret
        exact whole_part_no HW.out Hv.out (fun B hB => ((Hb0.out B hB).trans (Hb1.out B hB)).trans (Hb2.out B hB))
    | false =>
      cases h96 : hdN 96 r with
      | true =>
        have hW : Qm.whole r = (Qm.raw r.tail).map fun z => (7, z.1, z.2) := by
          match r, h39, h34, h96 with
          | c :: r, h39, h34, h96 => rw [whole_cons, if_neg (of_decide_eq_false h39), if_neg (of_decide_eq_false h34), if_pos (of_decide_eq_true h96)]; rfl
        have hl : r.tail.length ≤ r.length := by rw [List.length_tail]; omega
        have HW := Lib.hid hW
        clear hW
        go_enter Tryz.func92, Tryz.ntmps92
        go_wp2_with fail
        refine h1.mono ?_
        rintro e w0 ⟨rfl, k0, b0⟩
        have h1b := one_is g s r T 34 false w0 k0 (by omega) hs h34
        have Hb0 := Lib.hid b0
        clear h1 k0 b0 h34 h39
        go_wp2_with fail
        refine h1b.mono ?_
        rintro e w1 ⟨rfl, k1, b1⟩
        have h1c := one_is g s r T 96 true w1 k1 (by omega) hs h96
        have Hb1 := Lib.hid b1
        clear h1b k1 b1 h96
        go_wp2_with fail
        refine h1c.mono ?_
        rintro e w1b ⟨rfl, k1, b1⟩
        have h2 := raw_any g s r.tail T w1b k1 hs (by omega)
        have Hb1b := Lib.hid b1
        clear h1c k1 b1
        go_wp2_with fail
        refine h2.mono ?_
        rintro e w2 ⟨rfl, k2, b2⟩
        have Hk2 := Lib.hid k2
        have Hb2 := Lib.hid b2
        clear h2 k2 b2
        cases hv : (Qm.raw r.tail).isSome with
        | true =>
          have Hv := Lib.hid hv
          clear hv
          go_wp2
          go_ret
          exact whole_part HW.out Hv.out Hk2.out (fun B hB => (((Hb0.out B hB).trans (Hb1.out B hB)).trans (Hb1b.out B hB)).trans (Hb2.out B hB))
        | false =>
          have Hv := Lib.hid hv
          clear hv
          go_wp2
          go_ret
          exact whole_part_no HW.out Hv.out (fun B hB => (((Hb0.out B hB).trans (Hb1.out B hB)).trans (Hb1b.out B hB)).trans (Hb2.out B hB))
      | false =>
        have hW : Qm.whole r = none := by
          match r, h39, h34, h96 with
          | [], _, _, _ => rfl
          | c :: r, h39, h34, h96 => rw [whole_cons, if_neg (of_decide_eq_false h39), if_neg (of_decide_eq_false h34), if_neg (of_decide_eq_false h96)]
        have HW := Lib.hid hW
        clear hW
        go_enter Tryz.func92, Tryz.ntmps92
        go_wp2_with fail
        refine h1.mono ?_
        rintro e w0 ⟨rfl, k0, b0⟩
        have h1b := one_is g s r T 34 false w0 k0 (by omega) hs h34
        have Hb0 := Lib.hid b0
        clear h1 k0 b0 h34 h39
        go_wp2_with fail
        refine h1b.mono ?_
        rintro e w1 ⟨rfl, k1, b1⟩
        have h1c := one_is g s r T 96 false w1 k1 (by omega) hs h96
        have Hb1 := Lib.hid b1
        clear h1b k1 b1 h96
        go_wp2_with fail
        refine h1c.mono ?_
        rintro e w1b ⟨rfl, k1, b1⟩
        have Hb1b := Lib.hid b1
        clear h1c k1 b1
        go_wp2
        go_ret
        exact whole_none HW.out (fun B hB => ((Hb0.out B hB).trans (Hb1.out B hB)).trans (Hb1b.out B hB))

/-- A mark. -/
def mkN (n : Nat) : Bool := decide (n = 39 ∨ n = 34 ∨ n = 96)
theorem ismark_any (n : Nat) (hn : n < 256) (w : World) :
    Calls Tryz.prog 91 #[.int .u8 n] w fun e w' => e = .returned (.bool (mkN n)) ∧ w = w' := by
  by_cases h1 : n = 39
  · subst h1
    go_enter Tryz.func91, Tryz.ntmps91
    go_wp2
    go_ret
    exact ⟨rfl, rfl⟩
  · by_cases h2 : n = 34
    · subst h2
      go_enter Tryz.func91, Tryz.ntmps91
      go_wp2
      go_ret
      exact ⟨rfl, rfl⟩
    · by_cases h3 : n = 96
      · subst h3
        go_enter Tryz.func91, Tryz.ntmps91
        go_wp2
        go_ret
        exact ⟨rfl, rfl⟩
      · have hv : mkN n = false := decide_eq_false (by omega)
        rw [hv]
        have d1 : ((n : Int) == 39) = false := beq_eq_false_iff_ne.2 (by omega)
        have d2 : ((n : Int) == 34) = false := beq_eq_false_iff_ne.2 (by omega)
        have d3 : ((n : Int) == 96) = false := beq_eq_false_iff_ne.2 (by omega)
        go_enter Tryz.func91, Tryz.ntmps91
        go_wp2
        go_ret
        exact ⟨rfl, rfl⟩

theorem rd_start (w : World) (m : ByteArray) : Rd (w.alloc (.cells #[.string m, .int .i64 0, .slice none 0 0] 108)) w.heap.size m (bl m) [] := by
  refine ⟨0, .slice none 0 0, by omega, rfl, heap_alloc_new w _, ?_⟩
  exact World.ownsRow_nil _ _ _ _

/-- What Scan answers where a mark stands. -/
def qK (l : List UInt8) : Nat := wholeK l
def qT (n : Nat) (l : List UInt8) : Int := match Qm.whole l with | some (_, _, q) => (n : Int) - (q.length : Int) | none => 0
def qE (l : List UInt8) : Int := match Qm.whole l with | some _ => 0 | none => 4

theorem ret_3q {a a' : Nat} {b b' c c' : Int} (h1 : a = a') (h2 : b = b') (h3 : c = c') : Ending.returned (.tuple #[.int .u8 (a : Int), .int .i64 b, .int .i64 c]) = .returned (.tuple #[.int .u8 (a' : Int), .int .i64 b', .int .i64 c']) := by rw [h1, h2, h3]

theorem qscan_no (s : ByteArray) (at' : Int) (w : World) (h : at' < 0 ∨ (s.size : Int) ≤ at' ∨ ∃ k : Nat, at' = k ∧ k < s.size ∧ mkN (byN s k) = false) :
    Calls Tryz.prog 71 #[.string s, .int .i64 at'] w fun e w' => e = .returned (.tuple #[.int .u8 0, .int .i64 0, .int .i64 15]) ∧ w = w' := by
  by_cases h0 : at' < 0
  · clear h
    go_enter Tryz.func71, Tryz.ntmps71
    go_wp2
    all_goals (go_ret3; exact ⟨rfl, rfl⟩)
  · by_cases h1 : (s.size : Int) ≤ at'
    · clear h
      go_enter Tryz.func71, Tryz.ntmps71
      go_wp2
      all_goals (go_ret3; exact ⟨rfl, rfl⟩)
    · obtain ⟨k, rfl, hk, hm⟩ := (h.resolve_left h0).resolve_left h1
      have b0 : (0 : Int) ≤ (k : Int) := by omega
      have b1 : (k : Int) < (s.size : Int) := by omega
      have e1 := byN_get s k hk
      have l1 := byN_lt s k
      have HM := fun w => ismark_any (byN s k) l1 w
      rw [hm] at HM
      clear h hm
      generalize byN s k = B at e1 l1 HM
      go_enter Tryz.func71, Tryz.ntmps71
      go_wp2_with fail
      refine (HM _).mono ?_
      rintro e w' ⟨rfl, rfl⟩
      go_wp2
      go_ret3
      exact ⟨rfl, rfl⟩

theorem wholeK_pos {l : List UInt8} {k : Nat} {t q : List UInt8} (h : Qm.whole l = some (k, t, q)) : k = 6 ∨ k = 7 := by
  match l, h with
  | c :: l, h =>
    rw [whole_cons] at h
    have key : ∀ (x : Option (List UInt8 × List UInt8)) (K : Nat), (x.map fun z => (K, z.1, z.2)) = some (k, t, q) → k = K := by
      intro x K h
      cases x with
      | none => cases h
      | some z => exact (Prod.mk.inj (Option.some.inj h)).1.symm
    by_cases h1 : c.toNat = 39
    · rw [if_pos h1] at h; exact .inl (key _ _ h)
    · rw [if_neg h1] at h
      by_cases h2 : c.toNat = 34
      · rw [if_pos h2] at h; exact .inr (key _ _ h)
      · rw [if_neg h2] at h
        by_cases h3 : c.toNat = 96
        · rw [if_pos h3] at h; exact .inr (key _ _ h)
        · rw [if_neg h3] at h; cases h

set_option maxHeartbeats 2000000 in
theorem qscan_yes (s : ByteArray) (k : Nat) (w : World) (hk : k < s.size) (hm : mkN (byN s k) = true) (hs : s.size ≤ 140737488355300) :
    Calls Tryz.prog 71 #[.string s, .int .i64 k] w fun e w' => e = .returned (.tuple #[.int .u8 (qK ((bl s).drop k) : Nat), .int .i64 (qT s.size ((bl s).drop k)), .int .i64 (qE ((bl s).drop k))]) ∧ Below w.heap.size w w' := by
  have b0 : (0 : Int) ≤ (k : Int) := by omega
  have b1 : (k : Int) < (s.size : Int) := by omega
  have b2 : (k : Int) ≤ (s.size : Int) := by omega
  have e1 := byN_get s k hk
  have l1 := byN_lt s k
  have HM := fun w => ismark_any (byN s k) l1 w
  rw [hm] at HM
  have hbl : bl (s.extract k s.size) = (bl s).drop k := by rw [bl_extract, List.take_of_length_le (by rw [bl_size]; omega)]
  have hsz : (s.extract k s.size).size = s.size - k := by rw [← bl_size, hbl, List.length_drop, bl_size]
  have hst := rd_start w (s.extract k s.size)
  have hW := whole_any w.heap.size (s.extract k s.size) _ [] _ hst (by omega) (by rw [bl_size]; simp; omega)
  rw [hbl] at hW
  have HW := Lib.hid hW
  have hba : Below w.heap.size w (w.alloc (.cells #[.string (s.extract k s.size), .int .i64 0, .slice none 0 0] 108)) := (Below.refl _ _).alloc (Nat.le_refl _) _
  have Hba := Lib.hid hba
  have Hsz := Lib.hid hsz
  have Hbl := Lib.hid hbl
  clear hm hbl hst hW hba hsz
  generalize byN s k = B at e1 l1 HM
  go_enter Tryz.func71, Tryz.ntmps71
  go_wp2_with fail
  refine (HM _).mono ?_
  rintro e w' ⟨rfl, rfl⟩
  clear HM
  go_wp2_with fail
  refine HW.out.mono ?_
  clear HW
  cases hx : Qm.whole ((bl s).drop k) with
  | none =>
    rintro e w1 ⟨he, _, b3⟩
    have hz : wholeK ((bl s).drop k) = 0 := by unfold wholeK; rw [hx]
    rw [hz] at he
    subst he
    have HB3 := Lib.hid (Hba.out.trans (b3 w.heap.size (Nat.le_refl _)))
    have e2 : qT s.size ((bl s).drop k) = 0 := by unfold qT; rw [hx]
    have e3 : qE ((bl s).drop k) = 4 := by unfold qE; rw [hx]
    have Hz := Lib.hid hz
    have He2 := Lib.hid e2
    have He3 := Lib.hid e3
    clear hz hx b3 e2 e3
    go_wp2
    go_ret3
    exact ⟨ret_3q Hz.out.symm He2.out.symm He3.out.symm, HB3.out⟩
  | some y =>
    obtain ⟨K, t, q⟩ := y
    rintro e w1 ⟨he, hr, b3⟩
    have hz : wholeK ((bl s).drop k) = K := by unfold wholeK; rw [hx]
    rw [hz] at he
    subst he
    have hK := wholeK_pos hx
    have d1 : ((K : Int) == 0) = false := beq_eq_false_iff_ne.2 (by omega)
    obtain ⟨p, u, hp, hrd, c0, c1, c2, f1, f2, ho, hh⟩ := (hr K t q hx).cells
    have hlen := congrArg List.length hrd
    rw [Hbl.out, List.length_drop, List.length_drop, bl_size] at hlen
    rw [Hsz.out] at hp
    have hfin : (k : Int) + (p : Int) = (s.size : Int) - (q.length : Int) := by omega
    have Hfin := Lib.hid hfin
    have HB3 := Lib.hid (Hba.out.trans (b3 w.heap.size (Nat.le_refl _)))
    have e2 : qT s.size ((bl s).drop k) = (s.size : Int) - (q.length : Int) := by unfold qT; rw [hx]
    have e3 : qE ((bl s).drop k) = 0 := by unfold qE; rw [hx]
    have Hz := Lib.hid hz
    have He2 := Lib.hid e2
    have He3 := Lib.hid e3
    clear hz hx b3 hr ho hh hrd hlen hfin e2 e3
    go_wp2
    go_quiet (fail)
    go_wp2
    go_ret3
    exact ⟨ret_3q Hz.out.symm (by rw [He2.out]; exact Hfin.out) He3.out.symm, below_drw HB3.out _⟩

/-- What Value answers. -/
def vT (s : ByteArray) : ByteArray := match Qm.whole (bl s) with | some (_, t, []) => txt t | _ => ByteArray.empty
def vE (s : ByteArray) : Int := match Qm.whole (bl s) with | some (_, _, []) => 0 | _ => 4

theorem ret_se {a a' : ByteArray} {b b' : Int} (h1 : a = a') (h2 : b = b') : Ending.returned (.tuple #[.string a, .int .i64 b]) = .returned (.tuple #[.string a', .int .i64 b']) := by rw [h1, h2]

set_option maxHeartbeats 2000000 in
theorem value_any (s : ByteArray) (w : World) (hs : s.size ≤ 140737488355300) :
    Calls Tryz.prog 72 #[.string s] w fun e w' => e = .returned (.tuple #[.string (vT s), .int .i64 (vE s)]) ∧ Below w.heap.size w w' := by
  have hst := rd_start w s
  have hW := whole_any w.heap.size s _ [] _ hst (by omega) (by rw [bl_size]; simp; omega)
  have HW := Lib.hid hW
  have Hba := Lib.hid (show Below w.heap.size w (w.alloc (.cells #[.string s, .int .i64 0, .slice none 0 0] 108)) from (Below.refl _ _).alloc (Nat.le_refl _) _)
  clear hst hW
  go_enter Tryz.func72, Tryz.ntmps72
  go_wp2_with fail
  refine HW.out.mono ?_
  clear HW
  cases hx : Qm.whole (bl s) with
  | none =>
    rintro e w1 ⟨he, _, b3⟩
    have hz : wholeK (bl s) = 0 := by unfold wholeK; rw [hx]
    rw [hz] at he
    subst he
    have HB3 := Lib.hid (Hba.out.trans (b3 w.heap.size (Nat.le_refl _)))
    have e1 : vT s = ByteArray.empty := by unfold vT; rw [hx]
    have e2 : vE s = 4 := by unfold vE; rw [hx]
    have He1 := Lib.hid e1
    have He2 := Lib.hid e2
    clear hz hx b3 e1 e2
    go_wp2
    go_ret2
    exact ⟨ret_se He1.out.symm He2.out.symm, HB3.out⟩
  | some y =>
    obtain ⟨K, t, q⟩ := y
    rintro e w1 ⟨he, hr, b3⟩
    have hz : wholeK (bl s) = K := by unfold wholeK; rw [hx]
    rw [hz] at he
    subst he
    have hK := wholeK_pos hx
    have d1 : ((K : Int) == 0) = false := beq_eq_false_iff_ne.2 (by omega)
    obtain ⟨p, u, hp, hrd, c0, c1, c2, f1, f2, ho, hh⟩ := (hr K t q hx).cells
    have hlen := congrArg List.length hrd
    rw [List.length_drop, bl_size] at hlen
    have HB3 := Lib.hid (Hba.out.trans (b3 w.heap.size (Nat.le_refl _)))
    match q, hlen with
    | [], hlen =>
      have hps : p = s.size := by simp at hlen; omega
      subst hps
      rw [List.nil_append] at ho
      obtain ⟨x, c, rfl, hconv⟩ := conv_own ho
      have hcv := hconv 0
      simp only [World.drewN_zero] at hcv
      have dd : ((s.size : Int) != (s.size : Int)) = false := by simp
      have e1 : vT s = txt t := by unfold vT; rw [hx]
      have e2 : vE s = 0 := by unfold vE; rw [hx]
      have He1 := Lib.hid e1
      have He2 := Lib.hid e2
      clear hz hx b3 hr ho hh hrd hlen hconv e1 e2
      go_wp2
      go_ret2
      exact ⟨ret_se He1.out.symm He2.out.symm, HB3.out⟩
    | c :: q, hlen =>
      rw [List.length_cons] at hlen
      have dd : ((p : Int) != (s.size : Int)) = true := by simp; omega
      have dd2 : ((p : Int) == (s.size : Int)) = false := beq_eq_false_iff_ne.2 (by omega)
      have e1 : vT s = ByteArray.empty := by unfold vT; rw [hx]
      have e2 : vE s = 4 := by unfold vE; rw [hx]
      have He1 := Lib.hid e1
      have He2 := Lib.hid e2
      clear hz hx b3 hr ho hh hrd hlen e1 e2
      go_wp2
      go_ret2
      exact ⟨ret_se He1.out.symm He2.out.symm, HB3.out⟩
end Go.Proofs.YtklmiabgalanhaaGreatDoor

