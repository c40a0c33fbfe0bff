/- Contracts of quoted's reader: several, single. -/
import Derived.Test.YtdpngmhjdafdpaaQuRaw
namespace Go.Proofs.Ytdpngmhjdafdpaa
open Go.RowKit Em Go.Shelf
set_option linter.unusedVariables false
set_option linter.unusedSimpArgs false

/-- A character's escape is longer than its form. -/
theorem esc_wide {mark : Nat} {m : List UInt8} {n : Nat} {q : List UInt8} (h : Qm.esc mark m = some (n, false, q)) : q.length + 5 ≤ m.length := by
  match m, h with
  | c :: l, h =>
    simp only [Qm.esc] at h
    split at h
    · simp at h
    · split at h
      · split at h
        · split at h <;> simp at h
        · cases h
      · split at h
        · rename_i h3
          split at h
          · rename_i v q' hq
            split at h
            · simp only [Option.some.injEq, Prod.mk.injEq, decide_eq_false_iff_not] at h
              obtain ⟨_, h5, rfl⟩ := h
              obtain ⟨e, e1, e2, _⟩ := Qm.numA_len hq
              have hw : 4 ≤ Qm.wide c.toNat := by
                unfold Qm.wide
                rcases h3 with h3 | h3 | h3
                · rw [if_pos h3]; omega
                · rw [if_neg (by omega), if_pos h3]; omega
                · exact absurd h3 h5
              rw [e1, List.length_cons, List.length_append]; omega
            · cases h
          · cases h
        · split at h <;> simp at h

theorem fm_le (n : Nat) : (Qm.fm n).length ≤ 4 := by
  by_cases h : Um.okN n
  · rw [Qm.fm_len h]; exact (Um.len_pos n).2
  · rw [Qm.fm_none h]; simp
theorem formOf_fm (n : Nat) : bl (formOf (n : Int)) = Qm.fm n := by rw [form_same, Qm.fm_def]
theorem formOf_le (n : Nat) : (formOf (n : Int)).size ≤ 4 := by rw [← bl_size, formOf_fm]; exact fm_le n

set_option maxHeartbeats 8000000 in
theorem several_any (g : Nat) (s : ByteArray) (r T : List UInt8) (w : World) (h : Rd w g s r T) (hs : s.size ≤ 4611686018427387000) (hT : T.length + r.length ≤ 140737488355300) :
    Calls Try.prog 50 #[.pointer (some ⟨g, 0, none⟩)] w (PartP g s T (Qm.strF (r.length + 1) r) w) := by
  obtain ⟨i0, hi, hz0, hz1, hz2⟩ := info_parts info_u8
  have H := Lib.hid h
  clear h
  go_enter Try.func50, Try.ntmps50
  go_wp2
  go_loopw [10] (fun _ wr => ∃ f q T', Rd wr g s q T' ∧ q.length < f ∧ onto T' (Qm.strF f q) = onto T (Qm.strF (r.length + 1) r) ∧ T'.length + q.length ≤ T.length + r.length ∧ ∀ B, B ≤ g → Below B w wr) (fun _ wr => leftN wr g s)
  case atStart => exact ⟨r.length + 1, r, T, H.out, by omega, rfl, Nat.le_refl _, fun B _ => Below.refl _ _⟩
  case round =>
    obtain ⟨f, q, T', hr, hf, hq, hlen, hbel⟩ := hrel
    obtain ⟨f, rfl⟩ : ∃ f', f = f' + 1 := ⟨f - 1, by omega⟩
    have hleft := left_of hr
    have Hleft := Lib.hid hleft
    have Hbel := Lib.hid hbel
    have Hq := Lib.hid hq
    clear hbel hleft hq
    match q, hr, Hq, hlen, Hleft, hf with
    | [], hr, Hq, hlen, Hleft, hf =>
      have h1 := one_is g s [] T' 34 false wr hr (by omega) hs rfl
      go_wp2_with fail
      refine h1.mono ?_
      rintro e w1 ⟨rfl, k1, b1⟩
      have h1b := one_is g s [] T' 92 false w1 k1 (by omega) hs rfl
      have Hb1 := Lib.hid b1
      clear h1 k1 b1
      go_wp2_with fail
      refine h1b.mono ?_
      rintro e w1b ⟨rfl, k1, b1⟩
      have h2 := next_end g s T' w1b k1 hs
      have Hb1b := Lib.hid b1
      clear h1b k1 b1
      go_wp2_with fail
      refine h2.mono ?_
      rintro e w2 ⟨rfl, k2, b2⟩
      have Hb2 := Lib.hid b2
      clear h2 b2
      go_wp2
      go_ret
      exact part_none Hq.out (fun B hB => (((Hbel.out B hB).trans (Hb1.out B hB)).trans (Hb1b.out B hB)).trans (Hb2.out B hB))
    | c :: q, hr, Hq, hlen, Hleft, hf =>
      rw [List.length_cons] at hlen hf
      by_cases hc : c.toNat = 34
      · have h1 := one_is g s (c :: q) T' 34 true wr hr (by omega) hs (decide_eq_true hc)
        have hq2 := Hq.out
        rw [Qm.strF, if_pos hc] at hq2
        have Hq2 := Lib.hid hq2
        clear hq2
        go_wp2_with fail
        refine h1.mono ?_
        rintro e w1 ⟨rfl, k1, b1⟩
        have Hk1 := Lib.hid k1
        have Hb1 := Lib.hid b1
        clear h1 k1 b1
        go_wp2
        go_ret
        exact part_some Hq2.out (by rw [List.append_nil]; exact Hk1.out) (fun B hB => (Hbel.out B hB).trans (Hb1.out B hB))
      · have h1 := one_is g s (c :: q) T' 34 false wr hr (by omega) hs (decide_eq_false hc)
        have hq2 := Hq.out
        rw [Qm.strF, if_neg hc] at hq2
        have hcl := c.toNat_lt
        by_cases h92 : c.toNat = 92
        · rw [if_pos h92] at hq2
          go_wp2_with fail
          refine h1.mono ?_
          rintro e w1 ⟨rfl, k1, b1⟩
          have h1b := one_is g s (c :: q) T' 92 true w1 k1 (by omega) hs (decide_eq_true h92)
          have Hb1 := Lib.hid b1
          clear h1 k1 b1
          go_wp2_with fail
          refine h1b.mono ?_
          rintro e w1b ⟨rfl, k1, b1⟩
          have h2 := escape_any g s q T' 34 w1b k1 (.inr rfl) hs
          have Hb1b := Lib.hid b1
          clear h1b k1 b1
          go_wp2_with fail
          refine h2.mono ?_
          clear h2
          cases hx : Qm.esc 34 q with
          | none =>
            rintro e w2 ⟨N, b, he, _, b2⟩
            rw [hx] at he
            simp only [Option.isSome_none] at he
            subst he
            rw [hx] at hq2
            have Hq2 := Lib.hid hq2
            have Hb2 := Lib.hid b2
            clear hq2 b2 hx
            go_wp2
            go_ret
            exact part_none Hq2.out (fun B hB => (((Hbel.out B hB).trans (Hb1.out B hB)).trans (Hb1b.out B hB)).trans (Hb2.out B hB))
          | some y =>
            obtain ⟨n, b', q'⟩ := y
            rintro e w2 ⟨N, b, he, hsome, b2⟩
            obtain ⟨rfl, rfl, k2⟩ := hsome n b' q' hx
            rw [hx] at he
            simp only [Option.isSome_some] at he
            subst he
            rw [hx] at hq2
            simp only [] at hq2
            rw [onto_app] at hq2
            have hq'len := Qm.esc_rest hx
            obtain ⟨hnb, hok⟩ := Qm.esc_num (by omega) hx
            cases b with
            | true =>
              have hn := hnb rfl
              have hT3 : bCells T' ++ [.int .u8 (n : Int)] = bCells (T' ++ Qm.sayS true n) := by
                have e1 : Qm.sayS true n = [UInt8.ofNat n] := rfl
                have e2 : (UInt8.ofNat n).toNat = n := Um.toNat_ofNat hn
                rw [e1, bCells_snoc, e2]
              have hsl : (Qm.sayS true n).length = 1 := rfl
              have Hq2 := Lib.hid hq2
              have HT3 := Lib.hid hT3
              have Hsl := Lib.hid hsl
              have wn : IntKind.u8.wrap (n : Int) = (n : Int) := by rw [IntKind.wrap_u8]; omega
              have Hb2 := Lib.hid b2
              obtain ⟨p, u, hp, hrd, c0, c1, c2, f1, f2, ho, hh⟩ := k2.cells
              have hglt := k2.lt
              have hoa := ho.alloc (.cells #[.int .u8 n] 5)
              have hha : (w2.alloc (.cells #[.int .u8 n] 5)).heap[g]? = some (.cells #[.string s, .int .i64 p, u] 41 (0, 0)) := (Below.heap_alloc w2 _ g hglt).trans hh
              clear hq2 b2 hx hsome hnb hok hT3 hsl k2 hc h92
              go_wp2_with (at_builtin; refine wpList_append_own _ rfl _ _ 38 rfl (g + 1) 5 i0 (.int .u8 0) 1 1 Try.underlying38 hi hz0 hz1 hz2 rfl (by decide) _ _ _ rfl hoa ⟨w2.heap.size, 0, none⟩ 1 1 [.int .u8 n] rfl rfl ?c1 ?c2 ?c3 ?c4 ?c5 ?_)
              case c1 => exact one_cell2
              case c2 => intro u hu; simp at hu; subst hu; rfl
              case c3 => unfold maxLen; omega
              case c4 => omega
              case c5 => simp; omega
              · intro v' w3 hown3 hgrow _
                obtain ⟨x', cc, rfl⟩ := own_slice hown3
                rw [HT3.out] at hown3
                have hput := rd_put (T' := T' ++ Qm.sayS true n) hha hoa (by rw [List.length_append, Hsl.out]; exact hown3) hgrow hp hrd
                obtain ⟨m2, m3, K, B⟩ := hput
                have HK := Lib.hid K
                have HB := Lib.hid B
                have hl3 := Lib.hid (left_of K)
                clear K B hown3 hgrow hoa hha ho hh
                go_wp2
                go_roundw
                case rel => exact ⟨f, q', T' ++ Qm.sayS true n, HK.out, by omega, Hq2.out, by rw [List.length_append, Hsl.out]; omega, fun B hB => ((((Hbel.out B hB).trans (Hb1.out B hB)).trans (Hb1b.out B hB)).trans (Hb2.out B hB)).trans (((Below.refl B _).alloc (by omega) _).trans (HB.out B hB))⟩
                case measure => rw [hl3.out, Hleft.out, List.length_cons]; omega
            | false =>
              have hwd := esc_wide hx
              have h4 := fm_le n
              have hsay := say_any g s q' T' (n : Int) w2 k2 (by omega) (formOf_le n)
              rw [formOf_fm] at hsay
              have hT3 : T' ++ Qm.sayS false n = T' ++ Qm.fm n := rfl
              rw [hT3] at hq2
              have Hq2 := Lib.hid hq2
              have Hb2 := Lib.hid b2
              clear hq2 b2 hx hsome hnb hok hT3 k2 hc h92
              go_wp2_with fail
              refine hsay.mono ?_
              rintro e w3 ⟨rfl, k3, b3⟩
              have Hk3 := Lib.hid k3
              have Hb3 := Lib.hid b3
              have hl3 := Lib.hid (left_of k3)
              clear hsay k3 b3
              go_wp2
              go_roundw
              case rel => exact ⟨f, q', T' ++ Qm.fm n, Hk3.out, by omega, Hq2.out, by rw [List.length_append]; omega, fun B hB => ((((Hbel.out B hB).trans (Hb1.out B hB)).trans (Hb1b.out B hB)).trans (Hb2.out B hB)).trans (Hb3.out B hB)⟩
              case measure => rw [hl3.out, Hleft.out, List.length_cons]; omega
        · rw [if_neg h92] at hq2
          go_wp2_with fail
          refine h1.mono ?_
          rintro e w1 ⟨rfl, k1, b1⟩
          have h1b := one_is g s (c :: q) T' 92 false w1 k1 (by omega) hs (decide_eq_false h92)
          have Hb1 := Lib.hid b1
          clear h1 k1 b1
          go_wp2_with fail
          refine h1b.mono ?_
          rintro e w1b ⟨rfl, k1, b1⟩
          have h2 := next_some g s c q T' w1b k1 hs
          have Hb1b := Lib.hid b1
          clear h1b k1 b1
          by_cases h10 : c.toNat = 10
          · rw [if_pos h10] at hq2
            rw [h10] at h2
            have Hq2 := Lib.hid hq2
            clear hq2 hc h92
            go_wp2_with fail
            refine h2.mono ?_
            rintro e w2 ⟨rfl, k2, b2⟩
            have Hb2 := Lib.hid b2
            clear h2 b2 k2
            go_wp2
            go_ret
            exact part_none Hq2.out (fun B hB => (((Hbel.out B hB).trans (Hb1.out B hB)).trans (Hb1b.out B hB)).trans (Hb2.out B hB))
          · rw [if_neg h10, onto_cons] at hq2
            have Hq2 := Lib.hid hq2
            have hd : ((c.toNat : Int) != 10) = true := by simp; omega
            have hd2 : ((c.toNat : Int) == 10) = false := beq_eq_false_iff_ne.2 (by omega)
            clear hq2 hc h92 h10
            obtain ⟨C, hC⟩ : ∃ C, c.toNat = C := ⟨_, rfl⟩
            rw [hC] at h2 hd hd2 hcl
            have HC := Lib.hid hC
            clear hC
            go_wp2_with fail
            refine h2.mono ?_
            rintro e w2 ⟨rfl, k2, b2⟩
            have Hb2 := Lib.hid b2
            obtain ⟨p, u, hp, hrd, c0, c1, c2, f1, f2, ho, hh⟩ := k2.cells
            have hglt := k2.lt
            have hoa := ho.alloc (.cells #[.int .u8 C] 5)
            have hha : (w2.alloc (.cells #[.int .u8 C] 5)).heap[g]? = some (.cells #[.string s, .int .i64 p, u] 41 (0, 0)) := (Below.heap_alloc w2 _ g hglt).trans hh
            clear h2 b2 k2
            go_wp2_with (at_builtin; refine wpList_append_own _ rfl _ _ 38 rfl (g + 1) 5 i0 (.int .u8 0) 1 1 Try.underlying38 hi hz0 hz1 hz2 rfl (by decide) _ _ _ rfl hoa ⟨w2.heap.size, 0, none⟩ 1 1 [.int .u8 C] rfl rfl ?c1 ?c2 ?c3 ?c4 ?c5 ?_)
            case c1 => exact one_cell2
            case c2 => intro u hu; simp at hu; subst hu; rfl
            case c3 => unfold maxLen; omega
            case c4 => omega
            case c5 => simp; omega
            · intro v' w3 hown3 hgrow _
              obtain ⟨x', cc, rfl⟩ := own_slice hown3
              have hT3 : bCells T' ++ [.int .u8 (C : Int)] = bCells (T' ++ [c]) := by rw [bCells_snoc, HC.out]
              rw [hT3] at hown3
              have hput := rd_put (T' := T' ++ [c]) hha hoa (by rw [List.length_append]; exact hown3) hgrow hp hrd
              obtain ⟨m2, m3, K, B⟩ := hput
              have HK := Lib.hid K
              have HB := Lib.hid B
              have hl3 := Lib.hid (left_of K)
              clear K B hown3 hgrow hoa hha ho hh hT3
              go_wp2
              go_roundw
              case rel => exact ⟨f, q, T' ++ [c], HK.out, by omega, Hq2.out, by rw [List.length_append, List.length_singleton]; omega, fun B hB => ((((Hbel.out B hB).trans (Hb1.out B hB)).trans (Hb1b.out B hB)).trans (Hb2.out B hB)).trans (((Below.refl B _).alloc (by omega) _).trans (HB.out B hB))⟩
              case measure => rw [hl3.out, Hleft.out, List.length_cons]; omega
end Go.Proofs.Ytdpngmhjdafdpaa
