/- Contracts of quoted's reader: single, whole. -/
import Derived.Test.YtdpngmhjdafdpaaQuSev
namespace Go.Proofs.Ytdpngmhjdafdpaa
open Go.RowKit Em Go.Shelf
set_option linter.unusedVariables false
set_option linter.unusedSimpArgs false

theorem rd_keep2 {w w' : World} {g : Nat} {s : ByteArray} {r T : List UInt8} (h : Rd w g s r T) (hb : Below w.heap.size w w') : Rd w' g s r T := h.keep hb

/-- What is read at a place, in words of what is left. -/
theorem rd_at (s : ByteArray) (p : Nat) (h : p < s.size) : Qm.rd ((bl s).drop p) = if rdN s p = 0 then none else some (rdC s p, (bl s).drop (p + rdN s p)) := by
  have e : txt ((bl s).drop p) = s.extract p s.size := bl_inj (by rw [txt_bl, bl_extract, List.take_of_length_le (by rw [bl_size]; omega)])
  have hne : ((bl s).drop p).isEmpty = false := by rw [bl_drop' s p h]; rfl
  have hk := Um.okAt_tail s p
  have hd := Lib.tail_decode s p 0
  rw [Nat.add_zero] at hd
  unfold Qm.rd
  rw [e, hk, hne]
  unfold rdN rdC
  cases hok : Um.okAt s p with
  | false => simp
  | true =>
    have hpos := Um.decode_pos s p
    simp only [if_true, true_and]
    rw [if_neg (by omega), Qm.chr_def, Qm.wid_def, hd, List.drop_drop]

theorem rd_fits (s : ByteArray) (p : Nat) (h : p < s.size) : p + rdN s p ≤ s.size := by
  unfold rdN
  split
  · rename_i hk; exact Um.ok_fits h hk
  · omega
theorem rdC_ok (s : ByteArray) (p : Nat) (h : p < s.size) (h0 : rdN s p ≠ 0) : Um.okN (rdC s p) := by
  unfold rdN at h0
  unfold rdC
  split at h0
  · rename_i hk
    rw [if_pos hk]
    have ho : Utf8.decode s p ≠ (65533, 1) := by unfold Um.okAt at hk; exact of_decide_eq_true hk
    exact (Um.decode_at h ho).1
  · exact absurd rfl h0

theorem close_eq (t q : List UInt8) : Qm.close 39 t q = if hdN 39 q = true then some (t, q.tail) else none := by
  match q with
  | [] => rfl
  | c :: q =>
    by_cases h : c.toNat = 39 <;> simp [Qm.close, hdN, h]

theorem hd92 (r : List UInt8) : Nm.at1 92 r = hdN 92 r := by
  match r with
  | [] => rfl
  | c :: r =>
    unfold Nm.at1 hdN
    exact decide_eq_decide.2 ⟨fun h => by rw [h]; rfl, fun h => UInt8.toNat_inj.1 h⟩

/-- The last mark: what it makes of a reading. -/
theorem close_part {g : Nat} {s : ByteArray} {T t q : List UInt8} {x : Option (List UInt8 × List UInt8)} {w w' : World} {v : Bool} (hx : x = Qm.close 39 t q) (hv : hdN 39 q = v) (hr : Rd w' g s (bif v then q.tail else q) (T ++ t)) (hb : ∀ B, B ≤ g → Below B w w') :
    PartP g s T x w (.returned (.bool v)) w' := by
  subst hx
  rw [close_eq, hv]
  cases v with
  | true => exact ⟨rfl, (fun t' q' h => by obtain ⟨rfl, rfl⟩ := Prod.mk.inj (Option.some.inj h); exact hr), hb⟩
  | false => exact ⟨rfl, (fun t' q' h => by cases h), hb⟩

theorem part_no {g : Nat} {s : ByteArray} {T : List UInt8} {x : Option (List UInt8 × List UInt8)} {w w' : World} (hx : x = none) (hb : ∀ B, B ≤ g → Below B w w') : PartP g s T x w (.returned (.bool false)) w' := by
  subst hx; exact ⟨rfl, (fun t' q' h => by cases h), hb⟩

set_option maxHeartbeats 8000000 in
theorem single_any (g : Nat) (s : ByteArray) (r T : List UInt8) (w : World) (h : Rd w g s r T) (hs : s.size ≤ 4611686018427387000) (hT : T.length + r.length ≤ 140737488355300) :
    Calls Try.prog 49 #[.pointer (some ⟨g, 0, none⟩)] w (PartP g s T (Qm.rune r) w) := by
  cases h92 : hdN 92 r with
  | true =>
    have h1 := one_is g s r T 92 true w h (by omega) hs h92
    have hR : Qm.rune r = match Qm.esc 39 r.tail with | some (n, _, q) => Qm.close 39 (Qm.fm n) q | none => none := by unfold Qm.rune; rw [hd92, h92, if_pos rfl]; rfl
    have HR0 := Lib.hid hR
    clear hR
    have hrl : r.tail.length < r.length := by
      match r, h92 with
      | c :: r, _ => simp
    clear h
    go_enter Try.func49, Try.ntmps49
    go_wp2_with fail
    refine h1.mono ?_
    rintro e w1 ⟨rfl, k1, b1⟩
    have h2 := escape_any g s r.tail T 39 w1 k1 (.inl rfl) hs
    have Hb1 := Lib.hid b1
    clear h1 k1 b1
    go_wp2_with fail
    refine h2.mono ?_
    clear h2
    have hR := HR0.out
    clear HR0
    cases hx : Qm.esc 39 r.tail with
    | none =>
      rintro e w2 ⟨N, b, he, _, b2⟩
      rw [hx] at he hR
      simp only [Option.isSome_none] at he
      subst he
      have HR := Lib.hid hR
      have Hb2 := Lib.hid b2
      clear hR b2 hx
      go_wp2
      go_ret
      exact part_no HR.out (fun B hB => (Hb1.out B hB).trans (Hb2.out B hB))
    | some y =>
      obtain ⟨n, b', q⟩ := y
      rintro e w2 ⟨N, b, he, hsome, b2⟩
      obtain ⟨rfl, rfl, k2⟩ := hsome n b' q hx
      rw [hx] at he hR
      simp only [Option.isSome_some] at he
      subst he
      have hql := Qm.esc_rest hx
      have h4 := fm_le n
      have hsay := say_any g s q T (n : Int) w2 k2 (by omega) (formOf_le n)
      rw [formOf_fm] at hsay
      have HR := Lib.hid hR
      have Hb2 := Lib.hid b2
      clear hR b2 hx hsome k2
      go_wp2_with fail
      refine hsay.mono ?_
      rintro e w3 ⟨rfl, k3, b3⟩
      have h5 := one_is g s q (T ++ Qm.fm n) 39 _ w3 k3 (by omega) hs rfl
      have Hb3 := Lib.hid b3
      clear hsay k3 b3
      go_wp2_with fail
      refine h5.mono ?_
      rintro e w4 ⟨rfl, k4, b4⟩
      have Hk4 := Lib.hid k4
      have Hb4 := Lib.hid b4
      clear h5 k4 b4
      go_wp2
      go_ret
      exact close_part HR.out rfl Hk4.out (fun B hB => (((Hb1.out B hB).trans (Hb2.out B hB)).trans (Hb3.out B hB)).trans (Hb4.out B hB))
  | false =>
    have h1 := one_is g s r T 92 false w h (by omega) hs h92
    have hR : Qm.rune r = match Qm.rd r with | some (c, q) => if c = 39 ∨ c = 10 then none else Qm.close 39 (Qm.fm c) q | none => none := by unfold Qm.rune; rw [hd92, h92, if_neg (by simp)]; rfl
    have HR0 := Lib.hid hR
    clear hR
    clear h h92
    go_enter Try.func49, Try.ntmps49
    go_wp2_with fail
    refine h1.mono ?_
    rintro e w1 ⟨rfl, k1, b1⟩
    have Hb1 := Lib.hid b1
    simp only [cond_false] at k1
    obtain ⟨p, u, hp, hrd, c0, c1, c2, f1, f2, ho, hh⟩ := k1.cells
    have Hk1 := Lib.hid k1
    clear h1 k1 b1
    have hR := HR0.out
    clear HR0
    by_cases hps : p < s.size
    · have hat := rd_at s p hps
      rw [hrd] at hat
      have hfit := rd_fits s p hps
      have hcok := rdC_ok s p hps
      have HR1 := fun w => read_at s p w hps
      by_cases h0 : rdN s p = 0
      · rw [if_pos h0] at hat
        rw [hat] at hR
        rw [h0] at HR1
        have HR := Lib.hid hR
        clear hR hat hcok hfit h0 ho hh hrd hps
        generalize rdC s p = C at HR1
        go_wp2
        go_region_with (go_at_call 65; refine (HR1 _).mono ?_; rintro e w2 ⟨rfl, b2⟩)
        all_goals (
          go_wp2
          go_ret
          exact part_no HR.out (fun B hB => (Hb1.out B hB).trans ((below_drw (Below.refl B _) 1).trans (b2.mono (by have := Hk1.out.lt; show B ≤ w1.heap.size; omega)))))
      · rw [if_neg h0] at hat
        rw [hat] at hR
        have hc := hcok h0
        have h4 := formOf_le (rdC s p)
        have hn1 : ((rdN s p : Int) == 0) = false := beq_eq_false_iff_ne.2 (by omega)
        clear hcok
        obtain ⟨n, hn⟩ : ∃ n, rdN s p = n := ⟨_, rfl⟩
        rw [hn] at HR1 hR hfit hn1 h0
        obtain ⟨C, hC⟩ : ∃ C, rdC s p = C := ⟨_, rfl⟩
        rw [hC] at HR1 hR hc h4
        clear hat hn hC hrd
        by_cases hbad : C = 39 ∨ C = 10
        · rw [show (match some (C, (bl s).drop (p + n)) with | some (c, q) => if c = 39 ∨ c = 10 then none else Qm.close 39 (Qm.fm c) q | none => none) = (none : Option (List UInt8 × List UInt8)) from if_pos hbad] at hR
          have HR := Lib.hid hR
          clear hR ho hh hps h4 hc
          rcases hbad with rfl | rfl
          all_goals (
            go_wp2
            go_region_with (go_at_call 65; refine (HR1 _).mono ?_; rintro e w2 ⟨rfl, b2⟩)
            all_goals (
              go_wp2
              go_ret
              exact part_no HR.out (fun B hB => (Hb1.out B hB).trans ((below_drw (Below.refl B _) 1).trans (b2.mono (by have := Hk1.out.lt; show B ≤ w1.heap.size; omega))))))
        · rw [show (match some (C, (bl s).drop (p + n)) with | some (c, q) => if c = 39 ∨ c = 10 then none else Qm.close 39 (Qm.fm c) q | none => none) = Qm.close 39 (Qm.fm C) ((bl s).drop (p + n)) from if_neg hbad] at hR
          have HR := Lib.hid hR
          have q1 : ((C : Int) == 39) = false := beq_eq_false_iff_ne.2 (by omega)
          have q2 : ((C : Int) == 10) = false := beq_eq_false_iff_ne.2 (by omega)
          have Hho := Lib.hid ho
          have Hhh := Lib.hid hh
          have hTl : T.length + 4 ≤ 140737488355328 := by omega
          clear hR ho hh hps hc hbad
          go_wp2
          go_region_with (go_at_call 65; refine (HR1 _).mono ?_; rintro e w2 ⟨rfl, b2⟩)
          all_goals (
            have b3 : Below w1.heap.size w1 w2 := (below_drw (Below.refl _ w1) 1).trans b2
            have k2 := Hk1.out.keep b3
            have hh2 : w2.heap[g]? = some (.cells #[.string s, .int .i64 p, u] 41 (0, 0)) := (b3.block g Hk1.out.lt).trans Hhh.out
            have ho2 := own_below Hho.out b3
            have c1' : w2.cell? ⟨g, 1, none⟩ = some (.int .i64 p) := by rw [cell_of_row w2 g 1 _ _ _ hh2]; rfl
            have f1' : w2.frozen? ⟨g, 1, none⟩ = false := frozen_of_row w2 g 1 _ _ hh2
            have k3 := Rd.setAt hh2 ho2 (p + n) hfit
            have v1 : ((p + n : Nat) : Int) = (p : Int) + (n : Int) := by push_cast; rfl
            rw [v1] at k3
            have hsay := say_any g s _ T (C : Int) _ k3 hTl h4
            rw [formOf_fm] at hsay
            have Hb3 := Lib.hid b3
            clear k3 hh2 ho2 k2 b3 b2
            go_wp2_with fail
            refine hsay.mono ?_
            rintro e w3 ⟨rfl, k4, b4⟩
            have h5 := one_is g s _ (T ++ Qm.fm C) 39 _ w3 k4 (by omega) hs rfl
            have Hb4 := Lib.hid b4
            clear hsay k4 b4
            go_wp2_with fail
            refine h5.mono ?_
            rintro e w4 ⟨rfl, k5, b5⟩
            have Hk5 := Lib.hid k5
            have Hb5 := Lib.hid b5
            clear h5 k5 b5
            go_wp2
            go_ret
            exact close_part HR.out rfl Hk5.out (fun B hB => (((Hb1.out B hB).trans (Hb3.out.mono (by have := Hk1.out.lt; omega))).trans ((Below.refl B _).setCell hB _)).trans ((Hb4.out B hB).trans (Hb5.out B hB))))
    · have hnil : r = [] := by rw [← hrd]; exact List.drop_eq_nil_of_le (by rw [bl_size]; omega)
      subst hnil
      have hR' : Qm.rune [] = none := by rw [hR]; rfl
      have HR := Lib.hid hR'
      have HR1 := fun w => read_no s (p : Int) w (.inr (by omega))
      clear hR hR' ho hh hrd
      go_wp2
      go_region_with (go_at_call 65; refine (HR1 _).mono ?_; rintro e w2 ⟨rfl, rfl⟩)
      all_goals (
        go_wp2
        go_ret
        exact part_no HR.out (fun B hB => (Hb1.out B hB).trans (below_drw (Below.refl B _) 1)))
end Go.Proofs.Ytdpngmhjdafdpaa
