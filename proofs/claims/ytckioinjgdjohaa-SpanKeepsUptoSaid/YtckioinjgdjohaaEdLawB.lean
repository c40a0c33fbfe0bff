/- The walk of the law SpanTrims. -/
import Derived.Test.YtckioinjgdjohaaEdLawA
namespace Go.Proofs.Ytckioinjgdjohaa
open Go.RowKit Em

theorem mid_split (s : List UInt8) {p q f : Nat} (h1 : p ≤ q) (h2 : q ≤ f) : (s.take f).drop p = (s.take q).drop p ++ (s.take f).drop q := by
  rw [drop_split (s.take f) h1, List.take_take, Nat.min_eq_left h2]

theorem ed_back (s : List UInt8) {p q : Nat} (hpq : p ≤ q) : ∀ {L : List Ed}, sd s.length q L = true → ed s p L = (s.take q).drop p ++ ed s q L
  | [], _ => drop_split s hpq
  | e :: l, h => by
    obtain ⟨h1, h2, h3, h4⟩ := sd_cons.1 h
    rw [ed, ed, mid_split s hpq (show q ≤ e.f.toNat by omega), List.append_assoc]

theorem tm_sd (s : ByteArray) : ∀ (L : List Ed) (p : Nat), sd s.size p L = true → sd s.size p (tmL s L) = true
  | [], _, _ => rfl
  | e :: l, p, h => by
    obtain ⟨h1, h2, h3, h4⟩ := sd_cons.1 h
    obtain ⟨f, t, x⟩ := e
    change (p : Int) ≤ f at h1
    change f ≤ t at h2
    change t ≤ s.size at h3
    change sd s.size t l = true at h4
    obtain ⟨f', rfl⟩ := Int.eq_ofNat_of_zero_le (show 0 ≤ f by omega)
    obtain ⟨t', rfl⟩ := Int.eq_ofNat_of_zero_le (show 0 ≤ t by omega)
    obtain ⟨a, b, y, hR, r1, r2, r3⟩ := trm_nat s f' t' x (by omega) (by omega)
    have ih := tm_sd s l t' h4
    unfold tmL
    rw [show trm s ⟨(f' : Int), (t' : Int), x⟩ = ⟨a, b, y⟩ from hR]
    split
    · exact sd_cons.2 ⟨by show (p : Int) ≤ a; change (p : Int) ≤ (f' : Int) at h1; omega, by show (a : Int) ≤ b; omega, by show (b : Int) ≤ _; change (t' : Int) ≤ _ at h3; omega, sd_mono ih (by show (b : Int) ≤ t'; omega)⟩
    · exact sd_mono ih (by change (p : Int) ≤ (f' : Int) at h1; change (f' : Int) ≤ (t' : Int) at h2; omega)

theorem tm_ed (s : ByteArray) : ∀ (L : List Ed) (p : Nat), sd s.size p L = true → ed (bl s) p (tmL s L) = ed (bl s) p L
  | [], _, _ => rfl
  | e :: l, p, h => by
    obtain ⟨h1, h2, h3, h4⟩ := sd_cons.1 h
    obtain ⟨f, t, x⟩ := e
    change (p : Int) ≤ f at h1
    change f ≤ t at h2
    change t ≤ s.size at h3
    change sd s.size t l = true at h4
    obtain ⟨f', rfl⟩ := Int.eq_ofNat_of_zero_le (show 0 ≤ f by omega)
    obtain ⟨t', rfl⟩ := Int.eq_ofNat_of_zero_le (show 0 ≤ t by omega)
    change (p : Int) ≤ (f' : Int) at h1
    change (f' : Int) ≤ (t' : Int) at h2
    change (t' : Int) ≤ _ at h3
    have hlen := bl_size s
    obtain ⟨q1, q2, q3, q4, _⟩ := trN_spec (bl s) f' t' (bl x) (by omega) (by omega)
    have ih := tm_ed s l t' h4
    have hs2 := tm_sd s l t' h4
    rw [← hlen] at hs2
    have hR : trm s ⟨(f' : Int), (t' : Int), x⟩ = ⟨(trN (bl s) f' t' (bl x)).1, (trN (bl s) f' t' (bl x)).2.1, ⟨(trN (bl s) f' t' (bl x)).2.2.toArray⟩⟩ := rfl
    have hR2 : ed (bl s) p (⟨(f' : Int), (t' : Int), x⟩ :: l) = ((bl s).take f').drop p ++ (bl x ++ ed (bl s) t' l) := rfl
    rw [hR2]
    unfold tmL
    rw [hR]
    generalize trN (bl s) f' t' (bl x) = r at *
    obtain ⟨a, b, y⟩ := r
    dsimp only at *
    rw [q4, ← ih]
    split
    · have e1 : ed (bl s) p (⟨(a : Int), (b : Int), ⟨y.toArray⟩⟩ :: tmL s l) = ((bl s).take a).drop p ++ (y ++ ed (bl s) b (tmL s l)) := by
        rw [ed, bl_of y]; rfl
      rw [e1, mid_split (bl s) (show p ≤ f' by omega) q1, ed_back (bl s) q3 hs2]
      simp only [List.append_assoc]
    · rename_i hc
      have hab : a = b := by omega
      have hy : y = [] := by
        have : ¬ 0 < (⟨y.toArray⟩ : ByteArray).size := fun h => hc (.inr h)
        rw [size_of] at this
        exact List.eq_nil_of_length_eq_zero (by omega)
      subst hab hy
      rw [ed_back (bl s) (show p ≤ t' by omega) hs2, mid_split (bl s) (show p ≤ f' by omega) (show f' ≤ t' by omega), mid_split (bl s) q1 q3]
      simp only [List.append_assoc, List.nil_append]

theorem tm_twice (s : ByteArray) : ∀ (L : List Ed) (p : Nat), sd s.size p L = true → tmL s (tmL s L) = tmL s L
  | [], _, _ => rfl
  | e :: l, p, h => by
    obtain ⟨h1, h2, h3, h4⟩ := sd_cons.1 h
    obtain ⟨f, t, x⟩ := e
    change (p : Int) ≤ f at h1
    change f ≤ t at h2
    change t ≤ s.size at h3
    change sd s.size t l = true at h4
    obtain ⟨f', rfl⟩ := Int.eq_ofNat_of_zero_le (show 0 ≤ f by omega)
    obtain ⟨t', rfl⟩ := Int.eq_ofNat_of_zero_le (show 0 ≤ t by omega)
    change (f' : Int) ≤ (t' : Int) at h2
    change (t' : Int) ≤ _ at h3
    have hlen := bl_size s
    obtain ⟨_, _, _, _, q5⟩ := trN_spec (bl s) f' t' (bl x) (by omega) (by omega)
    have ih := tm_twice s l t' h4
    have hR : trm s ⟨(f' : Int), (t' : Int), x⟩ = ⟨(trN (bl s) f' t' (bl x)).1, (trN (bl s) f' t' (bl x)).2.1, ⟨(trN (bl s) f' t' (bl x)).2.2.toArray⟩⟩ := rfl
    have hR2 : trm s (trm s ⟨(f' : Int), (t' : Int), x⟩) = trm s ⟨(f' : Int), (t' : Int), x⟩ := by
      rw [hR]
      unfold trm
      dsimp only
      rw [Int.toNat_natCast, Int.toNat_natCast, bl_of (trN (bl s) f' t' (bl x)).2.2, q5]
    by_cases hc : (trm s ⟨(f' : Int), (t' : Int), x⟩).f < (trm s ⟨(f' : Int), (t' : Int), x⟩).t ∨ 0 < (trm s ⟨(f' : Int), (t' : Int), x⟩).x.size
    · have e1 : tmL s (⟨(f' : Int), (t' : Int), x⟩ :: l) = trm s ⟨(f' : Int), (t' : Int), x⟩ :: tmL s l := by rw [tmL, if_pos hc]
      rw [e1, tmL, hR2, if_pos hc, ih]
    · have e1 : tmL s (⟨(f' : Int), (t' : Int), x⟩ :: l) = tmL s l := by rw [tmL, if_neg hc]
      rw [e1, ih]

theorem tm_put (s : ByteArray) : ∀ (L : List Ed) (p : Nat), sd s.size p L = true → put (tmL s L) ≤ put L
  | [], _, _ => Nat.le_refl _
  | e :: l, p, h => by
    obtain ⟨h1, h2, h3, h4⟩ := sd_cons.1 h
    obtain ⟨f, t, x⟩ := e
    change (p : Int) ≤ f at h1
    change f ≤ t at h2
    change t ≤ s.size at h3
    change sd s.size t l = true at h4
    obtain ⟨f', rfl⟩ := Int.eq_ofNat_of_zero_le (show 0 ≤ f by omega)
    obtain ⟨t', rfl⟩ := Int.eq_ofNat_of_zero_le (show 0 ≤ t by omega)
    change (f' : Int) ≤ (t' : Int) at h2
    change (t' : Int) ≤ _ at h3
    have hlen := bl_size s
    obtain ⟨_, _, _, q4, _⟩ := trN_spec (bl s) f' t' (bl x) (by omega) (by omega)
    have ih := tm_put s l t' h4
    have hl := congrArg List.length q4
    rw [List.length_append, List.length_append, bl_size] at hl
    have hsz : (trm s ⟨(f' : Int), (t' : Int), x⟩).x.size ≤ x.size := by
      show (⟨(trN (bl s) f' t' (bl x)).2.2.toArray⟩ : ByteArray).size ≤ _
      rw [size_of]; omega
    unfold tmL
    split
    · show _ + put (tmL s l) ≤ x.size + put l; omega
    · show put (tmL s l) ≤ x.size + put l; omega

theorem errT_mk {s : ByteArray} {L : List Ed} (h1 : s.size ≤ 65536) (h2 : sd s.size 0 L = true) : errT s L = 0 := by
  unfold errT errS
  rw [if_neg (by omega), if_pos h2]

/-- What is made less makes the same text. -/
theorem tm_all {s : ByteArray} {L : List Ed} (h : appE s L = 0) : errT s L = 0 ∧ errT s (tmL s L) = 0 ∧ appE s (tmL s L) = 0 ∧ appR s (tmL s L) = appR s L ∧ tmR s (tmL s L) = tmL s L ∧ tmR s L = tmL s L := by
  have h0 : errT s L = 0 := by
    by_cases hz : errT s L = 0
    · exact hz
    · unfold appE at h; rw [if_pos hz] at h; exact absurd h hz
  obtain ⟨g1, g2⟩ := errT_zero h0
  have k0 := errT_mk g1 (tm_sd s L 0 g2)
  have kt : edT s (tmL s L) = edT s L := by unfold edT; rw [tm_ed s L 0 g2]
  have ke : appE s (tmL s L) = appE s L := by
    unfold appE
    rw [k0, h0, kt]
  refine ⟨h0, k0, ke.trans h, ?_, ?_, if_pos h0⟩
  · unfold appR; rw [ke, kt]
  · unfold tmR; rw [if_pos k0]; exact tm_twice s L 0 g2

set_option maxRecDepth 100000 in
set_option maxHeartbeats 4000000 in
theorem walk_SpanTrims (s : ByteArray) (a : Option Addr) (len cap : Nat) (Z : List Ed) (w : World) (_ : s.size ≤ 1048576) (h : EdArg w a len cap Z) (hz : cap + put Z ≤ 1048576) :
    Calls Try.prog 8 #[.string s, .slice a len cap] w fun e w' => e = .returned (.bool true) ∧ Below w.heap.size w w' := by
  have hl := h.len_eq
  have hr := h.read
  have hlc := h.2.1
  have hp := put_take Z len
  generalize Z.take len = L at hl hr hp
  subst hl
  have hll : L.length * 32 ≤ 140737488355328 := by omega
  have hpp : put L ≤ 1152921504606846976 := by omega
  have hsz := sizes_of_put hpp (by omega)
  have htl : (tmR s L).length ≤ L.length := by
    unfold tmR; split
    · exact tmL_le s L
    · exact Nat.zero_le _
  have Hr := Lib.hid hr
  have Hs := Lib.hid hsz
  have Htl := Lib.hid htl
  clear h hr hz hp hsz htl
  go_enter Try.func8, Try.ntmps8
  go_wp2_with fail
  refine (trim_any s a cap L w Hr.out hll Hs.out).mono ?_
  rintro e w1 ⟨v1, rfl, o1, b1⟩
  obtain ⟨x1, c1, rfl, i1, _⟩ := edI_of_owns o1
  have s1 := b1.size
  have R1 := Lib.hid (Hr.out.keep b1)
  have I1 := Lib.hid i1
  have B1 := Lib.hid b1
  clear o1 i1 b1
  go_wp2_with fail
  refine (rtrim_any s a cap L w1 R1.out hll Hs.out).mono ?_
  rintro e w2 ⟨v2, rfl, o2, b2⟩
  obtain ⟨x2, c2, rfl, i2, _⟩ := edI_of_owns o2
  have R2 := Lib.hid (R1.out.keep b2)
  have I2 := Lib.hid (I1.out.keep b2)
  have J2 := Lib.hid i2
  have B2 := Lib.hid (B1.out.trans (b2.mono s1))
  clear o2 i2 b2
  go_wp2_with fail
  refine (fixed_any w2).mono ?_
  rintro e w3 ⟨rfl, b3⟩
  have R3 := Lib.hid (R2.out.keep b3)
  have I3 := Lib.hid (I2.out.keep b3)
  have J3 := Lib.hid (J2.out.keep b3)
  have B3 := Lib.hid (B2.out.trans (b3.mono B2.out.size))
  clear b3
  go_wp2_with fail
  refine (same_any x1 x2 c1 c2 _ w3 I3.out J3.out (by have := Htl.out; omega)).mono ?_
  rintro e w4 ⟨rfl, b4⟩
  have R4 := Lib.hid (R3.out.keep b4)
  have I4 := Lib.hid (I3.out.keep b4)
  have B4 := Lib.hid (B3.out.trans (b4.mono B3.out.size))
  clear b4 I3 J3 I2 J2 I1
  go_wp2_with fail
  refine (apply_any s a cap L w4 R4.out hll hpp).mono ?_
  rintro e w5 ⟨rfl, b5⟩
  have I5 := Lib.hid (I4.out.keep b5)
  have B5 := Lib.hid (B4.out.trans (b5.mono B4.out.size))
  clear b5
  cases hE : (appE s L == 0) with
  | false =>
    have hE2 : (appE s L != 0) = true := by unfold bne; rw [hE]; rfl
    have hz1 : (errT s L == 0) = false ∨ (errT s L == 0) = true := by cases (errT s L == 0) <;> simp
    generalize appE s L = E at hE hE2
    generalize appR s L = T
    rcases hz1 with hz1 | hz1
    · have hz2 : (errT s L != 0) = true := by unfold bne; rw [hz1]; rfl
      generalize errT s L = F at hz1 hz2
      go_wp2
      go_ret
      exact ⟨rfl, B5.out⟩
    · have hz2 : (errT s L != 0) = false := by unfold bne; rw [hz1]; rfl
      generalize errT s L = F at hz1 hz2
      go_wp2
      go_ret
      exact ⟨rfl, B5.out⟩
  | true =>
    have h0 : appE s L = 0 := by simpa using hE
    obtain ⟨q1, q2, q3, q4, q5, q6⟩ := tm_all h0
    have q7 := tm_put s L 0 (errT_zero q1).2
    have HA := Lib.hid (fun w h1 => apply_any s x1 c1 (tmR s L) w h1 (by have := Htl.out; omega) (by rw [q6]; omega))
    have HT := Lib.hid (fun w h1 => trim_any s x1 c1 (tmR s L) w h1 (by have := Htl.out; omega) (sizes_of_put (M := 1152921504606846976) (by rw [q6]; omega) (by omega)))
    rw [q6] at HA HT I5 Htl ⊢
    rw [q4, q3] at HA
    rw [q5, q2] at HT
    rw [h0, q1]
    generalize appR s L = T at HA ⊢
    generalize tmL s L = A at HA HT I5 Htl ⊢
    clear hE h0 q1 q2 q3 q4 q5 q6 q7 I4
    go_wp2_with fail
    refine (HA.out w5 I5.out).mono ?_
    rintro e w6 ⟨rfl, b6⟩
    have I6 := Lib.hid (I5.out.keep b6)
    have B6 := Lib.hid (B5.out.trans (b6.mono B5.out.size))
    clear b6
    go_wp2_with fail
    refine (HT.out w6 I6.out).mono ?_
    rintro e w7 ⟨v7, rfl, o7, b7⟩
    obtain ⟨x7, c7, rfl, i7, _⟩ := edI_of_owns o7
    have I7 := Lib.hid (I6.out.keep b7)
    have J7 := Lib.hid i7
    have B7 := Lib.hid (B6.out.trans (b7.mono B6.out.size))
    clear o7 i7 b7
    go_wp2_with fail
    refine (same_any x1 x7 c1 c7 A w7 I7.out J7.out (by have := Htl.out; omega)).mono ?_
    rintro e w8 ⟨rfl, b8⟩
    have B8 := Lib.hid (B7.out.trans (b8.mono B7.out.size))
    clear b8
    go_wp2
    go_ret
    exact ⟨rfl, B8.out⟩
end Go.Proofs.Ytckioinjgdjohaa
