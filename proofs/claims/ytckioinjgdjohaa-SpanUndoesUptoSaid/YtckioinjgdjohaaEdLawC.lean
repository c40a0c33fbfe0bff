/- The walk of the law SpanUndoes. -/
import Derived.Test.YtckioinjgdjohaaEdUndoMath
namespace Go.Proofs.Ytckioinjgdjohaa
open Go.RowKit Em

set_option maxRecDepth 100000 in
set_option maxHeartbeats 8000000 in
theorem walk_SpanUndoes (s : ByteArray) (a : Option Addr) (len cap : Nat) (Z : List Ed) (w : World) (_ : s.size ≤ 1048576) (h : EdArg w a len cap Z) (hz : cap + put Z ≤ 1048576) :
    Calls Try.prog 6 #[.string s, .slice a len cap] w fun e w' => e = .returned (.bool true) ∧ Below w.heap.size w w' := by
  have hl := h.len_eq
  have hr := h.read
  have hlc := h.2.1
  have hp := put_take Z len
  generalize Z.take len = L at hl hr hp
  subst hl
  have hll : L.length * 32 ≤ 140737488355328 := by omega
  have hpp : put L ≤ 1152921504606846976 := by omega
  have hsz := sizes_of_put hpp (by omega)
  have hue := und_eq (s := s) hpp
  have Hr := Lib.hid hr
  have Hs := Lib.hid hsz
  have HU := Lib.hid (fun w h1 => undo_any s a cap L w h1 hll Hs.out)
  rw [hue] at HU
  clear h hr hz hp hsz hue
  go_enter Try.func6, Try.ntmps6
  go_wp2_with fail
  refine (fixed_any w).mono ?_
  rintro e w1 ⟨rfl, b1⟩
  have s1 := b1.size
  have R1 := Lib.hid (Hr.out.keep b1)
  have B1 := Lib.hid b1
  clear b1
  go_wp2_with fail
  refine (apply_any s a cap L w1 R1.out hll hpp).mono ?_
  rintro e w2 ⟨rfl, b2⟩
  have R2 := Lib.hid (R1.out.keep b2)
  have B2 := Lib.hid (B1.out.trans (b2.mono s1))
  clear b2
  go_wp2_with fail
  refine (HU.out w2 R2.out).mono ?_
  rintro e w3 ⟨v3, rfl, o3, b3⟩
  have R3 := Lib.hid (R2.out.keep b3)
  have B3 := Lib.hid (B2.out.trans (b3.mono B2.out.size))
  clear b3 R1 R2
  cases hE : (appE s L == 0) with
  | false =>
    have hne : appE s L ≠ 0 := by simpa using hE
    have e1 : appR s L = ByteArray.empty := if_neg hne
    have e2 : undR s L = [] := if_neg (by rw [und_eq hpp]; exact hne)
    have hE2 : (appE s L != 0) = true := by unfold bne; rw [hE]; rfl
    rw [e2] at o3
    obtain ⟨x3, c3, rfl, _, _⟩ := edI_of_owns o3
    rw [e1]
    generalize appE s L = E at hE hE2
    clear e1 e2 hne o3 HU
    go_wp2
    go_ret
    exact ⟨rfl, B3.out⟩
  | true =>
    have h0 : appE s L = 0 := by simpa using hE
    obtain ⟨q1, q2⟩ := und_un hpp h0
    obtain ⟨p1, p2, p3, p4, p5, p6⟩ := un_all h0
    have e1 : appR s L = edT s L := if_pos h0
    have e2 : appR (edT s L) (un (bl s) 0 L) = s := by unfold appR; rw [if_pos p1]; exact p2
    obtain ⟨r1, r2⟩ := und_un (by omega) p1
    rw [p5] at r2
    have hul := un_length (bl s) 0 L
    have hsd := (errT_zero (appE_zero h0).1).2
    have hx1 : ∀ i, i < L.length → (nthE (un (bl s) 0 L) i).x = s.extract (nthE L i).f.toNat (nthE L i).t.toNat := fun i hi => by
      rw [un_nth (bl s) L 0 i hi]; exact (extract_of s _ _).symm
    have hx2 : ∀ i, i < L.length → (nthE L i).x = (edT s L).extract (nthE (un (bl s) 0 L) i).f.toNat (nthE (un (bl s) 0 L) i).t.toNat := fun i hi => by
      have := un_nth (bl (edT s L)) (un (bl s) 0 L) 0 i (by rw [hul]; exact hi)
      rw [p5] at this
      rw [this]; exact (extract_of (edT s L) _ _).symm
    have HA := Lib.hid (fun x c w h1 => apply_any (edT s L) x c (un (bl s) 0 L) w h1 (by rw [hul]; exact hll) (by omega))
    have HV := Lib.hid (fun x c w h1 => undo_any (edT s L) x c (un (bl s) 0 L) w h1 (by rw [hul]; exact hll) (sizes_of_put (M := 65536) p4 (by omega)))
    have HK := Lib.hid (fun x c w h1 => check_any (edT s L).size x c (un (bl s) 0 L) w h1 (by rw [hul]; omega))
    rw [e2, p1] at HA
    rw [r1, r2] at HV
    rw [p3] at HK
    rw [q2] at o3
    rw [h0, e1]
    generalize edT s L = T at HA HV HK hx2 p6 ⊢
    generalize un (bl s) 0 L = U at HA HV HK hx1 hx2 p6 hul o3
    obtain ⟨x3, c3, rfl, i3, _⟩ := edI_of_owns o3
    rw [hul] at HA HV HK ⊢
    have I3 := Lib.hid i3
    have X1 := Lib.hid hx1
    have X2 := Lib.hid hx2
    have P6 := Lib.hid p6
    have Hsd := Lib.hid hsd
    have Hul := Lib.hid hul
    clear hE h0 q1 q2 p1 p2 p3 p4 p5 p6 e1 e2 r1 r2 hul hsd hx1 hx2 o3 i3 HU
    go_wp2_with fail
    refine (HA.out x3 c3 w3 I3.out).mono ?_
    rintro e w4 ⟨rfl, b4⟩
    have R4 := Lib.hid (R3.out.keep b4)
    have I4 := Lib.hid (I3.out.keep b4)
    have B4 := Lib.hid (B3.out.trans (b4.mono B3.out.size))
    clear b4 R3 I3
    go_wp2_with fail
    refine (HK.out x3 c3 w4 I4.out).mono ?_
    rintro e w5 ⟨rfl, b5⟩
    have R5 := Lib.hid (R4.out.keep b5)
    have I5 := Lib.hid (I4.out.keep b5)
    have B5 := Lib.hid (B4.out.trans (b5.mono B4.out.size))
    clear b5 R4 I4
    go_wp2
    go_loopw [11] (fun i wr => ∃ (k q : Nat), k ≤ L.length ∧ i = .int .i64 k ∧ wr = w5.drewN q) (fun i _ => L.length - (intOf i).toNat)
    case atStart => exact ⟨0, 0, by omega, rfl, rfl⟩
    case round =>
      obtain ⟨k, q, hk, rfl, rfl⟩ := hrel
      by_cases hlt : k < L.length
      · obtain ⟨g, o, f, t, sx, rfl, hg, he, n2, n3, d0, d1, d2⟩ := R5.out.atN (Below.refl _ _) hlt Hsd.out
        obtain ⟨gu, ou, fu, tu, xu, rfl, hgu, heu, m2, m3, u0, u1, u2⟩ := I5.out.atN (Below.refl _ _) (show k < U.length by rw [Hul.out]; exact hlt) P6.out
        have y1 := X1.out k hlt
        have y2 := X2.out k hlt
        rw [he, heu] at y1 y2
        change xu = s.extract f t at y1
        change sx = T.extract fu tu at y2
        subst y1 y2
        have b0 : (0 : Int) ≤ (k : Int) := by omega
        have b1 : (k : Int) < (L.length : Int) := by omega
        have b2 : (0 : Int) ≤ (f : Int) := by omega
        have b3 : (f : Int) ≤ (t : Int) := by omega
        have b4 : (t : Int) ≤ (s.size : Int) := by omega
        have b5 : (0 : Int) ≤ (fu : Int) := by omega
        have b6 : (fu : Int) ≤ (tu : Int) := by omega
        have b7 : (tu : Int) ≤ (T.size : Int) := by omega
        clear he heu
        go_wp2
        go_quiet (fail)
        go_wp2
        go_roundw
        case rel => exact ⟨k + 1, q + nq, by omega, by go_num, rfl⟩
        case measure => simp [intOf]; omega
      · have B5' := Lib.hid (below_draw B5.out q)
        have I6 := Lib.hid (I5.out.keep (below_draw (Below.refl _ _) q))
        have R6 := Lib.hid (R5.out.keep (below_draw (Below.refl _ _) q))
        go_wp2_with fail
        refine (HV.out x3 c3 (w5.drewN q) I6.out).mono ?_
        rintro e w7 ⟨v7, rfl, o7, b7⟩
        obtain ⟨x7, c7, rfl, i7, _⟩ := edI_of_owns o7
        have I7 := Lib.hid i7
        have R7 := Lib.hid (R6.out.keep b7)
        have B7 := Lib.hid (B5'.out.trans (b7.mono B5'.out.size))
        clear o7 i7 b7
        go_wp2_with fail
        refine (same_any x7 a c7 cap L w7 I7.out R7.out (by omega)).mono ?_
        rintro e w8 ⟨rfl, b8⟩
        have B8 := Lib.hid (B7.out.trans (b8.mono B7.out.size))
        clear b8
        go_wp2
        go_ret
        exact ⟨rfl, B8.out⟩
end Go.Proofs.Ytckioinjgdjohaa
