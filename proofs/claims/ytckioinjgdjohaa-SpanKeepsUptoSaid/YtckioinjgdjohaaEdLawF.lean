/- The walk of the law SpanKeeps. -/
import Derived.Test.YtckioinjgdjohaaEdKeepMath
namespace Go.Proofs.Ytckioinjgdjohaa
open Go.RowKit Em

theorem keep_all {s : ByteArray} {L : List Ed} (hp : put L ≤ 1152921504606846976) (h : appE s L = 0) :
    (∀ p : Nat, p ≤ s.size → movO s.size L p = mvZ p p L) ∧ mvZ s.size s.size L = some ((edT s L).size : Int) ∧
    (∀ p : Nat, p < s.size → ∀ r, mvZ p p L = some r → ∃ r' : Nat, r = r' ∧ r' < (edT s L).size ∧ byN (edT s L) r' = byN s p) ∧
    (∀ p p' r r' : Int, 0 ≤ p → p < p' → mvZ p p L = some r → mvZ p' p' L = some r' → r < r') ∧
    (∀ i : Int, tk L (i + 1) = tk L i + (if (mvZ i i L).isSome = true then 0 else 1)) ∧ tk L 0 = 0 ∧ ((edT s L).size : Int) = s.size - tk L s.size + put L ∧ (edT s L).size ≤ 65536 := by
  obtain ⟨h1, h2⟩ := appE_zero h
  obtain ⟨g1, g2⟩ := errT_zero h1
  have hlen := bl_size s
  have hc : errC s.size L = 0 := by
    unfold errC errS
    rw [if_neg (by omega), if_pos g2]
  have hT := edT_size g2
  have g3 : sd (bl s).length ((0 : Nat) : Int) L = true := by rw [hlen]; exact g2
  refine ⟨fun p hpp => ?_, ?_, fun p hpp r hm => ?_, fun p p' r r' h0 hlt m1 m2 => ?_, fun i => tk_step g2, tk_none g2 (Int.le_refl _), ?_, h2⟩
  · unfold movO
    rw [if_pos ⟨hc, by omega, by omega⟩]
    exact mvW_mvZ (n := s.size) (by omega) p L p 0 g2 (by omega) (by omega) (by omega) (by omega)
  · rw [mv_end L s.size 0 g2, hT]
  · obtain ⟨r', e1, _, e3, e4⟩ := mv_byte (bl s) L 0 [] p r g3 (Nat.zero_le _) (by omega) (by simpa using hm)
    rw [List.nil_append, ← edT_bl] at e3 e4
    rw [bl_size] at e3
    exact ⟨r', e1, e3, (byN_iff e3 hpp).2 e4⟩
  · exact mv_mono L 0 0 p p' r r' g2 h0 hlt (by simpa using m1) (by simpa using m2)
  · have := tk_all g2
    have := gn_eq L
    omega

theorem mov_none {o : Option Int} (h : o = none) : movV o = .tuple #[.int .i64 0, .bool false] := by rw [h]; rfl
theorem mov_some {o : Option Int} {a : Int} (h : o = some a) : movV o = .tuple #[.int .i64 a, .bool true] := by rw [h]; rfl

set_option maxRecDepth 100000 in
set_option maxHeartbeats 8000000 in
theorem walk_SpanKeeps (s : ByteArray) (a : Option Addr) (len cap : Nat) (Z : List Ed) (w : World) (_ : s.size ≤ 1048576) (h : EdArg w a len cap Z) (hz : cap + put Z ≤ 1048576) :
    Calls Try.prog 7 #[.string s, .slice a len cap] w fun e w' => e = .returned (.bool true) ∧ Below w.heap.size w w' := by
  have hl := h.len_eq
  have hr := h.read
  have hlc := h.2.1
  have hp := put_take Z len
  generalize Z.take len = L at hl hr hp
  subst hl
  have hll : L.length * 32 ≤ 140737488355328 := by omega
  have hpp : put L ≤ 1048576 := by omega
  have hsz := sizes_of_put hpp (by omega)
  have Hr := Lib.hid hr
  have Hs := Lib.hid hsz
  clear h hr hz hp hsz
  go_enter Try.func7, Try.ntmps7
  go_wp2_with fail
  refine (fixed_any w).mono ?_
  rintro e w1 ⟨rfl, b1⟩
  have s1 := b1.size
  have R1 := Lib.hid (Hr.out.keep b1)
  have B1 := Lib.hid b1
  clear b1
  go_wp2_with fail
  refine (apply_any s a cap L w1 R1.out hll (by omega)).mono ?_
  rintro e w2 ⟨rfl, b2⟩
  have R2 := Lib.hid (R1.out.keep b2)
  have B2 := Lib.hid (B1.out.trans (b2.mono s1))
  clear b2 R1
  cases hE : (appE s L == 0) with
  | false =>
    have hE2 : (appE s L != 0) = true := by unfold bne; rw [hE]; rfl
    generalize appE s L = E at hE hE2
    generalize appR s L = T
    go_wp2
    go_ret
    exact ⟨rfl, B2.out⟩
  | true =>
    have h0 : appE s L = 0 := by simpa using hE
    have e1 : appR s L = edT s L := if_pos h0
    obtain ⟨m1, m2, m3, m4, m5, m6, m7, m8⟩ := keep_all (by omega) h0
    rw [h0, e1]
    have HM := Lib.hid (fun p w h1 => move_any s.size a cap L p w h1 (by omega) Hs.out)
    have M1 := Lib.hid m1
    have M2 := Lib.hid m2
    have M3 := Lib.hid m3
    have M4 := Lib.hid m4
    have M5 := Lib.hid m5
    have M6 := Lib.hid m6
    have M7 := Lib.hid m7
    have S2 := Lib.hid (errT_zero (appE_zero h0).1).2
    generalize edT s L = T at *
    clear hE h0 e1 m1 m2 m3 m4 m5 m6 m7
    by_cases hbig : 3000 < s.size
    · go_wp2
      go_ret
      exact ⟨rfl, B2.out⟩
    · go_wp2
      go_loopw [7, 8, 9] (fun last left i wr => ∃ (k m : Nat) (z : Int), k ≤ s.size ∧ i = .int .i64 k ∧ left = .int .i64 m ∧ (m : Int) = k - tk L k ∧ m ≤ k ∧ last = .int .i64 z ∧ (∀ (p : Nat) (r : Int), k ≤ p → p < s.size → mvZ p p L = some r → z < r) ∧ Below w2.heap.size w2 wr) (fun _ _ i _ => s.size - (intOf i).toNat)
      case atStart => exact ⟨0, 0, -1, by omega, rfl, rfl, by rw [show ((0 : Nat) : Int) = 0 from rfl, M6.out]; rfl, by omega, rfl, fun p r _ hp2 hm => by obtain ⟨r', rfl, _⟩ := M3.out p hp2 r hm; omega, Below.refl _ _⟩
      case round =>
        obtain ⟨k, m, z, hk, rfl, rfl, htk, hmk, rfl, hord, hb⟩ := hrel
        have Htk := Lib.hid htk
        have Hord := Lib.hid hord
        have R3 := Lib.hid (R2.out.keep hb)
        have Hb := Lib.hid hb
        have hgs := hb.size
        clear htk hord hb
        by_cases hlt : k < s.size
        · have hmo := M1.out k hk
          have hs5 := M5.out k
          cases hm : mvZ k k L with
          | none =>
            rw [hm] at hmo hs5
            have HK := Lib.hid (HM.out k wr R3.out)
            rw [mov_none hmo] at HK
            have Ht2 : Hid ((m : Int) = ((k + 1 : Nat) : Int) - tk L ((k + 1 : Nat) : Int)) := Lib.hid (by
              have := Htk.out
              simp at hs5
              rw [show ((k + 1 : Nat) : Int) = (k : Int) + 1 by omega, hs5]; omega)
            clear hmo hs5 hm
            go_wp2_with fail
            refine HK.out.mono ?_
            rintro e w3 ⟨rfl, b3⟩
            go_wp2
            go_roundw
            case rel => exact ⟨k + 1, m, z, by omega, by go_num, rfl, Ht2.out, by omega, rfl, fun p r h1 h2 h3 => Hord.out p r (by omega) h2 h3, Hb.out.trans (b3.mono hgs)⟩
            case measure => simp [intOf]; omega
          | some r =>
            obtain ⟨r', rfl, q1, q2⟩ := M3.out k hlt r hm
            rw [hm] at hmo hs5
            have HK := Lib.hid (HM.out k wr R3.out)
            rw [mov_some hmo] at HK
            have hz := Hord.out k r' (Nat.le_refl _) hlt hm
            have Ht2 : Hid (((m + 1 : Nat) : Int) = ((k + 1 : Nat) : Int) - tk L ((k + 1 : Nat) : Int)) := Lib.hid (by
              have := Htk.out
              simp at hs5
              rw [show ((k + 1 : Nat) : Int) = (k : Int) + 1 by omega, hs5]; omega)
            have Hnx : Hid (∀ (p : Nat) (r : Int), k + 1 ≤ p → p < s.size → mvZ p p L = some r → (r' : Int) < r) := Lib.hid (fun p r2 h1 _ h3 => M4.out k p r' r2 (by omega) (by omega) hm h3)
            have e1 := byN_get T r' q1
            have e2 := byN_get s k hlt
            rw [q2] at e1
            have l1 := byN_lt s k
            have d1 : decide ((r' : Int) ≤ z) = false := decide_eq_false (by omega)
            have d2 : decide (T.size ≤ r') = false := decide_eq_false (by omega)
            have b0 : (0 : Int) ≤ (k : Int) := by omega
            have b1 : (k : Int) < (s.size : Int) := by omega
            have b2 : (0 : Int) ≤ (r' : Int) := by omega
            have b3 : (r' : Int) < (T.size : Int) := by omega
            clear hmo hs5 hm hz q2
            generalize byN s k = B at e1 e2 l1
            have n1 : ((B : Int) != (B : Int)) = false := by simp
            go_wp2_with fail
            refine HK.out.mono ?_
            rintro e w3 ⟨rfl, b3⟩
            go_wp2
            go_quiet (fail)
            clear n1 d1 d2
            go_wp2
            go_roundw
            case rel => exact ⟨k + 1, m + 1, r', by omega, by go_num, by go_num, Ht2.out, by omega, rfl, Hnx.out, below_draw (Hb.out.trans (b3.mono hgs)) _⟩
            case measure => simp [intOf]; omega
        · have hkn : k = s.size := by omega
          have Hkn := Lib.hid hkn
          clear hkn
          obtain ⟨w3, rfl⟩ : ∃ w3 : World, w3 = wr := ⟨_, rfl⟩
          go_wp2
          go_loopw [12, 13] (fun q i wr => ∃ (j q' : Nat), j ≤ L.length ∧ i = .int .i64 j ∧ q = .int .i64 q' ∧ q' + put (L.drop j) = put L ∧ Below w3.heap.size w3 wr) (fun _ i _ => L.length - (intOf i).toNat)
          case atStart => exact ⟨0, 0, by omega, rfl, rfl, Nat.zero_add _, Below.refl _ _⟩
          case round =>
            obtain ⟨j, q, hj, rfl, rfl, hq, hb⟩ := hrel
            have Hq := Lib.hid hq
            clear hq
            by_cases hjl : j < L.length
            · obtain ⟨g, o, f, t, sx, rfl, hg, he, n2, n3, d0, d1, d2⟩ := R3.out.atN hb hjl S2.out
              have HE := Lib.hid (drop_nth hjl)
              rw [he] at HE
              have hq3 := Hq.out
              rw [HE.out] at hq3
              change q + (sx.size + put (L.drop (j + 1))) = _ at hq3
              have n4 : q + sx.size ≤ 1048576 := by omega
              have Hb5 := Lib.hid hb
              have b0 : (0 : Int) ≤ (j : Int) := by omega
              have b1 : (j : Int) < (L.length : Int) := by omega
              have Hq3 := Lib.hid hq3
              clear hb he d0 d1 hq3
              go_wp2
              go_roundw
              case rel => exact ⟨j + 1, q + sx.size, by omega, by go_num, by go_num, by have := Hq3.out; omega, Hb5.out⟩
              case measure => simp [intOf]; omega
            · have hd : L.drop j = [] := List.drop_of_length_le (by omega)
              have hq3 := Hq.out
              rw [hd] at hq3
              change q + 0 = _ at hq3
              have hmo := (M1.out s.size (Nat.le_refl _)).trans M2.out
              have HK := Lib.hid (HM.out s.size wr (R3.out.keep hb))
              rw [mov_some hmo] at HK
              have hsum : m + q = T.size := by
                have h1 := Htk.out
                have h2 := M7.out
                rw [Hkn.out] at h1
                omega
              have Hsum := Lib.hid hsum
              have Hb6 := Lib.hid (Hb.out.trans (hb.mono hgs))
              have hn1 : (((m : Int) + (q : Int)) == (T.size : Int)) = true := beq_iff_eq.2 (by omega)
              have hn2 : q ≤ 1048576 := by omega
              clear hd hq3 hmo hsum hb
              go_wp2_with fail
              refine HK.out.mono ?_
              rintro e w7 ⟨rfl, b7⟩
              have Hb7 := Lib.hid (Hb6.out.trans (b7.mono Hb6.out.size))
              clear b7
              go_wp2
              go_ret
              exact ⟨rfl, B2.out.trans (Hb7.out.mono B2.out.size)⟩
end Go.Proofs.Ytckioinjgdjohaa
