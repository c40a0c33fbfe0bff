/- Contracts of the reference's Edited and Apply. -/
import Derived.Test.YtckioinjgdjohaaEdApply
namespace Go.Proofs.Ytckioinjgdjohaa
open Go.RowKit Em

/-- Where the edit ahead of a place ends. -/
def pvT (L : List Ed) (k : Nat) : Nat := if k = 0 then 0 else (nthE L (k - 1)).t.toNat
/-- The text, edited from a place of the list on. -/
def behind (s : ByteArray) (L : List Ed) (k : Nat) : List UInt8 := (bl s).take (pvT L k) ++ ed (bl s) (pvT L k) (L.drop k)

theorem pv_step {s : ByteArray} {L : List Ed} (h : sd s.size 0 L = true) {j : Nat} (hj : j < L.length) {f t : Nat} {x : ByteArray} (he : nthE L j = ⟨f, t, x⟩) :
    pvT L j ≤ f ∧ f ≤ t ∧ t ≤ s.size ∧ pvT L (j + 1) = t := by
  have hn := sd_nth h j hj
  rw [he] at hn
  obtain ⟨n1, n2, n3⟩ := hn
  change (f : Int) ≤ t at n2
  change (t : Int) ≤ s.size at n3
  refine ⟨?_, by omega, by omega, ?_⟩
  · by_cases h0 : j = 0
    · unfold pvT; rw [if_pos h0]; omega
    · have hp : ∀ (L : List Ed) (p : Int) (j : Nat), sd s.size p L = true → j + 1 < L.length → (nthE L j).t ≤ (nthE L (j + 1)).f := by
        intro L
        induction L with
        | nil => intro p j _ hj; simp at hj
        | cons e l ih =>
          intro p j hs hj
          obtain ⟨_, _, _, g4⟩ := sd_cons.1 hs
          cases j with
          | zero =>
            have := sd_nth g4 0 (by simpa using hj)
            show e.t ≤ (nthE l 0).f
            exact this.1
          | succ j => exact ih e.t j g4 (by simpa using hj)
      have h1 := hp L 0 (j - 1) h (by omega)
      rw [show j - 1 + 1 = j by omega, he] at h1
      change (nthE L (j - 1)).t ≤ (f : Int) at h1
      unfold pvT; rw [if_neg h0]; omega
  · unfold pvT
    rw [if_neg (by omega), show j + 1 - 1 = j by omega, he]
    exact Int.toNat_natCast t

theorem behind_size {s : ByteArray} {L : List Ed} (h : sd s.size 0 L = true) {j : Nat} (hj : j < L.length) {f t : Nat} {x y : ByteArray} (he : nthE L j = ⟨f, t, x⟩) (hy : bl y = behind s L (j + 1)) : t ≤ y.size := by
  obtain ⟨_, _, h3, h4⟩ := pv_step h hj he
  rw [← bl_size, hy, behind, h4, List.length_append, List.length_take, bl_size]
  omega

theorem ed_len_le (s : List UInt8) : ∀ (L : List Ed) (p : Nat), sd s.length p L = true → p ≤ s.length → (ed s p L).length ≤ s.length - p + put L := by
  intro L p h hp
  have h1 := ed_length h hp
  have h2 := gn_eq L
  have h3 := took_le h (by omega)
  omega
theorem put_drop : ∀ (L : List Ed) (k : Nat), put (L.drop k) ≤ put L
  | [], k => by simp
  | e :: l, 0 => Nat.le_refl _
  | e :: l, k + 1 => by have := put_drop l k; show put (l.drop k) ≤ e.x.size + put l; omega
theorem sd_tail {n : Int} : ∀ {L : List Ed} {p : Int}, sd n p L = true → ∀ k, k < L.length → sd n (nthE L k).t (L.drop (k + 1)) = true
  | [], _, _, k, hk => by simp at hk
  | e :: l, p, h, k, hk => by
    obtain ⟨_, _, _, g4⟩ := sd_cons.1 h
    cases k with
    | zero => exact g4
    | succ k => exact sd_tail g4 k (by simpa using hk)
theorem behind_len {s : ByteArray} {L : List Ed} (h : sd s.size 0 L = true) {j : Nat} (hj : j < L.length) {f t : Nat} {x y : ByteArray} (he : nthE L j = ⟨f, t, x⟩) (hy : bl y = behind s L (j + 1)) : y.size ≤ s.size + put L := by
  obtain ⟨_, _, h3, h4⟩ := pv_step h hj he
  have h5 := sd_tail h j hj
  rw [he] at h5
  have h6 := ed_len_le (bl s) (L.drop (j + 1)) t (by rw [bl_size]; exact h5) (by rw [bl_size]; exact h3)
  have h7 := put_drop L (j + 1)
  rw [← bl_size y, hy, behind, h4, List.length_append, List.length_take]
  rw [bl_size] at *
  omega

theorem behind_step {s : ByteArray} {L : List Ed} (h : sd s.size 0 L = true) {j : Nat} (hj : j < L.length) {f t : Nat} {x y : ByteArray} (he : nthE L j = ⟨f, t, x⟩) (hy : bl y = behind s L (j + 1)) :
    bl (y.extract 0 f ++ x ++ y.extract t y.size) = behind s L j := by
  obtain ⟨h1, h2, h3, h4⟩ := pv_step h hj he
  have hl : ((bl s).take t).length = t := by rw [List.length_take, bl_size]; omega
  rw [bl_append, bl_append, bl_extract, bl_extract, ← bl_size, List.take_length, hy]
  unfold behind
  rw [h4, List.drop_left' hl, List.take_append_of_le_length (by omega), List.take_take, Nat.min_eq_left h2, drop_nth hj, he, ed]
  simp only [Int.toNat_natCast]
  have e := take_drop_split (bl s) h1
  rw [List.drop_zero, e]
  simp only [List.append_assoc]
  congr 1
  rw [← e]

theorem behind_all (s : ByteArray) (L : List Ed) : behind s L 0 = ed (bl s) 0 L := by
  unfold behind pvT
  rw [if_pos rfl]; rfl
theorem behind_none {s : ByteArray} {L : List Ed} : behind s L L.length = bl s := by
  unfold behind
  rw [List.drop_length, ed, List.take_append_drop]

/-- What Edited answers. -/
def edtV (s : ByteArray) (L : List Ed) : Value := if 262144 < s.size + put L then .tuple #[.string ⟨#[]⟩, .bool false] else .tuple #[.string (edT s L), .bool (decide (((edT s L).size : Int) ≤ 65536))]
theorem edtV_long {s : ByteArray} {L : List Ed} (h : 262144 < s.size + put L) : Ending.returned (.tuple #[.string ⟨#[]⟩, .bool false]) = .returned (edtV s L) := by unfold edtV; rw [if_pos h]
theorem edtV_fits {s y : ByteArray} {L : List Ed} (h : ¬ 262144 < s.size + put L) (hy : y = edT s L) : Ending.returned (.tuple #[.string y, .bool (decide ((y.size : Int) ≤ 65536))]) = .returned (edtV s L) := by unfold edtV; rw [if_neg h, hy]
theorem put_nth : ∀ (L : List Ed) (i : Nat), i < L.length → (nthE L i).x.size ≤ put L
  | [], i, hi => by simp at hi
  | e :: l, 0, _ => by show e.x.size ≤ e.x.size + put l; omega
  | e :: l, i + 1, hi => by have := put_nth l i (by simpa using hi); show (nthE l i).x.size ≤ e.x.size + put l; omega

set_option maxRecDepth 100000 in
set_option maxHeartbeats 4000000 in
theorem edited_any (s : ByteArray) (x : Option Addr) (c : Nat) (L : List Ed) (w : World) (hr : EdI w x L) (hl : L.length * 32 ≤ 140737488355328) (hp : put L ≤ 1152921504606846976) (hs : s.size ≤ 65536) (hst : sd s.size 0 L = true) :
    Calls Try.prog 29 #[.string s, .slice x L.length c] w fun e w' => e = .returned (edtV s L) ∧ Below w.heap.size w w' := by
  have Hr := Lib.hid hr
  have Hs := Lib.hid hst
  clear hr hst
  go_enter Try.func29, Try.ntmps29
  go_wp2
  go_loopw [6, 7] (fun q i wr => ∃ (k q' : Nat), k ≤ L.length ∧ i = .int .i64 k ∧ q = .int .i64 q' ∧ q' + put (L.drop k) = s.size + put L ∧ q' ≤ 262144 ∧ Below w.heap.size w wr) (fun _ i _ => L.length - (intOf i).toNat)
  case atStart => exact ⟨0, s.size, by omega, rfl, rfl, rfl, by omega, Below.refl _ _⟩
  case round =>
    obtain ⟨k, q, hk, rfl, rfl, hq, hq2, hb⟩ := hrel
    have Hq := Lib.hid hq
    clear hq
    by_cases hlt : k < L.length
    · obtain ⟨g, o, f, t, sx, rfl, hg, he, n2, n3, d0, d1, d2⟩ := Hr.out.atN hb hlt Hs.out
      have HE := Lib.hid (drop_nth hlt)
      rw [he] at HE
      have hq3 := Hq.out
      rw [HE.out] at hq3
      change q + (sx.size + put (L.drop (k + 1))) = _ at hq3
      have n4 : sx.size ≤ 4611686018427387904 := by omega
      have Hb := Lib.hid hb
      have hgs := hb.size
      have b0 : (0 : Int) ≤ (k : Int) := by omega
      have b1 : (k : Int) < (L.length : Int) := by omega
      have Hq3 := Lib.hid hq3
      clear hb he d0 d1
      by_cases hbig : 262144 < q + sx.size
      · have hc : 262144 < s.size + put L := by omega
        have Hc := Lib.hid hc
        clear hc hq3
        go_wp2
        go_ret2
        exact ⟨edtV_long Hc.out, Hb.out⟩
      · clear hq3
        go_wp2
        go_roundw
        case rel => exact ⟨k + 1, q + sx.size, by omega, by go_num, by go_num, by have := Hq3.out; omega, by omega, Hb.out⟩
        case measure => simp [intOf]; omega
    · have hd : L.drop k = [] := List.drop_of_length_le (by omega)
      have hsum := Hq.out
      rw [hd] at hsum
      change q + 0 = _ at hsum
      have hc : ¬ 262144 < s.size + put L := by omega
      have Hc := Lib.hid hc
      have Hr1 := Lib.hid (Hr.out.keep hb)
      have Hb := Lib.hid hb
      have hgs := hb.size
      clear hd hsum hc hb
      obtain ⟨w1, rfl⟩ : ∃ w1 : World, w1 = wr := ⟨_, rfl⟩
      go_wp2
      go_loopw [0, 8] (fun y i wr => ∃ (y' : ByteArray) (m : Nat), y = .string y' ∧ i = .int .i64 ((m : Int) - 1) ∧ m ≤ L.length ∧ bl y' = behind s L m ∧ Below w1.heap.size w1 wr) (fun _ i _ => (intOf i + 1).toNat)
      case atStart => exact ⟨s, L.length, rfl, rfl, Nat.le_refl _, behind_none.symm, Below.refl _ _⟩
      case round =>
        obtain ⟨y, m, rfl, rfl, hm, hy, hb⟩ := hrel
        have Hy := Lib.hid hy
        clear hy
        cases m with
        | zero =>
          have hfin : y = edT s L := bl_inj (by rw [Hy.out, behind_all, edT_bl])
          have Hfin := Lib.hid hfin
          clear hfin
          go_wp2
          go_ret2
          exact ⟨edtV_fits Hc.out Hfin.out, Hb.out.trans (hb.mono hgs)⟩
        | succ j =>
          obtain ⟨g, o, f, t, sx, rfl, hg, he, n2, n3, d0, d1, d2⟩ := Hr1.out.atN hb (show j < L.length by omega) Hs.out
          have n4 := behind_size Hs.out (show j < L.length by omega) he Hy.out
          have Hst := Lib.hid (behind_step Hs.out (show j < L.length by omega) he Hy.out)
          have Hb2 := Lib.hid hb
          have b0 : (0 : Int) ≤ (j : Int) := by omega
          have b1 : (j : Int) < (L.length : Int) := by omega
          have b2 : (0 : Int) ≤ (f : Int) := by omega
          have b3 : (f : Int) ≤ (y.size : Int) := by omega
          have b4 : (0 : Int) ≤ (t : Int) := by omega
          have b5 : (t : Int) ≤ (y.size : Int) := by omega
          have n5 := behind_len Hs.out (show j < L.length by omega) he Hy.out
          have n6 := put_nth L j (by omega)
          rw [he] at n6
          change sx.size ≤ put L at n6
          have a1 : (y.extract 0 f).size = f := by rw [ByteArray.size_extract]; omega
          have a2 : (y.extract t y.size).size = y.size - t := by rw [ByteArray.size_extract]; omega
          have a3 : ¬ 9223372036854775807 < f + sx.size := by omega
          have a4 : ¬ 9223372036854775807 < f + sx.size + (y.size - t) := by omega
          have a5 : f + sx.size ≤ 9223372036854775807 := by omega
          have a6 : f + sx.size + (y.size - t) ≤ 9223372036854775807 := by omega
          have ej : ((j + 1 : Nat) : Int) - 1 = (j : Int) := by omega
          rw [ej]
          clear he hb ej
          go_wp2
          go_quiet (fail)
          go_wp2
          go_roundw
          case rel => exact ⟨_, j, rfl, by go_num, by omega, Hst.out, below_draw Hb2.out _⟩
          case measure => simp [intOf]

set_option maxHeartbeats 2000000 in
theorem rapply_any (s : ByteArray) (x : Option Addr) (c : Nat) (L : List Ed) (w : World) (hr : EdI w x L) (hl : L.length * 32 ≤ 140737488355328) (hp : put L ≤ 1152921504606846976) :
    Calls Try.prog 15 #[.string s, .slice x L.length c] w fun e w' => e = .returned (.tuple #[.string (appR s L), .int .i64 (appE s L)]) ∧ Below w.heap.size w w' := by
  have Hr := Lib.hid hr
  clear hr
  by_cases h1 : 65536 < s.size
  · have h0 : errT s L = 2 := if_pos h1
    have e1 : appE s L = 2 := by unfold appE; rw [if_pos (by rw [h0]; decide), h0]
    have e2 : appR s L = ByteArray.empty := by unfold appR; rw [if_neg (by rw [e1]; decide)]
    rw [e1, e2]
    clear e1 e2 h0
    go_enter Try.func15, Try.ntmps15
    go_wp2
    go_ret2
    exact ⟨rfl, Below.refl _ _⟩
  · have ht : errT s L = errS s.size L := if_neg h1
    have HC := Lib.hid (rstand_any s.size x c L w Hr.out (by omega))
    cases hE : sd s.size 0 L with
    | false =>
      have h0 : errT s L = 13 := by rw [ht]; exact if_neg (by rw [hE]; decide)
      have e1 : appE s L = 13 := by unfold appE; rw [if_pos (by rw [h0]; decide), h0]
      have e2 : appR s L = ByteArray.empty := by unfold appR; rw [if_neg (by rw [e1]; decide)]
      rw [e1, e2]
      rw [hE] at HC
      clear e1 e2 h0 ht hE
      go_enter Try.func15, Try.ntmps15
      go_wp2_with fail
      refine HC.out.mono ?_
      rintro e w1 ⟨rfl, hb⟩
      go_wp2
      go_ret2
      exact ⟨rfl, hb⟩
    | true =>
      have h0 : errT s L = 0 := by rw [ht]; exact if_pos hE
      have hT := edT_size hE
      have g1 := gn_eq L
      have g2 := took_le hE (by omega)
      have HG := fun w1 h1 => edited_any s x c L w1 h1 hl hp (by omega) hE
      have e0 : appE s L = if 65536 < (edT s L).size then 2 else 0 := by unfold appE; rw [if_neg (by rw [h0]; simp)]
      by_cases h2 : 262144 < s.size + put L
      · have e1 : appE s L = 2 := by rw [e0, if_pos (by omega)]
        have e2 : appR s L = ByteArray.empty := by unfold appR; rw [if_neg (by rw [e1]; decide)]
        have e3 : edtV s L = .tuple #[.string ⟨#[]⟩, .bool false] := if_pos h2
        rw [e1, e2]
        rw [e3] at HG
        rw [hE] at HC
        have HG' := Lib.hid HG
        clear e0 e1 e2 e3 h0 ht hE HG g1 g2 hT h2
        go_enter Try.func15, Try.ntmps15
        go_wp2_with fail
        refine HC.out.mono ?_
        rintro e w1 ⟨rfl, hb⟩
        have hs1 := hb.size
        go_wp2_with fail
        refine (HG'.out w1 (Hr.out.keep hb)).mono ?_
        rintro e w2 ⟨rfl, hb2⟩
        go_wp2
        go_ret2
        exact ⟨rfl, hb.trans (hb2.mono hs1)⟩
      · have e3 : edtV s L = .tuple #[.string (edT s L), .bool (decide (((edT s L).size : Int) ≤ 65536))] := if_neg h2
        rw [e3] at HG
        rw [hE] at HC
        by_cases h3 : 65536 < (edT s L).size
        · have e1 : appE s L = 2 := by rw [e0, if_pos h3]
          have e2 : appR s L = ByteArray.empty := by unfold appR; rw [if_neg (by rw [e1]; decide)]
          have d1 : decide (((edT s L).size : Int) ≤ 65536) = false := decide_eq_false (by omega)
          rw [e1, e2]
          rw [d1] at HG
          have HG' := Lib.hid HG
          clear e0 e1 e2 e3 h0 ht hE HG g1 g2 hT h2 d1
          go_enter Try.func15, Try.ntmps15
          go_wp2_with fail
          refine HC.out.mono ?_
          rintro e w1 ⟨rfl, hb⟩
          have hs1 := hb.size
          go_wp2_with fail
          refine (HG'.out w1 (Hr.out.keep hb)).mono ?_
          rintro e w2 ⟨rfl, hb2⟩
          go_wp2
          go_ret2
          exact ⟨rfl, hb.trans (hb2.mono hs1)⟩
        · have e1 : appE s L = 0 := by rw [e0, if_neg h3]
          have e2 : appR s L = edT s L := by unfold appR; rw [if_pos e1]
          have d1 : decide (((edT s L).size : Int) ≤ 65536) = true := decide_eq_true (by omega)
          rw [e1, e2]
          rw [d1] at HG
          have HG' := Lib.hid HG
          clear e0 e1 e2 e3 h0 ht hE HG g1 g2 hT h2 d1
          go_enter Try.func15, Try.ntmps15
          go_wp2_with fail
          refine HC.out.mono ?_
          rintro e w1 ⟨rfl, hb⟩
          have hs1 := hb.size
          go_wp2_with fail
          refine (HG'.out w1 (Hr.out.keep hb)).mono ?_
          rintro e w2 ⟨rfl, hb2⟩
          go_wp2
          go_ret2
          exact ⟨rfl, hb.trans (hb2.mono hs1)⟩
end Go.Proofs.Ytckioinjgdjohaa
