/- Contracts of span.Trim and of the reference's Trim. Written by tools/gen_trims.py. -/
import Derived.Test.YtckioinjgdjohaaEdTrim
namespace Go.Proofs.Ytckioinjgdjohaa
open Go.RowKit Em

/-- Edits made less. -/
def tmL (s : ByteArray) : List Ed → List Ed
  | [] => []
  | e :: l => if (trm s e).f < (trm s e).t ∨ 0 < (trm s e).x.size then trm s e :: tmL s l else tmL s l
def tmR (s : ByteArray) (L : List Ed) : List Ed := if errT s L = 0 then tmL s L else []

theorem tmL_le (s : ByteArray) : ∀ L, (tmL s L).length ≤ L.length
  | [] => Nat.le_refl _
  | e :: l => by
    have := tmL_le s l
    unfold tmL
    split
    · simp only [List.length_cons]; omega
    · simp only [List.length_cons]; omega

theorem tm_keep {s : ByteArray} {acc L l rest : List Ed} {e r : Ed} (h : acc ++ tmL s rest = tmL s L) (he : rest = e :: l) (hr : trm s e = r) (hc : r.f < r.t ∨ 0 < r.x.size) : (acc ++ [r]) ++ tmL s l = tmL s L := by
  subst he hr
  rw [← h, tmL, if_pos hc, List.append_assoc]; rfl
theorem tm_drop {s : ByteArray} {acc L l rest : List Ed} {e r : Ed} (h : acc ++ tmL s rest = tmL s L) (he : rest = e :: l) (hr : trm s e = r) (hc : ¬ (r.f < r.t ∨ 0 < r.x.size)) : acc ++ tmL s l = tmL s L := by
  subst he hr
  rw [← h, tmL, if_neg hc]

theorem trm_nat (s : ByteArray) (f t : Nat) (x : ByteArray) (h : f ≤ t) (ht : t ≤ s.size) :
    ∃ (a b : Nat) (y : ByteArray), trm s ⟨f, t, x⟩ = ⟨a, b, y⟩ ∧ f ≤ a ∧ a ≤ b ∧ b ≤ t := by
  obtain ⟨h1, h2, h3, _⟩ := trN_spec (bl s) f t (bl x) h (by rw [bl_size]; exact ht)
  exact ⟨_, _, _, rfl, h1, h2, h3⟩

theorem new3 (w : World) (p q r : Addr) (a b c : Value) (o : Obj) : ((((w.setCell p a).setCell q b).setCell r c).alloc o).heap[w.heap.size]? = some o := by
  have h := heap_alloc_new (((w.setCell p a).setCell q b).setCell r c) o
  have e : (((w.setCell p a).setCell q b).setCell r c).heap.size = w.heap.size := by simp [World.setCell]
  rw [e] at h; exact h
theorem set3_owns {w : World} {base e size g : Nat} {v : Value} {n : Nat} {xs : List Value} (h : w.ownsRow base e size v n xs) (hne : ∀ k, v.ownBlock = some k → k ≠ g) (p q r : Value) :
    (((w.setCell ⟨g, 0, none⟩ p).setCell ⟨g, 1, none⟩ q).setCell ⟨g, 2, none⟩ r).ownsRow base e size v n xs := by
  have hn : v.ownBlock ≠ some g := fun e => hne g e rfl
  exact ownsRow_setCell_other (ownsRow_setCell_other (ownsRow_setCell_other h hn p) hn q) hn r

set_option maxRecDepth 100000 in
set_option maxHeartbeats 4000000 in
theorem trim_any (s : ByteArray) (x : Option Addr) (c : Nat) (L : List Ed) (w : World) (hr : EdI w x L) (hl : L.length * 32 ≤ 140737488355328) (hz : Sizes L) :
    Calls Try.prog 20 #[.string s, .slice x L.length c] w fun e w' => ∃ v, e = .returned (.tuple #[v, .int .i64 (errT s L)]) ∧ w'.ownsRow w.heap.size 36 3 v (tmR s L).length (eCells (tmR s L)) ∧ Below w.heap.size w w' := by
  have Hr := Lib.hid hr
  have Hz := Lib.hid hz
  obtain ⟨i0, hi, hz0, hz1, hz2⟩ := info_parts info_edit
  clear hr hz
  cases hE : (errT s L == 0) with
  | false =>
    have hne : errT s L ≠ 0 := by simpa using hE
    have hfin2 : tmR s L = [] := if_neg hne
    rw [hfin2]
    have hN : (errT s L != 0) = true := by simpa using hE
    clear hfin2 hne
    have HC := Lib.hid (scheck_any s x c L w Hr.out (by omega))
    generalize errT s L = E at hE hN HC
    go_enter Try.func20, Try.ntmps20
    go_wp2_with fail
    refine HC.out.mono ?_
    rintro e w1 ⟨rfl, hb⟩
    go_wp2
    go_ret2
    exact ⟨.slice none 0 0, rfl, World.ownsRow_nil _ _ _ _, hb⟩
  | true =>
    have h0 : errT s L = 0 := by simpa using hE
    have HC := Lib.hid (scheck_any s x c L w Hr.out (by omega))
    rw [h0] at HC ⊢
    have Hm := Lib.hid (errT_zero h0)
    have hsz := Hm.out.1
    have hfin2 : tmR s L = tmL s L := if_pos h0
    rw [hfin2]
    clear h0 hE hfin2
    go_enter Try.func20, Try.ntmps20
    go_wp2_with fail
    refine HC.out.mono ?_
    rintro e w1 ⟨rfl, hb⟩
    have Hr1 := Lib.hid (Hr.out.keep hb)
    have HB := Lib.hid hb
    have hs1 := hb.size
    clear hb HC
    go_wp2
    go_loopw [7, 18] (fun v i wr => ∃ (k k' : Nat) (acc : List Ed), k ≤ L.length ∧ k' ≤ k ∧ i = .int .i64 k ∧ acc ++ tmL s (L.drop k) = tmL s L ∧ acc.length = k' ∧ wr.ownsRow w1.heap.size 36 3 v k' (eCells acc) ∧ Below w1.heap.size w1 wr) (fun _ i _ => L.length - (intOf i).toNat)
    case atStart => exact ⟨0, 0, [], by omega, by omega, rfl, rfl, rfl, World.ownsRow_nil _ _ _ _, Below.refl _ _⟩
    case round =>
      obtain ⟨k, k', acc, hk, hkk, rfl, hsd, hacc, hown, hb⟩ := hrel
      have Hsd := Lib.hid hsd
      have Hacc := Lib.hid hacc
      clear hsd hacc
      by_cases hlt : k < L.length
      · obtain ⟨g, o, f, t, sx, rfl, hg, he, n2, n3, d0, d1, d2⟩ := Hr1.out.atN hb hlt Hm.out.2
        have HE := Lib.hid (drop_nth hlt)
        have n4 := Hz.out k hlt
        rw [he] at HE n4
        change sx.size ≤ _ at n4
        have hgs := hb.size
        have b0 : (0 : Int) ≤ (k : Int) := by omega
        have b1 : (k : Int) < (L.length : Int) := by omega
        obtain ⟨a, b, y, hR, r1, r2, r3⟩ := trm_nat s f t sx n2 n3
        have hc := trimmed_any s f t sx (wr.alloc (.cells #[.int .i64 f, .int .i64 t, .string sx] 36)) n2 n3 (by omega) n4
        rw [hR] at hc
        dsimp only [edV] at hc
        have HR := Lib.hid hR
        have hb3 := hb.alloc hgs (.cells #[.int .i64 f, .int .i64 t, .string sx] 36)
        have hbox : Box (wr.alloc (.cells #[.int .i64 f, .int .i64 t, .string sx] 36)) wr.heap.size f t sx := heap_alloc_new wr _
        have hown2 := hown.alloc (.cells #[.int .i64 f, .int .i64 t, .string sx] 36)
        have hnb : ∀ k, _ = some k → k ≠ wr.heap.size := fun k e => Nat.ne_of_lt (hown.lt k e).2
        have Hnb := Lib.hid hnb
        have Hb := Lib.hid hb3
        have Hbox := Lib.hid hbox
        clear he hR n2 n3 n4 hb hnb hb3 hbox hown
        go_wp2_with fail
        refine hc.mono ?_
        rintro e w3 ⟨rfl, hb4⟩
        clear hc d0 d1 d2
        have hbox3 := Hbox.out.keep hb4
        have k0 := hbox3.c0
        have k1 := hbox3.c1
        have k2 := hbox3.c2
        have f0 := hbox3.free 0
        have f1 := hbox3.free 1
        have f2 := hbox3.free 2
        have hbox4 := ((hbox3.set0 (f' := a)).set1 (t' := b)).set2 (y' := y)
        have hown3 := owns_below hown2 hb4
        have hown4 := set3_owns hown3 Hnb.out (.int .i64 a) (.int .i64 b) (.string y)
        have hb5 := (((Hb.out.trans (hb4.mono (by simp; omega))).setCell (p := ⟨wr.heap.size, 0, none⟩) hgs (.int .i64 a)).setCell (p := ⟨wr.heap.size, 1, none⟩) hgs (.int .i64 b)).setCell (p := ⟨wr.heap.size, 2, none⟩) hgs (.string y)
        have Hb4 := Lib.hid hb5
        have hgs4 := hb5.size
        clear hb4 hb5 hown3 hbox3 hown2
        by_cases c1 : a < b
        · have d1 : decide (a < b) = true := decide_eq_true c1
          have Hst := Lib.hid (tm_keep Hsd.out HE.out HR.out (.inl (by show (a : Int) < b; omega)))
          go_wp2_with (at_builtin; refine wpList_append_own _ rfl _ _ 22 rfl w1.heap.size 36 i0 _ 3 32 Try.underlying22 hi hz0 hz1 hz2 rfl (by decide) _ k' (eCells acc) rfl (hown4.alloc _) ⟨w3.heap.size, 0, none⟩ 1 1 [.int .i64 a, .int .i64 b, .string y] rfl rfl ?c1 ?c2 ?c3 ?c4 ?c5 ?_)
          case c1 => exact World.news_of_block (cs := #[.int .i64 a, .int .i64 b, .string y]) (t := 36) (fr := (0, 0)) (new3 _ _ _ _ _ _ _ _)
          case c2 => simp [Value.oneCell']
          case c3 => unfold maxLen; omega
          case c4 => omega
          case c5 => simp; simp [World.setCell] at hgs4; omega
          · intro v' w5 hown5 hgrow _
            have hb6 : Below w1.heap.size w1 w5 := (Hb4.out.alloc hgs4 _).grown hgrow (by simp; simp [World.setCell] at hgs4; omega) (fun k e => (hown4.lt k e).1)
            go_wp2
            go_roundw
            case rel => exact ⟨k + 1, k' + 1, _, by omega, by omega, by go_num, Hst.out, by rw [List.length_append, Hacc.out]; rfl, by rw [eCells_snoc]; exact hown5, hb6⟩
            case measure => simp [intOf]; omega
        · have d1 : decide (a < b) = false := decide_eq_false c1
          by_cases c2 : 0 < y.size
          · have hem : y.toList.isEmpty = false := by rw [empty_iff, decide_eq_false (by omega)]
            have hem2 : (!y.toList.isEmpty) = true := by rw [hem]; rfl
            have hln : decide ((0 : Int) < (y.size : Int)) = true := decide_eq_true (by omega)
            have hln2 : decide (0 < y.size) = true := decide_eq_true c2
            have Hst := Lib.hid (tm_keep Hsd.out HE.out HR.out (.inr c2))
            go_wp2_with (at_builtin; refine wpList_append_own _ rfl _ _ 22 rfl w1.heap.size 36 i0 _ 3 32 Try.underlying22 hi hz0 hz1 hz2 rfl (by decide) _ k' (eCells acc) rfl (hown4.alloc _) ⟨w3.heap.size, 0, none⟩ 1 1 [.int .i64 a, .int .i64 b, .string y] rfl rfl ?c1 ?c2 ?c3 ?c4 ?c5 ?_)
            case c1 => exact World.news_of_block (cs := #[.int .i64 a, .int .i64 b, .string y]) (t := 36) (fr := (0, 0)) (new3 _ _ _ _ _ _ _ _)
            case c2 => simp [Value.oneCell']
            case c3 => unfold maxLen; omega
            case c4 => omega
            case c5 => simp; simp [World.setCell] at hgs4; omega
            · intro v' w5 hown5 hgrow _
              have hb6 : Below w1.heap.size w1 w5 := (Hb4.out.alloc hgs4 _).grown hgrow (by simp; simp [World.setCell] at hgs4; omega) (fun k e => (hown4.lt k e).1)
              go_wp2
              go_roundw
              case rel => exact ⟨k + 1, k' + 1, _, by omega, by omega, by go_num, Hst.out, by rw [List.length_append, Hacc.out]; rfl, by rw [eCells_snoc]; exact hown5, hb6⟩
              case measure => simp [intOf]; omega
          · have hem : y.toList.isEmpty = true := by rw [empty_iff, decide_eq_true (by omega)]
            have hem2 : (!y.toList.isEmpty) = false := by rw [hem]; rfl
            have hln : decide ((0 : Int) < (y.size : Int)) = false := decide_eq_false (by omega)
            have hln2 : decide (0 < y.size) = false := decide_eq_false c2
            have Hst := Lib.hid (tm_drop Hsd.out HE.out HR.out (by show ¬ ((a : Int) < b ∨ 0 < y.size); omega))
            go_wp2
            go_roundw
            case rel => exact ⟨k + 1, k', acc, by omega, by omega, by go_num, Hst.out, Hacc.out, hown4, Hb4.out⟩
            case measure => simp [intOf]; omega
      · have hfin : acc = tmL s L := by
          have : L.drop k = [] := List.drop_of_length_le (by omega)
          rw [← Hsd.out, this]; exact (List.append_nil _).symm
        have hkl : (tmL s L).length = k' := by rw [← hfin]; exact Hacc.out
        have Hfin := Lib.hid hfin
        have Hkl := Lib.hid hkl
        clear hfin hkl
        go_wp2
        go_ret2
        refine ⟨_, rfl, ?_, HB.out.trans (hb.mono (by have := HB.out.size; omega))⟩
        rw [Hkl.out, ← Hfin.out]
        exact owns_weaken hown HB.out.size

set_option maxRecDepth 100000 in
set_option maxHeartbeats 4000000 in
theorem rtrim_any (s : ByteArray) (x : Option Addr) (c : Nat) (L : List Ed) (w : World) (hr : EdI w x L) (hl : L.length * 32 ≤ 140737488355328) (hz : Sizes L) :
    Calls Try.prog 21 #[.string s, .slice x L.length c] w fun e w' => ∃ v, e = .returned (.tuple #[v, .int .i64 (errT s L)]) ∧ w'.ownsRow w.heap.size 36 3 v (tmR s L).length (eCells (tmR s L)) ∧ Below w.heap.size w w' := by
  have Hr := Lib.hid hr
  have Hz := Lib.hid hz
  obtain ⟨i0, hi, hz0, hz1, hz2⟩ := info_parts info_edit
  clear hr hz
  by_cases h1 : 65536 < s.size
  · have h0 : errT s L = 2 := if_pos h1
    have hfin2 : tmR s L = [] := if_neg (by rw [h0]; decide)
    rw [hfin2, h0]
    clear hfin2 h0
    go_enter Try.func21, Try.ntmps21
    go_wp2
    go_ret2
    exact ⟨.slice none 0 0, rfl, World.ownsRow_nil _ _ _ _, Below.refl _ _⟩
  · have HC := Lib.hid (rstand_any s.size x c L w Hr.out (by omega))
    have ht : errT s L = errS s.size L := if_neg h1
    cases hE : sd s.size 0 L with
    | false =>
      have h0 : errT s L = 13 := by rw [ht]; exact if_neg (by rw [hE]; decide)
      have hfin2 : tmR s L = [] := if_neg (by rw [h0]; decide)
      rw [hfin2, h0]
      rw [hE] at HC
      clear hfin2 h0 ht hE
      go_enter Try.func21, Try.ntmps21
      go_wp2_with fail
      refine HC.out.mono ?_
      rintro e w1 ⟨rfl, hb⟩
      go_wp2
      go_ret2
      exact ⟨.slice none 0 0, rfl, World.ownsRow_nil _ _ _ _, hb⟩
    | true =>
      have h0 : errT s L = 0 := by rw [ht]; exact if_pos hE
      have Hm := Lib.hid (errT_zero h0)
      have hsz := Hm.out.1
      have hfin2 : tmR s L = tmL s L := if_pos h0
      rw [hfin2, h0]
      rw [hE] at HC
      clear h0 hE hfin2 ht
      go_enter Try.func21, Try.ntmps21
      go_wp2_with fail
      refine HC.out.mono ?_
      rintro e w1 ⟨rfl, hb⟩
      have Hr1 := Lib.hid (Hr.out.keep hb)
      have HB := Lib.hid hb
      have hs1 := hb.size
      clear hb HC
      go_wp2
      go_loopw [6, 7] (fun v i wr => ∃ (k k' : Nat) (acc : List Ed), k ≤ L.length ∧ k' ≤ k ∧ i = .int .i64 k ∧ acc ++ tmL s (L.drop k) = tmL s L ∧ acc.length = k' ∧ wr.ownsRow w1.heap.size 36 3 v k' (eCells acc) ∧ Below w1.heap.size w1 wr) (fun _ i _ => L.length - (intOf i).toNat)
      case atStart => exact ⟨0, 0, [], by omega, by omega, rfl, rfl, rfl, World.ownsRow_nil _ _ _ _, Below.refl _ _⟩
      case round =>
        obtain ⟨k, k', acc, hk, hkk, rfl, hsd, hacc, hown, hb⟩ := hrel
        have Hsd := Lib.hid hsd
        have Hacc := Lib.hid hacc
        clear hsd hacc
        by_cases hlt : k < L.length
        · obtain ⟨g, o, f, t, sx, rfl, hg, he, n2, n3, d0, d1, d2⟩ := Hr1.out.atN hb hlt Hm.out.2
          have HE := Lib.hid (drop_nth hlt)
          have n4 := Hz.out k hlt
          rw [he] at HE n4
          change sx.size ≤ _ at n4
          have hgs := hb.size
          have b0 : (0 : Int) ≤ (k : Int) := by omega
          have b1 : (k : Int) < (L.length : Int) := by omega
          obtain ⟨a, b, y, hR, r1, r2, r3⟩ := trm_nat s f t sx n2 n3
          have hc := rtrimmed_any s f t sx wr n2 n3 (by omega) n4
          rw [hR] at hc
          dsimp only [edV] at hc
          have HR := Lib.hid hR
          have Hb := Lib.hid hb
          clear he hR n2 n3 n4 hb
          go_wp2_with fail
          refine hc.mono ?_
          rintro e w3 ⟨rfl, hb4⟩
          clear hc d0 d1 d2
          have hown3 := owns_below hown hb4
          have hown4 := hown3.alloc (.cells #[.int .i64 a, .int .i64 b, .string y] 36)
          have hb5 := (Hb.out.trans (hb4.mono hgs)).alloc (by have := hb4.size; omega) (.cells #[.int .i64 a, .int .i64 b, .string y] 36)
          have Hb4 := Lib.hid hb5
          have hgs4 := hb5.size
          clear hb4 hb5 hown3 hown
          by_cases c1 : a < b
          · have d1 : decide (a < b) = true := decide_eq_true c1
            have x1 : ((a : Int) != b) = true := bne_iff_ne.2 (by omega)
            have x2 : ((a : Int) == b) = false := beq_eq_false_iff_ne.2 (by omega)
            have Hst := Lib.hid (tm_keep Hsd.out HE.out HR.out (.inl (by show (a : Int) < b; omega)))
            go_wp2_with (at_builtin; refine wpList_append_own _ rfl _ _ 22 rfl w1.heap.size 36 i0 _ 3 32 Try.underlying22 hi hz0 hz1 hz2 rfl (by decide) _ k' (eCells acc) rfl (hown4.alloc _) ⟨w3.heap.size + 1, 0, none⟩ 1 1 [.int .i64 a, .int .i64 b, .string y] rfl rfl ?c1 ?c2 ?c3 ?c4 ?c5 ?_)
            case c1 => exact World.news_of_block (cs := #[.int .i64 a, .int .i64 b, .string y]) (t := 36) (fr := (0, 0)) (heap_alloc2_new w3 _ _)
            case c2 => simp [Value.oneCell']
            case c3 => unfold maxLen; omega
            case c4 => omega
            case c5 => simp; simp at hgs4; omega
            · intro v' w5 hown5 hgrow _
              have hb6 : Below w1.heap.size w1 w5 := (Hb4.out.alloc hgs4 _).grown hgrow (by simp; simp at hgs4; omega) (fun k e => (hown4.lt k e).1)
              go_wp2
              go_roundw
              case rel => exact ⟨k + 1, k' + 1, _, by omega, by omega, by go_num, Hst.out, by rw [List.length_append, Hacc.out]; rfl, by rw [eCells_snoc]; exact hown5, hb6⟩
              case measure => simp [intOf]; omega
          · have d1 : decide (a < b) = false := decide_eq_false c1
            have x2 : ((a : Int) == b) = true := beq_iff_eq.2 (by omega)
            have x1 : ((a : Int) != b) = false := by unfold bne; rw [x2]; rfl
            by_cases c2 : 0 < y.size
            · have hem : y.toList.isEmpty = false := by rw [empty_iff, decide_eq_false (by omega)]
              have hem2 : (!y.toList.isEmpty) = true := by rw [hem]; rfl
              have hln : decide ((0 : Int) < (y.size : Int)) = true := decide_eq_true (by omega)
              have hln2 : decide (0 < y.size) = true := decide_eq_true c2
              have Hst := Lib.hid (tm_keep Hsd.out HE.out HR.out (.inr c2))
              go_wp2_with (at_builtin; refine wpList_append_own _ rfl _ _ 22 rfl w1.heap.size 36 i0 _ 3 32 Try.underlying22 hi hz0 hz1 hz2 rfl (by decide) _ k' (eCells acc) rfl (hown4.alloc _) ⟨w3.heap.size + 1, 0, none⟩ 1 1 [.int .i64 a, .int .i64 b, .string y] rfl rfl ?c1 ?c2 ?c3 ?c4 ?c5 ?_)
              case c1 => exact World.news_of_block (cs := #[.int .i64 a, .int .i64 b, .string y]) (t := 36) (fr := (0, 0)) (heap_alloc2_new w3 _ _)
              case c2 => simp [Value.oneCell']
              case c3 => unfold maxLen; omega
              case c4 => omega
              case c5 => simp; simp at hgs4; omega
              · intro v' w5 hown5 hgrow _
                have hb6 : Below w1.heap.size w1 w5 := (Hb4.out.alloc hgs4 _).grown hgrow (by simp; simp at hgs4; omega) (fun k e => (hown4.lt k e).1)
                go_wp2
                go_roundw
                case rel => exact ⟨k + 1, k' + 1, _, by omega, by omega, by go_num, Hst.out, by rw [List.length_append, Hacc.out]; rfl, by rw [eCells_snoc]; exact hown5, hb6⟩
                case measure => simp [intOf]; omega
            · have hem : y.toList.isEmpty = true := by rw [empty_iff, decide_eq_true (by omega)]
              have hem2 : (!y.toList.isEmpty) = false := by rw [hem]; rfl
              have hln : decide ((0 : Int) < (y.size : Int)) = false := decide_eq_false (by omega)
              have hln2 : decide (0 < y.size) = false := decide_eq_false c2
              have Hst := Lib.hid (tm_drop Hsd.out HE.out HR.out (by show ¬ ((a : Int) < b ∨ 0 < y.size); omega))
              go_wp2
              go_roundw
              case rel => exact ⟨k + 1, k', acc, by omega, by omega, by go_num, Hst.out, Hacc.out, hown4, Hb4.out⟩
              case measure => simp [intOf]; omega
        · have hfin : acc = tmL s L := by
            have : L.drop k = [] := List.drop_of_length_le (by omega)
            rw [← Hsd.out, this]; exact (List.append_nil _).symm
          have hkl : (tmL s L).length = k' := by rw [← hfin]; exact Hacc.out
          have Hfin := Lib.hid hfin
          have Hkl := Lib.hid hkl
          clear hfin hkl
          go_wp2
          go_ret2
          refine ⟨_, rfl, ?_, HB.out.trans (hb.mono (by have := HB.out.size; omega))⟩
          rw [Hkl.out, ← Hfin.out]
          exact owns_weaken hown HB.out.size
end Go.Proofs.Ytckioinjgdjohaa
