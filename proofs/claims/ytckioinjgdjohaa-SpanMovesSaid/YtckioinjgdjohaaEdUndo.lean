/- Contract of span.Undo. -/
import Derived.Test.YtckioinjgdjohaaEdMove
import Derived.Deep.RegionHeld3
import Derived.Deep.AppendLies
import Derived.Laws.Pointers
import Derived.StillTactics
import Derived.OwnWalk
namespace Go.Proofs.Ytckioinjgdjohaa
open Go.RowKit Em

theorem info_edit : (Try.prog.info? 36).map (fun i => (i.zero, i.size, i.bytes)) = some (some (.agg #[.int .i64 0, .int .i64 0, .string ByteArray.empty]), 3, 32) := by kernel_rfl

theorem grown_of_below {w w' : World} (h : Below w.heap.size w w') : w.grownBy w' none := ⟨h.os, h.tape, h.output, h.size, fun k hk _ => h.block k hk⟩
theorem owns_below {w w' : World} {base : Nat} {e : TypeId} {size : Nat} {v : Value} {n : Nat} {xs : List Value} (h : w.ownsRow base e size v n xs) (hb : Below w.heap.size w w') : w'.ownsRow base e size v n xs :=
  h.kept (grown_of_below hb) (by cases v.ownBlock <;> simp)
theorem owns_weaken {w : World} {base base' : Nat} {e : TypeId} {size : Nat} {v : Value} {n : Nat} {xs : List Value} (h : w.ownsRow base e size v n xs) (hb : base' ≤ base) : w.ownsRow base' e size v n xs := by
  refine ⟨h.1, ?_⟩
  rcases h.2 with h2 | ⟨g, cap, cur, a, b, c⟩
  · exact .inl h2
  · exact .inr ⟨g, cap, cur, a, by omega, c⟩

/-- Edits as cells. -/
def eCells (l : List Ed) : List Value := l.flatMap fun e => [Value.int .i64 e.f, .int .i64 e.t, .string e.x]
theorem eCells_len : ∀ l : List Ed, (eCells l).length = l.length * 3
  | [] => rfl
  | e :: l => by
    have h : eCells (e :: l) = [Value.int .i64 e.f, .int .i64 e.t, .string e.x] ++ eCells l := rfl
    rw [h, List.length_append, eCells_len l, List.length_cons]; simp; omega
theorem eCells_snoc (l : List Ed) (e : Ed) : eCells (l ++ [e]) = eCells l ++ [Value.int .i64 e.f, .int .i64 e.t, .string e.x] := by simp [eCells]

/-- What undoes edits, reckoned as the program does. -/
def unW (s : ByteArray) : Int → List Ed → List Ed
  | _, [] => []
  | m, e :: l => ⟨wrap64 (e.f + m), IntKind.i64.wrap (wrap64 (e.f + m) + e.x.size), s.extract e.f.toNat e.t.toNat⟩ :: unW s (wrap64 (m + gr e)) l
theorem unW_len (s : ByteArray) : ∀ (m : Int) (l : List Ed), (unW s m l).length = l.length
  | _, [] => rfl
  | m, e :: l => by simp [unW, unW_len]

def undE (s : ByteArray) (L : List Ed) : Int := if errT s L ≠ 0 then errT s L else if 65536 < wrap64 (s.size + gnW 0 L) then 2 else 0
def undR (s : ByteArray) (L : List Ed) : List Ed := if undE s L = 0 then unW s 0 L else []

theorem errT_zero {s : ByteArray} {L : List Ed} (h : errT s L = 0) : s.size ≤ 65536 ∧ sd s.size 0 L = true := by
  unfold errT at h
  split at h
  · omega
  · unfold errS at h
    split at h
    · exact ⟨by omega, by assumption⟩
    · omega

/-- The cells of a place of edits that may stand, as natural numbers. -/
theorem EdI.atN {w wr : World} {x : Option Addr} {L : List Ed} (h : EdI w x L) (hb : Below w.heap.size w wr) {k : Nat} (hk : k < L.length) {n : Nat} (hs : sd n 0 L = true) :
    ∃ (g o f t : Nat) (s : ByteArray), x = some ⟨g, o, none⟩ ∧ g < w.heap.size ∧ nthE L k = ⟨f, t, s⟩ ∧ f ≤ t ∧ t ≤ n ∧ wr.cell? ⟨g, o + k * 3, none⟩ = some (.int .i64 f) ∧ wr.cell? ⟨g, o + k * 3 + 1, none⟩ = some (.int .i64 t) ∧ wr.cell? ⟨g, o + k * 3 + 2, none⟩ = some (.string s) := by
  obtain ⟨g, o, f, t, s, hx, hg, he, d0, d1, d2⟩ := h.at hb hk
  obtain ⟨n1, n2, n3⟩ := sd_nth hs k hk
  rw [he] at n1 n2 n3
  change 0 ≤ f at n1
  change f ≤ t at n2
  change t ≤ n at n3
  obtain ⟨f', rfl⟩ := Int.eq_ofNat_of_zero_le n1
  obtain ⟨t', rfl⟩ := Int.eq_ofNat_of_zero_le (show 0 ≤ t by omega)
  exact ⟨g, o, f', t', s, hx, hg, he, by omega, by omega, d0, d1, d2⟩

set_option maxRecDepth 100000 in
set_option maxHeartbeats 4000000 in
theorem undo_any (s : ByteArray) (x : Option Addr) (c : Nat) (L : List Ed) (w : World) (hr : EdI w x L) (hl : L.length * 32 ≤ 140737488355328) (hz : Sizes L) :
    Calls Try.prog 18 #[.string s, .slice x L.length c] w fun e w' => ∃ v, e = .returned (.tuple #[v, .int .i64 (undE s L)]) ∧ w'.ownsRow w.heap.size 36 3 v (undR s L).length (eCells (undR s L)) ∧ Below w.heap.size w w' := by
  have Hr := Lib.hid hr
  have Hz := Lib.hid hz
  obtain ⟨i0, hi, hz0, hz1, hz2⟩ := info_parts info_edit
  clear hr hz
  cases hE : (errT s L == 0) with
  | false =>
    have hne : errT s L ≠ 0 := by simpa using hE
    have hfin : undE s L = errT s L := if_pos hne
    have hfin2 : undR s L = [] := if_neg (by rw [hfin]; exact hne)
    rw [hfin, hfin2]
    have hN : (errT s L != 0) = true := by simpa using hE
    clear hfin hfin2 hne
    have HC := Lib.hid (scheck_any s x c L w Hr.out (by omega))
    generalize errT s L = E at hE hN HC
    go_enter Try.func18, Try.ntmps18
    go_wp2_with fail
    refine HC.out.mono ?_
    rintro e w1 ⟨rfl, hb⟩
    go_wp2
    go_ret2
    exact ⟨.slice none 0 0, rfl, World.ownsRow_nil _ _ _ _, hb⟩
  | true =>
    have h0 : errT s L = 0 := by simpa using hE
    have H0 := Lib.hid h0
    have HC := Lib.hid (scheck_any s x c L w Hr.out (by omega))
    rw [h0] at HC
    have Hm := Lib.hid (errT_zero h0)
    have hsz := Hm.out.1
    clear h0 hE
    by_cases h1 : 65536 < wrap64 (s.size + gnW 0 L)
    · have hfin : undE s L = 2 := by unfold undE; rw [if_neg (by rw [H0.out]; simp), if_pos h1]
      have hfin2 : undR s L = [] := if_neg (by rw [hfin]; decide)
      rw [hfin, hfin2]
      clear hfin hfin2
      go_enter Try.func18, Try.ntmps18
      go_wp2_with fail
      refine HC.out.mono ?_
      rintro e w1 ⟨rfl, hb⟩
      have hs1 := hb.size
      go_wp2_with fail
      refine (gain_any s.size x c L w1 (Hr.out.keep hb) (by omega) ⟨by omega, Hm.out.2, Hz.out⟩).mono ?_
      rintro e w2 ⟨rfl, hb2⟩
      generalize gnW 0 L = G at h1
      go_wp2
      go_ret2
      exact ⟨.slice none 0 0, rfl, World.ownsRow_nil _ _ _ _, hb.trans (hb2.mono hs1)⟩
    · have hfin : undE s L = 0 := by unfold undE; rw [if_neg (by rw [H0.out]; simp), if_neg h1]
      have hfin2 : undR s L = unW s 0 L := if_pos hfin
      rw [hfin, hfin2]
      clear hfin hfin2
      have h2 := Lib.hid h1
      go_enter Try.func18, Try.ntmps18
      go_wp2_with fail
      refine HC.out.mono ?_
      rintro e w1 ⟨rfl, hb⟩
      have hs1 := hb.size
      go_wp2_with fail
      refine (gain_any s.size x c L w1 (Hr.out.keep hb) (by omega) ⟨by omega, Hm.out.2, Hz.out⟩).mono ?_
      rintro e w2 ⟨rfl, hb2⟩
      generalize gnW 0 L = G at h1
      have Hr2 := Lib.hid ((Hr.out.keep hb).keep hb2)
      have hs2 := hb2.size
      have HB := Lib.hid (hb.trans (hb2.mono hs1))
      clear hb hb2 HC
      go_wp2
      clear h1
      go_loopw [7, 8, 26] (fun v m i wr => ∃ (k : Nat) (q : Int) (acc : List Ed), k ≤ L.length ∧ i = .int .i64 k ∧ m = .int .i64 q ∧ acc ++ unW s q (L.drop k) = unW s 0 L ∧ acc.length = k ∧ wr.ownsRow w2.heap.size 36 3 v k (eCells acc) ∧ Below w2.heap.size w2 wr) (fun _ _ i _ => L.length - (intOf i).toNat)
      case atStart => exact ⟨0, 0, [], by omega, rfl, rfl, rfl, rfl, World.ownsRow_nil _ _ _ _, Below.refl _ _⟩
      case round =>
        obtain ⟨k, q, acc, hk, rfl, rfl, hsd, hacc, hown, hb⟩ := hrel
        have Hsd := Lib.hid hsd
        have Hacc := Lib.hid hacc
        clear hsd hacc
        by_cases hlt : k < L.length
        · obtain ⟨g, o, f, t, sx, rfl, hg, he, n2, n3, d0, d1, d2⟩ := Hr2.out.atN hb hlt Hm.out.2
          have HE := Lib.hid (drop_nth hlt)
          have n4 := Hz.out k hlt
          rw [he] at HE n4
          change sx.size ≤ _ at n4
          have n5 : (f : Int) ≤ (t : Int) := by omega
          have n6 : (t : Int) ≤ (s.size : Int) := by omega
          have n7 : (0 : Int) ≤ (f : Int) := by omega
          have n8 : (t : Int) ≤ 4611686018427387904 := by omega
          have Hb := Lib.hid hb
          have hgs := hb.size
          have b0 : (0 : Int) ≤ (k : Int) := by omega
          have b1 : (k : Int) < (L.length : Int) := by omega
          have hst : (acc ++ [⟨wrap64 (f + q), IntKind.i64.wrap (wrap64 (f + q) + sx.size), s.extract f t⟩]) ++ unW s (wrap64 (q + gr ⟨f, t, sx⟩)) (L.drop (k + 1)) = unW s 0 L := by
            rw [← Hsd.out, HE.out, List.append_assoc]; rfl
          have Hst := Lib.hid hst
          clear hb he hst
          go_wp2
          generalize wrap64 (↑f + q) = F at Hst
          go_region_held3 (fun w' => w'.cell? ⟨wr.heap.size, 0, none⟩ = some (.int .i64 f) ∧ w'.cell? ⟨wr.heap.size, 1, none⟩ = some (.int .i64 t) ∧ w'.cell? ⟨wr.heap.size, 2, none⟩ = some (.string sx))
            (first
              | go_keep
              | (go_split_ands
                 refine ⟨?_, ?_, ?_⟩
                 · (rw [hgrow.cell_far _ (by simp; omega) (fun e => Nat.lt_irrefl _ (hown.lt _ e.symm).2)]; assumption)
                 · (rw [hgrow.cell_far _ (by simp; omega) (fun e => Nat.lt_irrefl _ (hown.lt _ e.symm).2)]; assumption)
                 · (rw [hgrow.cell_far _ (by simp; omega) (fun e => Nat.lt_irrefl _ (hown.lt _ e.symm).2)]; assumption)))
            ((refine step_append_lies _ (by rfl) _ _ _ (by rfl) w2.heap.size 36 i0 _ 3 32 Try.underlying22 hi hz0 hz1 hz2 rfl (by omega) _ k (eCells acc) (by rfl) (((hown.alloc _).alloc _).drew)
                ⟨wr.heap.size + 1, 0, none⟩ 1 1 [.int .i64 F, .int .i64 (IntKind.i64.wrap (F + sx.size)), .string (s.extract f t)] (by rfl) (by rfl) (World.news_of_block (cs := #[.int .i64 F, .int .i64 (IntKind.i64.wrap (F + sx.size)), .string (s.extract f t)]) (t := 36) (fr := (0, 0)) (heap_alloc2_new wr _ _)) (by simp [Value.oneCell'])
                (by omega) (by unfold maxLen; omega) (by omega) (by simp; omega) (wr.heap.size + 1 + 1) (by simp) ?_; intro gg cap w3 hown3 hgrow hat hlt3))
          obtain ⟨k0, k1, k2⟩ : w3.cell? ⟨wr.heap.size, 0, none⟩ = some (.int .i64 f) ∧ w3.cell? ⟨wr.heap.size, 1, none⟩ = some (.int .i64 t) ∧ w3.cell? ⟨wr.heap.size, 2, none⟩ = some (.string sx) := by assumption
          have hb3 : Below w2.heap.size w2 w3 := (below_drew ((Hb.out.alloc hgs _).alloc (by simp; omega) _)).grown hgrow (by simp; omega) (fun k e => (hown.lt k e).1)
          have Hb3 := Lib.hid hb3
          have hgs3 := hb3.size
          have Hown3 := Lib.hid hown3
          clear hgrow hat hown3 hown hb3
          go_wp2_with fail
          refine (grown_any f t sx w3 n7 n5 n8 n4).mono ?_
          rintro e w4 ⟨rfl, hb4⟩
          have Hown4 := Lib.hid (owns_below Hown3.out hb4)
          generalize gr ⟨f, t, sx⟩ = GG at Hst
          go_wp2
          go_roundw
          case rel => exact ⟨k + 1, _, _, by omega, by go_num, rfl, Hst.out, by rw [List.length_append, Hacc.out]; rfl, by rw [eCells_snoc]; exact Hown4.out, Hb3.out.trans (hb4.mono hgs3)⟩
          case measure => simp [intOf]; omega
        · have hfin : acc = unW s 0 L := by
            have : L.drop k = [] := List.drop_of_length_le (by omega)
            rw [← Hsd.out, this]; exact (List.append_nil _).symm
          have hkl : (unW s 0 L).length = k := by rw [← hfin]; exact Hacc.out
          have Hfin := Lib.hid hfin
          have Hkl := Lib.hid hkl
          clear hfin hkl
          go_wp2
          go_ret2
          refine ⟨_, rfl, ?_, HB.out.trans (hb.mono (by have := HB.out.size; omega))⟩
          rw [Hkl.out, ← Hfin.out]
          exact owns_weaken hown HB.out.size
end Go.Proofs.Ytckioinjgdjohaa
