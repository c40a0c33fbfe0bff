/- The walk of the law TermBack, for lists that Show answers. -/
import Derived.Test.YtklmiabgalanhaaGreatDoorTeLawC
import Derived.Test.YtklmiabgalanhaaGreatDoorTeTree
namespace Go.Proofs.YtklmiabgalanhaaGreatDoor
open Go.Shelf Go.RowKit Em Tx Km
set_option maxRecDepth 100000
set_option linter.unusedVariables false
set_option linter.unusedSimpArgs false

/-- What Show answers: an error, or the list's text. -/
def ShA (x : Option Addr) (c : Nat) (L : List Pt) : Prop :=
  ∀ w, PtI w x L → Snt w → Calls Tryz.prog 24 #[.slice x L.length c] w fun e w' => (∃ (S : ByteArray) (E : Int), e = .returned (.tuple #[.string S, .int .i64 E]) ∧ (E = 0 → We L ∧ S = txt (txL L) ∧ (txL L).length ≤ 1048576)) ∧ Below w.heap.size w w'
theorem sha_short (x : Option Addr) (c : Nat) (L : List Pt) (hl : L.length ≤ 2097152) (hK : ∀ i, i < L.length → (nthP L i).k < 256) (hX : ∀ i, i < L.length → (nthP L i).x.size ≤ 140737488355328) : ShA x c L := by
  intro w hr hs
  by_cases hw : We L
  · refine (show_any x c L w ⟨hr, hl⟩ hw hK hX hs).mono fun e w' ⟨p, q⟩ => ⟨?_, q⟩
    by_cases hb : 1048576 < (txL L).length
    · rw [shV_long hb] at p
      exact ⟨_, _, p, fun h => by cases h⟩
    · rw [shV_ok hb] at p
      exact ⟨_, _, p, fun _ => ⟨hw, rfl, by omega⟩⟩
  · exact (show_bad x c L w ⟨hr, hl⟩ hw).mono fun e w' ⟨p, q⟩ => ⟨⟨_, _, p, fun h => by cases h⟩, by rw [q]; exact Below.refl _ _⟩
theorem flat_le : ∀ (f : Fo La), f.flat.length ≤ (f.txt txA).length ∧ ∀ p ∈ f.flat, p.1.2.size ≤ (f.txt txA).length
  | .nil => ⟨Nat.zero_le _, fun p hp => by simp [Fo.flat] at hp⟩
  | .cons a ks r => by
    obtain ⟨a1, a2⟩ := flat_le ks
    obtain ⟨b1, b2⟩ := flat_le r
    have h3 := txA_size a
    have hl : ((Fo.cons a ks r).txt txA).length = (txA a).length + (ks.txt txA).length + (r.txt txA).length + 2 := by simp [Fo.txt]; omega
    have hf : (Fo.cons a ks r).flat.length = ks.flat.length + r.flat.length + 1 := by simp [Fo.flat]
    refine ⟨by omega, fun p hp => ?_⟩
    simp only [Fo.flat, List.mem_cons, List.mem_append] at hp
    rcases hp with rfl | hp | hp
    · show a.2.size ≤ _; omega
    · have := a2 p hp; omega
    · have := b2 p hp; omega
/-- A list that is well is no longer than its text. -/
theorem txL_ge_len {L : List Pt} (hw : We L) : L.length ≤ (txL L).length ∧ ∀ i, i < L.length → (nthP L i).x.size ≤ (txL L).length := by
  obtain ⟨a, ks, h1, h2⟩ := tree_of_well hw
  have ht : txL L = trT a ks := by unfold txL trT; rw [h1, sF_tree]
  have h3 := txA_size a
  obtain ⟨b1, b2⟩ := flat_le ks
  have hl : (trT a ks).length = (txA a).length + (ks.txt txA).length + 1 := by unfold trT; simp; omega
  have hf : L.length = ks.flat.length + 1 := by
    have := congrArg List.length h1
    simpa [Fo.flat] using this
  rw [ht]
  refine ⟨by omega, fun i hi => ?_⟩
  have hm : ofP (nthP L i) ∈ L.map ofP := List.mem_map.2 ⟨nthP L i, by rw [nthP_get hi]; exact List.getElem_mem hi, rfl⟩
  rw [h1] at hm
  simp only [Fo.flat, List.mem_cons, List.append_nil] at hm
  rcases hm with e | hm
  · have : (nthP L i).x.size = a.2.size := congrArg (fun p : La × Nat => p.1.2.size) e
    omega
  · have : (nthP L i).x.size ≤ (ks.txt txA).length := b2 _ hm
    omega
/-- What Read answers to any text. -/
def RdA (s : ByteArray) (e : Ending) (B : Nat) (w' : World) : Prop :=
  (∃ E : Int, E ≠ 0 ∧ e = .returned (.tuple #[.slice none 0 0, .int .i64 E])) ∨ ∃ (M : List Pt) (y : Option Addr) (c : Nat), e = .returned (.tuple #[.slice y M.length c, .int .i64 0]) ∧ PtI w' y M ∧ rdL (bl s) = some M ∧ s.size ≤ 1048576
theorem read_all (s : ByteArray) (w : World) (h47 : s.size ≤ 140737488355328) (hs : Snt w) :
    Calls Tryz.prog 26 #[.string s] w fun e w' => RdA s e w.heap.size w' ∧ Below w.heap.size w w' := by
  by_cases h : 1048576 < s.size
  · exact (read_long s w h h47).mono fun e w' ⟨p, q⟩ => ⟨.inl ⟨2, by decide, p⟩, q⟩
  · refine (read_any s w (by omega) hs).mono fun e w' ⟨p, q⟩ => ⟨?_, q⟩
    cases hr : rdL (bl s) with
    | none => rw [hr] at p; exact .inl ⟨9, by decide, p⟩
    | some M =>
      rw [hr] at p
      obtain ⟨v, hv, ho⟩ := p
      obtain ⟨y, c, rfl, hi⟩ := ptI_own ho
      exact .inr ⟨M, y, c, hv, hi, hr, by omega⟩
set_option maxHeartbeats 8000000 in
theorem back_law (x : Option Addr) (c : Nat) (L : List Pt) (s : ByteArray) (w : World) (hs : Snt w) (hr : PtI w x L) (h47 : s.size ≤ 140737488355328) (hA : ShA x c L) (hK : ∀ i, i < L.length → (nthP L i).k < 256) :
    Calls Tryz.prog 8 #[.slice x L.length c, .string s] w fun e w' => e = .returned (.bool true) ∧ Below w.heap.size w w' := by
  have HS := Lib.hid hs
  have HR := Lib.hid hr
  have HA := Lib.hid hA
  have HK := Lib.hid hK
  clear hs hr hA hK
  go_enter Tryz.func8, Tryz.ntmps8
  go_wp2_with fail
  refine (fixed11_any _ HS.out).mono ?_
  rintro e w1 ⟨rfl, g1⟩
  have G1 := Lib.hid g1
  clear g1
  go_wp2_with fail
  refine (HA.out _ (HR.out.keep G1.out) (HS.out.keep G1.out)).mono ?_
  rintro e w2 ⟨⟨S, E, rfl, hE⟩, g2⟩
  have HE := Lib.hid hE
  have G2 := Lib.hid (G1.out.trans (g2.mono G1.out.size))
  clear hE g2
  go_upto_if 21 with fail
  go_cut [7, 8] from 22 to 40 (fun mv fv wr => Hid (Below w.heap.size w wr))
  case first =>
    by_cases h0 : E = 0
    · subst h0
      obtain ⟨hw, hS, hlen⟩ := HE.out rfl
      have hLl := (txL_ge_len hw).1
      have hrd : rdL (bl S) = some L := by rw [hS, txt_bl]; exact rdL_txL hw HK.out
      have hSs : S.size ≤ 1048576 := by rw [hS, txt_size]; exact hlen
      have Hrd := Lib.hid hrd
      clear HE hS hrd
      go_wp2_with fail
      refine (read_any S _ hSs (HS.out.keep G2.out)).mono ?_
      rintro e w3 ⟨p3, g3⟩
      rw [Hrd.out] at p3
      obtain ⟨v, rfl, ho⟩ := p3
      obtain ⟨y, cy, rfl, hi⟩ := ptI_own ho
      have G3 := Lib.hid (G2.out.trans (g3.mono G2.out.size))
      have HI := Lib.hid hi
      clear g3 ho hi
      go_wp2_with fail
      refine (psame_any y x cy c L _ HI.out (HR.out.keep G3.out) (by omega)).mono ?_
      rintro e w4 ⟨rfl, d, rfl⟩
      have G4 := Lib.hid (G3.out.trans ((drw_below d).mono G3.out.size))
      have HI4 := Lib.hid (HI.out.keep (drw_below d))
      clear HI
      generalize w3.drewN d = w4 at G4 HI4 ⊢
      go_wp2_with fail
      refine (rsame_any y x cy c L _ HI4.out (HR.out.keep G4.out) (by omega)).mono ?_
      rintro e w5 ⟨rfl, d, rfl⟩
      have G5 := Lib.hid (G4.out.trans ((drw_below d).mono G4.out.size))
      go_wp2
      go_meet
      exact G5
    · have hEb : (E == 0) = false := beq_eq_false_iff_ne.2 h0
      clear h0
      go_wp2
      go_meet
      exact G2
  case rest =>
  have GC := hcut
  clear hcut HE HA HR HK G1 G2
  go_wp2_with fail
  refine (read_all s wc h47 (HS.out.keep GC.out)).mono ?_
  rintro e w3 ⟨p3, g3⟩
  have G3 := Lib.hid (GC.out.trans (g3.mono GC.out.size))
  clear g3 GC
  rcases p3 with ⟨F, hF, rfl⟩ | ⟨M, y, cy, rfl, hi, hrd, hss⟩
  · have hFb : (F == 0) = false := beq_eq_false_iff_ne.2 hF
    clear hF
    go_wp2
    go_ret
    exact ⟨rfl, G3.out⟩
  · obtain ⟨hw, hT, hk⟩ := txL_rdL hrd
    obtain ⟨q1, q2⟩ := txL_ge_len hw
    have hbl := bl_size s
    rw [hT] at q1 q2
    have hsh : shV M = .tuple #[.string s, .int .i64 0] := by
      rw [shV_ok (by rw [hT]; omega), hT, bl_txt]
    have HShow := Lib.hid (show_any y cy M w3 ⟨hi, by omega⟩ hw hk (fun i hm => by have := q2 i hm; omega) (HS.out.keep G3.out))
    rw [hsh] at HShow
    have HI := Lib.hid hi
    have hMl : M.length ≤ 2097152 := by omega
    have HWl : Hid (∀ w', Below w3.heap.size w3 w' → Calls Tryz.prog 13 #[.slice y M.length cy] w' fun e w'' => e = .returned (.bool true) ∧ w'' = w') := Lib.hid fun w' hb => by
      have := well_any y cy M w' ⟨HI.out.keep hb, hMl⟩
      rw [decide_eq_true hw] at this; exact this
    have t2 : (s.toList == s.toList) = true := beq_self_eq_true _
    clear hi hrd hT hk q1 q2 hbl hsh hw
    go_wp2_with fail
    refine HShow.out.mono ?_
    rintro e w4 ⟨rfl, g4⟩
    have g4h := Lib.hid g4
    have G4 := Lib.hid (G3.out.trans (g4.mono G3.out.size))
    clear g4
    go_wp2_with fail
    refine (HWl.out _ g4h.out).mono ?_
    rintro e w5 ⟨rfl, rfl⟩
    go_wp2
    go_ret
    exact ⟨rfl, G4.out⟩
end Go.Proofs.YtklmiabgalanhaaGreatDoor
