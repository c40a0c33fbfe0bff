/- class.Name and the reference's Name. -/
import Derived.Test.YtlmhcjomegiibaaBase
import Derived.Test.YtlmhcjomegiibaaLawBad
namespace Go.Proofs.Ytlmhcjomegiibaa
open Go.RowKit

def letterN (c : Nat) : Bool := Cm.inB Cm.letters c
def digitN (c : Nat) : Bool := Cm.inB Cm.digits c
def tailOk (L : List Nat) : Bool := L.all fun c => letterN c || digitN c
def nameOk : List Nat → Bool
  | [] => false
  | c :: L => letterN c && tailOk L
/-- What Name answers. -/
def nameB (s : ByteArray) : Bool := Um.allB s && !isWord s && nameOk (Um.allC s)

theorem tail_cons (c : Nat) (L : List Nat) : tailOk (c :: L) = ((letterN c || digitN c) && tailOk L) := rfl

theorem empty_iff (s : ByteArray) : s.toList.isEmpty = decide (s.size = 0) := by
  rw [Um.toList_eq]
  have : s.data.toList.length = s.size := by rw [Array.length_toList]; rfl
  cases h : s.data.toList with
  | nil =>
    rw [h] at this
    rw [decide_eq_true (by simpa using this.symm)]; rfl
  | cons a b =>
    rw [h, List.length_cons] at this
    rw [decide_eq_false (by omega)]; rfl

theorem name_empty (s : ByteArray) (w : World) (h : s.size = 0) :
    Calls Try.prog 36 #[.string s] w fun e w' => e = .returned (.bool false) ∧ w = w' := by
  have e : s.toList.isEmpty = true := by rw [empty_iff, decide_eq_true h]
  go_enter Try.func36, Try.ntmps36
  go_wp2
  go_ret
  exact ⟨rfl, rfl⟩

theorem name_bad (s : ByteArray) (w : World) (h0 : 0 < s.size) (h : Um.allB s = false) :
    Calls Try.prog 36 #[.string s] w fun e w' => e = .returned (.bool false) ∧ Below w.heap.size w w' := by
  have e : s.toList.isEmpty = false := by rw [empty_iff, decide_eq_false (by omega)]
  have hb := Um.bad_nonneg h
  clear h
  go_enter Try.func36, Try.ntmps36
  go_wp2_with fail
  refine (bad_any s w).mono ?_
  rintro e w1 ⟨rfl, g1⟩
  go_wp2
  go_ret
  exact ⟨rfl, g1⟩

theorem name_word (s : ByteArray) (w : World) (h0 : 0 < s.size) (h : Um.allB s = true) (hw : isWord s = true) :
    Calls Try.prog 36 #[.string s] w fun e w' => e = .returned (.bool false) ∧ Below w.heap.size w w' := by
  have e : s.toList.isEmpty = false := by rw [empty_iff, decide_eq_false (by omega)]
  have H := fun wx => bad_any s wx
  rw [Um.good_bad h] at H
  clear h
  go_enter Try.func36, Try.ntmps36
  go_wp2_with fail
  refine (H w).mono ?_
  rintro e w1 ⟨rfl, g1⟩
  go_wp2_with fail
  refine (word_any s w1).mono ?_
  rw [hw]
  rintro e w2 ⟨rfl, rfl⟩
  go_wp2
  go_ret
  exact ⟨rfl, g1⟩

set_option maxHeartbeats 2000000 in
theorem name_walk (s : ByteArray) (w : World) (h0 : 0 < s.size) (h : Um.allB s = true) (hw : isWord s = false) :
    Calls Try.prog 36 #[.string s] w fun e w' => e = .returned (.bool (nameOk (Um.allC s))) ∧ Below w.heap.size w w' := by
  have e : s.toList.isEmpty = false := by rw [empty_iff, decide_eq_false (by omega)]
  have H := fun wx => bad_any s wx
  have hr := Um.reads_all h
  have hne : Um.allC s ≠ [] := by
    intro e0
    rw [e0] at hr
    unfold Um.Reads at hr
    omega
  rw [Um.good_bad h] at H
  clear h
  generalize Um.allC s = A at hr hne
  go_enter Try.func36, Try.ntmps36
  go_wp2_with fail
  refine (H w).mono ?_
  rintro e w1 ⟨rfl, g1⟩
  go_wp2_with fail
  refine (word_any s w1).mono ?_
  rw [hw]
  rintro e w2 ⟨rfl, rfl⟩
  have s1 := g1.size
  have hb0 : Below w.heap.size w (w1.iter s 0) := g1.trans ((Below.refl _ _).alloc s1 _)
  have hk0 := World.iter_heap w1 s 0
  have hlt0 : w1.heap.size < (w1.iter s 0).heap.size := (Array.getElem?_eq_some_iff.1 hk0).1
  clear H hw
  go_wp2
  go_loopw [] (fun wr => ∃ pos : Nat, ∃ R : List Nat, wr.heap[w1.heap.size]? = some (.stringIter s pos) ∧ Um.Reads s pos R ∧ ((pos = 0 ∧ R = A) ∨ (0 < pos ∧ nameOk A = tailOk R)) ∧ Below w.heap.size w wr) (fun wr => s.size - wr.iterPos w1.heap.size)
  case atStart => exact ⟨0, A, hk0, hr, .inl ⟨rfl, rfl⟩, hb0⟩
  case round =>
    obtain ⟨pos, R, hk, hR, hst, hnx⟩ := hrel
    have Hst := Lib.hid hst
    have hmu : wr.iterPos w1.heap.size = pos := iterPos_of hk
    clear hst hk0 hb0 hlt0
    cases R with
    | nil =>
      have hp : ¬ pos < s.size := by unfold Um.Reads at hR; omega
      have hnext : ∀ ty, (Instr.next (.pointer (some ⟨w1.heap.size, 0, none⟩)) true ty).run Try.prog wr = _ := fun ty => Lib.run_next_end_at wr w1.heap.size s pos ty hk hp
      have hfin : nameOk A = true := by
        rcases Hst.out with ⟨_, e0⟩ | ⟨_, e0⟩
        · exact absurd e0.symm hne
        · rw [e0]; rfl
      have Hfin := Lib.hid hfin
      clear hfin
      go_wp2
      go_ret
      exact ⟨ret_bool Hfin.out.symm, hnx⟩
    | cons c R =>
      obtain ⟨hc, hat, hR⟩ := hR
      have hd := Um.decode_of hc hat
      have hfit := Um.at_fits hat
      have hl := Um.len_pos c
      have hp : pos < s.size := by omega
      have hnext : ∀ ty, (Instr.next (.pointer (some ⟨w1.heap.size, 0, none⟩)) true ty).run Try.prog wr = _ := fun ty => Lib.run_next_any_at wr w1.heap.size s pos ty hk hp
      have hk1 := Lib.iterAt_heap wr w1.heap.size s pos (pos + Um.len c) hk
      have hnx1 : Below w.heap.size w (wr.iterAt w1.heap.size s (pos + Um.len c)) := Lib.below_iterAt hnx s1 s _
      rw [hd] at hnext
      change ∀ ty, (Instr.next (.pointer (some ⟨w1.heap.size, 0, none⟩)) true ty).run Try.prog wr = .ok (.tuple #[.bool true, .int .i64 pos, .int .i32 c]) (wr.iterAt w1.heap.size s (pos + Um.len c)) at hnext
      generalize wr.iterAt w1.heap.size s (pos + Um.len c) = W1 at hnext hk1 hnx1
      have hlt1 := (Array.getElem?_eq_some_iff.1 hk1).1
      have hsz1 := hnx1.size
      have HR := Lib.hid hR
      clear hR hd hat
      cases hL : letterN c with
      | true =>
        have Hl := Lib.hid hL
        go_wp2_with fail
        refine (letter_any c W1).mono ?_
        rw [show Cm.inB Cm.letters (c : Int) = true from Hl.out]
        rintro e w3 ⟨rfl, g3⟩
        have hk3 : w3.heap[w1.heap.size]? = some (.stringIter s (pos + Um.len c)) := (g3.block _ hlt1).trans hk1
        have hmu3 : w3.iterPos w1.heap.size = pos + Um.len c := iterPos_of hk3
        go_wp2
        go_roundw
        case rel =>
          refine ⟨pos + Um.len c, R, hk3, HR.out, .inr ⟨by omega, ?_⟩, hnx1.trans (g3.mono hsz1)⟩
          rcases Hst.out with ⟨_, e0⟩ | ⟨_, e0⟩
          · rw [← e0, nameOk, Hl.out]; rfl
          · rw [e0, tail_cons, Hl.out]; rfl
        case measure => rw [hmu, hmu3]; omega
      | false =>
        have Hl := Lib.hid hL
        by_cases hz : pos = 0
        · have hfin : nameOk A = false := by
            rcases Hst.out with ⟨_, e0⟩ | ⟨e1, _⟩
            · rw [← e0, nameOk, Hl.out]; rfl
            · omega
          have Hfin := Lib.hid hfin
          have hz2 : ((pos : Int) == 0) = true := by rw [hz]; rfl
          clear hfin
          go_wp2_with fail
          refine (letter_any c W1).mono ?_
          rw [show Cm.inB Cm.letters (c : Int) = false from Hl.out]
          rintro e w3 ⟨rfl, g3⟩
          go_wp2
          go_ret
          exact ⟨ret_bool Hfin.out.symm, hnx1.trans (g3.mono hsz1)⟩
        · have hz2 : ((pos : Int) == 0) = false := beq_eq_false_iff_ne.2 (by omega)
          have Hz := Lib.hid hz
          clear hz
          go_wp2_with fail
          refine (letter_any c W1).mono ?_
          rw [show Cm.inB Cm.letters (c : Int) = false from Hl.out]
          rintro e w3 ⟨rfl, g3⟩
          have hk3 : w3.heap[w1.heap.size]? = some (.stringIter s (pos + Um.len c)) := (g3.block _ hlt1).trans hk1
          have hlt3 := (Array.getElem?_eq_some_iff.1 hk3).1
          have hb3 := hnx1.trans (g3.mono hsz1)
          have hsz3 := hb3.size
          cases hD : digitN c with
          | true =>
            have Hd := Lib.hid hD
            go_wp2_with fail
            refine (digit_any c w3).mono ?_
            rw [show Cm.inB Cm.digits (c : Int) = true from Hd.out]
            rintro e w4 ⟨rfl, g4⟩
            have hk4 : w4.heap[w1.heap.size]? = some (.stringIter s (pos + Um.len c)) := (g4.block _ hlt3).trans hk3
            have hmu4 : w4.iterPos w1.heap.size = pos + Um.len c := iterPos_of hk4
            go_wp2
            go_roundw
            case rel =>
              refine ⟨pos + Um.len c, R, hk4, HR.out, .inr ⟨by omega, ?_⟩, hb3.trans (g4.mono hsz3)⟩
              rcases Hst.out with ⟨e1, _⟩ | ⟨_, e0⟩
              · exact absurd e1 Hz.out
              · rw [e0, tail_cons, Hl.out, Hd.out]; rfl
            case measure => rw [hmu, hmu4]; omega
          | false =>
            have Hd := Lib.hid hD
            have hfin : nameOk A = false := by
              rcases Hst.out with ⟨e1, _⟩ | ⟨_, e0⟩
              · exact absurd e1 Hz.out
              · rw [e0, tail_cons, Hl.out, Hd.out]; rfl
            have Hfin := Lib.hid hfin
            clear hfin
            go_wp2_with fail
            refine (digit_any c w3).mono ?_
            rw [show Cm.inB Cm.digits (c : Int) = false from Hd.out]
            rintro e w4 ⟨rfl, g4⟩
            go_wp2
            go_ret
            exact ⟨ret_bool Hfin.out.symm, hb3.trans (g4.mono hsz3)⟩

theorem name_any (s : ByteArray) (w : World) :
    Calls Try.prog 36 #[.string s] w fun e w' => e = .returned (.bool (nameB s)) ∧ Below w.heap.size w w' := by
  by_cases h0 : 0 < s.size
  · cases h : Um.allB s with
    | false =>
      have e : nameB s = false := by unfold nameB; rw [h]; rfl
      rw [e]; exact name_bad s w h0 h
    | true =>
      cases hw : isWord s with
      | true =>
        have e : nameB s = false := by unfold nameB; rw [h, hw]; rfl
        rw [e]; exact name_word s w h0 h hw
      | false =>
        have e : nameB s = nameOk (Um.allC s) := by unfold nameB; rw [h, hw]; rfl
        rw [e]; exact name_walk s w h0 h hw
  · have e : nameB s = false := by
      have h1 : Um.allC s = [] := by
        have := Um.allC_length s
        exact List.eq_nil_of_length_eq_zero (by omega)
      unfold nameB
      rw [h1]
      simp [nameOk]
    rw [e]
    refine (name_empty s w (by omega)).mono ?_
    rintro e w1 ⟨rfl, rfl⟩
    exact ⟨rfl, Below.refl _ _⟩
end Go.Proofs.Ytlmhcjomegiibaa
