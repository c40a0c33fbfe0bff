/- Contract of runes.Read. -/
import Derived.Test.YtdpngmhjdafdpaaBegins
namespace Go.Proofs.Ytdpngmhjdafdpaa
open Go.RowKit

theorem ret_pair {k l : IntKind} {a b c d : Int} (h : a = c) (h' : b = d) : Ending.returned (.tuple #[.int k a, .int l b]) = .returned (.tuple #[.int k c, .int l d]) := by rw [h, h']

theorem encode_size {c : Nat} (h : Um.okN c) : (Utf8.encode (c : Int)).size = Um.len c := by
  have hv := (Um.valid_iff c).2 h
  unfold Utf8.encode Um.len
  simp only [hv, if_true, Int.toNat_natCast]
  repeat' split
  all_goals first | rfl | omega

theorem form_size {c : Nat} (h : Um.okN c) : (formOf (c : Int)).size = Um.len c := by
  unfold formOf
  rw [if_pos ((Um.valid_iff c).2 h), encode_size h]

theorem read_no (s : ByteArray) (a : Int) (w : World) (h : a < 0 ∨ (s.size : Int) ≤ a) :
    Calls Try.prog 65 #[.string s, .int .i64 a] w fun e w' => e = .returned (.tuple #[.int .i32 0, .int .i64 0]) ∧ w = w' := by
  by_cases h1 : a < 0
  · go_enter Try.func65, Try.ntmps65
    go_wp2
    go_ret2
    exact ⟨rfl, rfl⟩
  · have h2 : (s.size : Int) ≤ a := by omega
    clear h
    go_enter Try.func65, Try.ntmps65
    go_wp2
    go_ret2
    exact ⟨rfl, rfl⟩

/-- What is read at a place: the character, and its length. -/
def rdC (s : ByteArray) (n : Nat) : Nat := if Um.okAt s n = true then (Utf8.decode s n).1 else 0
def rdN (s : ByteArray) (n : Nat) : Nat := if Um.okAt s n = true then (Utf8.decode s n).2 else 0

theorem read_at (s : ByteArray) (n : Nat) (w : World) (h : n < s.size) :
    Calls Try.prog 65 #[.string s, .int .i64 (n : Int)] w fun e w' => e = .returned (.tuple #[.int .i32 (rdC s n), .int .i64 (rdN s n)]) ∧ Below w.heap.size w w' := by
  have h1 : ¬ (n : Int) < 0 := by omega
  have h2 : (n : Int) < s.size := by omega
  have hd := Lib.tail_decode s n 0
  rw [Nat.add_zero] at hd
  have Hd := Lib.hid hd
  have hp : 0 < (s.extract n s.size).size := by rw [Lib.tail_size]; omega
  clear hd
  go_enter Try.func65, Try.ntmps65
  go_wp2
  go_loopw [] (fun wr => wr = w.iter (s.extract n s.size) 0) (fun _ => 0)
  case atStart => rfl
  case round =>
    subst hrel
    have hnx : ∀ ty, (Instr.next (.pointer (some ⟨w.heap.size, 0, none⟩)) true ty).run Try.prog (w.iter (s.extract n s.size) 0) = _ := fun ty => run_next_any w (s.extract n s.size) 0 ty hp
    rw [Hd.out] at hnx
    cases hk : Um.okAt s n with
    | true =>
      go_wp2_with (first | (go_at_call 74; refine (begins_at s n _ _ h rfl).mono ?_; rintro e w' ⟨rfl, rfl⟩) | (go_at_call 72; refine (form_any _ _).mono ?_; rintro e w' ⟨rfl, rfl⟩))
      go_ret2
      have ho : Utf8.decode s n ≠ (65533, 1) := by unfold Um.okAt at hk; exact of_decide_eq_true hk
      have hd := Um.decode_at h ho
      exact ⟨ret_pair (by unfold rdC; rw [if_pos hk]) (by unfold rdN; rw [if_pos hk, form_size hd.1, hd.2.2]), (Below.refl _ _).alloc (Nat.le_refl _) _⟩
    | false =>
      go_wp2_with (first | (go_at_call 74; refine (begins_at s n _ _ h rfl).mono ?_; rintro e w' ⟨rfl, rfl⟩) | (go_at_call 72; refine (form_any _ _).mono ?_; rintro e w' ⟨rfl, rfl⟩))
      go_ret2
      exact ⟨ret_pair (by unfold rdC; rw [hk]; rfl) (by unfold rdN; rw [hk]; rfl), (Below.refl _ _).alloc (Nat.le_refl _) _⟩

end Go.Proofs.Ytdpngmhjdafdpaa
