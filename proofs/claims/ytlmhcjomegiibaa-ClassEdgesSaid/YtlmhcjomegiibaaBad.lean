/- Contracts of runes.Bad and of the reference's Bad. -/
import Derived.Test.YtlmhcjomegiibaaRefRead
import Derived.Test.YtlmhcjomegiibaaScanMath
namespace Go.Proofs.Ytlmhcjomegiibaa
open Go.RowKit

theorem ret_int {k : IntKind} {a b : Int} (h : a = b) : Ending.returned (.int k a) = .returned (.int k b) := by rw [h]

set_option maxHeartbeats 1000000 in
theorem bad_any (s : ByteArray) (w : World) :
    Calls Try.prog 23 #[.string s] w fun e w' => e = .returned (.int .i64 (Um.badI s)) ∧ Below w.heap.size w w' := by
  go_enter Try.func23, Try.ntmps23
  go_wp2
  go_loopw [] (fun wr => ∃ pos f : Nat, wr = w.iter s pos ∧ s.size ≤ pos + f ∧ Um.badP s f pos = Um.badP s s.size 0) (fun wr => s.size - wr.iterPos w.heap.size)
  case atStart => exact ⟨0, s.size, rfl, by omega, rfl⟩
  case round =>
    obtain ⟨pos, f, rfl, hf, hbad⟩ := hrel
    have Hbad := Lib.hid hbad
    clear hbad
    by_cases hp : pos < s.size
    · have hnx : ∀ ty, (Instr.next (.pointer (some ⟨w.heap.size, 0, none⟩)) true ty).run Try.prog (w.iter s pos) = _ := fun ty => run_next_any w s pos ty hp
      obtain ⟨f, rfl⟩ : ∃ g, f = g + 1 := ⟨f - 1, by omega⟩
      have hw := Um.wid_pos s pos
      cases hk : Um.okAt s pos with
      | true =>
        have hnext := Um.badP_step (f := f) hp hk
        have Hnext := Lib.hid hnext
        clear hnext
        go_wp2_with (go_at_call 43; refine (begins_at s pos _ _ hp rfl).mono ?_; rintro e w' ⟨rfl, rfl⟩)
        go_roundw
        case rel => exact ⟨pos + Um.wid s pos, f, rfl, by omega, by rw [← Hnext.out]; exact Hbad.out⟩
        case measure =>
          have : (Utf8.decode s pos).2 = Um.wid s pos := rfl
          simp
          omega
      | false =>
        have hnext := Um.badP_bad (f := f) hp hk
        have hfin : Um.badI s = pos := by unfold Um.badI; rw [← Hbad.out, hnext]
        have Hfin := Lib.hid hfin
        clear hnext hfin
        go_wp2_with (go_at_call 43; refine (begins_at s pos _ _ hp rfl).mono ?_; rintro e w' ⟨rfl, rfl⟩)
        go_ret
        exact ⟨ret_int Hfin.out.symm, (Below.refl _ _).alloc (Nat.le_refl _) _⟩
    · have hnx : ∀ ty, (Instr.next (.pointer (some ⟨w.heap.size, 0, none⟩)) true ty).run Try.prog (w.iter s pos) = _ := fun ty => run_next_end w s pos ty hp
      have hfin : Um.badI s = -1 := by unfold Um.badI; rw [← Hbad.out, Um.badP_end hp]
      have Hfin := Lib.hid hfin
      clear hfin
      go_wp2
      go_ret
      exact ⟨ret_int Hfin.out.symm, (Below.refl _ _).alloc (Nat.le_refl _) _⟩

theorem rd_ok {s : ByteArray} {p : Nat} (h : Um.okAt s p = true) : rdC s p = Um.chr s p ∧ rdN s p = Um.wid s p := by
  unfold rdC rdN; rw [if_pos h, if_pos h]; exact ⟨rfl, rfl⟩
theorem rd_bad {s : ByteArray} {p : Nat} (h : Um.okAt s p = false) : rdC s p = 0 ∧ rdN s p = 0 := by
  unfold rdC rdN; rw [h]; exact ⟨rfl, rfl⟩

set_option maxHeartbeats 1000000 in
theorem rbad_any (s : ByteArray) (w : World) (hs : s.size ≤ 9223372036854775807) :
    Calls Try.prog 24 #[.string s] w fun e w' => e = .returned (.int .i64 (Um.badI s)) ∧ Below w.heap.size w w' := by
  go_enter Try.func24, Try.ntmps24
  go_wp2
  go_loopw [3] (fun at' wr => ∃ pos f : Nat, at' = .int .i64 pos ∧ s.size ≤ pos + f ∧ pos ≤ s.size ∧ Um.badP s f pos = Um.badP s s.size 0 ∧ Below w.heap.size w wr) (fun at' _ => s.size - (intOf at').toNat)
  case atStart => exact ⟨0, s.size, rfl, by omega, by omega, rfl, Below.refl _ _⟩
  case round =>
    obtain ⟨pos, f, rfl, hf, hle, hbad, hb⟩ := hrel
    have Hbad := Lib.hid hbad
    clear hbad
    by_cases hp : pos < s.size
    · obtain ⟨f, rfl⟩ : ∃ g, f = g + 1 := ⟨f - 1, by omega⟩
      have hw := Um.wid_pos s pos
      cases hk : Um.okAt s pos with
      | true =>
        have hnext := Um.badP_step (f := f) hp hk
        have Hnext := Lib.hid hnext
        have hfit := Um.ok_fits hp hk
        have hne : ((Um.wid s pos : Int) == 0) = false := beq_eq_false_iff_ne.2 (by omega)
        clear hnext
        go_wp2_with (go_at_call 16; refine (rread_at s pos _ hp hs).mono ?_; rw [(rd_ok hk).1, (rd_ok hk).2]; rintro e w' ⟨rfl, hb2⟩)
        go_roundw
        case rel => exact ⟨pos + Um.wid s pos, f, by go_num, by omega, by omega, by rw [← Hnext.out]; exact Hbad.out, hb.trans (hb2.mono hb.size)⟩
        case measure =>
          simp [intOf]
          omega
      | false =>
        have hnext := Um.badP_bad (f := f) hp hk
        have hfin : Um.badI s = pos := by unfold Um.badI; rw [← Hbad.out, hnext]
        have Hfin := Lib.hid hfin
        clear hnext hfin
        go_wp2_with (go_at_call 16; refine (rread_at s pos _ hp hs).mono ?_; rw [(rd_bad hk).1, (rd_bad hk).2]; rintro e w' ⟨rfl, hb2⟩)
        go_ret
        exact ⟨ret_int Hfin.out.symm, hb.trans (hb2.mono hb.size)⟩
    · have hfin : Um.badI s = -1 := by unfold Um.badI; rw [← Hbad.out, Um.badP_end hp]
      have Hfin := Lib.hid hfin
      clear hfin
      go_wp2
      go_ret
      exact ⟨ret_int Hfin.out.symm, hb⟩
end Go.Proofs.Ytlmhcjomegiibaa
