/- Contract of the reference's All. -/
import Derived.Test.YtlmhcjomegiibaaAll
namespace Go.Proofs.Ytlmhcjomegiibaa
open Go.RowKit

theorem grown_of_below {w w' : World} (h : Below w.heap.size w w') : w.grownBy w' none := ⟨h.os, h.tape, h.output, h.size, fun k hk _ => h.block k hk⟩
theorem owns_below {w w' : World} {base : Nat} {e : TypeId} {size : Nat} {v : Value} {n : Nat} {xs : List Value} (h : w.ownsRow base e size v n xs) (hb : Below w.heap.size w w') : w'.ownsRow base e size v n xs :=
  h.kept (grown_of_below hb) (by cases v.ownBlock <;> simp)

set_option maxHeartbeats 2000000 in
theorem rall_any (s : ByteArray) (w : World) (hs : s.size ≤ 17592186044416) :
    Calls Try.prog 22 #[.string s] w fun e w' => ∃ v, e = .returned (.tuple #[v, .bool (Um.allB s)]) ∧ w'.ownsRow w.heap.size 2 1 v (Um.allC s).length (cells .i64 (Um.allC s)) ∧ Below w.heap.size w w' := by
  obtain ⟨i0, hi, hz0, hz1, hz2⟩ := info_parts info_i64
  have hs2 : s.size ≤ 9223372036854775807 := by omega
  go_enter Try.func22, Try.ntmps22
  go_wp2
  go_loopw [4, 5] (fun l at' wr => ∃ pos f n : Nat, ∃ acc : List Nat, s.size ≤ pos + f ∧ pos ≤ s.size ∧ n ≤ pos ∧ at' = .int .i64 pos ∧ acc.length = n ∧ acc ++ Um.chs s f pos = Um.chs s s.size 0 ∧ Um.badP s f pos = Um.badP s s.size 0 ∧ wr.ownsRow w.heap.size 2 1 l n (cells .i64 acc) ∧ Below w.heap.size w wr) (fun _ at' _ => s.size - (intOf at').toNat)
  case atStart => exact ⟨0, s.size, 0, [], by omega, by omega, by omega, rfl, rfl, rfl, rfl, World.ownsRow_nil _ _ _ _, Below.refl _ _⟩
  case round =>
    obtain ⟨pos, f, n, acc, hf, hps, hn, rfl, hlen, hch, hbad, hown, hnx⟩ := hrel
    have Hch := Lib.hid hch
    have Hbad := Lib.hid hbad
    have Hlen := Lib.hid hlen
    clear hch hbad hlen
    by_cases hp : pos < s.size
    · obtain ⟨f, rfl⟩ : ∃ g, f = g + 1 := ⟨f - 1, by omega⟩
      have hw := Um.wid_pos s pos
      cases hkk : Um.okAt s pos with
      | true =>
        have hfit := Um.ok_fits hp hkk
        have Hst := Lib.hid (Um.badP_step (f := f) hp hkk)
        have Hst2 := Lib.hid (Um.chs_step (f := f) hp hkk)
        have hne : ((Um.wid s pos : Int) == 0) = false := beq_eq_false_iff_ne.2 (by omega)
        go_wp2_with fail
        refine (rread_at s pos _ hp hs2).mono ?_
        rw [(rd_ok hkk).1, (rd_ok hkk).2]
        rintro e W1 ⟨rfl, hb2⟩
        have hown1 := owns_below hown hb2
        have hnx1 : Below w.heap.size w W1 := hnx.trans (hb2.mono hnx.size)
        clear hown hnx hb2
        have hsz := hnx1.size
        go_wp2_with (at_builtin; refine wpList_append_own _ rfl _ _ 35 rfl w.heap.size 2 i0 (.int .i64 0) 1 8 Try.underlying35 hi hz0 hz1 hz2 rfl (by decide) _ _ _ rfl (hown1.alloc _) ⟨W1.heap.size, 0, none⟩ 1 1 [.int .i64 (Um.chr s pos)] rfl rfl ?c1 ?c2 ?c3 ?c4 ?c5 ?_)
        case c1 => exact one_cell
        case c2 => intro u hu; simp at hu; subst hu; rfl
        case c3 => unfold maxLen; omega
        case c4 => omega
        case c5 => simp; omega
        · intro v' w2 hown2 hgrow _
          have hl2 := (hown1.alloc (.cells #[.int .i64 (Um.chr s pos)] 2)).lt
          have hb3 : Below w.heap.size w w2 := (hnx1.alloc hsz _).grown hgrow (by simp; omega) (fun k e => by have := hl2 _ e; omega)
          go_wp2
          go_roundw
          case rel =>
            refine ⟨pos + Um.wid s pos, f, n + 1, acc ++ [Um.chr s pos], by omega, by omega, by omega, by go_num, by rw [List.length_append, Hlen.out]; rfl, ?_, by rw [← Hst.out]; exact Hbad.out, by rw [cells_snoc]; exact hown2, hb3⟩
            rw [← Hch.out, Hst2.out, List.append_assoc]; rfl
          case measure =>
            simp [intOf]
            omega
      | false =>
        have hfin := allB_of hp hkk Hbad.out
        have Hfin := Lib.hid hfin
        clear hfin
        go_wp2_with (go_at_call 16; refine (rread_at s pos _ hp hs2).mono ?_; rw [(rd_bad hkk).1, (rd_bad hkk).2]; rintro e w' ⟨rfl, hb2⟩)
        go_ret2
        refine ⟨.slice none 0 0, by rw [Hfin.out.2]; rfl, ?_, hnx.trans (hb2.mono hnx.size)⟩
        rw [Hfin.out.1]
        exact World.ownsRow_nil _ _ _ _
    · have hfin := allC_of hp Hbad.out Hch.out
      have Hfin := Lib.hid hfin
      clear hfin
      go_wp2
      go_ret2
      refine ⟨_, by rw [Hfin.out.2]; rfl, ?_, hnx⟩
      rw [Hfin.out.1, Hlen.out]
      exact hown
end Go.Proofs.Ytlmhcjomegiibaa
