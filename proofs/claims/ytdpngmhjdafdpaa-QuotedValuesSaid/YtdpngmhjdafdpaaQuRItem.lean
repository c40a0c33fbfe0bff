/- Contract of the reference's item (quoted). -/
import Derived.Test.YtdpngmhjdafdpaaQuREscape
namespace Go.Proofs.Ytdpngmhjdafdpaa
open Go.RowKit Em
set_option linter.unusedVariables false
set_option linter.unusedSimpArgs false

def itL (s : ByteArray) (p mark : Nat) : Nat := if byN s p = 92 then escL mark ((bl s).drop (p + 1)) else if byN s p = 10 then 0 else if mark = 34 then 1 else rdN s p
def itT (s : ByteArray) (p mark : Nat) : ByteArray := if byN s p = 92 then txt (escT mark ((bl s).drop (p + 1))) else if byN s p = 10 then ⟨#[]⟩ else if mark = 34 then s.extract p (p + 1) else s.extract p (p + rdN s p)

set_option maxRecDepth 100000 in
set_option maxHeartbeats 4000000 in
theorem ritem_any (s : ByteArray) (p mark : Nat) (w : World) (hp : p < s.size) (hm : mark = 34 ∨ mark = 39) (hs : s.size ≤ 4611686018427387000) :
    Calls Try.prog 52 #[.string s, .int .i64 p, .int .u8 mark] w fun e w' => e = .returned (.agg #[.int .i64 (itL s p mark : Nat), .string (itT s p mark)]) ∧ Below w.heap.size w w' := by
  have hbx0 : IBox (w.alloc (.cells #[.int .i64 0, .string ⟨#[]⟩] 57)) w.heap.size 0 ⟨#[]⟩ := heap_alloc_new w _
  have hb0 : Below w.heap.size w (w.alloc (.cells #[.int .i64 0, .string ⟨#[]⟩] 57)) := (Below.refl _ _).alloc (Nat.le_refl _) _
  have x2 : (0 : Int) ≤ (p : Int) := by omega
  have x3 : (p : Int) < (s.size : Int) := by omega
  have x4 : (p : Int) ≤ (s.size : Int) := by omega
  have e1 := byN_get s p hp
  have l1 := byN_lt s p
  have Hbx := Lib.hid hbx0
  have Hb := Lib.hid hb0
  have hbs := hb0.size
  unfold itL itT
  by_cases h92 : byN s p = 92
  · rw [if_pos h92, if_pos h92]
    rw [h92] at e1
    have HE := fun w => resc_any s p mark w hp hm hs
    generalize escL mark ((bl s).drop (p + 1)) = L at HE ⊢
    generalize txt (escT mark ((bl s).drop (p + 1))) = T at HE ⊢
    clear hbx0 hb0 h92 l1
    go_enter Try.func52, Try.ntmps52
    go_wp2_with fail
    refine (HE _).mono ?_
    rintro e w2 ⟨rfl, s2⟩
    have Hs2 := Lib.hid s2
    clear s2
    have k0 := (Hbx.out.keep Hs2.out).c0
    have k1 := (Hbx.out.keep Hs2.out).c1
    have z0 := (Hbx.out.keep Hs2.out).free 0
    have z1 := (Hbx.out.keep Hs2.out).free 1
    go_wp2
    have hbf : IBox _ w.heap.size (L) (T) := ((Hbx.out.keep Hs2.out).set0 (n' := L)).set1 (y' := T)
    have r0 := hbf.c0
    have r1 := hbf.c1
    refine bodyPost_ret (v := .agg #[.int .i64 (L), .string (T)]) ?_ ?_ ?_
    · simp [results, Try.results52, go_sem, r0, r1]
    · rfl
    · exact ⟨rfl, ((Hb.out.trans (Hs2.out.mono hbs)).setCell (p := ⟨w.heap.size, 0, none⟩) (Nat.le_refl _) _).setCell (p := ⟨w.heap.size, 1, none⟩) (Nat.le_refl _) _⟩
  · rw [if_neg h92, if_neg h92]
    by_cases h10 : byN s p = 10
    · rw [if_pos h10, if_pos h10]
      rw [h10] at e1
      have k0 := (hbx0).c0
      have k1 := (hbx0).c1
      have z0 := (hbx0).free 0
      have z1 := (hbx0).free 1
      clear hbx0 hb0 h92 l1 h10
      go_enter Try.func52, Try.ntmps52
      go_wp2
      refine bodyPost_ret (v := .agg #[.int .i64 (0), .string (⟨#[]⟩)]) ?_ ?_ ?_
      · simp [results, Try.results52, go_sem, k0, k1]
      · rfl
      · exact ⟨rfl, Hb.out⟩
    · rw [if_neg h10, if_neg h10]
      have d92 : ((byN s p : Int) == 92) = false := beq_eq_false_iff_ne.2 (by omega)
      have d10 : ((byN s p : Int) == 10) = false := beq_eq_false_iff_ne.2 (by omega)
      generalize byN s p = C at e1 l1 d92 d10
      rcases hm with rfl | rfl
      · rw [if_pos rfl, if_pos rfl]
        obtain ⟨E, hE⟩ : ∃ E, p + 1 = E := ⟨_, rfl⟩
        have y1 : (p : Int) + 1 = (E : Int) := by omega
        have y2 : IntKind.i64.wrap (E : Int) = (E : Int) := IntWalk.i64_in _ (by omega)
        have y3 : (p : Int) ≤ (E : Int) := by omega
        have y4 : (E : Int) ≤ (s.size : Int) := by omega
        rw [hE]
        have k0 := (hbx0).c0
        have k1 := (hbx0).c1
        have z0 := (hbx0).free 0
        have z1 := (hbx0).free 1
        clear hbx0 hb0 h92 h10 hE
        go_enter Try.func52, Try.ntmps52
        go_wp2
        have hbf : IBox (w.alloc (.cells #[.int .i64 (1), .string (s.extract p E)] 57)) w.heap.size (1) (s.extract p E) := heap_alloc_new w _
        have r0 := hbf.c0
        have r1 := hbf.c1
        refine bodyPost_ret (v := .agg #[.int .i64 (1), .string (s.extract p E)]) ?_ ?_ ?_
        · simp [results, Try.results52, go_sem, r0, r1]
        · rfl
        · exact ⟨rfl, (Below.refl _ _).alloc (Nat.le_refl _) _⟩
      · rw [if_neg (by decide), if_neg (by decide)]
        have hf := rd_fits s p hp
        have HR := fun w => rread_at s p w hp (by omega)
        obtain ⟨n, hn⟩ : ∃ n, rdN s p = n := ⟨_, rfl⟩
        rw [hn] at hf HR ⊢
        generalize rdC s p = RC at HR
        obtain ⟨E, hE⟩ : ∃ E, p + n = E := ⟨_, rfl⟩
        have y1 : (p : Int) + (n : Int) = (E : Int) := by omega
        have y2 : IntKind.i64.wrap (E : Int) = (E : Int) := IntWalk.i64_in _ (by omega)
        have y3 : (p : Int) ≤ (E : Int) := by omega
        have y4 : (E : Int) ≤ (s.size : Int) := by omega
        rw [hE]
        clear hbx0 hb0 h92 h10 hE hn
        go_enter Try.func52, Try.ntmps52
        go_wp2_with fail
        refine (HR _).mono ?_
        rintro e w2 ⟨rfl, s2⟩
        have Hs2 := Lib.hid s2
        clear s2
        have k0 := (Hbx.out.keep Hs2.out).c0
        have k1 := (Hbx.out.keep Hs2.out).c1
        have z0 := (Hbx.out.keep Hs2.out).free 0
        have z1 := (Hbx.out.keep Hs2.out).free 1
        go_wp2
        have hbf : IBox _ w.heap.size (n) (s.extract p E) := ((Hbx.out.keep Hs2.out).set0 (n' := n)).set1 (y' := s.extract p E)
        have r0 := hbf.c0
        have r1 := hbf.c1
        refine bodyPost_ret (v := .agg #[.int .i64 (n), .string (s.extract p E)]) ?_ ?_ ?_
        · simp [results, Try.results52, go_sem, r0, r1]
        · rfl
        · exact ⟨rfl, ((Hb.out.trans (Hs2.out.mono hbs)).setCell (p := ⟨w.heap.size, 0, none⟩) (Nat.le_refl _) _).setCell (p := ⟨w.heap.size, 1, none⟩) (Nat.le_refl _) _⟩
end Go.Proofs.Ytdpngmhjdafdpaa
