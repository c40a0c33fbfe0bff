/- Contracts of the reference's small and escape (quoted). -/
import Derived.Test.YtdpngmhjdafdpaaQuRBase
namespace Go.Proofs.Ytdpngmhjdafdpaa
open Go.RowKit Em
set_option linter.unusedVariables false
set_option linter.unusedSimpArgs false

theorem form_txt (n : Nat) : formOf (n : Int) = txt (Qm.fm n) := bl_inj (by rw [formOf_fm, txt_bl])

/-- What an escape's number says, by the mark. -/
def sayR (mark : Nat) (b : Bool) (n : Nat) : List UInt8 := if mark = 34 then Qm.sayS b n else Qm.fm n
def escL (mark : Nat) (m : List UInt8) : Nat := match Qm.esc mark m with | some (_, _, r) => 1 + (m.length - r.length) | none => 0
def escT (mark : Nat) (m : List UInt8) : List UInt8 := match Qm.esc mark m with | some (n, b, _) => sayR mark b n | none => []

theorem rsmall_any (n mark : Nat) (w : World) (hn : n < 256) (hm : mark = 34 ∨ mark = 39) :
    Calls Try.prog 76 #[.int .i64 n, .int .u8 mark] w fun e w' => e = .returned (.string (txt (sayR mark true n))) ∧ Below w.heap.size w w' := by
  rcases hm with rfl | rfl
  · have hc := conv_new w [(n : Int)]
    simp only [List.length_singleton, List.map_cons, List.map_nil, List.foldl_cons, List.foldl_nil, Int.toNat_natCast] at hc
    have hp : ByteArray.empty.push (UInt8.ofNat n) = txt [UInt8.ofNat n] := rfl
    rw [hp] at hc
    have q1 : IntKind.u8.wrap (n : Int) = (n : Int) := by rw [IntKind.wrap_u8]; omega
    have e1 : txt (sayR 34 true n) = txt [UInt8.ofNat n] := rfl
    rw [e1]
    clear hp e1
    generalize txt [UInt8.ofNat n] = T at hc
    go_enter Try.func76, Try.ntmps76
    go_wp2
    go_ret
    exact ⟨rfl, (Below.refl _ _).alloc (Nat.le_refl _) _⟩
  · have FA := fun w => rform_any n w
    rw [form_txt] at FA
    have e1 : txt (sayR 39 true n) = txt (Qm.fm n) := rfl
    rw [e1]
    clear e1
    generalize txt (Qm.fm n) = T at FA
    go_enter Try.func76, Try.ntmps76
    go_wp2_with fail
    refine (FA _).mono ?_
    rintro e w1 ⟨rfl, b1⟩
    go_wp2
    go_ret
    exact ⟨rfl, b1⟩

def nmN (k : Nat) : Nat := if k = 0 then 97 else if k = 1 then 98 else if k = 2 then 102 else if k = 3 then 110 else if k = 4 then 114 else if k = 5 then 116 else if k = 6 then 118 else 92
def sayN (k : Nat) : Nat := if k = 0 then 7 else if k = 1 then 8 else if k = 2 then 12 else if k = 3 then 10 else if k = 4 then 13 else if k = 5 then 9 else if k = 6 then 11 else 92
theorem nm_at : ∀ k : Fin 8, byN ⟨#[97, 98, 102, 110, 114, 116, 118, 92]⟩ k.1 = nmN k.1 := by decide +kernel
theorem esc_name (mark : Nat) (hm : mark = 34 ∨ mark = 39) (k : Nat) (hk : k < 8) (c : UInt8) (l : List UInt8) (h : c.toNat = nmN k) : Qm.esc mark (c :: l) = some (sayN k, true, l) := by
  have hc : c = UInt8.ofNat (nmN k) := by rw [← h]; simp
  have : ∀ j : Fin 8, Qm.esc 34 (UInt8.ofNat (nmN j.1) :: []) = some (sayN j.1, true, []) ∧ Qm.esc 39 (UInt8.ofNat (nmN j.1) :: []) = some (sayN j.1, true, []) := by decide
  obtain ⟨a, b⟩ := this ⟨k, hk⟩
  simp only [] at a b
  rw [← hc] at a b
  have key : ∀ mk, Qm.esc mk [c] = some (sayN k, true, []) → Qm.esc mk (c :: l) = some (sayN k, true, l) := by
    intro mk ha
    obtain ⟨e, he, hne, hy⟩ := Qm.esc_split ha
    rw [List.append_nil] at he
    have := hy l
    rw [← he] at this
    exact this
  rcases hm with rfl | rfl
  · exact key _ a
  · exact key _ b
theorem esc_noname (mark : Nat) (c : UInt8) (l : List UInt8) (h : ∀ j, j < 8 → nmN j ≠ c.toNat) : Qm.ctl c.toNat = none ∧ c.toNat ≠ 92 := by
  have h0 := h 0 (by omega)
  have h1 := h 1 (by omega)
  have h2 := h 2 (by omega)
  have h3 := h 3 (by omega)
  have h4 := h 4 (by omega)
  have h5 := h 5 (by omega)
  have h6 := h 6 (by omega)
  have h7 := h 7 (by omega)
  simp only [nmN] at h0 h1 h2 h3 h4 h5 h6 h7
  refine ⟨?_, by simpa using fun e => h7 e.symm⟩
  unfold Qm.ctl
  rw [if_neg (by simpa using fun e => h0 e.symm), if_neg (by simpa using fun e => h1 e.symm), if_neg (by simpa using fun e => h5 e.symm), if_neg (by simpa using fun e => h3 e.symm), if_neg (by simpa using fun e => h6 e.symm), if_neg (by simpa using fun e => h2 e.symm), if_neg (by simpa using fun e => h4 e.symm)]
end Go.Proofs.Ytdpngmhjdafdpaa
