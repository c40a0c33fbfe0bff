/- Contract of runes.Join. -/
import Derived.Test.YtlmhcjomegiibaaBuilder
import Derived.Test.YtlmhcjomegiibaaLawBehind
namespace Go.Proofs.Ytlmhcjomegiibaa
open Go.RowKit

/-- The bytes of the forms, one behind the other. -/
def bytesJ (l : List Int) : List UInt8 := l.flatMap fun c => (formOf c).data.toList
def allV (l : List Int) : Bool := l.all fun c => Utf8.valid c
/-- What Join answers. -/
def joinS (l : List Int) : ByteArray := if allV l = true then ⟨(bytesJ l).toArray⟩ else ByteArray.empty

theorem formOf_le (c : Int) : (formOf c).data.toList.length ≤ 4 := by
  rw [Array.length_toList, ← Um.size_data, formOf_eq]
  cases h : Utf8.valid c with
  | true =>
    obtain ⟨n, rfl, hn⟩ := Um.okN_of_valid h
    rw [Um.form_size hn]
    exact (Um.len_pos n).2
  | false =>
    have e : Um.form c = ByteArray.empty := by unfold Um.form; rw [h]; rfl
    rw [e]; decide

theorem bytesJ_len : ∀ l : List Int, (bytesJ l).length ≤ 4 * l.length
  | [] => by simp [bytesJ]
  | c :: l => by
    have h1 := formOf_le c
    have h2 := bytesJ_len l
    unfold bytesJ at *
    rw [List.flatMap_cons, List.length_append, List.length_cons]
    omega

theorem bytesJ_snoc (l : List Int) (c : Int) : bytesJ (l ++ [c]) = bytesJ l ++ (formOf c).data.toList := by simp [bytesJ]

/-- The number at a place of a list. -/
def nthI (l : List Int) (i : Nat) : Int := l.getD i 0
theorem take_snoc (l : List Int) (k : Nat) (h : k < l.length) : l.take (k + 1) = l.take k ++ [nthI l k] := by
  unfold nthI
  rw [List.take_add_one, List.getElem?_eq_getElem h]
  simp [h]
theorem nthI_mem {l : List Int} {k : Nat} (h : k < l.length) : nthI l k ∈ l := by
  unfold nthI
  rw [show l.getD k 0 = l[k] by simp [h]]
  exact List.getElem_mem h

/-- A slice of runes that came in or was made: its numbers. -/
def RowI (w : World) (x : Option Addr) (l : List Int) : Prop :=
  0 < l.length → ∃ g o, x = some ⟨g, o, none⟩ ∧ g < w.heap.size ∧ ∀ i, i < l.length → w.cell? ⟨g, o + i, none⟩ = some (.int .i32 (nthI l i))

theorem RowI.below {w w' : World} {x : Option Addr} {l : List Int} (h : RowI w x l) (hb : Below w.heap.size w w') : RowI w' x l := by
  intro hn
  obtain ⟨g, o, hx, hg, hc⟩ := h hn
  exact ⟨g, o, hx, Nat.lt_of_lt_of_le hg hb.size, fun i hi => (hb.cell hg).trans (hc i hi)⟩

theorem joinS_yes {l : List Int} (h : allV l = true) : joinS l = ⟨(bytesJ l).toArray⟩ := by unfold joinS; rw [if_pos h]
theorem joinS_no {l : List Int} (h : allV l = false) : joinS l = ByteArray.empty := by unfold joinS; rw [h]; rfl

set_option maxHeartbeats 1000000 in
theorem join_any (x : Option Addr) (c : Nat) (l : List Int) (w : World) (hr : RowI w x l) (hlen : 4 * l.length ≤ 140737488355328) :
    Calls Try.prog 26 #[.slice x l.length c] w fun e w' => e = .returned (.tuple #[.string (joinS l), .bool (allV l)]) ∧ Below w.heap.size w w' := by
  have Hr := Lib.hid hr
  have hb0 : Lib.IsBuilder 59 5 w.heap.size w.heap.size [] (w.alloc (.cells #[.pointer none, .slice none 0 0] 59)) := Lib.fresh_isBuilder _ _ _
  have hb1 : Below w.heap.size w (w.alloc (.cells #[.pointer none, .slice none 0 0] 59)) := (Below.refl _ _).alloc (Nat.le_refl _) _
  clear hr
  go_enter Try.func26, Try.ntmps26
  go_wp2
  go_loopw [9] (fun i wr => ∃ k : Nat, k ≤ l.length ∧ i = .int .i64 k ∧ allV (l.take k) = true ∧ Lib.IsBuilder 59 5 w.heap.size w.heap.size (Lib.byteCells (bytesJ (l.take k))) wr ∧ Below w.heap.size w wr) (fun i _ => l.length - (intOf i).toNat)
  case atStart => exact ⟨0, by omega, rfl, rfl, hb0, hb1⟩
  case round =>
    obtain ⟨k, hk, rfl, hv, hI, hnx⟩ := hrel
    have Hv := Lib.hid hv
    clear hv hb0 hb1
    by_cases hlt : k < l.length
    · obtain ⟨g, o, rfl, hg, hc⟩ := Hr.out (by omega)
      have hck : wr.cell? ⟨g, o + k, none⟩ = some (.int .i32 (nthI l k)) := (hnx.cell hg).trans (hc k hlt)
      have hsn := take_snoc l k hlt
      have Hsn := Lib.hid hsn
      have hmem := nthI_mem hlt
      have hj := bytesJ_len (l.take k)
      rw [List.length_take] at hj
      have hsz := hnx.size
      clear hc hsn
      cases hvk : Utf8.valid (nthI l k) with
      | true =>
        have hfl := formOf_le (nthI l k)
        rw [Array.length_toList, ← Um.size_data] at hfl
        go_wp2_with fail
        refine (character_any _ _).mono ?_
        rintro e w1 ⟨rfl, rfl⟩
        go_wp2_with fail
        refine (form_any _ _).mono ?_
        rintro e w1 ⟨rfl, rfl⟩
        go_wp2_with fail
        refine (builder_write w.heap.size w.heap.size _ _ wr hI (by rw [Lib.byteCells_length]; omega) hsz).mono ?_
        rintro e w1 ⟨rfl, hI1, hb1⟩
        go_wp2
        go_roundw
        case rel =>
          refine ⟨k + 1, by omega, by go_num, ?_, ?_, hnx.trans hb1⟩
          · rw [Hsn.out]; unfold allV at *; rw [List.all_append, Hv.out]; simp [hvk]
          · rw [Hsn.out, bytesJ_snoc, Lib.byteCells_append]; exact hI1
        case measure => simp [intOf]; omega
      | false =>
        have hav : allV l = false := by
          cases ha : allV l with
          | false => rfl
          | true =>
            unfold allV at ha
            have := List.all_eq_true.1 ha _ hmem
            rw [hvk] at this
            exact this.symm
        have Hav := Lib.hid hav
        clear hav
        go_wp2_with fail
        refine (character_any _ _).mono ?_
        rintro e w1 ⟨rfl, rfl⟩
        go_wp2
        go_ret2
        exact ⟨by rw [joinS_no Hav.out, Hav.out]; rfl, hnx⟩
    · have hke : l.take k = l := List.take_of_length_le (by omega)
      rw [hke] at hI
      have hav : allV l = true := by rw [← hke]; exact Hv.out
      have Hav := Lib.hid hav
      clear hav hke
      go_wp2_with fail
      refine (builder_string w.heap.size w.heap.size _ wr hI hnx.size).mono ?_
      rintro e w1 ⟨rfl, hb1⟩
      go_wp2
      go_ret2
      exact ⟨by rw [joinS_yes Hav.out, Hav.out]; rfl, hnx.trans hb1⟩
end Go.Proofs.Ytlmhcjomegiibaa
