/- Texts one behind the other: forms, characters, places. Nothing of the program is named here. -/
import Derived.Test.YtdpngmhjdafdpaaScanMath
namespace Go.Proofs.Ytdpngmhjdafdpaa.Um

theorem get_data (s : ByteArray) (i : Nat) : s.get! i = s.data[i]! := rfl
theorem size_data (s : ByteArray) : s.size = s.data.size := rfl

theorem byt_left (a b : ByteArray) (i : Nat) (h : i < a.size) : byt (a ++ b) i = byt a i := by
  have ha : a.data.size = a.size := rfl
  have hab : (a.data ++ b.data).size = a.data.size + b.data.size := Array.size_append
  unfold byt
  rw [get_data, get_data, ByteArray.data_append]
  rw [getElem!_pos (a.data ++ b.data) i (by rw [hab]; omega), getElem!_pos a.data i (by omega), Array.getElem_append_left (by omega)]

theorem byt_right (a b : ByteArray) (i : Nat) : byt (a ++ b) (a.size + i) = byt b i := by
  have ha : a.data.size = a.size := rfl
  have hb : b.data.size = b.size := rfl
  have hab : (a.data ++ b.data).size = a.data.size + b.data.size := Array.size_append
  unfold byt
  rw [get_data, get_data, ByteArray.data_append]
  by_cases h : i < b.data.size
  · rw [getElem!_pos (a.data ++ b.data) (a.size + i) (by rw [hab]; omega), getElem!_pos b.data i h, Array.getElem_append_right (by omega)]
    congr 2
    omega
  · rw [getElem!_neg (a.data ++ b.data) (a.size + i) (by rw [hab]; omega), getElem!_neg b.data i h]

theorem size_append (a b : ByteArray) : (a ++ b).size = a.size + b.size := ByteArray.size_append

theorem at_left {a b : ByteArray} {i c : Nat} (h : At a i c) : At (a ++ b) i c := by
  have f := at_fits h
  have hs := size_append a b
  have e0 := byt_left a b i; have e1 := byt_left a b (i + 1); have e2 := byt_left a b (i + 2); have e3 := byt_left a b (i + 3)
  unfold At at h ⊢
  rcases h with ⟨p, q, r⟩ | ⟨p, p', q, r, r'⟩ | ⟨p, p', q, r, r', r''⟩ | ⟨p, q, r, r', r'', r'''⟩
  · exact .inl ⟨p, by omega, by rw [e0 (by omega)]; exact r⟩
  · exact .inr (.inl ⟨p, p', by omega, by rw [e0 (by omega)]; exact r, by rw [e1 (by omega)]; exact r'⟩)
  · exact .inr (.inr (.inl ⟨p, p', by omega, by rw [e0 (by omega)]; exact r, by rw [e1 (by omega)]; exact r', by rw [e2 (by omega)]; exact r''⟩))
  · exact .inr (.inr (.inr ⟨p, by omega, by rw [e0 (by omega)]; exact r, by rw [e1 (by omega)]; exact r', by rw [e2 (by omega)]; exact r'', by rw [e3 (by omega)]; exact r'''⟩))

theorem at_right {a b : ByteArray} {i c : Nat} (h : At b i c) : At (a ++ b) (a.size + i) c := by
  have hs := size_append a b
  have e0 := byt_right a b i; have e1 := byt_right a b (i + 1); have e2 := byt_right a b (i + 2); have e3 := byt_right a b (i + 3)
  unfold At at h ⊢
  simp only [Nat.add_assoc] at e1 e2 e3 ⊢
  rcases h with ⟨p, q, r⟩ | ⟨p, p', q, r, r'⟩ | ⟨p, p', q, r, r', r''⟩ | ⟨p, q, r, r', r'', r'''⟩
  · exact .inl ⟨p, by omega, by rw [e0]; exact r⟩
  · exact .inr (.inl ⟨p, p', by omega, by rw [e0]; exact r, by rw [e1]; exact r'⟩)
  · exact .inr (.inr (.inl ⟨p, p', by omega, by rw [e0]; exact r, by rw [e1]; exact r', by rw [e2]; exact r''⟩))
  · exact .inr (.inr (.inr ⟨p, by omega, by rw [e0]; exact r, by rw [e1]; exact r', by rw [e2]; exact r'', by rw [e3]; exact r'''⟩))

theorem form_size {c : Nat} (h : okN c) : (form (c : Int)).size = len c := by
  have e := form_list h
  have := congrArg List.length e
  rw [List.length_map, formN_length, Array.length_toList] at this
  rw [size_data]
  exact this

theorem at_form {c : Nat} (h : okN c) : At (form (c : Int)) 0 c := by
  have hs := form_size h
  have e : (form (c : Int)).extract 0 (0 + len c) = form (c : Int) := by
    have e1 : (0 + len c) = (form (c : Int)).size := by rw [hs, Nat.zero_add]
    rw [e1]
    exact ByteArray.extract_zero_size
  have e2 : ((form (c : Int)).toList == ((form (c : Int)).extract 0 (0 + len c)).toList) = true := by
    rw [e]
    exact beq_self_eq_true _
  exact ((hit_iff (form (c : Int)) 0 (len c) c h (len_pos c).1 (by omega)).1 e2).2

/-- The reading of a form with something behind it. -/
theorem decode_form {c : Nat} (h : okN c) (b : ByteArray) : Utf8.decode (form (c : Int) ++ b) 0 = (c, len c) := decode_of h (at_left (at_form h))

theorem okAt_form {c : Nat} (h : okN c) (b : ByteArray) : okAt (form (c : Int) ++ b) 0 = true := by
  refine (okAt_iff ?_).2 ⟨c, h, at_left (at_form h)⟩
  rw [size_append, form_size h]
  have := len_pos c; omega

theorem okN_of_valid {r : Int} (h : Utf8.valid r = true) : ∃ c : Nat, r = c ∧ okN c := by
  have hb : 0 ≤ r := by simp [Utf8.valid] at h; omega
  obtain ⟨c, rfl⟩ := Int.eq_ofNat_of_zero_le hb
  exact ⟨c, rfl, (valid_iff c).1 h⟩
end Go.Proofs.Ytdpngmhjdafdpaa.Um
