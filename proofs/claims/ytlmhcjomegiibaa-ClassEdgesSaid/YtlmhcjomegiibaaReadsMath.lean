/- A text that is read to its end, as a relation; texts one behind the other; forms joined. Nothing of the program is named here. -/
import Derived.Test.YtlmhcjomegiibaaAppendMath
namespace Go.Proofs.Ytlmhcjomegiibaa.Um

/-- From a place on the text is just the forms of these characters. -/
def Reads (s : ByteArray) : Nat → List Nat → Prop
  | p, [] => p = s.size
  | p, c :: l => okN c ∧ At s p c ∧ Reads s (p + len c) l

theorem chr_eq {s : ByteArray} {p c l : Nat} (h : Utf8.decode s p = (c, l)) : chr s p = c ∧ wid s p = l := by unfold chr wid; rw [h]; exact ⟨rfl, rfl⟩

theorem reads_of (s : ByteArray) : ∀ f p, p ≤ s.size → s.size ≤ p + f → badP s f p = none → Reads s p (chs s f p)
  | 0, p, h1, h2, _ => by simp only [chs, Reads]; omega
  | f + 1, p, h1, h2, hb => by
    by_cases hp : p < s.size
    · cases hk : okAt s p with
      | false => rw [badP_bad hp hk] at hb; cases hb
      | true =>
        rw [badP_step hp hk] at hb
        rw [chs_step hp hk]
        have ho : Utf8.decode s p ≠ (65533, 1) := by unfold okAt at hk; exact of_decide_eq_true hk
        obtain ⟨a, b, d⟩ := decode_at hp ho
        have hw := wid_pos s p
        have hf := ok_fits hp hk
        have hd : wid s p = len (chr s p) := d
        refine ⟨a, b, ?_⟩
        rw [← hd]
        exact reads_of s f _ hf (by omega) hb
    · rw [chs_end hp]; unfold Reads; omega

theorem of_reads {s : ByteArray} : ∀ {l : List Nat} {f p : Nat}, Reads s p l → s.size ≤ p + f → chs s f p = l ∧ badP s f p = none
  | [], f, p, h, _ => by
    unfold Reads at h
    exact ⟨chs_end (by omega), badP_end (by omega)⟩
  | c :: l, f, p, h, hf => by
    obtain ⟨a, b, d⟩ := h
    have hd := decode_of a b
    have hfit := at_fits b
    have hl := len_pos c
    obtain ⟨g, rfl⟩ : ∃ g, f = g + 1 := ⟨f - 1, by omega⟩
    have hp : p < s.size := by omega
    have hk : okAt s p = true := (okAt_iff hp).2 ⟨c, a, b⟩
    obtain ⟨e1, e2⟩ := chr_eq hd
    rw [chs_step hp hk, badP_step hp hk, e1, e2]
    obtain ⟨x, y⟩ := of_reads d (f := g) (by omega)
    exact ⟨by rw [x], y⟩

theorem reads_all {s : ByteArray} (h : allB s = true) : Reads s 0 (allC s) := by
  unfold allB at h
  have hb := of_decide_eq_true h
  unfold allC
  rw [if_pos hb]
  exact reads_of s s.size 0 (by omega) (by omega) hb

theorem all_reads {s : ByteArray} {l : List Nat} (h : Reads s 0 l) : allC s = l ∧ allB s = true ∧ badI s = -1 := by
  obtain ⟨a, b⟩ := of_reads h (f := s.size) (by omega)
  unfold allC allB badI
  rw [b, if_pos rfl]
  exact ⟨a, decide_eq_true rfl, rfl⟩

theorem bad_nonneg {s : ByteArray} (h : allB s = false) : 0 ≤ badI s := by
  unfold allB at h
  unfold badI
  cases hb : badP s s.size 0 with
  | none => rw [hb] at h; simp at h
  | some p => simp

theorem good_bad {s : ByteArray} (h : allB s = true) : badI s = -1 := (all_reads (reads_all h)).2.2

theorem bad_empty {s : ByteArray} (h : allB s = false) : allC s = [] := by
  unfold allB at h
  unfold allC
  exact if_neg (of_decide_eq_false h)

theorem reads_right {a b : ByteArray} : ∀ {l : List Nat} {q : Nat}, Reads b q l → Reads (a ++ b) (a.size + q) l
  | [], q, h => by
    unfold Reads at h ⊢
    rw [size_append]; omega
  | c :: l, q, h => by
    obtain ⟨x, y, z⟩ := h
    refine ⟨x, at_right y, ?_⟩
    rw [Nat.add_assoc]
    exact reads_right z

theorem reads_append {a b : ByteArray} {m : List Nat} (hb : Reads b 0 m) : ∀ {l : List Nat} {p : Nat}, Reads a p l → Reads (a ++ b) p (l ++ m)
  | [], p, h => by
    unfold Reads at h
    subst h
    have := reads_right (a := a) hb
    simpa using this
  | c :: l, p, h => by
    obtain ⟨x, y, z⟩ := h
    exact ⟨x, at_left y, reads_append hb z⟩

/-- Two texts that are not bad, one behind the other. -/
theorem all_append {a b : ByteArray} (ha : allB a = true) (hb : allB b = true) : allC (a ++ b) = allC a ++ allC b ∧ allB (a ++ b) = true ∧ badI (a ++ b) = -1 :=
  all_reads (reads_append (reads_all hb) (reads_all ha))

/-- The forms of characters, one behind the other. -/
def joinL : List Nat → ByteArray
  | [] => ByteArray.empty
  | c :: l => form (c : Int) ++ joinL l

theorem reads_join : ∀ {l : List Nat}, (∀ c ∈ l, okN c) → Reads (joinL l) 0 l
  | [], _ => rfl
  | c :: l, h => by
    have hc := h c (List.mem_cons_self ..)
    have hl := reads_join (l := l) fun x hx => h x (List.mem_cons_of_mem _ hx)
    refine ⟨hc, at_left (at_form hc), ?_⟩
    have := reads_right (a := form (c : Int)) hl
    rw [form_size hc] at this
    simpa [joinL] using this

theorem all_join {l : List Nat} (h : ∀ c ∈ l, okN c) : allC (joinL l) = l ∧ allB (joinL l) = true ∧ badI (joinL l) = -1 := all_reads (reads_join h)

theorem bytes_ext {a b : ByteArray} (h : a.data.toList = b.data.toList) : a = b := by
  cases a; cases b
  congr 1
  exact Array.toList_inj.1 h

theorem join_reads {s : ByteArray} : ∀ {l : List Nat} {p : Nat}, Reads s p l → (s.extract p s.size).data.toList = (joinL l).data.toList
  | [], p, h => by
    unfold Reads at h
    rw [Lib.extract_data, h]
    simp [joinL]
  | c :: l, p, h => by
    obtain ⟨x, y, z⟩ := h
    have hf := at_fits y
    have hl := len_pos c
    have ih := join_reads z
    have e := (hit_iff s p (len c) c x hl.1 hf).2 ⟨rfl, y⟩
    rw [beq_iff_eq, toList_eq, toList_eq] at e
    rw [joinL, ByteArray.data_append, Array.toList_append, e, ← ih, Lib.extract_data, Lib.extract_data, Lib.extract_data, Nat.add_sub_cancel_left]
    have hn : s.data.toList.length = s.size := by rw [Array.length_toList]; rfl
    rw [List.take_of_length_le (by simp), List.take_of_length_le (l := s.data.toList.drop (p + len c)) (by simp)]
    rw [← List.drop_drop, List.take_append_drop]

theorem join_all {s : ByteArray} (h : allB s = true) : joinL (allC s) = s := by
  have := join_reads (reads_all h)
  rw [ByteArray.extract_zero_size] at this
  exact (bytes_ext this).symm

end Go.Proofs.Ytlmhcjomegiibaa.Um
