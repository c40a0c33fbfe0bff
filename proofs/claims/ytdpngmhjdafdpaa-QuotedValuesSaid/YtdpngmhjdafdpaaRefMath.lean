/- What the reference's Read computes at a place, length by length, held against the model's decoding. Nothing of the program is named here. -/
import Derived.Test.YtdpngmhjdafdpaaBytes
namespace Go.Proofs.Ytdpngmhjdafdpaa.Um

/-- The number that the reference makes of n bytes: behind its first step, and j rounds later. -/
def vv (s : ByteArray) (i n : Nat) : Nat → Nat
  | 0 => if n = 1 then byt s i else byt s i % 2 ^ (7 - n)
  | j + 1 => 64 * vv s i n j + byt s (i + (j + 1)) % 64
def vfin (s : ByteArray) (i n : Nat) : Nat := vv s i n (n - 1)

theorem vfin1 (s : ByteArray) (i : Nat) : vfin s i 1 = byt s i := rfl
theorem vfin2 (s : ByteArray) (i : Nat) : vfin s i 2 = 64 * (byt s i % 32) + byt s (i + 1) % 64 := rfl
theorem vfin3 (s : ByteArray) (i : Nat) : vfin s i 3 = 64 * (64 * (byt s i % 16) + byt s (i + 1) % 64) + byt s (i + 2) % 64 := rfl
theorem vfin4 (s : ByteArray) (i : Nat) : vfin s i 4 = 64 * (64 * (64 * (byt s i % 8) + byt s (i + 1) % 64) + byt s (i + 2) % 64) + byt s (i + 3) % 64 := rfl

/-- The form as a text (of no program). -/
def form (r : Int) : ByteArray := if Utf8.valid r = true then Utf8.encode r else ByteArray.empty

theorem form_list {c : Nat} (h : okN c) : (form (c : Int)).data.toList = (formN c).map UInt8.ofNat := by
  have hv := (valid_iff c).2 h
  unfold form
  rw [if_pos hv]
  unfold Utf8.encode formN
  simp only [hv, if_true, Int.toNat_natCast]
  repeat' split
  all_goals first | rfl | omega

theorem form_none {c : Nat} (h : ¬ okN c) : (form (c : Int)).data.toList = [] := by
  unfold form
  rw [valid_false h]; rfl

/-- Is the form of the number those n bytes? -/
def hitB (s : ByteArray) (i n : Nat) : Bool := (form (vfin s i n : Nat)).toList == (s.extract i (i + n)).toList

theorem toList_eq (s : ByteArray) : s.toList = s.data.toList := by
  have := Lib.extract_toList s 0 s.size
  have h2 := Lib.extract_data s 0 s.size
  rw [ByteArray.extract_zero_size] at this h2
  rw [this, ← h2]

theorem toNat_ofNat {x : Nat} (h : x < 256) : (UInt8.ofNat x).toNat = x := by simp; omega

theorem get_of {s : ByteArray} {i x : Nat} (h : s.get! i = UInt8.ofNat x) (hx : x < 256) : byt s i = x := by unfold byt; rw [h, toNat_ofNat hx]
theorem of_get {s : ByteArray} {i x : Nat} (h : byt s i = x) : s.get! i = UInt8.ofNat x := by
  have hx := byt_lt s i
  rw [h] at hx
  apply UInt8.toNat.inj
  rw [toNat_ofNat hx]; exact h

theorem hit_iff (s : ByteArray) (i n c : Nat) (hc : okN c) (h1 : 1 ≤ n) (hn : i + n ≤ s.size) :
    ((form (c : Int)).toList == (s.extract i (i + n)).toList) = true ↔ n = len c ∧ At s i c := by
  have hle : c ≤ 1114111 := by unfold okN at hc; omega
  rw [beq_iff_eq, toList_eq, toList_eq, form_list hc, piece s i n hn]
  constructor
  · intro h
    have hl := congrArg List.length h
    simp only [List.length_map, List.length_range, formN_length] at hl
    subst hl
    refine ⟨rfl, ?_⟩
    revert h
    unfold At
    by_cases a : c < 128
    · rw [show len c = 1 by unfold len; rw [if_pos a]] at hn ⊢
      simp only [formN, if_pos a, List.map_cons, List.map_nil, List.range_succ, List.range_zero, List.nil_append, List.cons.injEq, and_true, Nat.add_zero]
      intro h
      have := get_of h.symm (by omega)
      exact .inl ⟨a, hn, this⟩
    · by_cases b : c < 2048
      · rw [show len c = 2 by unfold len; rw [if_neg a, if_pos b]] at hn ⊢
        simp only [formN, if_neg a, if_pos b, List.map_cons, List.map_nil, List.range_succ, List.range_zero, List.nil_append, List.cons_append, List.cons.injEq, and_true, Nat.add_zero]
        rintro ⟨h, h'⟩
        have e := get_of h.symm (by omega)
        have e' := get_of h'.symm (by omega)
        exact .inr (.inl ⟨by omega, b, hn, e, e'⟩)
      · by_cases d : c < 65536
        · rw [show len c = 3 by unfold len; rw [if_neg a, if_neg b, if_pos d]] at hn ⊢
          simp only [formN, if_neg a, if_neg b, if_pos d, List.map_cons, List.map_nil, List.range_succ, List.range_zero, List.nil_append, List.cons_append, List.cons.injEq, and_true, Nat.add_zero]
          rintro ⟨h, h', h''⟩
          have e := get_of h.symm (by omega)
          have e' := get_of h'.symm (by omega)
          have e'' := get_of h''.symm (by omega)
          exact .inr (.inr (.inl ⟨by omega, d, hn, e, e', e''⟩))
        · rw [show len c = 4 by unfold len; rw [if_neg a, if_neg b, if_neg d]] at hn ⊢
          simp only [formN, if_neg a, if_neg b, if_neg d, List.map_cons, List.map_nil, List.range_succ, List.range_zero, List.nil_append, List.cons_append, List.cons.injEq, and_true, Nat.add_zero]
          rintro ⟨h, h', h'', h'''⟩
          have e := get_of h.symm (by omega)
          have e' := get_of h'.symm (by omega)
          have e'' := get_of h''.symm (by omega)
          have e''' := get_of h'''.symm (by omega)
          exact .inr (.inr (.inr ⟨by omega, hn, e, e', e'', e'''⟩))
  · rintro ⟨rfl, h⟩
    rcases h with ⟨a, _, e⟩ | ⟨a, b, _, e, e'⟩ | ⟨a, b, _, e, e', e''⟩ | ⟨a, _, e, e', e'', e'''⟩
    · rw [show len c = 1 by unfold len; rw [if_pos a]]
      simp only [formN, if_pos a, List.map_cons, List.map_nil, List.range_succ, List.range_zero, List.nil_append, Nat.add_zero]
      rw [of_get e]
    · rw [show len c = 2 by unfold len; rw [if_neg (by omega), if_pos b]]
      simp only [formN, if_neg (show ¬ c < 128 by omega), if_pos b, List.map_cons, List.map_nil, List.range_succ, List.range_zero, List.nil_append, List.cons_append, Nat.add_zero]
      rw [of_get e, of_get e']
    · rw [show len c = 3 by unfold len; rw [if_neg (by omega), if_neg (by omega), if_pos b]]
      simp only [formN, if_neg (show ¬ c < 128 by omega), if_neg (show ¬ c < 2048 by omega), if_pos b, List.map_cons, List.map_nil, List.range_succ, List.range_zero, List.nil_append, List.cons_append, Nat.add_zero]
      rw [of_get e, of_get e', of_get e'']
    · rw [show len c = 4 by unfold len; rw [if_neg (by omega), if_neg (by omega), if_neg (by omega)]]
      simp only [formN, if_neg (show ¬ c < 128 by omega), if_neg (show ¬ c < 2048 by omega), if_neg (show ¬ c < 65536 by omega), List.map_cons, List.map_nil, List.range_succ, List.range_zero, List.nil_append, List.cons_append, Nat.add_zero]
      rw [of_get e, of_get e', of_get e'', of_get e''']

theorem hit_says {s : ByteArray} {i n : Nat} (h1 : 1 ≤ n) (hn : i + n ≤ s.size) (h : hitB s i n = true) : okN (vfin s i n) ∧ n = len (vfin s i n) ∧ At s i (vfin s i n) := by
  by_cases hc : okN (vfin s i n)
  · exact ⟨hc, (hit_iff s i n _ hc h1 hn).1 h⟩
  · exfalso
    unfold hitB at h
    rw [beq_iff_eq, toList_eq, toList_eq, form_none hc, piece s i n hn] at h
    have := congrArg List.length h
    simp at this
    omega

theorem vfin_at {s : ByteArray} {i c : Nat} (hc : okN c) (h : At s i c) : vfin s i (len c) = c := by
  have hle : c ≤ 1114111 := by unfold okN at hc; omega
  rcases h with ⟨a, _, e⟩ | ⟨a, b, _, e, e'⟩ | ⟨a, b, _, e, e', e''⟩ | ⟨a, _, e, e', e'', e'''⟩
  · rw [show len c = 1 by unfold len; rw [if_pos a], vfin1, e]
  · rw [show len c = 2 by unfold len; rw [if_neg (by omega), if_pos b], vfin2, e, e']; omega
  · rw [show len c = 3 by unfold len; rw [if_neg (by omega), if_neg (by omega), if_pos b], vfin3, e, e', e'']; omega
  · rw [show len c = 4 by unfold len; rw [if_neg (by omega), if_neg (by omega), if_neg (by omega)], vfin4, e, e', e'', e''']; omega

/-- AT A PLACE WHERE A CHARACTER BEGINS the reference meets it at its own length, and at no shorter one. -/
theorem hit_good {s : ByteArray} {i n : Nat} (hi : i < s.size) (hk : okAt s i = true) (h1 : 1 ≤ n) (hn : i + n ≤ s.size) :
    hitB s i n = decide (n = (Utf8.decode s i).2) ∧ (n = (Utf8.decode s i).2 → vfin s i n = (Utf8.decode s i).1) := by
  have ho : Utf8.decode s i ≠ (65533, 1) := by unfold okAt at hk; exact of_decide_eq_true hk
  obtain ⟨ha, hb, hd⟩ := decode_at hi ho
  have key : n = (Utf8.decode s i).2 → vfin s i n = (Utf8.decode s i).1 := fun e => by rw [e, hd]; exact vfin_at ha hb
  refine ⟨?_, key⟩
  rw [Bool.eq_iff_iff, decide_eq_true_eq]
  constructor
  · intro h
    obtain ⟨x, y, z⟩ := hit_says h1 hn h
    have := decode_of x z
    rw [this]
    exact y
  · intro e
    unfold hitB
    rw [key e]
    exact (hit_iff s i n _ ha h1 hn).2 ⟨by rw [e, hd], hb⟩

theorem hit_bad {s : ByteArray} {i n : Nat} (hi : i < s.size) (hk : okAt s i = false) (h1 : 1 ≤ n) (hn : i + n ≤ s.size) : hitB s i n = false := by
  cases h : hitB s i n with
  | false => rfl
  | true =>
    obtain ⟨x, y, z⟩ := hit_says h1 hn h
    have := (okAt_iff hi).2 ⟨_, x, z⟩
    rw [this] at hk
    cases hk

end Go.Proofs.Ytdpngmhjdafdpaa.Um
