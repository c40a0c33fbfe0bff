/- What undoes edits, as the program reckons it: the mathematics of the law SpanUndoes. -/
import Derived.Test.YtckioinjgdjohaaEdLawB
namespace Go.Proofs.Ytckioinjgdjohaa
open Go.RowKit Em

theorem wrap_i64 (n : Int) : IntKind.i64.wrap n = wrap64 n := by unfold wrap64; rw [IntKind.wrap_i64]

theorem unW_un {s : ByteArray} (hs : s.size ≤ 65536) : ∀ (L : List Ed) (m p : Int), sd s.size p L = true → 0 ≤ p → p ≤ s.size → m + (put L : Int) ≤ 2305843009213693952 → -2305843009213693952 ≤ m - (s.size - p) → unW s m L = un (bl s) m L
  | [], _, _, _, _, _, _, _ => rfl
  | e :: l, m, p, h, h0, hp, h1, h2 => by
    obtain ⟨g1, g2, g3, g4⟩ := sd_cons.1 h
    have e1 : (put (e :: l) : Int) = (e.x.size : Int) + (put l : Int) := by simp [put]
    have w1 : wrap64 (e.f + m) = e.f + m := by unfold wrap64; omega
    have w2 : IntKind.i64.wrap (e.f + m + e.x.size) = e.f + m + e.x.size := by rw [wrap_i64]; unfold wrap64; omega
    have w3 : wrap64 (m + gr e) = m + gr e := by unfold gr; unfold wrap64; omega
    have ih := unW_un hs l (m + gr e) e.t g4 (by omega) g3 (by unfold gr; omega) (by unfold gr; omega)
    have e3 : s.extract e.f.toNat e.t.toNat = ⟨(((bl s).take e.t.toNat).drop e.f.toNat).toArray⟩ := bl_inj (by rw [bl_extract, bl_of (((bl s).take e.t.toNat).drop e.f.toNat)])
    rw [unW, un, w1, w2, w3, ih, e3]

theorem und_eq {s : ByteArray} {L : List Ed} (hp : put L ≤ 1152921504606846976) : undE s L = appE s L := by
  unfold undE appE
  by_cases h0 : errT s L = 0
  · have hc : ¬ errT s L ≠ 0 := by rw [h0]; simp
    rw [if_neg hc, if_neg hc]
    obtain ⟨g1, g2⟩ := errT_zero h0
    have hT := edT_size g2
    have h1 := gn_eq L
    have h2 := took_le g2 (by omega)
    have hG := gnW_in (n := s.size) (by omega) L 0 0 g2 (by omega) (by omega) (by omega) (by omega)
    have e : wrap64 ((s.size : Int) + gnW 0 L) = (edT s L).size := by rw [hG]; unfold wrap64; omega
    rw [e]
    by_cases h3 : 65536 < (edT s L).size
    · rw [if_pos h3, if_pos (by omega)]
    · rw [if_neg h3, if_neg (by omega)]
  · rw [if_pos h0, if_pos h0]

theorem appE_zero {s : ByteArray} {L : List Ed} (h : appE s L = 0) : errT s L = 0 ∧ (edT s L).size ≤ 65536 := by
  unfold appE at h
  by_cases h0 : errT s L = 0
  · rw [if_neg (by rw [h0]; simp)] at h
    refine ⟨h0, ?_⟩
    by_cases h3 : 65536 < (edT s L).size
    · rw [if_pos h3] at h; omega
    · omega
  · rw [if_pos h0] at h; exact absurd h h0

theorem und_un {s : ByteArray} {L : List Ed} (hp : put L ≤ 1152921504606846976) (h : appE s L = 0) : undE s L = 0 ∧ undR s L = un (bl s) 0 L := by
  have h1 := (und_eq (s := s) hp).trans h
  obtain ⟨h2, _⟩ := appE_zero h
  obtain ⟨g1, g2⟩ := errT_zero h2
  refine ⟨h1, ?_⟩
  unfold undR
  rw [if_pos h1]
  exact unW_un g1 L 0 0 g2 (by omega) (by omega) (by omega) (by omega)

theorem un_nth (s : List UInt8) : ∀ (L : List Ed) (m : Int) (i : Nat), i < L.length → (nthE (un s m L) i).x = ⟨((s.take (nthE L i).t.toNat).drop (nthE L i).f.toNat).toArray⟩
  | [], _, i, hi => by simp at hi
  | e :: l, m, 0, _ => rfl
  | e :: l, m, i + 1, hi => un_nth s l (m + gr e) i (by simpa using hi)

theorem un_put {s : List UInt8} : ∀ (L : List Ed) (m : Int) (p : Int), sd s.length p L = true → 0 ≤ p → p ≤ s.length → (put (un s m L) : Int) ≤ s.length - p
  | [], _, _, _, _, hp => by simp [un, put]; omega
  | e :: l, m, p, h, h0, hp => by
    obtain ⟨g1, g2, g3, g4⟩ := sd_cons.1 h
    have ih := un_put l (m + gr e) e.t g4 (by omega) g3
    have hx : (⟨((s.take e.t.toNat).drop e.f.toNat).toArray⟩ : ByteArray).size = e.t.toNat - e.f.toNat := by
      rw [size_of, List.length_drop, List.length_take]; omega
    show ((_ + put (un s (m + gr e) l) : Nat) : Int) ≤ _
    rw [hx]; push_cast; omega

/-- All that the law asks of what undoes edits. -/
theorem un_all {s : ByteArray} {L : List Ed} (h : appE s L = 0) :
    appE (edT s L) (un (bl s) 0 L) = 0 ∧ edT (edT s L) (un (bl s) 0 L) = s ∧ errC (edT s L).size (un (bl s) 0 L) = 0 ∧ put (un (bl s) 0 L) ≤ 65536 ∧ un (bl (edT s L)) 0 (un (bl s) 0 L) = L ∧ sd (edT s L).size 0 (un (bl s) 0 L) = true := by
  obtain ⟨h1, h2⟩ := appE_zero h
  obtain ⟨g1, g2⟩ := errT_zero h1
  have hlen := bl_size s
  have g3 : sd (bl s).length ((0 : Nat) : Int) L = true := by rw [hlen]; exact g2
  obtain ⟨u1, u2⟩ := un_undoes (bl s) L 0 [] g3 (by omega)
  have u3 := un_twice (bl s) L 0 [] g3 (by omega)
  simp only [List.nil_append, List.length_nil, Int.ofNat_zero, Int.sub_self, List.drop_zero] at u1 u2 u3
  have hT := edT_bl s L
  rw [← hT] at u1 u2 u3
  rw [bl_size] at u1
  have u4 : edT (edT s L) (un (bl s) 0 L) = s := bl_inj (by rw [edT_bl]; exact u2)
  have u5 := errT_mk h2 u1
  have u6 := un_put L 0 0 g3 (by omega) (by omega)
  refine ⟨?_, u4, ?_, by omega, u3, u1⟩
  · unfold appE
    rw [u5, u4, if_neg (by decide), if_neg (by omega)]
  · unfold errC errS
    rw [if_neg (by omega), if_pos u1]

theorem extract_of (s : ByteArray) (f t : Nat) : s.extract f t = ⟨(((bl s).take t).drop f).toArray⟩ := bl_inj (by rw [bl_extract, bl_of (((bl s).take t).drop f)])
end Go.Proofs.Ytckioinjgdjohaa
