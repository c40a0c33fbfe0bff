/- The walk of the law QuotedQuotes. -/
import Derived.Test.YtdpngmhjdafdpabQuRQuote
namespace Go.Proofs.Ytdpngmhjdafdpab
open Go.Shelf Go.RowKit Em
set_option linter.unusedVariables false
set_option linter.unusedSimpArgs false

theorem dg_hx : ∀ k : Fin 16, Nm.dg (UInt8.ofNat (hxN k.1)) = k.1 := by decide +kernel

theorem strF_qb (f : Nat) (c : UInt8) (y l r : List UInt8) (ih : Qm.strF f y = some (l, r)) : Qm.strF (f + 1) (qb c ++ y) = some (c :: l, r) := by
  unfold qb
  have self : UInt8.ofNat c.toNat = c := by simp
  by_cases h1 : c.toNat = 34 ∨ c.toNat = 92
  · rw [if_pos h1]
    have he : Qm.esc 34 (c :: y) = some (c.toNat, true, y) := by rw [Qm.esc, if_pos h1]
    show Qm.strF (f + 1) (92 :: c :: y) = _
    rw [Qm.strF, if_neg (by decide), if_pos (by decide), he]
    simp only [ih, Option.map_some, Qm.sayS, if_pos rfl, self]
    rfl
  · rw [if_neg h1]
    by_cases h2 : c.toNat = 10
    · rw [if_pos h2]
      have he : Qm.esc 34 (110 :: y) = some (10, true, y) := by
        rw [Qm.esc, if_neg (by decide), if_neg (by decide), if_neg (by decide)]; rfl
      show Qm.strF (f + 1) (92 :: 110 :: y) = _
      rw [Qm.strF, if_neg (by decide), if_pos (by decide), he]
      have hc : c = 10 := UInt8.toNat_inj.1 h2
      subst hc
      simp only [ih, Option.map_some]
      rfl
    · rw [if_neg h2]
      by_cases h3 : 32 ≤ c.toNat ∧ c.toNat ≤ 126
      · rw [if_pos h3]
        show Qm.strF (f + 1) (c :: y) = _
        rw [Qm.strF, if_neg (fun h => h1 (.inl h)), if_neg (fun h => h1 (.inr h)), if_neg h2, ih]; rfl
      · rw [if_neg h3]
        have hl : c.toNat < 256 := c.toNat_lt
        have d1 := dg_hx ⟨c.toNat / 16, by omega⟩
        have d2 := dg_hx ⟨c.toNat % 16, by omega⟩
        simp only [] at d1 d2
        generalize UInt8.ofNat (hxN (c.toNat / 16)) = u at d1
        generalize UInt8.ofNat (hxN (c.toNat % 16)) = v at d2
        have hn : Qm.numA 16 2 0 (u :: v :: y) = some (c.toNat, y) := by
          rw [Qm.numA, if_pos (by omega), Qm.numA, if_pos (by omega), Qm.numA, d1, d2]
          congr 2
          omega
        have he : Qm.esc 34 (120 :: u :: v :: y) = some (c.toNat, true, y) := by
          rw [Qm.esc, if_neg (by decide), if_neg (by decide), if_pos (by decide)]
          have hw : Qm.wide (120 : UInt8).toNat = 2 := by decide
          rw [hw, hn]
          simp only []
          rw [if_pos (Qm.ok_small hl)]; rfl
        show Qm.strF (f + 1) (92 :: 120 :: u :: v :: y) = _
        rw [Qm.strF, if_neg (by decide), if_pos (by decide), he]
        simp only [ih, Option.map_some, Qm.sayS, if_pos rfl, self]
        rfl

theorem strF_qs : ∀ (l : List UInt8) (f : Nat) (r : List UInt8), l.length < f → Qm.strF f (qs l ++ 34 :: r) = some (l, r)
  | [], f + 1, r, _ => by
    show Qm.strF (f + 1) (34 :: r) = _
    rw [Qm.strF, if_pos (by decide)]
  | [], 0, r, h => by simp at h
  | c :: l, 0, r, h => by simp at h
  | c :: l, f + 1, r, h => by
    have ih := strF_qs l f r (by rw [List.length_cons] at h; omega)
    have e : qs (c :: l) ++ 34 :: r = qb c ++ (qs l ++ 34 :: r) := by simp [qs]
    rw [e]
    exact strF_qb f c _ l r ih

theorem qb_pos (c : UInt8) : 1 ≤ (qb c).length := by
  unfold qb
  repeat' split
  all_goals simp
theorem qs_ge : ∀ l : List UInt8, l.length ≤ (qs l).length
  | [] => by simp
  | c :: l => by
    have h1 := qb_pos c
    have h2 := qs_ge l
    unfold qs at *
    rw [List.flatMap_cons, List.length_append, List.length_cons]; omega

theorem whole_quote (l r : List UInt8) : Qm.whole (quoteL l ++ r) = some (7, l, r) := by
  have e : quoteL l ++ r = 34 :: (qs l ++ 34 :: r) := by unfold quoteL; simp
  have := qs_ge l
  rw [e, Qm.whole34, strF_qs l _ r (by rw [List.length_append]; omega)]; rfl

theorem quoteL_len (l : List UInt8) : (quoteL l).length ≤ 4 * l.length + 2 := by
  have := qs_len l
  unfold quoteL
  rw [List.length_cons, List.length_append, List.length_cons, List.length_nil]; omega

set_option maxHeartbeats 2000000 in
theorem walk_QuotedQuotes (s : ByteArray) (w : World) (w0 : s.size ≤ 1048576) :
    Calls Try.prog 3 #[.string s] w fun e w' => e = .returned (.bool true) ∧ Below w.heap.size w w' := by
  have QA := fun w => quote_any s w w0
  have RA := fun w => rquote_any s w w0
  have hq := quoteL_len (bl s)
  rw [bl_size] at hq
  have hT : (txt (quoteL (bl s))).size ≤ 4194306 := by rw [txt_size]; omega
  have VA := fun w => value_any (txt (quoteL (bl s))) w (by omega)
  have v1 : vT (txt (quoteL (bl s))) = s := by
    unfold vT
    have := whole_quote (bl s) []
    rw [List.append_nil] at this
    rw [txt_bl, this]
    exact bl_txt s
  have v2 : vE (txt (quoteL (bl s))) = 0 := by
    unfold vE
    have := whole_quote (bl s) []
    rw [List.append_nil] at this
    rw [txt_bl, this]
  rw [v1, v2] at VA
  have hcat : bl (txt (quoteL (bl s)) ++ ⟨#[34]⟩) = quoteL (bl s) ++ [34] := by rw [bl_append, txt_bl]; rfl
  have hsz : (txt (quoteL (bl s)) ++ ⟨#[34]⟩ : ByteArray).size = (txt (quoteL (bl s))).size + 1 := by rw [← bl_size, hcat, List.length_append, txt_size]; rfl
  have h0 : (bl (txt (quoteL (bl s)) ++ ⟨#[34]⟩)).drop 0 = quoteL (bl s) ++ [34] := by rw [hcat]; rfl
  have hm : mkN (byN (txt (quoteL (bl s)) ++ ⟨#[34]⟩) 0) = true := by
    have e1 := bl_get (txt (quoteL (bl s)) ++ ⟨#[34]⟩) 0 (by omega)
    rw [hcat] at e1
    have e2 : (txt (quoteL (bl s)) ++ ⟨#[34]⟩)[0]'(by omega) = 34 := by
      have : (quoteL (bl s) ++ [34])[0]? = some 34 := rfl
      rw [this] at e1
      exact (Option.some.inj e1).symm
    rw [← byN_get _ 0 (by omega), e2]; rfl
  have SA := fun w => qscan_yes (txt (quoteL (bl s)) ++ ⟨#[34]⟩) 0 w (by omega) hm (by omega)
  have hw := whole_quote (bl s) [34]
  have s1 : qK ((bl (txt (quoteL (bl s)) ++ ⟨#[34]⟩)).drop 0) = 7 := by unfold qK wholeK; rw [h0, hw]
  have s2 : qT (txt (quoteL (bl s)) ++ ⟨#[34]⟩ : ByteArray).size ((bl (txt (quoteL (bl s)) ++ ⟨#[34]⟩)).drop 0) = ((txt (quoteL (bl s))).size : Int) := by
    unfold qT; rw [h0, hw, hsz]; simp only [List.length_cons, List.length_nil]; omega
  have s3 : qE ((bl (txt (quoteL (bl s)) ++ ⟨#[34]⟩)).drop 0) = 0 := by unfold qE; rw [h0, hw]
  rw [s1, s2, s3] at SA
  have f1 : ¬ 9223372036854775807 < (txt (quoteL (bl s))).size + 1 := by omega
  clear v1 v2 hcat hsz h0 hm hw s1 s2 s3 hq
  generalize txt (quoteL (bl s)) = T at QA RA VA SA hT f1
  go_enter Try.func3, Try.ntmps3
  go_wp2_with fail
  refine (QA _).mono ?_
  rintro e w1 ⟨rfl, b1⟩
  go_wp2_with fail
  refine (VA _).mono ?_
  rintro e w2 ⟨rfl, b2⟩
  have c2 := b1.trans (b2.mono b1.size)
  clear b1 b2 QA VA
  go_wp2_with fail
  refine (SA _).mono ?_
  rintro e w3 ⟨rfl, b3⟩
  have c3 := c2.trans (b3.mono c2.size)
  clear c2 b3 SA
  go_wp2_with fail
  refine (fixed6_any _).mono ?_
  rintro e w4 ⟨rfl, b4⟩
  have c4 := c3.trans (b4.mono c3.size)
  clear c3 b4
  go_wp2_with fail
  refine (RA _).mono ?_
  rintro e w5 ⟨rfl, b5⟩
  have c5 := c4.trans (b5.mono c4.size)
  clear c4 b5 RA
  go_wp2
  go_ret
  exact ⟨rfl, c5⟩
end Go.Proofs.Ytdpngmhjdafdpab
