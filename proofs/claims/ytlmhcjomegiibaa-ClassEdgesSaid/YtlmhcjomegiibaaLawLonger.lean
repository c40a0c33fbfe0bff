/- The walk of the law ClassLonger. -/
import Derived.Test.YtlmhcjomegiibaaLawClass
namespace Go.Proofs.Ytlmhcjomegiibaa
open Go.RowKit

/-- The character that string(r) makes. -/
def chrOf (r : Int) : Nat := if Utf8.valid r = true then r.toNat else 65533
theorem chrOf_ok (r : Int) : Um.okN (chrOf r) := by
  unfold chrOf
  cases h : Utf8.valid r with
  | true =>
    obtain ⟨c, rfl, hc⟩ := Um.okN_of_valid h
    rw [if_pos rfl]
    exact hc
  | false => rw [if_neg (by simp)]; unfold Um.okN; omega
theorem encode_chr (r : Int) : Utf8.encode r = Um.form (chrOf r : Nat) := by
  have hv := (Um.valid_iff (chrOf r)).2 (chrOf_ok r)
  unfold Um.form
  rw [if_pos hv]
  unfold chrOf
  cases h : Utf8.valid r with
  | true =>
    obtain ⟨c, rfl, hc⟩ := Um.okN_of_valid h
    rw [if_pos rfl]
    rfl
  | false =>
    rw [if_neg (by simp)]
    unfold Utf8.encode
    rw [h, show Utf8.valid ((65533 : Nat) : Int) = true by decide]
    rfl

/-- Only characters are letters or digits. -/
def inside (l : List (Int × Int)) : Bool := l.all fun x => decide (0 ≤ x.1) && (decide (x.2 < 55296) || (decide (57344 ≤ x.1) && decide (x.2 ≤ 1114111)))
theorem only_valid {l : List (Int × Int)} (h : inside l = true) {r : Int} (hr : Cm.inB l r = true) : Utf8.valid r = true := by
  obtain ⟨x, hx, a, b⟩ := in_some hr
  unfold inside at h
  have := List.all_eq_true.1 h x hx
  simp only [Bool.and_eq_true, Bool.or_eq_true, decide_eq_true_eq] at this
  exact valid_true (by omega)
theorem letters_inside : inside Cm.letters = true := by decide
theorem digits_inside : inside Cm.digits = true := by decide

theorem more_eq (r : Int) : (Cm.inB Cm.letters r || Cm.inB Cm.digits r) = (letterN (chrOf r) || digitN (chrOf r)) := by
  cases h : Utf8.valid r with
  | true =>
    obtain ⟨c, rfl, hc⟩ := Um.okN_of_valid h
    have e : chrOf (c : Int) = c := by unfold chrOf; rw [if_pos h]; rfl
    rw [e]; rfl
  | false =>
    have e : chrOf r = 65533 := by unfold chrOf; rw [h]; rfl
    have h1 : Cm.inB Cm.letters r = false := by
      cases hl : Cm.inB Cm.letters r with
      | false => rfl
      | true => rw [only_valid letters_inside hl] at h; cases h
    have h2 : Cm.inB Cm.digits r = false := by
      cases hl : Cm.inB Cm.digits r with
      | false => rfl
      | true => rw [only_valid digits_inside hl] at h; cases h
    rw [e, h1, h2]
    decide

theorem form_reads {c : Nat} (h : Um.okN c) : Um.allB (Um.form (c : Int)) = true ∧ Um.allC (Um.form (c : Int)) = [c] := by
  have hr : Um.Reads (Um.form (c : Int)) 0 [c] := ⟨h, Um.at_form h, by
    unfold Um.Reads
    rw [Um.form_size h, Nat.zero_add]⟩
  exact ⟨(Um.all_reads hr).2.1, (Um.all_reads hr).1⟩

theorem words_tail : words.all (fun v => tailOk (Um.allC ⟨v.toArray⟩)) = true := by decide +kernel
theorem word_tail {s : ByteArray} (h : isWord s = true) : tailOk (Um.allC s) = true := by
  unfold isWord at h
  obtain ⟨v, hv, he⟩ := List.any_eq_true.1 h
  rw [beq_iff_eq, Um.toList_eq] at he
  have hs : s = ⟨v.toArray⟩ := Um.bytes_ext he
  rw [hs]
  exact List.all_eq_true.1 words_tail v hv

theorem nameOk_snoc {A : List Nat} (h : nameOk A = true) (c : Nat) : nameOk (A ++ [c]) = (letterN c || digitN c) := by
  cases A with
  | nil => cases h
  | cons a A =>
    simp only [nameOk, Bool.and_eq_true] at h
    obtain ⟨h1, h2⟩ := h
    show (letterN a && tailOk (A ++ [c])) = _
    unfold tailOk at *
    rw [List.all_append, h1, h2]
    simp

/-- A name with a character more. -/
theorem longer {s : ByteArray} (hn : nameB s = true) (r : Int) :
    isWord s = false ∧ (nameB (s ++ Utf8.encode r) || isWord (s ++ Utf8.encode r)) = (Cm.inB Cm.letters r || Cm.inB Cm.digits r) := by
  unfold nameB at hn
  simp only [Bool.and_eq_true, Bool.not_eq_true'] at hn
  obtain ⟨⟨ha, hw⟩, hk⟩ := hn
  refine ⟨hw, ?_⟩
  rw [more_eq, encode_chr]
  have hc := chrOf_ok r
  generalize chrOf r = c at hc
  obtain ⟨fb, fc⟩ := form_reads hc
  obtain ⟨e1, e2, -⟩ := Um.all_append ha fb
  rw [fc] at e1
  have e3 := nameOk_snoc hk c
  have hnb : nameB (s ++ Um.form (c : Int)) = (!isWord (s ++ Um.form (c : Int)) && (letterN c || digitN c)) := by
    unfold nameB
    rw [e2, e1, e3]; rfl
  rw [hnb]
  cases h : isWord (s ++ Um.form (c : Int)) with
  | false => simp
  | true =>
    have ht := word_tail h
    rw [e1] at ht
    unfold tailOk at ht
    rw [List.all_append, Bool.and_eq_true] at ht
    have := ht.2
    simp only [List.all_cons, List.all_nil, Bool.and_true] at this
    rw [this]; rfl

theorem encode_le (r : Int) : (Utf8.encode r).size ≤ 4 := by
  rw [encode_chr, Um.form_size (chrOf_ok r)]
  exact (Um.len_pos _).2

theorem walk_ClassLonger (s : ByteArray) (r : Int) (w : World) (w0 : s.size ≤ 140737488351232) (_w1 : (Lit.int .i32 r).wf = true) :
    Calls Try.prog 13 #[.string s, .int .i32 r] w fun e w' => e = .returned (.bool true) ∧ Below w.heap.size w w' := by
  have N1 := fun wx => name_any s wx
  cases hn : nameB s with
  | false =>
    rw [hn] at N1
    clear hn
    go_enter Try.func13, Try.ntmps13
    go_wp2_with fail
    refine (fixed2_any w).mono ?_
    rintro e w1 ⟨rfl, g1⟩
    go_wp2_with fail
    refine (N1 w1).mono ?_
    rintro e w2 ⟨rfl, g2⟩
    go_wp2_with fail
    refine (fixed2_any w2).mono ?_
    rintro e w3 ⟨rfl, g3⟩
    go_wp2
    go_ret
    have s1 := g1.size; have s2 := g2.size
    exact ⟨rfl, (g1.trans (g2.mono (by omega))).trans (g3.mono (by omega))⟩
  | true =>
    rw [hn] at N1
    obtain ⟨hw, hl⟩ := longer hn r
    have hle := encode_le r
    have W1 := fun wx => word_any s wx
    rw [hw] at W1
    have N2 := fun wx => name_any (s ++ Utf8.encode r) wx
    have W2 := fun wx => word_any (s ++ Utf8.encode r) wx
    have L1 := fun wx => letter_any r wx
    have L2 := fun wx => digit_any r wx
    clear hn hw
    generalize nameB (s ++ Utf8.encode r) = n2 at N2 hl
    generalize isWord (s ++ Utf8.encode r) = w2 at W2 hl
    generalize Cm.inB Cm.letters r = l1 at L1 hl
    generalize Cm.inB Cm.digits r = l2 at L2 hl
    cases n2 <;> cases w2 <;> cases l1 <;> cases l2 <;> first | (exfalso; revert hl; decide) | skip
    all_goals
      clear hl
      go_enter Try.func13, Try.ntmps13
      go_wp2_with fail
      refine (fixed2_any w).mono ?_
      rintro e w1 ⟨rfl, g1⟩
      go_wp2_with fail
      refine (N1 w1).mono ?_
      rintro e w2 ⟨rfl, g2⟩
      go_wp2_with fail
      refine (L1 w2).mono ?_
      rintro e w3 ⟨rfl, g3⟩
      have hb3 : Below w.heap.size w w3 := (g1.trans (g2.mono g1.size)).trans (g3.mono (Nat.le_trans g1.size g2.size))
      have s3 := hb3.size
      clear g1 g2 g3
      go_wp2_with (first
        | (go_at_call 30; ((with_reducible refine (L2 _).mono ?_); rintro e wd ⟨rfl, gd⟩))
        | (go_at_call 38; ((with_reducible refine (W1 _).mono ?_); rintro e wx ⟨rfl, rfl⟩))
        | (go_at_call 38; ((with_reducible refine (W2 _).mono ?_); rintro e wx ⟨rfl, rfl⟩))
        | (go_at_call 36; ((with_reducible refine (N2 _).mono ?_); rintro e wn ⟨rfl, gn⟩)))
      go_ret
      exact ⟨rfl, by first | exact (hb3.trans (gd.mono s3)).trans (gn.mono (Nat.le_trans s3 gd.size)) | exact hb3.trans (gn.mono s3)⟩
end Go.Proofs.Ytlmhcjomegiibaa
