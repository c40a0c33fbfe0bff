/- Contracts of the other closures of number.walk, and of walk, exponent, isRow. -/
import Derived.Test.YtdpngmhjdafdpaaNuWalk
import Derived.OwnWalk
import Derived.Laws.EntriesVeiled
namespace Go.Proofs.Ytdpngmhjdafdpaa
open Go.RowKit Em
set_option linter.unusedVariables false

/-- Is the first byte one of some? -/
def inS (o : ByteArray) : List UInt8 → Bool
  | [] => false
  | c :: _ => decide (0 ≤ Lib.indexByte (bl o) c)

theorem inS1 (c : UInt8) (r : List UInt8) : inS ⟨#[c]⟩ r = Nm.at1 c r := by
  match r with
  | [] => rfl
  | x :: r =>
    unfold inS Nm.at1
    refine decide_eq_decide.2 ?_
    show 0 ≤ Lib.indexByte [c] x ↔ _
    unfold Lib.indexByte Lib.indexByte
    by_cases h : c = x
    · subst h; simp
    · rw [if_neg (by simpa using h)]; simp; exact fun e => h e.symm
theorem inS2 (c d : UInt8) (r : List UInt8) : inS ⟨#[c, d]⟩ r = Nm.at2 c d r := by
  match r with
  | [] => rfl
  | x :: r =>
    unfold inS Nm.at2
    refine decide_eq_decide.2 ?_
    show 0 ≤ Lib.indexByte [c, d] x ↔ _
    unfold Lib.indexByte Lib.indexByte Lib.indexByte
    by_cases h : c = x
    · subst h; simp
    · by_cases h2 : d = x
      · subst h2; simp [h]
      · simp [h, h2]
        exact ⟨fun e => h e.symm, fun e => h2 e.symm⟩

theorem byte_back (s : ByteArray) (p : Nat) (h : p < s.size) : ((byN s p : Nat) : Int).toNat.toUInt8 = s[p]'h := by
  rw [← byN_get s p h]; simp

set_option maxHeartbeats 4000000 in
/-- one -/
theorem one_any (bs ba bt : Nat) (s : ByteArray) (r : List UInt8) (o : ByteArray) (v : Bool) (w : World) (h : Wk w bs ba bt s r) (hs : s.size ≤ 4611686018427387000) (hv : inS o r = v) :
    Calls Try.prog 60 #[.string o, .pointer (some ⟨ba, 0, none⟩), .pointer (some ⟨bs, 0, none⟩)] w fun e w' => e = .returned (.bool v) ∧ Wk w' bs ba bt s (bif v then r.tail else r) ∧ ∀ B, B ≤ ba → Below B w w' := by
  obtain ⟨p, hp, hr, ca, fa⟩ := h.ca
  have cs := h.cs
  have H := Lib.hid h
  have b0 : (0 : Int) ≤ (p : Int) := by omega
  clear h
  by_cases hps : p < s.size
  · have hlt : (p : Int) < (s.size : Int) := by omega
    have e1 := byN_get s p hps
    have l1 := byN_lt s p
    have hd1 := bl_drop s p hps
    rw [hr] at hd1
    have hne : ((p : Int) == (s.size : Int)) = false := beq_eq_false_iff_ne.2 (by omega)
    have HI := fun w => index_any o (byN s p : Int) w
    have hb := byte_back s p hps
    rw [hb] at HI
    rw [hd1] at hv
    have ht : r.tail = (bl s).drop (p + 1) := by rw [hd1]; rfl
    have HT := Lib.hid ht
    have K1 := Lib.hid (H.out.set (p + 1) (by omega))
    have v1 : ((p + 1 : Nat) : Int) = (p : Int) + 1 := by push_cast; rfl
    rw [v1] at K1
    clear ht hd1 hb hr v1
    unfold inS at hv
    simp only [] at hv
    generalize byN s p = C at e1 l1 HI
    have hge := Lib.indexByte_ge (bl o) s[p]
    generalize Lib.indexByte (bl o) s[p] = X at HI hv hge
    cases v with
    | true =>
      have hx := of_decide_eq_true hv
      clear hv
      go_enter Try.func60, Try.ntmps60
      go_wp2_with (go_at_call 46; refine (HI _).mono ?_; rintro e w' ⟨rfl, rfl⟩)
      go_ret
      exact ⟨rfl, by rw [cond_true, HT.out]; exact K1.out, fun B hB => (Below.refl _ _).setCell hB _⟩
    | false =>
      have hx := of_decide_eq_false hv
      have hx2 : X < 0 := by omega
      clear hv
      go_enter Try.func60, Try.ntmps60
      go_wp2_with (go_at_call 46; refine (HI _).mono ?_; rintro e w' ⟨rfl, rfl⟩)
      go_ret
      exact ⟨rfl, H.out, fun B _ => Below.refl _ _⟩
  · obtain rfl : p = s.size := by omega
    rw [bl_over s s.size hps] at hr
    subst hr
    have : v = false := hv.symm
    subst this
    go_enter Try.func60, Try.ntmps60
    go_wp2
    go_ret
    exact ⟨rfl, H.out, fun B _ => Below.refl _ _⟩

/-- end -/
theorem end_any (bs ba bt : Nat) (s : ByteArray) (r : List UInt8) (v : Bool) (w : World) (h : Wk w bs ba bt s r) (hv : r.isEmpty = v) :
    Calls Try.prog 61 #[.pointer (some ⟨ba, 0, none⟩), .pointer (some ⟨bs, 0, none⟩)] w fun e w' => e = .returned (.bool v) ∧ w = w' := by
  obtain ⟨p, hp, hr, ca, fa⟩ := h.ca
  have cs := h.cs
  have hx : ((p : Int) == (s.size : Int)) = v := by
    rw [← hv, ← hr, Bool.eq_iff_iff, beq_iff_eq, List.isEmpty_iff, List.drop_eq_nil_iff, bl_size]
    omega
  clear h hv hr
  go_enter Try.func61, Try.ntmps61
  go_wp2
  go_ret
  exact ⟨rfl, rfl⟩

theorem row_is (bs ba bt : Nat) (s : ByteArray) (r : List UInt8) (b : Nat) (v : Bool) (w : World) (h : Wk w bs ba bt s r) (hb : b ≤ 16) (hs : s.size ≤ 4611686018427387000) (hv : Nm.hd b r = v) :
    Calls Try.prog 59 #[.int .i64 b, .pointer (some ⟨bt, 0, none⟩), .pointer (some ⟨ba, 0, none⟩), .pointer (some ⟨bs, 0, none⟩)] w fun e w' => e = .returned (.bool v) ∧ Wk w' bs ba bt s (Nm.go b r) ∧ ∀ B, B ≤ ba → Below B w w' := by
  have := row_any bs ba bt s r b w h hb hs
  rw [hv] at this
  exact this

/-- What walk hands out. -/
def rowF (bs ba bt : Nat) : Value := .func (.func 59) #[] #[.pointer (some ⟨bt, 0, none⟩), .pointer (some ⟨ba, 0, none⟩), .pointer (some ⟨bs, 0, none⟩)]
def oneF (bs ba : Nat) : Value := .func (.func 60) #[] #[.pointer (some ⟨ba, 0, none⟩), .pointer (some ⟨bs, 0, none⟩)]
def endF (bs ba : Nat) : Value := .func (.func 61) #[] #[.pointer (some ⟨ba, 0, none⟩), .pointer (some ⟨bs, 0, none⟩)]

theorem walk_any (s : ByteArray) (w : World) :
    Calls Try.prog 39 #[.string s] w fun e w' => ∃ bs ba bt, e = .returned (.tuple #[rowF bs ba bt, oneF bs ba, endF bs ba]) ∧ Wk w' bs ba bt s (bl s) ∧ w.heap.size ≤ ba ∧ Below w.heap.size w w' := by
  have a1 := heap_alloc_new w (.cells #[.string s] 9)
  have a2 := heap_alloc_new (w.alloc (.cells #[.string s] 9)) (.cells #[.int .i64 0] 3)
  have a3 := heap_alloc_new ((w.alloc (.cells #[.string s] 9)).alloc (.cells #[.int .i64 0] 3)) (.cells #[.func (.func 58) #[] #[.pointer (some ⟨w.heap.size, 0, none⟩)]] 71)
  have z1 : (w.alloc (.cells #[.string s] 9)).heap.size = w.heap.size + 1 := by simp
  have z2 : ((w.alloc (.cells #[.string s] 9)).alloc (.cells #[.int .i64 0] 3)).heap.size = w.heap.size + 1 + 1 := by simp
  have hb : Below w.heap.size w (((w.alloc (.cells #[.string s] 9)).alloc (.cells #[.int .i64 0] 3)).alloc (.cells #[.func (.func 58) #[] #[.pointer (some ⟨w.heap.size, 0, none⟩)]] 71)) :=
    (((Below.refl _ _).alloc (Nat.le_refl _) _).alloc (by omega) _).alloc (by omega) _
  have hk : Wk (((w.alloc (.cells #[.string s] 9)).alloc (.cells #[.int .i64 0] 3)).alloc (.cells #[.func (.func 58) #[] #[.pointer (some ⟨w.heap.size, 0, none⟩)]] 71)) w.heap.size (w.heap.size + 1) (w.heap.size + 1 + 1) s (bl s) := by
    refine ⟨?_, ⟨0, by omega, rfl, ?_⟩, ?_, by omega, by omega⟩
    · rw [Below.heap_alloc _ _ _ (by omega), Below.heap_alloc _ _ _ (by omega)]; exact a1
    · rw [Below.heap_alloc _ _ _ (by omega), ← z1]; exact a2
    · rw [← z2]; exact a3
  have Hk := Lib.hid hk
  have Hb := Lib.hid hb
  clear a1 a2 a3 z1 z2 hb hk
  go_enter Try.func39, Try.ntmps39
  go_wp2
  go_ret3
  exact ⟨w.heap.size, w.heap.size + 1, w.heap.size + 1 + 1, rfl, Hk.out, by omega, Hb.out⟩

theorem sg_eq (r : List UInt8) : Nm.sg r = bif Nm.at2 43 45 r then r.tail else r := by
  match r with
  | [] => rfl
  | c :: r =>
    simp only [Nm.sg, Nm.at2]
    by_cases h : c = 43 ∨ c = 45
    · rw [if_pos h, decide_eq_true h]; rfl
    · rw [if_neg h, decide_eq_false h]; rfl

/-- exponent -/
theorem exponent_is (bs ba bt : Nat) (s : ByteArray) (r : List UInt8) (v : Bool) (w : World) (h : Wk w bs ba bt s r) (hs : s.size ≤ 4611686018427387000) (hv : Nm.hd 10 (Nm.sg r) = v) :
    Calls Try.prog 57 #[rowF bs ba bt, oneF bs ba] w fun e w' => e = .returned (.bool v) ∧ Wk w' bs ba bt s (Nm.go 10 (Nm.sg r)) ∧ ∀ B, B ≤ ba → Below B w w' := by
  have C := one_any bs ba bt s r ⟨#[43, 45]⟩ (Nm.at2 43 45 r) w h hs (inS2 43 45 r)
  rw [← sg_eq] at C
  unfold rowF oneF
  go_enter Try.func57, Try.ntmps57
  go_wp2_with fail
  refine C.mono ?_
  rintro e w1 ⟨rfl, k1, b1⟩
  clear C
  go_wp2_with fail
  refine (row_is bs ba bt s _ 10 v w1 k1 (by omega) hs hv).mono ?_
  rintro e w2 ⟨rfl, k2, b2⟩
  go_wp2
  go_ret
  exact ⟨rfl, k2, fun B hB => (b1 B hB).trans (b2 B hB)⟩

/-- isRow -/
theorem isrow_any (s : ByteArray) (b : Nat) (w : World) (hb : b ≤ 16) (hs : s.size ≤ 4611686018427387000) :
    Calls Try.prog 24 #[.string s, .int .i64 b] w fun e w' => e = .returned (.bool (Nm.whole b (bl s))) ∧ Below w.heap.size w w' := by
  unfold Nm.whole
  cases hh : Nm.hd b (bl s) with
  | false =>
    go_enter Try.func24, Try.ntmps24
    go_wp2_with fail
    refine (walk_any s w).mono ?_
    rintro e w1 ⟨bs, ba, bt, rfl, k1, h1, b1⟩
    unfold rowF oneF endF
    go_wp2_with fail
    refine (row_is bs ba bt s _ b _ w1 k1 hb hs hh).mono ?_
    rintro e w2 ⟨rfl, k2, b2⟩
    go_wp2
    go_ret
    exact ⟨rfl, b1.trans (b2 _ h1)⟩
  | true =>
    go_enter Try.func24, Try.ntmps24
    go_wp2_with fail
    refine (walk_any s w).mono ?_
    rintro e w1 ⟨bs, ba, bt, rfl, k1, h1, b1⟩
    unfold rowF oneF endF
    go_wp2_with fail
    refine (row_is bs ba bt s _ b _ w1 k1 hb hs hh).mono ?_
    rintro e w2 ⟨rfl, k2, b2⟩
    have Hk2 := Lib.hid k2
    go_wp2_with fail
    refine (end_any bs ba bt s _ _ w2 k2 rfl).mono ?_
    rintro e w3 ⟨rfl, rfl⟩
    go_wp2
    go_ret
    exact ⟨rfl, b1.trans (b2 _ h1)⟩
end Go.Proofs.Ytdpngmhjdafdpaa
