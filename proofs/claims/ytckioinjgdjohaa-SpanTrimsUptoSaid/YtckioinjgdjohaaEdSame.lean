/- Two edits compared; contract of the reference's Same; edits that a call made, as they are read. -/
import Derived.Test.YtckioinjgdjohaaEdUndo
import Derived.Laws.StructEq
namespace Go.Proofs.Ytckioinjgdjohaa
open Go.RowKit Em

def edFields : Array Field := #[⟨"From", 3, 0, false, "", "", 0⟩, ⟨"To", 3, 1, false, "", "", 8⟩, ⟨"Text", 9, 2, false, "", "", 16⟩]
theorem fieldsOf_edit : Try.prog.fieldsOf 36 = edFields := by
  unfold Program.fieldsOf
  rw [Try.underlying36]
  rfl

def edEq (f t f' t' : Int) (x x' : ByteArray) : Bool := f == f' && (t == t' && (x.toList == x'.toList))

theorem run_equal_edit (w : World) (f t f' t' : Int) (x x' : ByteArray) :
    (Op.equalIn 10000 36 (.agg #[.int .i64 f, .int .i64 t, .string x]) (.agg #[.int .i64 f', .int .i64 t', .string x'])).run Try.prog w = .ok (edEq f t f' t' x x') w := by
  have hp : Try.prog.stoodInHeld 36 = false := by kernel_rfl
  have ha : ∀ w, (isAgg 3).run Try.prog w = .ok false w := fun _ => by kernel_rfl
  have hb : ∀ w, (isAgg 9).run Try.prog w = .ok false w := fun _ => by kernel_rfl
  rw [run_equalIn_agg (P := Try.prog) w 9999 36 _ _ (by rw [fieldsOf_edit]; exact Try.underlying36) hp, fieldsOf_edit]
  have u3 := Try.underlying3
  have u9 := Try.underlying9
  unfold edEq
  simp [edFields, go_sem, u3, u9, ha, hb]
  by_cases h1 : f = f' <;> by_cases h2 : t = t' <;> by_cases h3 : x.toList = x'.toList <;> simp [h1, h2, h3]

theorem edEq_self (f t : Int) (x : ByteArray) : edEq f t f t x x = true := by simp [edEq]
theorem guard_edit : Try.prog.eqGuardType Try.prog.depth 36 = false := by kernel_rfl

theorem eCells_at : ∀ (R : List Ed) (i : Nat), i < R.length → (eCells R)[i * 3]? = some (.int .i64 (nthE R i).f) ∧ (eCells R)[i * 3 + 1]? = some (.int .i64 (nthE R i).t) ∧ (eCells R)[i * 3 + 2]? = some (.string (nthE R i).x)
  | [], i, hi => by simp at hi
  | e :: l, 0, _ => ⟨rfl, rfl, rfl⟩
  | e :: l, i + 1, hi => by
    obtain ⟨a, b, c⟩ := eCells_at l i (by simpa using hi)
    have h : eCells (e :: l) = Value.int .i64 e.f :: .int .i64 e.t :: .string e.x :: eCells l := rfl
    have n : nthE (e :: l) (i + 1) = nthE l i := rfl
    rw [h, n]
    refine ⟨?_, ?_, ?_⟩
    · rw [show (i + 1) * 3 = i * 3 + 1 + 1 + 1 by omega]; simpa using a
    · rw [show (i + 1) * 3 + 1 = i * 3 + 1 + 1 + 1 + 1 by omega]; simpa using b
    · rw [show (i + 1) * 3 + 2 = i * 3 + 2 + 1 + 1 + 1 by omega]; simpa using c

/-- A row that a call made, as it is read. -/
theorem edI_of_owns {w : World} {B e : Nat} {v : Value} {R : List Ed} (h : w.ownsRow B e 3 v R.length (eCells R)) :
    ∃ (x : Option Addr) (c : Nat), v = .slice x R.length c ∧ EdI w x R ∧ ∀ g o, x = some ⟨g, o, none⟩ → B ≤ g := by
  rcases h.2 with ⟨rfl, h0⟩ | ⟨g, cap, cur, rfl, hb, hg, hn, _, hs, ht⟩
  · exact ⟨none, 0, by rw [h0], fun h => by omega, fun g o e => by cases e⟩
  · refine ⟨_, cap, rfl, fun hp => ⟨g, 0, rfl, (Array.getElem?_eq_some_iff.1 hg).1, fun i hi => ?_⟩, fun g' o e => by cases e; exact hb⟩
    have hc := h.cells (g := g) rfl
    obtain ⟨a, b, c⟩ := eCells_at R i hi
    have ad : ∀ j, (⟨g, 0, none⟩ : Addr).add j = ⟨g, j, none⟩ := fun j => by unfold Addr.add; split <;> simp_all
    have a' := hc _ _ a
    have b' := hc _ _ b
    have c' := hc _ _ c
    rw [ad] at a' b' c'
    exact ⟨by rw [Nat.zero_add]; exact a', by rw [Nat.zero_add]; exact b', by rw [Nat.zero_add]; exact c'⟩

set_option maxHeartbeats 2000000 in
theorem same_any (x y : Option Addr) (cx cy : Nat) (L : List Ed) (w : World) (hx : EdI w x L) (hy : EdI w y L) (hl : L.length ≤ 4611686018427387904) :
    Calls Try.prog 19 #[.slice x L.length cx, .slice y L.length cy] w fun e w' => e = .returned (.bool true) ∧ Below w.heap.size w w' := by
  have Hx := Lib.hid hx
  have Hy := Lib.hid hy
  have hm := guard_edit
  clear hx hy
  go_enter Try.func19, Try.ntmps19
  go_wp2
  go_loopw [5] (fun i wr => ∃ (k : Nat), k ≤ L.length ∧ i = .int .i64 k ∧ Below w.heap.size w wr) (fun i _ => L.length - (intOf i).toNat)
  case atStart => exact ⟨0, by omega, rfl, Below.refl _ _⟩
  case round =>
    obtain ⟨k, hk, rfl, hb⟩ := hrel
    by_cases hlt : k < L.length
    · obtain ⟨g, o, f, t, s, rfl, hg, he, d0, d1, d2⟩ := Hx.out.at hb hlt
      obtain ⟨g', o', f', t', s', rfl, hg', he', d0', d1', d2'⟩ := Hy.out.at hb hlt
      rw [he] at he'
      injection he' with q1 q2 q3
      subst q1 q2 q3
      have Hb := Lib.hid hb
      have b0 : (0 : Int) ≤ (k : Int) := by omega
      have b1 : (k : Int) < (L.length : Int) := by omega
      have hq := fun w => run_equal_edit w f t f t s s
      rw [edEq_self] at hq
      clear he hb
      go_wp2
      go_quiet (fail)
      go_wp2
      go_roundw
      case rel => exact ⟨k + 1, by omega, by go_num, below_draw Hb.out _⟩
      case measure => simp [intOf]; omega
    · go_wp2
      go_ret
      exact ⟨rfl, hb⟩
end Go.Proofs.Ytckioinjgdjohaa
