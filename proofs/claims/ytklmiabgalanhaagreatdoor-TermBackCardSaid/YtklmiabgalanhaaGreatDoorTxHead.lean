/- The heads of a term's text; lists of parts as trees. -/
import Derived.Test.YtklmiabgalanhaaGreatDoorGO
import Derived.Test.YtklmiabgalanhaaGreatDoorTxWell
import Derived.Test.YtklmiabgalanhaaGreatDoorTeCore
namespace Go.Proofs.YtklmiabgalanhaaGreatDoor
open Go.Shelf Go.RowKit Em Tx Km
set_option linter.unusedVariables false
set_option linter.unusedSimpArgs false
set_option maxRecDepth 100000

/-- What a part is: its kind, its word. -/
abbrev La := Nat × ByteArray
def wdL (x : ByteArray) : List UInt8 := if x.size = 0 then [] else 32 :: quoteL (bl x)
def txA (a : La) : List UInt8 := 40 :: (Lib.decDigits a.1 ++ wdL a.2)
def okA (a : La) : Prop := a.1 < 256
def numP (m : List UInt8) : Option (Nat × List UInt8) := if okD (m.takeWhile isD) then some (val (m.takeWhile isD), m.dropWhile isD) else none
def wordP (r : List UInt8) : Option (ByteArray × List UInt8) :=
  if r.head? = some 32 ∧ r.tail.head? = some 34 then
    match Qm.whole r.tail with
    | some (_, w, q) => if w ≠ [] ∧ r.tail = quoteL w ++ q then some (txt w, q) else none
    | none => none
  else some (ByteArray.empty, r)
def hdA (l : List UInt8) : Option (La × List UInt8) := match l with
  | [] => none
  | c :: m => if c = 40 then match numP m with
      | none => none
      | some (k, r) => match wordP r with
        | none => none
        | some (x, q) => some ((k, x), q)
    else none

theorem numP_dec {k : Nat} (hk : k < 256) (c : UInt8) (q : List UInt8) (hc : isD c = false) : numP (Lib.decDigits k ++ c :: q) = some (k, c :: q) := by
  obtain ⟨h1, h2, h3⟩ := dec_all k
  have e1 : (Lib.decDigits k ++ c :: q).takeWhile isD = Lib.decDigits k := by
    rw [List.takeWhile_append_of_pos h1, List.takeWhile_cons_of_neg (by rw [hc]; decide), List.append_nil]
  have e2 : (Lib.decDigits k ++ c :: q).dropWhile isD = c :: q := by
    rw [List.dropWhile_append_of_pos h1, List.dropWhile_cons_of_neg (by rw [hc]; decide)]
  unfold numP
  rw [e1, e2, if_pos (okD_dec hk), h2]
theorem wordP_some (x : ByteArray) (r : List UInt8) (hr : Aft r) : wordP (wdL x ++ r) = some (x, r) := by
  unfold wdL
  by_cases h : x.size = 0
  · have hx : x = ByteArray.empty := by
      apply bl_inj
      have : (bl x).length = 0 := by rw [bl_size]; exact h
      rw [List.eq_nil_of_length_eq_zero this]; rfl
    rw [if_pos h, List.nil_append, hx]
    unfold wordP
    rcases hr with ⟨r', rfl⟩ | ⟨r', rfl⟩ <;> rw [if_neg (by simp)]
  · rw [if_neg h]
    unfold wordP
    have e : (32 :: quoteL (bl x) ++ r).tail = quoteL (bl x) ++ r := rfl
    rw [e, if_pos ⟨rfl, rfl⟩, whole_quote]
    dsimp only
    rw [if_pos ⟨fun e => h (by rw [← bl_size, e]; rfl), rfl⟩, bl_txt]
theorem wdL_first (x : ByteArray) (r : List UInt8) (hr : Aft r) : ∃ c q, wdL x ++ r = c :: q ∧ isD c = false := by
  unfold wdL
  split
  · rcases hr with ⟨r', rfl⟩ | ⟨r', rfl⟩ <;> exact ⟨_, _, rfl, rfl⟩
  · exact ⟨32, _, rfl, rfl⟩
theorem numP_back {m r : List UInt8} {k : Nat} (h : numP m = some (k, r)) : m = Lib.decDigits k ++ r ∧ k < 256 := by
  unfold numP at h
  split at h
  · rename_i ho
    injection h with h
    injection h with h1 h2
    obtain ⟨o1, o2⟩ := ho
    rw [← h1, ← o2, ← h2, List.takeWhile_append_dropWhile]
    exact ⟨rfl, o1⟩
  · cases h
theorem wordP_back {r q : List UInt8} {x : ByteArray} (h : wordP r = some (x, q)) : r = wdL x ++ q := by
  unfold wordP at h
  split at h
  · rename_i hr
    obtain ⟨r1, r2⟩ := hr
    cases r with
    | nil => simp at r1
    | cons c r =>
      simp at r1
      subst r1
      rw [show (32 :: r).tail = r from rfl] at h
      cases hw : Qm.whole r with
      | none => rw [hw] at h; cases h
      | some z =>
        obtain ⟨k, w, q2⟩ := z
        rw [hw] at h
        dsimp only at h
        by_cases hc : w ≠ [] ∧ r = quoteL w ++ q2
        · rw [if_pos hc] at h
          injection h with h
          injection h with h1 h2
          subst h1 h2
          unfold wdL
          rw [if_neg (by rw [txt_size]; exact fun e => hc.1 (List.eq_nil_of_length_eq_zero e)), txt_bl, hc.2]
          rfl
        · rw [if_neg hc] at h; cases h
  · injection h with h
    injection h with h1 h2
    subst h1 h2
    rfl
theorem headsA : Hds txA okA hdA where
  pos := fun a => ⟨_, rfl⟩
  some := fun a r ha hr => by
    obtain ⟨c, q, e, hc⟩ := wdL_first a.2 r hr
    unfold txA hdA
    rw [List.cons_append, List.append_assoc]
    dsimp only
    rw [if_pos rfl, e, numP_dec ha c q hc]
    dsimp only
    rw [← e, wordP_some _ _ hr]
  back := fun l a r h => by
    unfold hdA at h
    cases l with
    | nil => cases h
    | cons c m =>
      dsimp only at h
      split at h
      · rename_i hc
        cases hn : numP m with
        | none => rw [hn] at h; cases h
        | some z =>
          obtain ⟨k, r1⟩ := z
          rw [hn] at h
          dsimp only at h
          cases hw : wordP r1 with
          | none => rw [hw] at h; cases h
          | some y =>
            obtain ⟨x, q⟩ := y
            rw [hw] at h
            injection h with h
            injection h with h1 h2
            obtain ⟨n1, n2⟩ := numP_back hn
            subst h1 h2
            refine ⟨?_, n2⟩
            unfold txA
            rw [hc, n1, wordP_back hw, List.cons_append, List.append_assoc]
      · cases h

/-! Parts. -/
def toP (p : La × Nat) : Pt := ⟨p.1.1, (p.2 : Int), p.1.2⟩
def ofP (p : Pt) : La × Nat := ((p.k, p.x), p.c.toNat)
theorem ofP_toP (p : La × Nat) : ofP (toP p) = p := rfl
theorem toP_ofP {p : Pt} (h : 0 ≤ p.c) : toP (ofP p) = p := by
  obtain ⟨k, c, x⟩ := p
  unfold toP ofP
  simp only [Int.toNat_of_nonneg h]
theorem map_ofP (l : List (La × Nat)) : (l.map toP).map ofP = l := by
  rw [List.map_map]
  exact (List.map_congr_left (fun p _ => ofP_toP p)).trans (List.map_id _)
theorem nthP_toP (l : List (La × Nat)) (i : Nat) (h : i < l.length) : nthP (l.map toP) i = toP (l[i]'h) := by
  rw [nthP_get (by simpa using h)]; simp
theorem tree_of_well {L : List Pt} (h : We L) : ∃ (a : La) (ks : Fo La), L.map ofP = (Fo.cons a ks .nil).flat ∧ L = (Fo.cons a ks .nil).flat.map toP := by
  obtain ⟨f, hl, hf⟩ := forest (n := L.length) (K := Kp L) (fun t => ((nthP L t).k, (nthP L t).x)) _ 0 1 L.length rfl h
  obtain ⟨a, ks, rfl⟩ := Fo.len_one hl
  have e : L.map ofP = (Fo.cons a ks .nil).flat := by
    rw [hf]
    apply List.ext_getElem (by simp)
    intro i h1 h2
    have hi : i < L.length := by simpa using h1
    simp only [List.getElem_map, List.getElem_range', Nat.zero_add, Nat.one_mul]
    rw [nthP_get hi]
    unfold ofP Kp
    rw [nthP_get hi]
  refine ⟨a, ks, e, ?_⟩
  rw [← e, List.map_map]
  have : L.map (toP ∘ ofP) = L.map id := List.map_congr_left fun p hp => by
    obtain ⟨i, hi, rfl⟩ := List.getElem_of_mem hp
    have := (h.all hi).2.2.2.1
    unfold Kp at this
    rw [nthP_get hi] at this
    exact toP_ofP this
  rw [this, List.map_id]
theorem well_of_tree (a : La) (ks : Fo La) : We ((Fo.cons a ks .nil).flat.map toP) := by
  unfold We Wl
  have := flat_well (n := ((Fo.cons a ks .nil).flat.map toP).length) (K := Kp ((Fo.cons a ks .nil).flat.map toP)) (Fo.cons a ks .nil) 0 0 (fun t h => by
    unfold Kp
    rw [Nat.zero_add, nthP_toP _ _ h]; rfl) (by rw [List.length_map]; omega)
  rw [Nat.zero_add, W_zero, List.length_map] at this
  rw [List.length_map]
  exact this
theorem ok_flat {ok : La → Prop} : ∀ (f : Fo La), (∀ p ∈ f.flat, ok p.1) → f.ok ok
  | .nil, _ => trivial
  | .cons a ks r, h => ⟨h (a, ks.len) (by simp [Fo.flat]), ok_flat ks fun p hp => h p (by simp [Fo.flat, hp]), ok_flat r fun p hp => h p (by simp [Fo.flat, hp])⟩
theorem flat_ok {ok : La → Prop} : ∀ (f : Fo La), f.ok ok → ∀ p ∈ f.flat, ok p.1
  | .nil, _, p, hp => by simp [Fo.flat] at hp
  | .cons a ks r, ⟨h1, h2, h3⟩, p, hp => by
    simp only [Fo.flat, List.mem_cons, List.mem_append] at hp
    rcases hp with rfl | hp | hp
    · exact h1
    · exact flat_ok ks h2 p hp
    · exact flat_ok r h3 p hp
/-- The text of a list, part by part. -/
def txL (L : List Pt) : List UInt8 := (sF txA (L.map ofP) ([], [])).2
/-- The list that a text says. -/
def rdL (s : List UInt8) : Option (List Pt) := (readL hdA s).map fun l => l.map toP
theorem rdL_txL {L : List Pt} (h : We L) (hk : ∀ i, i < L.length → (nthP L i).k < 256) : rdL (txL L) = some L := by
  obtain ⟨a, ks, e1, e2⟩ := tree_of_well h
  have hok : (Fo.cons a ks .nil).ok okA := ok_flat _ fun p hp => by
    rw [← e1, List.mem_map] at hp
    obtain ⟨q, hq, rfl⟩ := hp
    obtain ⟨i, hi, rfl⟩ := List.getElem_of_mem hq
    have := hk i hi
    rw [nthP_get hi] at this
    exact this
  unfold rdL txL
  rw [e1, sF_tree, readL_txt headsA a ks hok.1 hok.2.1, Option.map_some, ← e2]
theorem txL_rdL {s : List UInt8} {L : List Pt} (h : rdL s = some L) : We L ∧ txL L = s ∧ ∀ i, i < L.length → (nthP L i).k < 256 := by
  unfold rdL at h
  cases hr : readL hdA s with
  | none => rw [hr] at h; cases h
  | some l =>
    rw [hr] at h
    injection h with h
    obtain ⟨a, ks, o1, o2, e1, e2⟩ := readL_some headsA hr
    subst h e2
    refine ⟨well_of_tree a ks, ?_, fun i hi => ?_⟩
    · unfold txL
      rw [map_ofP, sF_tree]
      exact e1.symm
    · rw [List.length_map] at hi
      rw [nthP_toP _ _ hi]
      exact flat_ok (ok := okA) (Fo.cons a ks .nil) ⟨o1, o2, trivial⟩ _ (List.getElem_mem hi)
end Go.Proofs.YtklmiabgalanhaaGreatDoor
