/- The law's great; the reference's digits, Tree, Show. -/
import Derived.Test.YtklmiabgalanhaaGreatDoorTeLawB
import Derived.Test.YtklmiabgalanhaaGreatDoorGQ
namespace Go.Proofs.YtklmiabgalanhaaGreatDoor
open Go.Shelf Go.RowKit Em Tx Km
set_option maxRecDepth 100000
set_option linter.unusedVariables false
set_option linter.unusedSimpArgs false

/-- Bytes of words, all together. -/
def wsum (L : List Pt) : Nat := (L.map fun p => p.x.size).sum
theorem wsum_take {L : List Pt} {k : Nat} (h : k < L.length) : wsum (L.take (k + 1)) = wsum (L.take k) + (nthP L k).x.size := by
  unfold wsum
  rw [List.take_succ_eq_append_getElem h, List.map_append, List.sum_append, nthP_get h]
  simp
theorem wsum_le (L : List Pt) (k : Nat) : wsum (L.take k) ≤ wsum L := by
  conv => rhs; rw [← List.take_append_drop k L]
  unfold wsum
  rw [List.map_append, List.sum_append]; omega
set_option maxHeartbeats 4000000 in
theorem great_any (x : Option Addr) (c : Nat) (L : List Pt) (w : World) (hr : PtI w x L) (hlb : L.length ≤ 4611686018427387904) (hx : ∀ i, i < L.length → (nthP L i).x.size ≤ 140737488351232) :
    Calls Tryz.prog 11 #[.slice x L.length c] w fun e w' => e = .returned (.bool (decide (2000 < L.length + wsum L))) ∧ w' = w := by
  have HR := Lib.hid hr
  have HX := Lib.hid hx
  clear hr hx
  go_enter Tryz.func11, Tryz.ntmps11
  go_wp2
  go_loopw [3, 4] (fun nv iv wr => ∃ i n : Nat, i ≤ L.length ∧ n = L.length + wsum (L.take i) ∧ n ≤ 4611686018427387904 + 140737488351232 + 2000 ∧ nv = .int .i64 (n : Int) ∧ iv = .int .i64 (i : Int) ∧ wr = w) (fun _ iv _ => L.length - (intOf iv).toNat)
  case atStart => exact ⟨0, L.length, by omega, by simp [wsum], by omega, rfl, rfl, rfl⟩
  case round =>
    obtain ⟨i, n, hi, hn, hnb, rfl, rfl, rfl⟩ := hrel
    have Hn := Lib.hid hn
    clear hn
    by_cases hlt : i < L.length
    · have b0 : (0 : Int) ≤ (i : Int) := by omega
      have b1 : (i : Int) < (L.length : Int) := by omega
      by_cases h2 : 2000 < n
      · have b2 : ¬ (n : Int) ≤ 2000 := by omega
        have b3 : (2000 : Int) < (n : Int) := by omega
        have hfin : Hid (decide (2000 < L.length + wsum L) = true) := Lib.hid (decide_eq_true (by have := wsum_le L i; have := Hn.out; omega))
        go_wp2
        go_ret
        exact ⟨by rw [hfin.out]; rfl, rfl⟩
      · have b2 : (n : Int) ≤ 2000 := by omega
        obtain ⟨g, o, rfl, hg, hat⟩ := HR.out.at (Below.refl _ _) hlt
        have d2 := hat.2.2
        have hxs := HX.out i hlt
        have hT := wsum_take hlt
        obtain ⟨s, hs⟩ : ∃ s, (nthP L i).x = s := ⟨_, rfl⟩
        rw [hs] at d2 hxs hT
        have Hn2 : Hid (n + s.size = L.length + wsum (L.take (i + 1))) := Lib.hid (by rw [hT]; have := Hn.out; omega)
        clear hat hT
        go_wp2
        go_roundw
        case rel => exact ⟨i + 1, n + s.size, by omega, Hn2.out, by omega, by go_num, by go_num, by first | rfl | trivial⟩
        case measure => simp [intOf]; omega
    · have hie : i = L.length := by omega
      have hw : wsum (L.take i) = wsum L := by rw [hie, List.take_length]
      have Hn2 : Hid (n = L.length + wsum L) := Lib.hid (by rw [← hw]; exact Hn.out)
      clear hw
      by_cases h2 : 2000 < n
      · have b3 : (2000 : Int) < (n : Int) := by omega
        have hfin : Hid (decide (2000 < L.length + wsum L) = true) := Lib.hid (decide_eq_true (by have := Hn2.out; omega))
        go_wp2
        go_ret
        exact ⟨by rw [hfin.out]; rfl, rfl⟩
      · have b3 : ¬ (2000 : Int) < (n : Int) := by omega
        have hfin : Hid (decide (2000 < L.length + wsum L) = false) := Lib.hid (decide_eq_false (by have := Hn2.out; omega))
        go_wp2
        go_ret
        exact ⟨by rw [hfin.out]; rfl, rfl⟩

theorem txt_app (a b : List UInt8) : txt (a ++ b) = txt a ++ txt b := bl_inj (by rw [bl_append, txt_bl, txt_bl, txt_bl])
theorem conv_one (n : Nat) (h : n < 10) (w : World) : (convert 56 9 (.slice (some ⟨w.heap.size, 0, none⟩) 1 1)).run Tryz.prog (w.alloc (.cells #[.int .u8 (48 + (n : Int))] 5)) = .ok (.string (txt [UInt8.ofNat (48 + n)])) (w.alloc (.cells #[.int .u8 (48 + (n : Int))] 5)) := by
  have := conv_new w [48 + (n : Int)]
  rw [List.foldl_cons, List.foldl_nil, show (48 + (n : Int)).toNat = 48 + n by omega, show ByteArray.empty.push (UInt8.ofNat (48 + n)) = txt [UInt8.ofNat (48 + n)] from rfl] at this
  exact this
theorem conv_kept (n : Nat) (h : n < 10) (w w1 : World) (hb : Below (w.alloc (.cells #[.int .u8 (48 + (n : Int))] 5)).heap.size (w.alloc (.cells #[.int .u8 (48 + (n : Int))] 5)) w1) :
    (convert 56 9 (.slice (some ⟨w.heap.size, 0, none⟩) 1 1)).run Tryz.prog w1 = .ok (.string (txt [UInt8.ofNat (48 + n)])) w1 := by
  have hh : (w.alloc (.cells #[.int .u8 (48 + (n : Int))] 5)).heap[w.heap.size]? = some (.cells #[.int .u8 (48 + (n : Int))] 5 (0, 0)) := heap_alloc_new w _
  have hc : w1.cell? ⟨w.heap.size, 0, none⟩ = some (.int .u8 (48 + (n : Int))) := by
    rw [hb.cell (p := ⟨w.heap.size, 0, none⟩) (by simp), cell_of_row _ w.heap.size 0 _ _ _ hh]; rfl
  have hby : Lib.Bytes w1 w.heap.size 0 (txt [UInt8.ofNat (48 + n)]) := by
    intro i hi
    have hi0 : i = 0 := by rw [txt_size] at hi; simpa using hi
    subst hi0
    rw [Nat.zero_add, hc]
    have : ((txt [UInt8.ofNat (48 + n)])[0]'hi).toNat = 48 + n := by
      show (UInt8.ofNat (48 + n)).toNat = 48 + n
      exact ofNat_toNat (by omega)
    rw [this]; push_cast; rfl
  have := Lib.run_convert_whole (P := Tryz.prog) w1 56 5 9 Tryz.underlying56 Tryz.underlying5 Tryz.underlying9 w.heap.size 0 (txt [UInt8.ofNat (48 + n)]) hby 1
  rw [txt_size] at this
  exact this
set_option maxHeartbeats 4000000 in
theorem rdig_any : ∀ (n : Nat), n < 256 → ∀ w, Calls Tryz.prog 67 #[.int .u8 (n : Int)] w fun e w' => e = .returned (.string (txt (Lib.decDigits n))) ∧ Below w.heap.size w w' := by
  intro n
  induction n using Nat.strongRecOn with
  | ind n ih =>
    intro hn w
    by_cases h : n < 10
    · have b0 : (n : Int) < 10 := by omega
      have hcv := conv_one n h w
      obtain ⟨R, hR⟩ : ∃ R, txt [UInt8.ofNat (48 + n)] = R := ⟨_, rfl⟩
      have HE : Hid (txt (Lib.decDigits n) = R) := Lib.hid (by rw [dec_lt h, hR])
      rw [hR] at hcv
      clear hR ih
      go_enter Tryz.func67, Tryz.ntmps67
      go_wp2
      go_ret
      exact ⟨by rw [HE.out]; rfl, (Below.refl _ _).alloc (Nat.le_refl _) _⟩
    · have b0 : ¬ (n : Int) < 10 := by omega
      obtain ⟨q, hq⟩ : ∃ q, n / 10 = q := ⟨_, rfl⟩
      obtain ⟨r, hr⟩ : ∃ r, n % 10 = r := ⟨_, rfl⟩
      have hc := Lib.hid (ih q (by omega) (by omega))
      have e1 : ((n : Int)).tdiv 10 = (q : Int) := by rw [Int.tdiv_eq_ediv_of_nonneg (by omega)]; omega
      have e2 : ((n : Int)).tmod 10 = (r : Int) := by rw [Int.tmod_eq_emod_of_nonneg (by omega)]; omega
      have hr9 : r < 10 := by omega
      have hq25 : q < 26 := by omega
      have hcv := conv_one r hr9
      have hkp := conv_kept r hr9
      have HE : Hid (txt (Lib.decDigits n) = txt (Lib.decDigits q) ++ txt [UInt8.ofNat (48 + r)]) := Lib.hid (by rw [dec_ge h, hq, hr, txt_app])
      have hsz : (txt (Lib.decDigits q) ++ txt [UInt8.ofNat (48 + r)]).size ≤ 140737488355328 := by
        rw [← txt_app, txt_size, ← hq, ← hr, ← dec_ge h]
        have := dec_len3 hn
        omega
      obtain ⟨D, hD⟩ : ∃ D, txt (Lib.decDigits q) = D := ⟨_, rfl⟩
      obtain ⟨R, hR⟩ : ∃ R, txt [UInt8.ofNat (48 + r)] = R := ⟨_, rfl⟩
      rw [hD] at HE hsz hc
      rw [hR] at HE hsz
      simp only [hR] at hkp hcv
      have HKP := Lib.hid hkp
      have hcd := fun w0 : World => hkp w0 (w0.alloc (.cells #[.int .u8 (48 + (r : Int))] 5)).drew (below_drew (Below.refl _ _))
      clear hkp
      have hsz2 : D.size + R.size ≤ 140737488355328 := by rw [← ByteArray.size_append]; exact hsz
      clear ih hq hr hD hR
      have hw1 : IntKind.u8.wrap (q : Int) = (q : Int) := by first | (rw [IntKind.wrap_u8]; omega) | (unfold IntKind.wrap; simp; omega)
      have hw2 : IntKind.u8.wrap (48 + (r : Int)) = 48 + (r : Int) := by first | (rw [IntKind.wrap_u8]; omega) | (unfold IntKind.wrap; simp; omega)
      go_enter Tryz.func67, Tryz.ntmps67
      go_wp2
      have HT : Hid (∀ w1, Below (w.alloc (.cells #[.int .u8 (48 + (r : Int))] 5)).drew.heap.size (w.alloc (.cells #[.int .u8 (48 + (r : Int))] 5)).drew w1 → (convert 56 9 (.slice (some ⟨w.heap.size, 0, none⟩) 1 1)).run Tryz.prog w1 = .ok (.string R) w1) := Lib.hid fun w1 hb1 => HKP.out w w1 ((below_drew (Below.refl _ _)).trans hb1)
      go_region_with (go_at_call 67; refine (hc.out _).mono ?_; rintro e w1 ⟨rfl, hb1⟩; first | (have hk := HT.out w1 hb1) | skip)
      all_goals
        go_wp2
        go_ret
        first
        | exact ⟨by rw [HE.out]; rfl, ((below_drew (Below.refl _ _)).trans hb1).alloc hb1.size _⟩
        | exact ⟨by rw [HE.out]; rfl, (below_drew ((Below.refl _ _).alloc (Nat.le_refl _) _)).trans (hb1.mono (by show w.heap.size ≤ (w.alloc _).heap.size; simp))⟩

/-- These parts stand from a place on. -/
def Pos (L : List Pt) : Nat → List (La × Nat) → Prop
  | _, [] => True
  | i, p :: l => nthP L i = toP p ∧ Pos L (i + 1) l
theorem pos_append {L : List Pt} : ∀ (a b : List (La × Nat)) (i : Nat), Pos L i (a ++ b) → Pos L i a ∧ Pos L (i + a.length) b
  | [], b, i, h => ⟨trivial, h⟩
  | p :: a, b, i, h => by
    have := pos_append a b (i + 1) h.2
    refine ⟨⟨h.1, this.1⟩, ?_⟩
    rw [List.length_cons, show i + (a.length + 1) = i + 1 + a.length by omega]; exact this.2
theorem pos_all : ∀ (l : List (La × Nat)) (pre : List Pt), Pos (pre ++ l.map toP) pre.length l
  | [], pre => trivial
  | p :: l, pre => by
    refine ⟨?_, ?_⟩
    · rw [nthP_get (by simp)]; simp
    · have := pos_all l (pre ++ [toP p])
      simpa using this
/-- The text of a tree. -/
def trT (a : La) (ks : Fo La) : List UInt8 := txA a ++ (ks.txt txA ++ [41])
def TrC (L : List Pt) (x : Option Addr) (c : Nat) (m : Nat) : Prop := ∀ (a : La) (ks : Fo La) (i : Nat) (w : World), (Fo.cons a ks .nil).flat.length ≤ m → i + (Fo.cons a ks .nil).flat.length ≤ L.length → Pos L i (Fo.cons a ks .nil).flat → (trT a ks).length ≤ 1048576 → Pw w x L →
  Calls Tryz.prog 47 #[.slice x L.length c, .int .i64 (i : Int)] w fun e w' => e = .returned (.tuple #[.string (txt (trT a ks)), .int .i64 ((i + (Fo.cons a ks .nil).flat.length : Nat) : Int)]) ∧ Below w.heap.size w w'
theorem txA_wd (a : La) : txt (txA a) = (⟨#[40]⟩ ++ txt (Lib.decDigits a.1)) ++ txt (wdL a.2) := by
  have e : txA a = [40] ++ Lib.decDigits a.1 ++ wdL a.2 := rfl
  rw [e, txt_app, txt_app]; rfl
set_option maxHeartbeats 8000000 in
theorem tree_step (L : List Pt) (x : Option Addr) (c m : Nat) (hK : ∀ i, i < L.length → (nthP L i).k < 256) (IH : TrC L x c m) : TrC L x c (m + 1) := by
  intro a ks i w hm hi hp ht hr
  have hlb := hr.2
  have hfl : (Fo.cons a ks .nil).flat.length = ks.flat.length + 1 := by simp [Fo.flat]
  rw [hfl] at hm hi
  have hp0 : nthP L i = toP (a, ks.len) := hp.1
  have hpk : Pos L (i + 1) ks.flat := (pos_append ks.flat [] (i + 1) (by simpa [Fo.flat] using hp.2)).1
  have hk256 : a.1 < 256 := by have := hK i (by omega); rw [hp0] at this; exact this
  have htl : (trT a ks).length = (txA a).length + ((ks.txt txA).length + 1) := by unfold trT; simp
  have hks := ks.len_flat
  obtain ⟨g, o, rfl, hg, hat⟩ := hr.1.at (Below.refl _ _) (k := i) (by omega)
  rw [hp0] at hat
  have HD := Lib.hid (rdig_any a.1 hk256)
  have hAsz := txA_size a
  have hAl : (txA a).length = 1 + (Lib.decDigits a.1).length + (wdL a.2).length := by unfold txA; simp; omega
  have HQ : Hid (∀ w, Calls Tryz.prog 68 #[.string a.2] w fun e w' => e = .returned (.string (txt (quoteL (bl a.2)))) ∧ Below w.heap.size w w') := Lib.hid fun w => rquote_any a.2 w (by omega)
  have HA0 := Lib.hid (txA_wd a)
  have hw0 : Hid (a.2.size = 0 → txt (wdL a.2) = ByteArray.empty) := Lib.hid fun h => by unfold wdL; rw [if_pos h]; rfl
  have hw1 : Hid (a.2.size ≠ 0 → txt (wdL a.2) = ⟨#[32]⟩ ++ txt (quoteL (bl a.2)) ∧ (wdL a.2).length = 1 + (txt (quoteL (bl a.2))).size) := Lib.hid fun h => by
    unfold wdL; rw [if_neg h, txt_size]
    refine ⟨?_, by simp; omega⟩
    rw [show (32 :: quoteL (bl a.2)) = [32] ++ quoteL (bl a.2) from rfl, txt_app]; rfl
  have hDs : (txt (Lib.decDigits a.1)).size = (Lib.decDigits a.1).length := txt_size _
  have HAt : Hid (At3 w g (o + i * 3) (toP (a, ks.len))) := Lib.hid hat
  have HPk := Lib.hid hpk
  have HIH := Lib.hid IH
  have Hr := Lib.hid hr
  have b0 : (0 : Int) ≤ (i : Int) := by omega
  have b1 : (i : Int) < (L.length : Int) := by omega
  obtain ⟨d0, d1, d2⟩ := hat
  have d0 : w.cell? ⟨g, o + i * 3, none⟩ = some (.int .u8 (a.1 : Int)) := d0
  have d1 : w.cell? ⟨g, o + i * 3 + 1, none⟩ = some (.int .i64 (ks.len : Int)) := d1
  have d2 : w.cell? ⟨g, o + i * 3 + 2, none⟩ = some (.string a.2) := d2
  rw [hfl]
  clear hp hp0 hpk IH hr hfl hK
  obtain ⟨D, hD⟩ : ∃ D, txt (Lib.decDigits a.1) = D := ⟨_, rfl⟩
  obtain ⟨Q, hQ⟩ : ∃ Q, txt (quoteL (bl a.2)) = Q := ⟨_, rfl⟩
  obtain ⟨T, hT⟩ : ∃ T, txt (trT a ks) = T := ⟨_, rfl⟩
  rw [hD] at HD HA0 hDs
  rw [hQ] at HQ hw1
  rw [hT]
  have HT := Lib.hid hT
  have z1 : 1 + D.size ≤ 140737488355328 := by omega
  clear hD hQ hT
  go_enter Tryz.func47, Tryz.ntmps47
  go_wp2_with fail
  refine (HD.out _).mono ?_
  rintro e w1 ⟨rfl, g1⟩
  have d2' : w1.cell? ⟨g, o + i * 3 + 2, none⟩ = some (.string a.2) := (g1.cell (p := ⟨g, _, none⟩) hg).trans d2
  have HB1 := Lib.hid g1
  clear g1 d0 d1 d2
  go_upto_if 23 with fail
  obtain ⟨bx, hbx⟩ : ∃ bx : Bool, a.2.toList.isEmpty = bx := ⟨_, rfl⟩
  have hem : bx = decide (a.2.size = 0) := by rw [← hbx]; exact emp_iff _
  rw [hbx]
  clear hbx
  go_cut [6] from 24 to 32 (fun v wr => v = .string (txt (txA a)) ∧ Hid (Below w.heap.size w wr))
  case first =>
    by_cases h0 : a.2.size = 0
    · rw [decide_eq_true h0] at hem
      subst hem
      have hA : Hid (txt (txA a) = ⟨#[40]⟩ ++ D) := Lib.hid (by rw [HA0.out, hw0.out h0]; simp)
      go_wp2
      go_meet
      exact ⟨congrArg Value.string hA.out.symm, HB1⟩
    · rw [decide_eq_false h0] at hem
      subst hem
      obtain ⟨q1, q2⟩ := hw1.out h0
      have hA : Hid (txt (txA a) = (⟨#[40]⟩ ++ D) ++ (⟨#[32]⟩ ++ Q)) := Lib.hid (by rw [HA0.out, q1])
      have z2 : 1 + Q.size ≤ 140737488355328 := by omega
      have z3 : 1 + D.size + (1 + Q.size) ≤ 140737488355328 := by omega
      clear q1 q2
      go_wp2_with fail
      refine (HQ.out _).mono ?_
      rintro e w2 ⟨rfl, g2⟩
      have HB2 := Lib.hid (HB1.out.trans (g2.mono HB1.out.size))
      clear g2
      go_wp2
      go_meet
      exact ⟨congrArg Value.string hA.out.symm, HB2⟩
  case rest =>
  obtain ⟨rfl, HBc⟩ := hcut
  have hAA : (txA a).length ≤ 1048576 := by omega
  clear HD HQ HA0 hw0 hw1 hAsz d2' z1 HB1 hem hDs hAl
  have e0 : Hid (txA a ++ ks.txt txA = txA a ++ ks.txt txA) := Lib.hid rfl
  obtain ⟨W, hW⟩ : ∃ W, txA a ++ ks.txt txA = W := ⟨_, rfl⟩
  have hWl : W.length ≤ 1048575 := by rw [← hW, List.length_append]; omega
  have HW := Lib.hid hW
  have hT2 : Hid (T = txt W ++ ⟨#[41]⟩) := Lib.hid (by rw [← HT.out, ← hW]; unfold trT; rw [← List.append_assoc, txt_app]; rfl)
  clear hW e0 HT
  go_wp2
  go_loopw [6, 7, 8, 9, 10] (fun sv av nv tv ov wr => ∃ (f : Fo La) (n at' : Nat) (st : List UInt8), n + f.len = ks.len ∧ at' + f.flat.length = i + 1 + ks.flat.length ∧ i + 1 ≤ at' ∧ Hid (st ++ f.txt txA = W) ∧ Hid (Pos L at' f.flat) ∧ sv = .string (txt st) ∧ av = .int .i64 (at' : Int) ∧ nv = .int .i64 (n : Int) ∧ Hid (Below w.heap.size w wr)) (fun sv av nv tv ov _ => ks.len - (intOf nv).toNat)
  case atStart => exact ⟨ks, 0, i + 1, txA a, by omega, by omega, by omega, HW, HPk, rfl, by go_num, rfl, HBc⟩
  case round =>
    obtain ⟨f, n, at', st, hn, hat', hge, HS, HP, rfl, rfl, rfl, HBw⟩ := hrel
    have d1 : wr.cell? ⟨g, o + i * 3 + 1, none⟩ = some (.int .i64 (ks.len : Int)) := (HBw.out.cell (p := ⟨g, _, none⟩) hg).trans HAt.out.2.1
    by_cases hlt : n < ks.len
    · have b2 : (n : Int) < (ks.len : Int) := by omega
      cases f with
      | nil => simp [Fo.len] at hn; omega
      | cons b kb r =>
        have hfl : (Fo.cons b kb r).flat.length = (kb.flat.length + 1) + r.flat.length := by simp [Fo.flat]; omega
        have hcl : (Fo.cons b kb .nil).flat.length = kb.flat.length + 1 := by simp [Fo.flat]
        have hp2 := HP.out
        have hpc : Pos L at' (Fo.cons b kb .nil).flat ∧ Pos L (at' + (kb.flat.length + 1)) r.flat := by
          have e : (Fo.cons b kb r).flat = (Fo.cons b kb .nil).flat ++ r.flat := by simp [Fo.flat]
          rw [e] at hp2
          have := pos_append _ _ _ hp2
          rw [hcl] at this; exact this
        have eS : (st ++ 32 :: trT b kb) ++ r.txt txA = W := by
          rw [← HS.out]
          have : (Fo.cons b kb r).txt txA = 32 :: (txA b ++ (kb.txt txA ++ 41 :: r.txt txA)) := rfl
          rw [this]; unfold trT; simp
        have hsl : st.length + 1 + (trT b kb).length ≤ 1048575 := by
          have := congrArg List.length eS
          simp at this; omega
        have hcall := HIH.out b kb at' wr (by rw [hcl]; omega) (by rw [hcl]; omega) hpc.1 (by omega) (Hr.out.keep HBw.out)
        rw [hcl] at hcall
        have HC := Lib.hid hcall
        have HS2 := Lib.hid eS
        have HP2 := Lib.hid hpc.2
        have hlen : n + 1 + r.len = ks.len := by simp [Fo.len] at hn; omega
        obtain ⟨Tb, hTb⟩ : ∃ Tb, txt (trT b kb) = Tb := ⟨_, rfl⟩
        obtain ⟨S, hS⟩ : ∃ S, txt st = S := ⟨_, rfl⟩
        have hSt : Hid (S ++ (⟨#[32]⟩ ++ Tb) = txt (st ++ 32 :: trT b kb)) := Lib.hid (by
          rw [← hTb, ← hS, show st ++ 32 :: trT b kb = st ++ ([32] ++ trT b kb) from rfl, txt_app, txt_app]; rfl)
        have y1 : 1 + Tb.size ≤ 140737488355328 := by rw [← hTb, txt_size]; omega
        have y2 : S.size + (1 + Tb.size) ≤ 140737488355328 := by rw [← hTb, ← hS, txt_size, txt_size]; omega
        rw [hTb] at HC
        rw [hS]
        clear hp2 hpc eS hcall hTb hS HS HP hcl
        go_wp2_with fail
        refine HC.out.mono ?_
        rintro e w2 ⟨rfl, g2⟩
        have HB2 := Lib.hid (HBw.out.trans (g2.mono HBw.out.size))
        clear g2
        go_wp2
        go_roundw
        case rel => exact ⟨r, n + 1, at' + (kb.flat.length + 1), st ++ 32 :: trT b kb, hlen, by omega, by omega, HS2, HP2, congrArg Value.string hSt.out, rfl, by go_num, HB2⟩
        case measure => simp [intOf]; omega
    · have b2 : ¬ (n : Int) < (ks.len : Int) := by omega
      have hf : f = .nil := Fo.len_zero (by omega)
      subst hf
      have hst : st = W := by have := HS.out; simpa [Fo.txt] using this
      subst hst
      have ha : at' = i + 1 + ks.flat.length := by simpa [Fo.flat] using hat'
      have hTe := hT2
      obtain ⟨S, hS⟩ : ∃ S, txt st = S := ⟨_, rfl⟩
      rw [hS] at hTe ⊢
      have y1 : S.size + 1 ≤ 140737488355328 := by rw [← hS, txt_size]; omega
      have hfin : Hid ((at' : Int) = (i : Int) + ((ks.flat.length : Int) + 1)) := Lib.hid (by omega)
      clear hS ha hT2
      go_wp2
      go_ret2
      exact ⟨by rw [hTe.out, ← hfin.out]; rfl, HBw.out⟩

theorem tree_any (L : List Pt) (x : Option Addr) (c : Nat) (hK : ∀ i, i < L.length → (nthP L i).k < 256) : ∀ m, TrC L x c m
  | 0 => fun a ks i w hm => by simp [Fo.flat] at hm
  | m + 1 => tree_step L x c m hK (tree_any L x c hK m)
theorem txt_le : ∀ (f : Fo La), (∀ p ∈ f.flat, p.1.1 < 256) → (f.txt txA).length ≤ (f.flat.map fun p => 4 * p.1.2.size + 9).sum
  | .nil, _ => by simp [Fo.txt]
  | .cons a ks r, h => by
    have h1 := txt_le ks (fun p hp => h p (by simp [Fo.flat, hp]))
    have h2 := txt_le r (fun p hp => h p (by simp [Fo.flat, hp]))
    have h3 := txA_le (a := a) (h (a, ks.len) (by simp [Fo.flat]))
    simp only [Fo.txt, Fo.flat, List.length_cons, List.length_append, List.map_cons, List.map_append, List.sum_cons, List.sum_append]
    omega
theorem sum_four : ∀ (L : List Pt), ((L.map ofP).map fun p => 4 * p.1.2.size + 9).sum = 4 * wsum L + 9 * L.length
  | [] => rfl
  | p :: L => by
    have := sum_four L
    unfold wsum at *
    simp only [List.map_cons, List.sum_cons, List.length_cons]
    rw [this]
    show 4 * p.x.size + 9 + _ = _
    omega
/-- The text of a list that is well: as a tree's; not long. -/
theorem txL_tree {L : List Pt} (hw : We L) (hK : ∀ i, i < L.length → (nthP L i).k < 256) : ∃ (a : La) (ks : Fo La), L = (Fo.cons a ks .nil).flat.map toP ∧ txL L = trT a ks ∧ (trT a ks).length ≤ 4 * wsum L + 9 * L.length := by
  obtain ⟨a, ks, h1, h2⟩ := tree_of_well hw
  refine ⟨a, ks, h2, ?_, ?_⟩
  · unfold txL trT; rw [h1, sF_tree]
  · have := txt_le (Fo.cons a ks .nil) (fun p hp => by
      rw [← h1] at hp
      obtain ⟨q, hq, rfl⟩ := List.mem_map.1 hp
      obtain ⟨i, hi, rfl⟩ := List.getElem_of_mem hq
      have := hK i hi
      rw [nthP_get hi] at this; exact this)
    rw [← h1, sum_four] at this
    have e : ((Fo.cons a ks .nil).txt txA).length = (trT a ks).length + 1 := by simp [Fo.txt, trT]
    omega
set_option maxHeartbeats 4000000 in
theorem rshow_ok (x : Option Addr) (c : Nat) (L : List Pt) (w : World) (hr : Pw w x L) (hw : We L) (hK : ∀ i, i < L.length → (nthP L i).k < 256) (hs : L.length + wsum L ≤ 2000) :
    Calls Tryz.prog 25 #[.slice x L.length c] w fun e w' => e = .returned (.tuple #[.string (txt (txL L)), .int .i64 0]) ∧ Below w.heap.size w w' := by
  obtain ⟨a, ks, h1, h2, h3⟩ := txL_tree hw hK
  have hl : (Fo.cons a ks .nil).flat.length = L.length := by
    have := congrArg List.length h1
    simpa using this.symm
  have hT := tree_any L x c hK L.length a ks 0 w (by omega) (by omega) (by
    have := pos_all (Fo.cons a ks .nil).flat []
    rw [List.nil_append, ← h1] at this; exact this) (by omega) hr
  rw [← h2] at hT
  have HT := Lib.hid hT
  have HW := rwell_any x c L w hr
  rw [decide_eq_true hw] at HW
  have HW := Lib.hid HW
  have hsz : (txt (txL L)).size ≤ 1048576 := by rw [txt_size, h2]; omega
  obtain ⟨T, hT2⟩ : ∃ T, txt (txL L) = T := ⟨_, rfl⟩
  rw [hT2] at HT hsz ⊢
  have hsz2 : ¬ (1048576 : Int) < (T.size : Int) := by omega
  clear hT h1 h2 h3 hl hr hw hK hs hT2
  go_enter Tryz.func25, Tryz.ntmps25
  go_wp2_with fail
  refine HW.out.mono ?_
  rintro e w1 ⟨rfl, rfl⟩
  go_wp2_with fail
  refine HT.out.mono ?_
  rintro e w2 ⟨rfl, g2⟩
  have HG := Lib.hid g2
  clear g2
  go_wp2
  go_ret2
  exact ⟨rfl, HG.out⟩
theorem rshow_bad (x : Option Addr) (c : Nat) (L : List Pt) (w : World) (hr : Pw w x L) (h : ¬ We L) :
    Calls Tryz.prog 25 #[.slice x L.length c] w fun e w' => e = .returned (.tuple #[.string ByteArray.empty, .int .i64 8]) ∧ w' = w := by
  have HW := rwell_any x c L w hr
  rw [decide_eq_false h] at HW
  have HW := Lib.hid HW
  clear hr h
  go_enter Tryz.func25, Tryz.ntmps25
  go_wp2_with fail
  refine HW.out.mono ?_
  rintro e w1 ⟨rfl, rfl⟩
  go_wp2
  go_ret2
  exact ⟨rfl, rfl⟩
end Go.Proofs.YtklmiabgalanhaaGreatDoor
