/- Contract of term.Read. -/
import Derived.Test.YtklmiabgalanhaaGreatDoorTeReadM
namespace Go.Proofs.YtklmiabgalanhaaGreatDoor
open Go.Shelf Go.RowKit Em Tx Km
set_option maxRecDepth 100000
set_option linter.unusedVariables false
set_option linter.unusedSimpArgs false

theorem bl_from (s : ByteArray) (p : Nat) : bl (s.extract p s.size) = (bl s).drop p := by
  rw [bl_extract, List.take_of_length_le (by rw [bl_size]; omega)]
theorem next_yes (g1 g4 p : Nat) (s : ByteArray) (c : UInt8) (w : World) (c1 : w.cell? ⟨g1, 0, none⟩ = some (.string s)) (c4 : w.cell? ⟨g4, 0, none⟩ = some (.int .i64 (p : Int))) (f4 : w.frozen? ⟨g4, 0, none⟩ = false) (hp : p ≤ s.size) (hs : s.size ≤ 1048576) (h : ((bl s).drop p).head? = some c) :
    Calls Tryz.prog 48 #[.string ⟨#[c]⟩, .pointer (some ⟨g1, 0, none⟩), .pointer (some ⟨g4, 0, none⟩)] w fun e w' => e = .returned (.bool true) ∧ w' = w.setCell ⟨g4, 0, none⟩ (.int .i64 ((p + 1 : Nat) : Int)) := by
  have HP := Lib.hid (pre_k (s.extract p s.size) ⟨#[c]⟩ true (by rw [bl_from]; exact (pre_one c _).trans (decide_eq_true h)))
  have b0 : (0 : Int) ≤ (p : Int) := by omega
  have b1 : (p : Int) ≤ (s.size : Int) := by omega
  have e1 : ((p + 1 : Nat) : Int) = (p : Int) + 1 := by omega
  clear h
  rw [e1]
  go_enter Tryz.func48, Tryz.ntmps48
  go_wp2_with fail
  refine (HP.out _).mono ?_
  rintro e w1 ⟨rfl, rfl⟩
  go_wp2
  go_ret
  exact ⟨rfl, rfl⟩
theorem next_no (g1 g4 p : Nat) (s : ByteArray) (c : UInt8) (w : World) (c1 : w.cell? ⟨g1, 0, none⟩ = some (.string s)) (c4 : w.cell? ⟨g4, 0, none⟩ = some (.int .i64 (p : Int))) (hp : p ≤ s.size) (hs : s.size ≤ 1048576) (h : ((bl s).drop p).head? ≠ some c) :
    Calls Tryz.prog 48 #[.string ⟨#[c]⟩, .pointer (some ⟨g1, 0, none⟩), .pointer (some ⟨g4, 0, none⟩)] w fun e w' => e = .returned (.bool false) ∧ w' = w := by
  have HP := Lib.hid (pre_k (s.extract p s.size) ⟨#[c]⟩ false (by rw [bl_from]; exact (pre_one c _).trans (decide_eq_false h)))
  have b0 : (0 : Int) ≤ (p : Int) := by omega
  have b1 : (p : Int) ≤ (s.size : Int) := by omega
  clear h
  go_enter Tryz.func48, Tryz.ntmps48
  go_wp2_with fail
  refine (HP.out _).mono ?_
  rintro e w1 ⟨rfl, rfl⟩
  go_wp2
  go_ret
  exact ⟨rfl, rfl⟩

/-- What Read answers, by what the text says. -/
def RdP (o : Option (List Pt)) (B : Nat) (e : Ending) (w' : World) : Prop := match o with
  | none => e = .returned (.tuple #[.slice none 0 0, .int .i64 9])
  | some L => ∃ v, e = .returned (.tuple #[v, .int .i64 0]) ∧ w'.ownsRow B 28 3 v L.length (pCells L)
theorem rdL_of (s : List UInt8) : rdL s = match hf hdA s [] [] with | some (l, []) => some (PL l) | _ => none := by
  unfold rdL readL
  cases hf hdA s [] [] with
  | none => rfl
  | some z =>
    obtain ⟨l, r⟩ := z
    cases r <;> rfl
/-- How far the reading is. -/
structure RdR (s : ByteArray) (p : Nat) (l : List (La × Nat)) (st : List Nat) (ag : Bool) : Prop where
  a : (ag = true ∧ st = [] ∧ l = [] ∧ p = 0) ∨ (hf hdA (bl s) [] [] = kf hdA ((bl s).drop p) l st ∧ ag = !st.isEmpty ∧ (st ≠ [] → ((bl s).drop p).head? ≠ some 41))
  b : l.length ≤ p
  c : ∀ i ∈ st, i < l.length
  d : ∀ q ∈ l, q.2 ≤ p
  e : st.length ≤ l.length
def atN (w : World) (g : Nat) : Nat := match w.cell? ⟨g, 0, none⟩ with | some v => (intOf v).toNat | none => 0
theorem atN_is {w : World} {g p : Nat} (h : w.cell? ⟨g, 0, none⟩ = some (.int .i64 (p : Int))) : atN w g = p := by unfold atN; rw [h]; simp [intOf]
def agN (v : Value) : Nat := match v with | .bool true => 1 | _ => 0

set_option maxHeartbeats 2000000 in
theorem read_long (s : ByteArray) (w : World) (hs : 1048576 < s.size) (h47 : s.size ≤ 140737488355328) :
    Calls Tryz.prog 26 #[.string s] w fun e w' => e = .returned (.tuple #[.slice none 0 0, .int .i64 2]) ∧ Below w.heap.size w w' := by
  have h1 : (1048576 : Int) < (s.size : Int) := by omega
  have HB := Lib.hid ((Below.refl w.heap.size w).alloc (Nat.le_refl _) (.cells #[.string s] 9))
  go_enter Tryz.func26, Tryz.ntmps26
  go_wp2
  refine bodyPost_ret (v := .tuple #[.slice none 0 0, .int .i64 2]) ?_ rfl ⟨rfl, HB.out⟩
  simp [results, Tryz.results26, go_sem]

set_option maxHeartbeats 8000000 in
theorem read_any (s : ByteArray) (w : World) (hs : s.size ≤ 1048576) (hsn : Snt w) :
    Calls Tryz.prog 26 #[.string s] w fun e w' => RdP (rdL (bl s)) w.heap.size e w' ∧ Below w.heap.size w w' := by
  have h1 : ¬ (1048576 : Int) < (s.size : Int) := by omega
  have HS := Lib.hid hsn
  clear hsn
  go_enter Tryz.func26, Tryz.ntmps26
  go_upto_block 0 with fail
  have HI0 : Hid (RdI w ((w.alloc (.cells #[.string s] 9)).alloc (.cells #[.int .i64 0] 3)) w.heap.size (w.heap.size + 1) s 0 (.slice none 0 0) (.slice none 0 0) [] []) := Lib.hid {
    sb := by rw [heap_alloc_old _ _ (by simp)]; exact heap_alloc_new w _
    ab := by
      have := heap_alloc_new (w.alloc (.cells #[.string s] 9)) (.cells #[.int .i64 0] 3)
      simpa using this
    lr := World.ownsRow_nil _ _ _ _
    or' := World.ownsRow_nil _ _ _ _
    bel := ((Below.refl _ _).alloc (Nat.le_refl _) _).alloc (by simp) _
    lo1 := Nat.le_refl _
    lo2 := Nat.lt_succ_self _
    hi := by simp }
  generalize (w.alloc (.cells #[.string s] 9)).alloc (.cells #[.int .i64 0] 3) = w1 at HI0 ⊢
  obtain ⟨g1, hg1⟩ : ∃ g1, g1 = w.heap.size := ⟨_, rfl⟩
  rw [← hg1] at HI0 ⊢
  obtain ⟨g4, hg4⟩ : ∃ g4, g4 = g1 + 1 := ⟨_, rfl⟩
  rw [← hg4] at HI0 ⊢
  clear hg1 hg4
  obtain ⟨RES, hRES⟩ : ∃ RES, hf hdA (bl s) [] [] = RES := ⟨_, rfl⟩
  have HNone : Hid (RES = none → rdL (bl s) = none) := Lib.hid fun h => by rw [rdL_of, hRES, h]
  have HREs := Lib.hid hRES
  clear hRES
  go_wp2
  go_loopw [6, 7, 8] (fun lv ov av wr => ∃ (p : Nat) (l : List (La × Nat)) (st : List Nat) (ag : Bool), p ≤ s.size ∧ av = .bool ag ∧ Hid (RdR s p l st ag) ∧ Hid (RdI w wr g1 g4 s p lv ov l st)) (fun _ _ av wr => 2 * (s.size - atN wr g4) + agN av)
  case atStart => exact ⟨0, [], [], true, by omega, rfl, Lib.hid ⟨.inl ⟨rfl, rfl, rfl, rfl⟩, by simp, fun i hi => by simp at hi, fun q hq => by simp at hq, by simp⟩, HI0⟩
  case round =>
    obtain ⟨p, l, st, ag, hp, rfl, HR, HI⟩ := hrel
    obtain ⟨yl, cl, hv, _⟩ := owns_form HI.out.lr
    subst hv
    obtain ⟨yo, co, hv, _⟩ := owns_form HI.out.or'
    subst hv
    obtain ⟨sl, hsl⟩ : ∃ sl, st.length = sl := ⟨_, rfl⟩
    have HSL := Lib.hid hsl
    obtain ⟨ll, hll⟩ : ∃ ll, l.length = ll := ⟨_, rfl⟩
    have HLL := Lib.hid hll
    have hpl : (PL l).length = ll := by rw [List.length_map]; exact hll
    rw [hsl, hpl] at HI ⊢
    have hsll : sl ≤ ll := by rw [← hsl, ← hll]; exact HR.out.e
    have hlp : ll ≤ p := by rw [← hll]; exact HR.out.b
    clear hsl hll hpl
    cases ag with
    | false =>
      have hst : st = [] ∧ RES = kf hdA ((bl s).drop p) l st := by
        rcases HR.out.a with ⟨h, _⟩ | ⟨h1, h2, _⟩
        · cases h
        · refine ⟨?_, by rw [← HREs.out]; exact h1⟩
          cases st with
          | nil => rfl
          | cons a b => simp at h2
      obtain ⟨rfl, hkf⟩ := hst
      rw [kf_nil] at hkf
      have c1 := HI.out.c1
      have c4 := HI.out.c4
      have HBl := Lib.hid HI.out.bel
      by_cases hps : p = s.size
      · have hrd : rdL (bl s) = some (PL l) := by
          rw [rdL_of, HREs.out, hkf, List.drop_eq_nil_of_le (by rw [bl_size]; omega)]
        have HRd := Lib.hid hrd
        have hrow := owns_le HI.out.lr (b2 := w.heap.size) (by have := HI.out.lo1; have := HI.out.lo2; omega)
        have hpl : (PL l).length = ll := by rw [List.length_map]; exact HLL.out
        have HRow := Lib.hid hrow
        have HPl := Lib.hid hpl
        have t1 : ((s.size : Int) != (s.size : Int)) = false := by simp
        have t2 : ((s.size : Int) == (s.size : Int)) = true := by simp
        rw [hps] at c4
        clear hrd hkf hrow hpl
        go_wp2
        refine bodyPost_ret (v := .tuple #[.slice yl ll cl, .int .i64 0]) ?_ rfl ⟨by rw [HRd.out]; exact ⟨_, rfl, HRow.out⟩, HBl.out⟩
        simp [results, Tryz.results26, go_sem]
      · have hrd : rdL (bl s) = none := by
          rw [rdL_of, HREs.out, hkf]
          cases hd : (bl s).drop p with
          | nil =>
            have := congrArg List.length hd
            rw [List.length_drop, bl_size] at this
            simp at this; omega
          | cons a q => rfl
        have HRd := Lib.hid hrd
        have t1 : ((p : Int) == (s.size : Int)) = false := beq_eq_false_iff_ne.2 (by omega)
        have t2 : ((p : Int) != (s.size : Int)) = true := by rw [bne, t1]; rfl
        have t3 : (p == s.size) = false := beq_eq_false_iff_ne.2 hps
        clear hrd hkf hps
        go_wp2
        refine bodyPost_ret (v := .tuple #[.slice none 0 0, .int .i64 9]) ?_ rfl ⟨by rw [HRd.out]; exact rfl, HBl.out⟩
        simp [results, Tryz.results26, go_sem]
    | true =>
      go_upto_if 21 with fail
      go_cut [7] from 15 to 70 (fun ov wx => ov = .slice yo sl co ∧ ∃ p1 l1, p ≤ p1 ∧ p1 ≤ s.size ∧ Hid (RES = hf hdA ((bl s).drop p1) l1 st) ∧ l1.length = ll ∧ Hid (∀ q ∈ l1, q.2 ≤ p1) ∧ Hid (RdI w wx g1 g4 s p1 (.slice yl ll cl) (.slice yo sl co) l1 st))
      case first =>
        by_cases hz : 0 < sl
        · obtain ⟨i, st2, rfl⟩ : ∃ i st2, st = i :: st2 := by
            cases st with
            | nil => have := HSL.out; simp at this; omega
            | cons n st2 => exact ⟨n, st2, rfl⟩
          obtain ⟨m, hm⟩ : ∃ m, st2.length = m := ⟨_, rfl⟩
          have hms : m + 1 = sl := by have := HSL.out; simp at this; omega
          have HM := Lib.hid hm
          have hkf : RES = kf hdA ((bl s).drop p) l (i :: st2) := by
            rcases HR.out.a with ⟨_, h, _⟩ | ⟨h, _⟩
            · cases h
            · rw [← HREs.out]; exact h
          have hn41 : ((bl s).drop p).head? ≠ some 41 := by
            rcases HR.out.a with ⟨_, h, _⟩ | ⟨_, _, h⟩
            · cases h
            · exact h (by simp)
          have t0 : (0 : Int) < (sl : Int) := by omega
          by_cases h32 : ((bl s).drop p).head? = some 32
          · have hN := Lib.hid (next_yes g1 g4 p s 32 wr HI.out.c1 HI.out.c4 HI.out.f4 hp hs h32)
            have hlt : p < s.size := by
              by_cases h : p < s.size
              · exact h
              · rw [List.drop_eq_nil_of_le (by rw [bl_size]; omega)] at h32; simp at h32
            have hdr : (bl s).drop p = 32 :: (bl s).drop (p + 1) := by
              cases hd : (bl s).drop p with
              | nil => rw [hd] at h32; simp at h32
              | cons a q =>
                rw [hd] at h32
                simp at h32
                rw [← List.drop_drop, hd, h32]; rfl
            rw [hdr, kf_kid headsA.eats] at hkf
            have HKF := Lib.hid hkf
            have hil : i < l.length := HR.out.c i (by simp)
            have hb := HI.out.move (p + 1)
            clear hm hn41 h32 hdr hkf
            obtain ⟨gl, cl2, hv, hc, hfr, hbm⟩ := hb.bump hil
            have hkd : (l[i]'hil).2 ≤ p := HR.out.d _ (List.getElem_mem hil)
            obtain ⟨gr, cap, hv2, hgr, hc2, hf2, _⟩ := row_slot hb.or'
            injection hv with v1 v2 v3
            injection hv2 with u1 u2 u3
            subst v1 u1 v3 u3
            clear v2 u2
            rw [HM.out] at hc2 hf2
            obtain ⟨KD, hKD⟩ : ∃ KD, (l[i]'hil).2 = KD := ⟨_, rfl⟩
            rw [hKD] at hc hbm hkd
            rw [show ((KD + 1 : Nat) : Int) = (KD : Int) + 1 by omega] at hbm
            have HBM := Lib.hid hbm
            have HKD := Lib.hid hKD
            have hill : i < ll := by rw [← HLL.out]; exact hil
            have a1 : (0 : Int) ≤ (m : Int) := by omega
            have a2 : (m : Int) < (sl : Int) := by omega
            have a3 : (0 : Int) ≤ (i : Int) := by omega
            have a4 : (i : Int) < (ll : Int) := by omega
            have e1 : IntKind.i64.wrap ((sl : Int) - 1) = (m : Int) := by rw [IntKind.wrap_i64]; omega
            clear hb hbm hKD
            generalize wr.setCell ⟨g4, 0, none⟩ (.int .i64 ((p + 1 : Nat) : Int)) = w2 at hN hc hfr hc2 hf2 HBM
            go_wp2_with fail
            refine hN.out.mono ?_
            rintro e w3 ⟨rfl, rfl⟩
            go_wp2_with fail
            go_meet
            case rel =>
              refine ⟨rfl, p + 1, bump l i, by omega, by omega, HKF, by rw [bump_len]; exact HLL.out, Lib.hid fun q hq => ?_, HBM⟩
              obtain ⟨q', h1, h2⟩ := bump_mem hq
              have := HR.out.d q' h1
              omega
          · have hN := Lib.hid (next_no g1 g4 p s 32 wr HI.out.c1 HI.out.c4 hp hs h32)
            have hnn := HNone.out (hkf.trans (kf_stop _ _ _ _ hn41 h32))
            have HNN := Lib.hid hnn
            clear hnn hkf hn41 h32 hm
            go_wp2_with fail
            refine hN.out.mono ?_
            rintro e w3 ⟨rfl, rfl⟩
            go_wp2
            refine bodyPost_ret (v := .tuple #[.slice none 0 0, .int .i64 9]) ?_ rfl ⟨by rw [HNN.out]; exact rfl, HI.out.bel⟩
            simp [results, Tryz.results26, go_sem]
        · have hn : st = [] := List.eq_nil_of_length_eq_zero (by have := HSL.out; omega)
          subst hn
          have hfin : RES = hf hdA ((bl s).drop p) l [] := by
            rcases HR.out.a with ⟨_, _, h3, h4⟩ | ⟨_, h2, _⟩
            · rw [h3, h4, ← HREs.out]; rfl
            · simp at h2
          have HFin := Lib.hid hfin
          have t0 : ¬ (0 : Int) < (sl : Int) := by omega
          clear hfin
          go_wp2_with fail
          go_meet
          case rel => exact ⟨rfl, p, l, Nat.le_refl _, hp, HFin, HLL.out, Lib.hid HR.out.d, HI⟩
      case rest =>
      obtain ⟨rfl, p1, l1, hpp, hp1, HH, hl1, HD, HI1⟩ := hcut
      have HHd := Lib.hid (fun w h => head_any (s.extract p1 s.size) w (by simp; omega) h)
      have hes : (s.extract p1 s.size).size = s.size - p1 := by simp
      rw [bl_from, hes] at HHd
      have c1 := HI1.out.c1
      have c4 := HI1.out.c4
      have b0 : (0 : Int) ≤ (p1 : Int) := by omega
      have b1 : (p1 : Int) ≤ (s.size : Int) := by omega
      have hs1 : Snt wc := HS.out.keep HI1.out.bel
      have HC := Lib.hid (HHd.out wc hs1)
      clear hs1 hes HHd
      go_wp2_with fail
      refine HC.out.mono ?_
      rintro e w4 ⟨rfl, g4'⟩
      have HI2 := Lib.hid (HI1.out.keep g4')
      clear g4' c1 c4 HC
      cases hh : hdA ((bl s).drop p1) with
      | none =>
        have hnn := HNone.out (HH.out.trans (by unfold Tx.hf; rw [hh]))
        have HNN := Lib.hid hnn
        have HBl := Lib.hid (HI2.out.bel.alloc HI2.out.bel.size (.cells #[.int .u8 0, .int .i64 0, .string ⟨#[]⟩] 28))
        unfold hV
        dsimp only
        clear hnn hh
        go_wp2
        refine bodyPost_ret (v := .tuple #[.slice none 0 0, .int .i64 9]) ?_ rfl ⟨by rw [HNN.out]; exact rfl, HBl.out⟩
        simp [results, Tryz.results26, go_sem]
      | some z =>
        obtain ⟨a, r⟩ := z
        obtain ⟨hbk, hak⟩ := headsA.back _ _ _ hh
        have hrs : RES = kf hdA r (l1 ++ [(a, 0)]) (l1.length :: st) := by rw [HH.out]; unfold Tx.hf; rw [hh]
        have hlen : s.size - p1 = (txA a).length + r.length := by
          have := congrArg List.length hbk
          rw [List.length_drop, bl_size, List.length_append] at this; exact this
        have hz1 : 1 ≤ (txA a).length := by unfold txA; simp
        have hdr2 : (bl s).drop (p1 + (txA a).length) = r := by rw [← List.drop_drop, hbk]; exact List.drop_left' rfl
        rw [hl1] at hrs
        obtain ⟨z, hz⟩ : ∃ z, (txA a).length = z := ⟨_, rfl⟩
        rw [hz] at hlen hz1 hdr2
        rw [← hdr2] at hrs
        have HRS := Lib.hid hrs
        have hv : hV (s.size - p1) (some (a, r)) = .tuple #[.agg #[.int .u8 (a.1 : Int), .int .i64 0, .string a.2], .int .i64 (z : Int)] := by
          unfold hV
          dsimp only
          rw [show ((s.size - p1 : Nat) : Int) - (r.length : Int) = (z : Int) by omega]
        rw [hv]
        have hp2 : p1 + z ≤ s.size := by omega
        have hz0 : ((z : Int) == 0) = false := beq_eq_false_iff_ne.2 (by omega)
        clear hh hbk hrs hdr2 hz hv
        have ha8 : (a.1 : Int) < 256 := by unfold okA at hak; omega
        have HP0 : Hid (PB (w4.alloc (.cells #[.int .u8 (a.1 : Int), .int .i64 0, .string a.2] 28)) w4.heap.size (a.1 : Int) 0 a.2) := Lib.hid (heap_alloc_new w4 _)
        have HI3 := Lib.hid (HI2.out.keep ((Below.refl _ _).alloc (Nat.le_refl _) (.cells #[.int .u8 (a.1 : Int), .int .i64 0, .string a.2] 28)))
        have hg4P : w4.heap.size ≠ g4 := by have := HI2.out.hi; omega
        go_upto_region 15 with fail
        generalize w4.alloc (.cells #[.int .u8 (a.1 : Int), .int .i64 0, .string a.2] 28) = w5 at HP0 HI3 ⊢
        generalize w4.heap.size = P at HP0 hg4P ⊢
        have c4 := HI3.out.c4
        have f4 := HI3.out.f4
        have HI4 := Lib.hid (HI3.out.move (p1 + z))
        have HP4 : Hid (PB (w5.setCell ⟨g4, 0, none⟩ (.int .i64 ((p1 + z : Nat) : Int))) P (a.1 : Int) 0 a.2) := Lib.hid (HP0.out.far hg4P _)
        have e4 : ((p1 + z : Nat) : Int) = (p1 : Int) + (z : Int) := by omega
        rw [e4] at HI4 HP4
        go_upto_region 18 with fail
        clear c4 f4 e4
        generalize w5.setCell ⟨g4, 0, none⟩ (.int .i64 ((p1 : Int) + (z : Int))) = w6 at HI4 HP4 ⊢
        obtain ⟨y7, c7, w7, hrun7, hI7, hk7⟩ := HI4.out.push ll (by have := HSL.out; omega)
        rw [HSL.out] at hrun7 hI7
        have HP7 : Hid (PB w7 P (a.1 : Int) 0 a.2) := Lib.hid (hk7 P _ HP4.out (fun c fz e => by injection e with _ e _; exact absurd e (by decide)))
        have Hrun7 := Lib.hid hrun7
        have HI7 := Lib.hid hI7
        clear hrun7 hI7 hk7
        obtain ⟨y8, c8, w8, hrun8, hI8⟩ := HI7.out.part a 0 (by omega)
        rw [hl1] at hrun8 hI8
        have Hrun8 := Lib.hid hrun8
        have HI8 := Lib.hid hI8
        clear hrun8 hI8
        have q0 := HP7.out.c0
        have q1 := HP7.out.c1
        have q2 := HP7.out.c2
        go_wp2_with (at_builtin; first | refine wpList_app_run rfl _ _ _ _ rfl rfl rfl Hrun7.out ?_ | refine wpList_app_run rfl _ _ _ _ rfl rfl rfl Hrun8.out ?_)
        obtain ⟨l2, hl2⟩ : ∃ l2, l1 ++ [(a, 0)] = l2 := ⟨_, rfl⟩
        have hl2l : l2.length = ll + 1 := by rw [← hl2, List.length_append, hl1]; rfl
        have HD2 : Hid (∀ q ∈ l2, q.2 ≤ p1) := Lib.hid fun q hq => by
          rw [← hl2, List.mem_append] at hq
          rcases hq with hq | hq
          · exact HD.out q hq
          · simp at hq; rw [hq]; exact Nat.zero_le _
        rw [hl2] at HRS HI8
        have HST8 : Hid (∀ i ∈ ll :: st, i < l2.length) := Lib.hid fun i hi => by
          rw [List.mem_cons] at hi
          rcases hi with rfl | hi
          · omega
          · have := HR.out.c i hi; have := HLL.out; omega
        clear q0 q1 q2 hl2
        go_loopw [7] (fun ov wr => ∃ (p' : Nat) (st' : List Nat), p1 + z ≤ p' ∧ p' ≤ s.size ∧ Hid (RES = kf hdA ((bl s).drop p') l2 st') ∧ Hid (∀ i ∈ st', i < l2.length) ∧ st'.length ≤ ll + 1 ∧ Hid (RdI w wr g1 g4 s p' (.slice y8 (ll + 1) c8) ov l2 st')) (fun ov _ => lenV ov)
        case atStart => exact ⟨p1 + z, ll :: st, Nat.le_refl _, hp2, HRS, HST8, by rw [List.length_cons, HSL.out]; omega, HI8⟩
        case round =>
          obtain ⟨p', st', hq1, hq2, HRK, HSX, hsx, HI'⟩ := hrel
          obtain ⟨y', cy', hv, _⟩ := owns_form HI'.out.or'
          subst hv
          obtain ⟨s', hs'⟩ : ∃ s', st'.length = s' := ⟨_, rfl⟩
          have HSL2 := Lib.hid hs'
          rw [hs'] at HI' hsx ⊢
          clear hs'
          by_cases hz : 0 < s'
          · obtain ⟨n, st2, rfl⟩ : ∃ n st2, st' = n :: st2 := by
              cases st' with
              | nil => have := HSL2.out; simp at this; omega
              | cons n st2 => exact ⟨n, st2, rfl⟩
            obtain ⟨m, hm⟩ : ∃ m, st2.length = m := ⟨_, rfl⟩
            have hms : m + 1 = s' := by have := HSL2.out; simp at this; omega
            have HM := Lib.hid hm
            clear hm
            obtain ⟨gr, cap, hv, hgr, _, _, _⟩ := row_slot HI'.out.or'
            injection hv with v1 v2 v3
            subst v1 v3
            clear v2
            have t0 : (0 : Int) < (s' : Int) := by omega
            by_cases h41 : ((bl s).drop p').head? = some 41
            · have hN := Lib.hid (next_yes g1 g4 p' s 41 wr HI'.out.c1 HI'.out.c4 HI'.out.f4 hq2 hs h41)
              have hlt : p' < s.size := by
                by_cases h : p' < s.size
                · exact h
                · rw [List.drop_eq_nil_of_le (by rw [bl_size]; omega)] at h41; simp at h41
              have hdr : (bl s).drop p' = 41 :: (bl s).drop (p' + 1) := by
                cases hd : (bl s).drop p' with
                | nil => rw [hd] at h41; simp at h41
                | cons a q =>
                  rw [hd] at h41
                  simp at h41
                  rw [← List.drop_drop, hd, h41]; rfl
              have hkf := HRK.out
              rw [hdr, kf_close] at hkf
              have HKF := Lib.hid hkf
              have hrow := HI'.out.or'
              rw [show (n :: st2).length = s' from HSL2.out] at hrow
              have hcap := owns_cap hrow
              have hpop : RdI w (wr.setCell ⟨g4, 0, none⟩ (.int .i64 ((p' + 1 : Nat) : Int))) g1 g4 s (p' + 1) (.slice y8 (ll + 1) c8) (.slice (some ⟨gr, 0, none⟩) m cy') l2 st2 := by
                have h9 := HI'.out.move (p' + 1)
                have := HM.out
                subst this
                rw [← hms] at h9
                exact h9.pop
              have HPP := Lib.hid hpop
              have a1 : (0 : Int) ≤ (m : Int) := by omega
              have a4 : (m : Int) ≤ (cy' : Int) := by omega
              have a5 : m ≤ cy' := by omega
              have e1 : IntKind.i64.wrap ((s' : Int) - 1) = (m : Int) := by rw [IntKind.wrap_i64]; omega
              clear h41 hdr hkf hrow hcap hpop
              generalize wr.setCell ⟨g4, 0, none⟩ (.int .i64 ((p' + 1 : Nat) : Int)) = w9 at hN HPP
              go_wp2_with fail
              refine hN.out.mono ?_
              rintro e w10 ⟨rfl, rfl⟩
              go_wp2
              go_roundw
              case rel => exact ⟨p' + 1, st2, by omega, by omega, HKF, Lib.hid (fun i hi => HSX.out i (by simp [hi])), by have := HM.out; omega, HPP⟩
              case measure => simp [lenV]; omega
            · have hN := Lib.hid (next_no g1 g4 p' s 41 wr HI'.out.c1 HI'.out.c4 hq2 hs h41)
              have hrr : RdR s p' l2 (n :: st2) true := ⟨.inr ⟨by rw [HREs.out]; exact HRK.out, rfl, fun _ => h41⟩, by omega, HSX.out, fun q hq => by have := HD2.out q hq; omega, by rw [HSL2.out]; omega⟩
              have HRR := Lib.hid hrr
              clear hrr h41
              go_wp2_with fail
              refine hN.out.mono ?_
              rintro e w10 ⟨rfl, rfl⟩
              go_wp2
              go_roundw
              case rel => exact ⟨p', l2, _, true, hq2, rfl, HRR, HI'⟩
              case measure =>
                rw [atN_is HI.out.c4, atN_is HI'.out.c4]
                simp [agN]
                omega
          · have hn : st' = [] := List.eq_nil_of_length_eq_zero (by have := HSL2.out; omega)
            subst hn
            have t0 : ¬ (0 : Int) < (s' : Int) := by omega
            have hrr : RdR s p' l2 [] false := ⟨.inr ⟨by rw [HREs.out]; exact HRK.out, rfl, fun h => absurd rfl h⟩, by omega, HSX.out, fun q hq => by have := HD2.out q hq; omega, by simp⟩
            have HRR := Lib.hid hrr
            clear hrr
            go_wp2
            go_roundw
            case rel => exact ⟨p', l2, _, false, hq2, rfl, HRR, HI'⟩
            case measure =>
              rw [atN_is HI.out.c4, atN_is HI'.out.c4]
              simp [agN]
              omega
end Go.Proofs.YtklmiabgalanhaaGreatDoor
