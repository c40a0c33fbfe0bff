/- The walk of the law ScanApart. -/
import Derived.Test.YtnkgbmnjehpkgaaScApMathB
import Derived.Test.YtnkgbmnjehpkgaaGV
namespace Go.Proofs.Ytnkgbmnjehpkgaa
open Go.RowKit Em
set_option maxRecDepth 100000
set_option linter.unusedVariables false

theorem tks_drop (s : ByteArray) (A : List Sc.Tk) {i : Nat} (hi : i < A.length) : (tksOf s A).drop i = ((nthT A i).k, cutT s (nthT A i).f (nthT A i).t) :: (tksOf s A).drop (i + 1) := by
  unfold tksOf
  rw [← List.map_drop, ← List.map_drop, List.drop_eq_getElem_cons hi, List.map_cons, nthT_get hi]
theorem noB_skip {s : ByteArray} {A : List Sc.Tk} {i : Nat} (hi : i < A.length) (hk : (nthT A i).k = 10) : noBlank ((tksOf s A).drop i) = noBlank ((tksOf s A).drop (i + 1)) := by
  rw [tks_drop s A hi]; unfold noBlank; rw [List.filter_cons_of_neg (by simp [hk])]
theorem noB_keep {s : ByteArray} {A : List Sc.Tk} {i : Nat} (hi : i < A.length) (hk : (nthT A i).k ≠ 10) : noBlank ((tksOf s A).drop i) = ((nthT A i).k, cutT s (nthT A i).f (nthT A i).t) :: noBlank ((tksOf s A).drop (i + 1)) := by
  rw [tks_drop s A hi]; unfold noBlank; rw [List.filter_cons_of_pos (by simp [hk])]
theorem noB_end (s : ByteArray) (A : List Sc.Tk) {i : Nat} (hi : A.length ≤ i) : noBlank ((tksOf s A).drop i) = [] := by
  rw [List.drop_of_length_le (by unfold tksOf; rw [List.length_map]; exact hi)]; rfl
def joinT (s : ByteArray) (A : List Sc.Tk) (i : Nat) : ByteArray := ⟨(joinN (tksOf s (A.take i))).toArray⟩
theorem joinT_step (s : ByteArray) (A : List Sc.Tk) {i : Nat} (hi : i < A.length) : joinT s A i ++ (s.extract (nthT A i).f (nthT A i).t ++ (⟨#[10]⟩ : ByteArray)) = joinT s A (i + 1) := by
  apply ByteArray.ext
  apply Array.toList_inj.1
  rw [ByteArray.data_append, ByteArray.data_append, Array.toList_append, Array.toList_append]
  unfold joinT
  rw [take_succ A i hi]
  have e : (s.extract (nthT A i).f (nthT A i).t).data.toList = cutT s (nthT A i).f (nthT A i).t := cutT_ext _ _ _
  rw [e]
  simp [tksOf, joinN]
theorem join_size (s : ByteArray) : ∀ (A : List Sc.Tk) (p : Nat), Chn p A → (∀ t ∈ A, t.f < t.t ∧ t.t ≤ s.size) → (joinN (tksOf s A)).length + p ≤ s.size + A.length + (if A = [] then p else 0)
  | [], p, _, _ => by simp [tksOf, joinN]
  | t :: A, p, hc, ho => by
    obtain ⟨rfl, hc⟩ := hc
    have h1 := ho t (by simp)
    have ih := join_size s A t.t hc (fun u hu => ho u (by simp [hu]))
    have hlen : (cutT s t.f t.t).length = t.t - t.f := by
      unfold cutT
      rw [List.length_drop, List.length_take, bl_size]
      omega
    show (joinN ((t.k, cutT s t.f t.t) :: tksOf s A)).length + t.f ≤ _
    rw [joinN_cons, List.length_append, List.length_cons, hlen]
    rw [if_neg (by simp), List.length_cons]
    split at ih
    · rename_i e
      subst e
      simp [tksOf, joinN] at ih ⊢
      omega
    · omega

set_option maxHeartbeats 8000000 in
theorem walk_ScanApart (s : ByteArray) (w : World) (hs : s.size ≤ 140737488351232) (hm : Mx w) :
    Calls Try.prog 5 #[.string s] w fun e w' => e = .returned (.bool true) ∧ Below w.heap.size w w' := by
  have Hm := Lib.hid hm
  have H1 := fun w hm => all_scan s w hm
  unfold AllP at H1
  have m1 := guard_tok
  have m2 := guard_fau
  clear hm
  by_cases e1 : (allA s).2.1 = 0 ∧ s.size ≤ 4000
  · obtain ⟨e1, hsmall⟩ := e1
    have e2 : (allA s).2.2 = 0 := by
      rcases allA_fault s with ⟨_, h⟩ | ⟨h, _⟩
      · exact h
      · exact absurd e1 h
    have hord := allA_ord s
    have hlenA : (allA s).1.length ≤ 4000 := by
      rw [(allA_ok e1).2.2]
      have := lexs_len s.size 0 (bl s)
      omega
    have hjs : (joinT s (allA s).1 (allA s).1.length).size ≤ 65536 := by
      have h0 := join_size s (allA s).1 0 (allA_chn s) (fun t ht => (allA_ord s).2 t ht)
      rw [← bl_size]
      show (joinN (tksOf s ((allA s).1.take (allA s).1.length))).length ≤ _
      rw [List.take_length]
      split at h0 <;> omega
    have hjz : ∀ i, i ≤ (allA s).1.length → (joinT s (allA s).1 i).size ≤ 65536 := by
      intro i hi
      have h0 := join_size s (allA s).1 0 (allA_chn s) (fun t ht => (allA_ord s).2 t ht)
      have h1 : joinN (tksOf s (allA s).1) = joinN (tksOf s ((allA s).1.take i)) ++ joinN (tksOf s ((allA s).1.drop i)) := by
        have e : (allA s).1.take i ++ (allA s).1.drop i = (allA s).1 := List.take_append_drop i _
        have h2 : joinN (tksOf s ((allA s).1.take i ++ (allA s).1.drop i)) = joinN (tksOf s ((allA s).1.take i)) ++ joinN (tksOf s ((allA s).1.drop i)) := by
          unfold joinN tksOf; rw [List.map_append, List.flatMap_append]
        rwa [e] at h2
      rw [h1, List.length_append] at h0
      rw [← bl_size]
      show (joinN (tksOf s ((allA s).1.take i))).length ≤ _
      split at h0 <;> omega
    have Hjz := Lib.hid hjz
    have hap := apart_all (s := s) (t := joinT s (allA s).1 (allA s).1.length) e1 (by
      show joinN (tksOf s ((allA s).1.take (allA s).1.length)) = _
      rw [List.take_length]) hjs
    obtain ⟨hap1, hap2⟩ := hap
    have hap3 : (allA (joinT s (allA s).1 (allA s).1.length)).2.2 = 0 := by
      rcases allA_fault (joinT s (allA s).1 (allA s).1.length) with ⟨_, h⟩ | ⟨h, _⟩
      · exact h
      · exact absurd hap1 h
    have H2 := fun w hm => all_scan (joinT s (allA s).1 (allA s).1.length) w hm
    have hordM := allA_ord (joinT s (allA s).1 (allA s).1.length)
    have hmostM := allA_most (joinT s (allA s).1 (allA s).1.length)
    unfold AllP at H2
    rw [hap1, hap3] at H2
    rw [e1, e2] at H1
    dsimp only [fauV] at H1 H2
    generalize (allA (joinT s (allA s).1 (allA s).1.length)).1 = M at H2 hap2 hordM hmostM
    clear hjz
    generalize (allA s).1 = A at H1 H2 hord hlenA hap2 hordM hjs Hjz
    have hstep := fun i hi => joinT_step s A (i := i) hi
    have H1 := Lib.hid H1
    have H2 := Lib.hid H2
    have Hord := Lib.hid hord
    have HordM := Lib.hid hordM
    have Hap := Lib.hid hap2
    have Hstep := Lib.hid hstep
    have q1 := fun w => run_equal_fau w 0 0 0 0
    rw [faEq_self] at q1
    have hsm : ¬ (4000 : Int) < (s.size : Int) := by omega
    clear hord hordM hap1 hap2 hap3 hstep e1 e2
    go_enter Try.func5, Try.ntmps5
    go_wp2_with fail
    refine (H1.out _ Hm.out).mono ?_
    rintro e w1 ⟨v1, rfl, o1, b1⟩
    obtain ⟨x1, c1, rfl, i1, _⟩ := tkI_of_owns o1
    have B1 := Lib.hid (b1.alloc b1.size (.cells #[.int .i64 0, .int .i64 0] 28))
    have a1 := (Below.refl w1.heap.size w1).alloc (Nat.le_refl _) (.cells #[.int .i64 0, .int .i64 0] 28)
    have T1 : Hid (FBox (w1.alloc (.cells #[.int .i64 0, .int .i64 0] 28)) w1.heap.size 0 0) := Lib.hid (heap_alloc_new w1 _)
    have I1 := Lib.hid (i1.keep a1)
    clear b1 o1 i1 a1
    go_wp2_with fail
    refine (fixed7_any _ (Hm.out.keep B1.out)).mono ?_
    rintro e w3 ⟨rfl, b3⟩
    have B3 := Lib.hid (B1.out.trans (b3.mono B1.out.size))
    have y1 := T1.out.keep b3
    have p0 := y1.c0
    have p1 := y1.c1
    have K1 := Lib.hid (I1.out.keep b3)
    clear b3 y1
    go_wp2
    clear p0 p1
    go_loopw [5, 6] (fun tv iv wr => ∃ i q : Nat, i ≤ A.length ∧ iv = .int .i64 i ∧ tv = .string (joinT s A i) ∧ wr = w3.drewN q) (fun _ iv _ => A.length - (intOf iv).toNat)
    case atStart => exact ⟨0, 0, by omega, rfl, rfl, rfl⟩
    case round =>
      obtain ⟨i, q, hi, rfl, rfl, rfl⟩ := hrel
      by_cases hlt : i < A.length
      · obtain ⟨g, rfl, hg, d0, d1, d2⟩ := K1.out.cells (i := i) hlt
        have b0 : (0 : Int) ≤ (i : Int) := by omega
        have b1 : (i : Int) < (A.length : Int) := by omega
        have hat := ord_at Hord.out hlt
        have hjn := Hstep.out i hlt
        generalize nthT A i = X at d0 d1 d2 hat hjn
        obtain ⟨K, F, U⟩ := X
        dsimp only at d0 d1 d2 hat hjn
        have Hjn := Lib.hid hjn
        have l0 : (0 : Int) ≤ (F : Int) := by omega
        have l1 : (F : Int) ≤ (U : Int) := by omega
        have l2 : (U : Int) ≤ (s.size : Int) := by omega
        have l3 : F ≤ U := by omega
        have n0 : ¬ (F : Int) < 0 := by omega
        have n1 : ¬ (U : Int) < (F : Int) := by omega
        have n2 : ¬ (s.size : Int) < (U : Int) := by omega
        have n3 : ¬ U < F := by omega
        have n4 : ¬ s.size < U := by omega
        obtain ⟨hat1, hat2⟩ := hat
        clear hjn
        have z1 : (s.extract F U).size ≤ 65536 := by rw [ByteArray.size_extract]; omega
        have z2 : (joinT s A i).size ≤ 65536 := Hjz.out i hi
        have r1 : (Op.stringOp .add (s.extract F U) (⟨#[10]⟩ : ByteArray)).run Try.prog = fun w => .ok (.string (s.extract F U ++ (⟨#[10]⟩ : ByteArray))) w := funext fun w => run_string_add_sum w _ _ (by show _ + 1 ≤ _; omega)
        have r2 : (Op.stringOp .add (joinT s A i) (s.extract F U ++ (⟨#[10]⟩ : ByteArray))).run Try.prog = fun w => .ok (.string (joinT s A i ++ (s.extract F U ++ (⟨#[10]⟩ : ByteArray)))) w := funext fun w => run_string_add_sum w _ _ (by rw [ByteArray.size_append]; show _ + (_ + 1) ≤ _; omega)
        clear z1 z2
        go_wp2
        go_quiet (fail)
        go_wp2
        go_quiet (fail)
        go_wp2
        go_roundw
        case rel => exact ⟨i + 1, _, by omega, by go_num, by rw [← Hjn.out], rfl⟩
        case measure => simp [intOf]; omega
      · have hie : i = A.length := by omega
        subst hie
        have b1 : ¬ (A.length : Int) < (A.length : Int) := by omega
        have Bq := Lib.hid (below_drw B3.out q)
        have Kq : Hid (TkI (w3.drewN q) x1 A) := Lib.hid K1.out
        generalize w3.drewN q = w4 at Bq Kq ⊢
        go_wp2_with fail
        refine (H2.out _ (Hm.out.keep Bq.out)).mono ?_
        rintro e w5 ⟨v2, rfl, o2, b2⟩
        obtain ⟨x2, c2, rfl, i2, _⟩ := tkI_of_owns o2
        have b2' := Bq.out.trans (b2.mono Bq.out.size)
        have a2 := (Below.refl w5.heap.size w5).alloc (Nat.le_refl _) (.cells #[.int .i64 0, .int .i64 0] 28)
        have B6 := Lib.hid (b2'.alloc b2'.size (.cells #[.int .i64 0, .int .i64 0] 28))
        have J1 := Lib.hid ((Kq.out.keep b2).keep a2)
        have J2 := Lib.hid (i2.keep a2)
        have hF : FBox (w5.alloc (.cells #[.int .i64 0, .int .i64 0] 28)) w5.heap.size 0 0 := heap_alloc_new w5 _
        have f0 := hF.c0
        have f1 := hF.c1
        clear b2 b2' o2 i2 a2 hF
        generalize joinT s A A.length = T at HordM Hap ⊢
        go_wp2
        generalize w5.alloc (.cells #[.int .i64 0, .int .i64 0] 28) = w6 at B6 J1 J2 ⊢
        clear f0 f1
        go_loopw [9, 10] (fun kv iv wr => ∃ i k q : Nat, i ≤ A.length ∧ k ≤ M.length ∧ iv = .int .i64 i ∧ kv = .int .i64 k ∧ Hid (noBlank ((tksOf T M).drop k) = noBlank ((tksOf s A).drop i)) ∧ wr = w6.drewN q) (fun _ iv _ => A.length - (intOf iv).toNat)
        case atStart => exact ⟨0, 0, 0, by omega, by omega, rfl, rfl, Hap, rfl⟩
        case round =>
          obtain ⟨i, k, q, hi, hk, rfl, rfl, HN, rfl⟩ := hrel
          by_cases hlt : i < A.length
          · obtain ⟨g, rfl, hg, d0, d1, d2⟩ := J1.out.cells (i := i) hlt
            have b0 : (0 : Int) ≤ (i : Int) := by omega
            have b1 : (i : Int) < (A.length : Int) := by omega
            by_cases h10 : (nthT A i).k = 10
            · have HN2 := Lib.hid (HN.out.trans (noB_skip hlt h10))
              rw [h10] at d0
              go_wp2
              go_roundw
              case rel => exact ⟨i + 1, k, q, by omega, hk, by go_num, rfl, HN2, rfl⟩
              case measure => simp [intOf]; omega
            · have HN2 := Lib.hid (HN.out.trans (noB_keep hlt h10))
              have hat := ord_at Hord.out hlt
              generalize nthT A i = X at d0 d1 d2 HN2 h10 hat
              obtain ⟨K, F, U⟩ := X
              dsimp only at d0 d1 d2 HN2 h10 hat
              obtain ⟨hat1, hat2⟩ := hat
              have n10 : ((K : Int) == 10) = false := beq_eq_false_iff_ne.2 (by omega)
              go_wp2
              go_loopw [9] (fun kv wr => ∃ k2 q2 : Nat, k2 ≤ M.length ∧ kv = .int .i64 k2 ∧ Hid (noBlank ((tksOf T M).drop k2) = (K, cutT s F U) :: noBlank ((tksOf s A).drop (i + 1))) ∧ wr = w6.drewN q2) (fun kv _ => M.length - (intOf kv).toNat)
              case atStart => exact ⟨k, q, hk, rfl, HN2, rfl⟩
              case round =>
                obtain ⟨k2, q2, hk2, rfl, HN3, rfl⟩ := hrel
                have hlt2 : k2 < M.length := by
                  by_cases h : k2 < M.length
                  · exact h
                  · have := HN3.out
                    rw [noB_end T M (by omega)] at this
                    cases this
                obtain ⟨g2, rfl, hg2, e0, e1, e2⟩ := J2.out.cells (i := k2) hlt2
                have c0 : (0 : Int) ≤ (k2 : Int) := by omega
                have c1 : (k2 : Int) < (M.length : Int) := by omega
                by_cases h10' : (nthT M k2).k = 10
                · have HN4 := Lib.hid ((noB_skip (s := T) hlt2 h10').symm.trans HN3.out)
                  rw [h10'] at e0
                  go_wp2
                  go_roundw
                  case rel => exact ⟨k2 + 1, q2, by omega, by go_num, HN4, rfl⟩
                  case measure => simp [intOf]; omega
                · have h4 := (noB_keep (s := T) hlt2 h10').symm.trans HN3.out
                  obtain ⟨h5, h6⟩ := List.cons.inj h4
                  obtain ⟨h7, h8⟩ := Prod.mk.inj h5
                  have hat' := ord_at HordM.out hlt2
                  generalize nthT M k2 = X2 at e0 e1 e2 h7 h8 hat' h10'
                  obtain ⟨K2, F2, U2⟩ := X2
                  dsimp only at e0 e1 e2 h7 h8 hat' h10'
                  subst h7
                  obtain ⟨hbt1, hbt2⟩ := hat'
                  have H6 := Lib.hid h6
                  have heq : ((T.extract F2 U2).toList == (s.extract F U).toList) = true := by
                    rw [Lib.toList_data, Lib.toList_data, show (T.extract F2 U2).data.toList = cutT T F2 U2 from cutT_ext _ _ _, show (s.extract F U).data.toList = cutT s F U from cutT_ext _ _ _, h8]
                    simp
                  have c2 : ((k2 : Int) == (M.length : Int)) = false := beq_eq_false_iff_ne.2 (by omega)
                  have c3 : (k2 == M.length) = false := beq_eq_false_iff_ne.2 (by omega)
                  have l0 : (0 : Int) ≤ (F : Int) := by omega
                  have l1 : (F : Int) ≤ (U : Int) := by omega
                  have l2 : (U : Int) ≤ (s.size : Int) := by omega
                  have l3 : F ≤ U := by omega
                  have r0 : (0 : Int) ≤ (F2 : Int) := by omega
                  have r1 : (F2 : Int) ≤ (U2 : Int) := by omega
                  have r2 : (U2 : Int) ≤ (T.size : Int) := by omega
                  have r3 : F2 ≤ U2 := by omega
                  clear h4 h5 h6 h8
                  go_wp2
                  go_quiet (fail)
                  go_wp2
                  go_roundw
                  case rel => exact ⟨i + 1, k2 + 1, _, by omega, by omega, by go_num, by go_num, H6, rfl⟩
                  case measure => simp [intOf]; omega
          · have hie : i = A.length := by omega
            subst hie
            have b1 : ¬ (A.length : Int) < (A.length : Int) := by omega
            have HN2 := Lib.hid (HN.out.trans (noB_end s A (Nat.le_refl _)))
            go_wp2
            go_loopw [9] (fun kv wr => ∃ k2 : Nat, k2 ≤ M.length ∧ kv = .int .i64 k2 ∧ Hid (noBlank ((tksOf T M).drop k2) = []) ∧ wr = w6.drewN q) (fun kv _ => M.length - (intOf kv).toNat)
            case atStart => exact ⟨k, hk, rfl, HN2, rfl⟩
            case round =>
              obtain ⟨k2, hk2, rfl, HN3, rfl⟩ := hrel
              by_cases hlt2 : k2 < M.length
              · obtain ⟨g2, rfl, hg2, e0, e1, e2⟩ := J2.out.cells (i := k2) hlt2
                have c0 : (0 : Int) ≤ (k2 : Int) := by omega
                have c1 : (k2 : Int) < (M.length : Int) := by omega
                have h10' : (nthT M k2).k = 10 := by
                  by_cases h : (nthT M k2).k = 10
                  · exact h
                  · have := HN3.out
                    rw [noB_keep hlt2 h] at this
                    cases this
                have HN4 := Lib.hid ((noB_skip (s := T) hlt2 h10').symm.trans HN3.out)
                rw [h10'] at e0
                go_wp2
                go_roundw
                case rel => exact ⟨k2 + 1, by omega, by go_num, HN4, by first | trivial | rfl⟩
                case measure => simp [intOf]; omega
              · have hke : k2 = M.length := by omega
                subst hke
                have c1 : ¬ (M.length : Int) < (M.length : Int) := by omega
                go_wp2
                go_ret
                exact ⟨by simp, below_drw B6.out _⟩
  · have hlenx := allA_most s
    dsimp only [fauV] at H1
    by_cases e0 : (allA s).2.1 = 0
    · have h4 : (4000 : Int) < (s.size : Int) := by
        have : ¬ s.size ≤ 4000 := fun h => e1 ⟨e0, h⟩
        omega
      have e2 : (allA s).2.2 = 0 := by
        rcases allA_fault s with ⟨_, h⟩ | ⟨h, _⟩
        · exact h
        · exact absurd e0 h
      rw [e0, e2] at H1
      have q2 := fun w => run_equal_fau w 0 0 0 0
      rw [faEq_self] at q2
      generalize (allA s).1 = A at H1
      have H1 := Lib.hid H1
      clear e1 e0 e2
      go_enter Try.func5, Try.ntmps5
      go_wp2_with fail
      refine (H1.out _ Hm.out).mono ?_
      rintro e w1 ⟨v1, rfl, o1, b1⟩
      obtain ⟨x1, c1, rfl, i1, _⟩ := tkI_of_owns o1
      have B1 := Lib.hid (b1.alloc b1.size (.cells #[.int .i64 0, .int .i64 0] 28))
      have T1 : Hid (FBox (w1.alloc (.cells #[.int .i64 0, .int .i64 0] 28)) w1.heap.size 0 0) := Lib.hid (heap_alloc_new w1 _)
      clear b1 o1 i1
      go_wp2_with fail
      refine (fixed7_any _ (Hm.out.keep B1.out)).mono ?_
      rintro e w3 ⟨rfl, b3⟩
      have B3 := Lib.hid (B1.out.trans (b3.mono B1.out.size))
      have y1 := T1.out.keep b3
      have p0 := y1.c0
      have p1 := y1.c1
      clear b3 y1
      go_wp2_with fail
      refine (fixed7_any _ (Hm.out.keep B3.out)).mono ?_
      rintro e w4 ⟨rfl, b4⟩
      have B4 := Lib.hid (B3.out.trans (b4.mono B3.out.size))
      clear b4 p0 p1
      go_wp2
      go_ret
      exact ⟨rfl, B4.out⟩
    · have hne : faEq (allA s).2.1 (allA s).2.2 0 0 = false := by
        unfold faEq; rw [show ((allA s).2.1 == 0) = false from beq_eq_false_iff_ne.2 e0]; rfl
      generalize (allA s).2.1 = E at H1 hne
      generalize (allA s).2.2 = D at H1 hne
      have q2 := fun w => run_equal_fau w E D 0 0
      rw [hne] at q2
      generalize (allA s).1 = A at H1
      have H1 := Lib.hid H1
      clear e1 e0 hne
      go_enter Try.func5, Try.ntmps5
      go_wp2_with fail
      refine (H1.out _ Hm.out).mono ?_
      rintro e w1 ⟨v1, rfl, o1, b1⟩
      obtain ⟨x1, c1, rfl, i1, _⟩ := tkI_of_owns o1
      have B1 := Lib.hid (b1.alloc b1.size (.cells #[.int .i64 E, .int .i64 D] 28))
      have T1 : Hid (FBox (w1.alloc (.cells #[.int .i64 E, .int .i64 D] 28)) w1.heap.size E D) := Lib.hid (heap_alloc_new w1 _)
      clear b1 o1 i1
      go_wp2_with fail
      refine (fixed7_any _ (Hm.out.keep B1.out)).mono ?_
      rintro e w3 ⟨rfl, b3⟩
      have B3 := Lib.hid (B1.out.trans (b3.mono B1.out.size))
      have y1 := T1.out.keep b3
      have p0 := y1.c0
      have p1 := y1.c1
      clear b3 y1
      go_wp2_with fail
      refine (fixed7_any _ (Hm.out.keep B3.out)).mono ?_
      rintro e w4 ⟨rfl, b4⟩
      have B4 := Lib.hid (B3.out.trans (b4.mono B3.out.size))
      clear b4 p0 p1
      go_wp2
      go_ret
      exact ⟨rfl, B4.out⟩
end Go.Proofs.Ytnkgbmnjehpkgaa

