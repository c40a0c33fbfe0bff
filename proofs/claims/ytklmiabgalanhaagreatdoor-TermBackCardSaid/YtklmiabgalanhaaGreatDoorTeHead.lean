/- Contract of term.head. -/
import Derived.Test.YtklmiabgalanhaaGreatDoorTeHdM
import Derived.Deep.CutBlock
namespace Go.Proofs.YtklmiabgalanhaaGreatDoor
open Go.Shelf Go.RowKit Em Tx Km
set_option maxRecDepth 100000
set_option linter.unusedVariables false
set_option linter.unusedSimpArgs false

theorem pre_k (s p : ByteArray) (b : Bool) (h : Lib.hasPrefix (bl s) (bl p) = b) (w : World) :
    Calls Tryz.prog 49 #[.string s, .string p] w fun e w' => e = .returned (.bool b) ∧ w' = w := by
  have h2 := hasprefix_k s p w
  rw [show Lib.hasPrefix s.data.toList p.data.toList = b from h] at h2
  exact h2
set_option maxHeartbeats 2000000 in
theorem head_no (s : ByteArray) (w : World) (h : (bl s).head? ≠ some 40) :
    Calls Tryz.prog 50 #[.string s] w fun e w' => e = .returned (hV s.size (hdA (bl s))) ∧ Below w.heap.size w w' := by
  rw [hdA_no h]
  have HP := Lib.hid (pre_k s ⟨#[40]⟩ false ((pre_one 40 (bl s)).trans (decide_eq_false h)))
  have Hb := Lib.hid (pb_of_part (w := w))
  have HB := Lib.hid ((Below.refl w.heap.size w).alloc (Nat.le_refl _) (.cells #[.int .u8 0, .int .i64 0, .string ⟨#[]⟩] 28))
  clear h
  go_enter Tryz.func50, Tryz.ntmps50
  go_wp2_with fail
  generalize w.alloc (.cells #[.int .u8 0, .int .i64 0, .string ⟨#[]⟩] 28) = wz at Hb HB ⊢
  obtain ⟨R, hR⟩ : ∃ R, w.heap.size = R := ⟨_, rfl⟩
  have HR := Lib.hid hR
  rw [hR] at Hb HB ⊢
  clear hR
  refine (HP.out _).mono ?_
  rintro e w1 ⟨rfl, rfl⟩
  have z0 := Hb.out.free 0
  have z1 := Hb.out.free 1
  have z2 := Hb.out.free 2
  have k0 := Hb.out.c0
  have k1 := Hb.out.c1
  have k2 := Hb.out.c2
  go_wp2
  have hf := Hb.out.all 0 0 ⟨#[]⟩
  have r0 := hf.c0
  have r1 := hf.c1
  have r2 := hf.c2
  refine bodyPost_ret (v := hV s.size none) ?_ rfl ⟨rfl, by rw [HR.out]; exact below_all HB.out (Nat.le_refl _) _ _ _⟩
  simp [results, Tryz.results50, go_sem, r0, r1, r2, hV]
theorem byN_of {s : ByteArray} {j : Nat} {c : UInt8} (h : (bl s)[j]? = some c) : byN s j = c.toNat := by
  have hj : j < s.size := by
    have := (List.getElem?_eq_some_iff.1 h).1
    rw [bl_size] at this; exact this
  rw [bl_get s j hj] at h
  rw [← byN_get s j hj]
  exact congrArg UInt8.toNat (Option.some.inj h)
theorem isD_iff {c : UInt8} : isD c = true ↔ 48 ≤ c.toNat ∧ c.toNat ≤ 57 := by unfold isD; exact decide_eq_true_iff
/-- What is known of the digits behind the bracket. -/
structure HdF (s : ByteArray) (m : List UInt8) (J : Nat) : Prop where
  eJ : J = 1 + (dsA m).length
  le : J ≤ s.size
  dig : ∀ j, 1 ≤ j → j < J → 48 ≤ byN s j ∧ byN s j ≤ 57
  stop : J < s.size → byN s J < 48 ∨ 57 < byN s J
  ext : bl (s.extract 1 J) = dsA m
  rest : (bl s).drop J = rsA m
theorem hdF_gen {s : ByteArray} {ds rs : List UInt8} (h : bl s = 40 :: (ds ++ rs)) (ha : ∀ c ∈ ds, isD c = true) (hh : ∀ c q, rs = c :: q → isD c = false) :
    1 + ds.length ≤ s.size ∧ (∀ j, 1 ≤ j → j < 1 + ds.length → 48 ≤ byN s j ∧ byN s j ≤ 57) ∧ (1 + ds.length < s.size → byN s (1 + ds.length) < 48 ∨ 57 < byN s (1 + ds.length)) ∧ bl (s.extract 1 (1 + ds.length)) = ds ∧ (bl s).drop (1 + ds.length) = rs := by
  have hlen : s.size = 1 + (ds.length + rs.length) := by rw [← bl_size, h, List.length_cons, List.length_append]; omega
  refine ⟨by omega, fun j h1 h2 => ?_, fun hlt => ?_, ?_, ?_⟩
  · obtain ⟨i, rfl⟩ : ∃ i, j = i + 1 := ⟨j - 1, by omega⟩
    have hi : i < ds.length := by omega
    have hg : (bl s)[i + 1]? = some (ds[i]'hi) := by
      rw [h, List.getElem?_cons_succ, List.getElem?_append_left hi]
      exact List.getElem?_eq_getElem hi
    rw [byN_of hg]
    exact isD_iff.1 (ha _ (List.getElem_mem hi))
  · cases rs with
    | nil => simp at hlen; omega
    | cons c q =>
      have hg : (bl s)[1 + ds.length]? = some c := by
        rw [h, Nat.add_comm 1, List.getElem?_cons_succ, List.getElem?_append_right (Nat.le_refl _)]
        simp
      rw [byN_of hg]
      have := hh c q rfl
      have hn : ¬ (48 ≤ c.toNat ∧ c.toNat ≤ 57) := fun e => by rw [isD_iff.2 e] at this; cases this
      omega
  · rw [bl_extract, h, Nat.add_comm 1, List.take_succ_cons, List.drop_succ_cons, List.drop_zero]
    exact List.take_left' rfl
  · rw [h, Nat.add_comm 1, List.drop_succ_cons]
    exact List.drop_left' rfl
theorem hdF {s : ByteArray} {m : List UInt8} (h : bl s = 40 :: m) : HdF s m (1 + (dsA m).length) := by
  obtain ⟨a, b, c, d, e⟩ := hdF_gen (ds := dsA m) (rs := rsA m) (by rw [← ds_split]; exact h) (ds_all m) (rs_head m)
  exact ⟨rfl, a, b, c, d, e⟩

set_option maxHeartbeats 8000000 in
theorem head_yes (s : ByteArray) (m : List UInt8) (w : World) (h : bl s = 40 :: m) (hs : s.size ≤ 1048576) (hsn : Snt w) :
    Calls Tryz.prog 50 #[.string s] w fun e w' => e = .returned (hV s.size (hdA (bl s))) ∧ Below w.heap.size w w' := by
  have HF := Lib.hid (hdF h)
  have hJ1 : 1 ≤ 1 + (dsA m).length := by omega
  have hJ := (hdF h).le
  obtain ⟨J, hJe⟩ : ∃ J, 1 + (dsA m).length = J := ⟨_, rfl⟩
  rw [hJe] at HF hJ1 hJ
  have HJE := Lib.hid hJe
  have HP := Lib.hid (pre_k s ⟨#[40]⟩ true ((pre_one 40 (bl s)).trans (decide_eq_true (by rw [h]; rfl))))
  rw [h]
  have HS := Lib.hid hsn
  have Hs := Lib.hid h
  have Hb := Lib.hid (pb_of_part (w := w))
  have HB := Lib.hid ((Below.refl w.heap.size w).alloc (Nat.le_refl _) (.cells #[.int .u8 0, .int .i64 0, .string ⟨#[]⟩] 28))
  clear h hJe hsn
  go_enter Tryz.func50, Tryz.ntmps50
  go_wp2_with fail
  generalize w.alloc (.cells #[.int .u8 0, .int .i64 0, .string ⟨#[]⟩] 28) = wz at Hb HB ⊢
  obtain ⟨R, hR⟩ : ∃ R, w.heap.size = R := ⟨_, rfl⟩
  have HR := Lib.hid hR
  rw [hR] at Hb HB ⊢
  clear hR
  refine (HP.out _).mono ?_
  rintro e w1 ⟨rfl, rfl⟩
  go_upto_block 0 with fail
  go_cut [4] from 11 to 33 (fun jv wx => jv = .int .i64 (J : Int) ∧ wx = w1)
  case first =>
    go_wp2_with fail
    go_loopw [4] (fun jv wr => ∃ j : Nat, 1 ≤ j ∧ j ≤ J ∧ jv = .int .i64 (j : Int) ∧ wr = w1) (fun jv _ => J - (intOf jv).toNat)
    case atStart => exact ⟨1, by omega, by omega, rfl, rfl⟩
    case round =>
      obtain ⟨j, h1, h2, rfl, rfl⟩ := hrel
      have b0 : (0 : Int) ≤ (j : Int) := by omega
      by_cases hlt : j < J
      · have b1 : (j : Int) < (s.size : Int) := by omega
        obtain ⟨c1, c2⟩ := HF.out.dig j h1 hlt
        have e1 := byN_get s j (by omega)
        have l1 := byN_lt s j
        generalize byN s j = C at c1 c2 e1 l1
        have d1 : (48 : Int) ≤ (C : Int) := by omega
        have d2 : (C : Int) ≤ 57 := by omega
        go_wp2
        go_roundw
        case rel => exact ⟨j + 1, by omega, by omega, by go_num, by first | rfl | trivial⟩
        case measure => simp [intOf]; omega
      · have hje : j = J := by omega
        subst hje
        by_cases hJs : j < s.size
        · have b1 : (j : Int) < (s.size : Int) := by omega
          have hst := HF.out.stop hJs
          have e1 := byN_get s j (by omega)
          have l1 := byN_lt s j
          generalize byN s j = C at hst e1 l1
          by_cases c1 : 48 ≤ C
          · have d1 : (48 : Int) ≤ (C : Int) := by omega
            have d2 : ¬ (C : Int) ≤ 57 := by omega
            go_wp2_with fail
            go_meet
            case rel => exact ⟨rfl, rfl⟩
          · have d1 : ¬ (48 : Int) ≤ (C : Int) := by omega
            go_wp2_with fail
            go_meet
            case rel => exact ⟨rfl, rfl⟩
        · have b1 : ¬ (j : Int) < (s.size : Int) := by omega
          go_wp2_with fail
          go_meet
          case rel => exact ⟨rfl, rfl⟩
  case rest =>
    obtain ⟨rfl, hwc⟩ := hcut
    subst hwc
    have a1 : (1 : Int) ≤ (J : Int) := by omega
    have a2 : (J : Int) ≤ (s.size : Int) := by omega
    have hTb : bl (s.extract 1 J) = dsA m := HF.out.ext
    have hTs : (s.extract 1 J).size ≤ 1048576 := by rw [← bl_size, hTb]; have := HJE.out; omega
    have HTB := Lib.hid hTb
    clear hTb
    obtain ⟨T, hT⟩ : ∃ T, s.extract 1 J = T := ⟨_, rfl⟩
    have HT := Lib.hid hT
    rw [hT] at HTB hTs
    clear hT
    have hex : s.extract 1 J = T := HT.out
    by_cases hok : okD (dsA m)
    · have hv := hok.1
      have hparse : Lib.parseUintB 8 T.data.toList = .ok (val (dsA m)) := by
        rw [show T.data.toList = dsA m from HTB.out, parseB_digits _ (ds_all m), if_neg (okD_ne hok), if_pos hv]
      have HPa := Lib.hid (parse_ok T hTs _ hparse)
      have hne := okD_ne hok
      have hJ2 : 2 ≤ J := by
        have := List.length_pos_iff.2 hne
        have := HJE.out
        omega
      have hlead : byN s 1 = 48 → ¬ 2 < J := fun h1 h2 => by
        refine okD_no (ds := dsA m) ⟨?_, by have := HJE.out; omega⟩ hok
        cases hd : dsA m with
        | nil => exact absurd hd hne
        | cons d r =>
          have h3 : (bl s)[1]? = some d := by
            have h4 := ds_split m
            rw [Hs.out, List.getElem?_cons_succ, h4, hd]
            rfl
          have h5 := byN_of h3
          rw [h1] at h5
          simp only [List.head?_cons, Option.some.injEq]
          exact UInt8.toNat_inj.1 h5.symm
      have HOK := Lib.hid hok
      have e1 := byN_get s 1 (by omega)
      have l1 := byN_lt s 1
      obtain ⟨C, hC⟩ : ∃ C, byN s 1 = C := ⟨_, rfl⟩
      rw [hC] at e1 l1 hlead
      have a3 : (1 : Int) < (s.size : Int) := by omega
      clear hok hparse hne hC
      obtain ⟨V, hV'⟩ : ∃ V, val (dsA m) = V := ⟨_, rfl⟩
      have HVE := Lib.hid hV'
      rw [hV'] at HPa hv
      clear hV'
      have v1 : IntKind.u8.wrap (V : Int) = (V : Int) := by rw [IntKind.wrap_u8]; omega
      go_upto_region 7 with (go_at_call 70; refine (HPa.out _).mono ?_; rintro e w2 ⟨rfl, g2⟩)
      go_cut [50] from 40 to 51 (fun bv wx => bv = .bool false ∧ wx = w2)
      case first =>
        by_cases hC48 : C = 48
        · subst hC48
          have a4 : ¬ (2 : Int) < (J : Int) := by have := hlead rfl; omega
          clear hlead
          go_wp2_with fail
          go_meet
          case rel => exact ⟨rfl, rfl⟩
        · have a4 : ((C : Int) == 48) = false := beq_eq_false_iff_ne.2 (by omega)
          clear hlead
          go_wp2_with fail
          go_meet
          case rel => exact ⟨rfl, rfl⟩
      case rest =>
      obtain ⟨rfl, hwc⟩ := hcut
      subst hwc
      have Hb2 := Lib.hid (Hb.out.keep g2)
      have HB2 : Hid (Below R w _) := Lib.hid (HB.out.trans (g2.mono (by have := Hb.out.lt; omega)))
      have hrs : bl (s.extract J s.size) = rsA m := by
        rw [bl_extract, List.take_of_length_le (by rw [bl_size]; omega)]; exact HF.out.rest
      have hrl : (rsA m).length = s.size - J := by rw [← hrs, bl_size]; simp
      have hdrop : (bl s).drop J = rsA m := HF.out.rest
      have hhd : hdA (40 :: m) = match wordP (rsA m) with | none => none | some (x, q) => some ((val (dsA m), x), q) := hdA_word HOK.out
      rw [HVE.out] at hhd
      have HHD := Lib.hid hhd
      have HDR := Lib.hid hdrop
      have HRS := Lib.hid hrs
      clear g2 e1 l1 hlead a3 Hb HB HPa HP hhd hdrop hrs
      obtain ⟨rs, hrse⟩ : ∃ rs, rsA m = rs := ⟨_, rfl⟩
      rw [hrse] at hrl HHD HDR HRS
      clear hrse
      have HPq := Lib.hid (fun w => pre_k (s.extract J s.size) ⟨#[32, 34]⟩ (decide (rs.head? = some 32 ∧ rs.tail.head? = some 34)) (by rw [HRS.out]; exact pre_two 32 34 rs) w)
      go_wp2_with fail
      have HP0 : Hid (PB (wc.alloc (.cells #[.int .u8 (V : Int), .int .i64 0, .string ⟨#[]⟩] 28)) wc.heap.size (V : Int) 0 ⟨#[]⟩) := Lib.hid (heap_alloc_new wc _)
      have Hb3 := Lib.hid (Hb2.out.alloc (.cells #[.int .u8 (V : Int), .int .i64 0, .string ⟨#[]⟩] 28))
      have hRl := Hb2.out.lt
      have HB3 := Lib.hid (HB2.out.alloc (Nat.le_of_lt hRl) (.cells #[.int .u8 (V : Int), .int .i64 0, .string ⟨#[]⟩] 28))
      generalize wc.alloc (.cells #[.int .u8 (V : Int), .int .i64 0, .string ⟨#[]⟩] 28) = wp at HP0 Hb3 HB3 ⊢
      have hRP : R ≠ wc.heap.size := by omega
      generalize wc.heap.size = P at HP0 hRP hRl ⊢
      refine (HPq.out _).mono ?_
      rintro e w4 ⟨rfl, rfl⟩
      by_cases hq : rs.head? = some 32 ∧ rs.tail.head? = some 34
      · rw [decide_eq_true hq]
        obtain ⟨m2, rfl⟩ : ∃ m2, rs = 32 :: 34 :: m2 := by
          cases rs with
          | nil => simp at hq
          | cons a rs =>
            cases rs with
            | nil => simp at hq
            | cons b rs =>
              simp at hq
              exact ⟨rs, by rw [hq.1, hq.2]⟩
        have hml : m2.length + 2 = s.size - J := by simpa using hrl
        have hdr1 : (bl s).drop (J + 1) = 34 :: m2 := by
          rw [← List.drop_drop, HDR.out]; rfl
        have hb34 : byN s (J + 1) = 34 := by
          have : (bl s)[J + 1]? = some 34 := by
            have h2 := congrArg (fun l => l[0]?) hdr1
            simpa using h2
          rw [byN_of this]; rfl
        have hmk : mkN (byN s (J + 1)) = true := by rw [hb34]; rfl
        have HSc := qscan_yes s (J + 1) w4 (by omega) hmk (by omega)
        rw [hdr1] at HSc
        have hJw : IntKind.i64.wrap ((J : Int) + 1) = ((J + 1 : Nat) : Int) := by rw [IntKind.wrap_i64]; omega
        have hJc : ((J + 1 : Nat) : Int) = (J : Int) + 1 := by omega
        rw [hJc] at HSc
        cases hwh : Qm.whole (34 :: m2) with
        | none =>
          have HNone : Hid (hdA (40 :: m) = none) := Lib.hid (by rw [HHD.out, wordP_bad (r := 32 :: 34 :: m2) ⟨rfl, rfl⟩ hwh])
          have hqt : qT s.size (34 :: m2) = 0 := by unfold qT; rw [hwh]
          rw [hqt] at HSc
          have HSc := Lib.hid HSc
          clear hmk hb34 hdr1 hq hwh hqt hJw hJc
          go_wp2_with fail
          refine HSc.out.mono ?_
          rintro e w5 ⟨rfl, g5⟩
          have Hb5 := Lib.hid (Hb3.out.keep g5)
          have HB5 : Hid (Below R w w5) := Lib.hid (HB3.out.trans (g5.mono (by have := Hb3.out.lt; omega)))
          have z0 := Hb5.out.free 0
          have z1 := Hb5.out.free 1
          have z2 := Hb5.out.free 2
          have k0 := Hb5.out.c0
          have k1 := Hb5.out.c1
          have k2 := Hb5.out.c2
          go_wp2
          have hf := Hb5.out.all 0 0 ⟨#[]⟩
          have r0 := hf.c0
          have r1 := hf.c1
          have r2 := hf.c2
          refine bodyPost_ret (v := hV s.size none) ?_ rfl ⟨by rw [HNone.out], by rw [HR.out]; exact below_all HB5.out (Nat.le_refl _) _ _ _⟩
          simp [results, Tryz.results50, go_sem, r0, r1, r2, hV]
        | some z =>
          obtain ⟨kk, wd, q⟩ := z
          have hwl := whole_len hwh
          have hqt : qT s.size (34 :: m2) = (s.size : Int) - (q.length : Int) := by unfold qT; rw [hwh]
          rw [hqt] at HSc
          obtain ⟨mk, xx, hsp, hwx, _, _⟩ := Qm.whole_split hwh
          injection hsp with hsp1 hsp2
          subst hsp1
          have hml2 : m2.length = xx.length + 1 + q.length := by rw [hsp2]; simp; omega
          obtain ⟨N, hN⟩ : ∃ N : Nat, s.size = N + q.length := ⟨s.size - q.length, by omega⟩
          have hNi : (s.size : Int) - (q.length : Int) = (N : Int) := by omega
          rw [hNi] at HSc
          have HSc := Lib.hid HSc
          have hUb : bl (s.extract (J + 1) N) = 34 :: (xx ++ [34]) := by
            rw [bl_extract, List.drop_take, hdr1, hsp2]
            have e : N - (J + 1) = (34 :: (xx ++ [34])).length := by simp; omega
            rw [e, show 34 :: (xx ++ 34 :: q) = 34 :: (xx ++ [34]) ++ q by simp]
            exact List.take_left' rfl
          have hUs : (s.extract (J + 1) N).size = xx.length + 2 := by rw [← bl_size, hUb]; simp
          have HUB := Lib.hid hUb
          have hvT : vT (s.extract (J + 1) N) = txt wd := by unfold vT; rw [hUb, hwx]
          have hword : wordP (32 :: 34 :: m2) = if wd ≠ [] ∧ 34 :: m2 = quoteL wd ++ q then some (txt wd, q) else none := wordP_yes ⟨rfl, rfl⟩ hwh
          have hqe : (34 :: m2 = quoteL wd ++ q) ↔ quoteL wd = 34 :: (xx ++ [34]) := by
            rw [hsp2, show 34 :: (xx ++ 34 :: q) = 34 :: (xx ++ [34]) ++ q by simp]
            exact ⟨fun h => (List.append_cancel_right h).symm, fun h => by rw [h]⟩
          have HWO := Lib.hid hword
          have HQE := Lib.hid hqe
          obtain ⟨U, hU⟩ : ∃ U, s.extract (J + 1) N = U := ⟨_, rfl⟩
          rw [hU] at hUs hvT HUB
          have HVa := value_any U
          rw [hvT] at HVa
          have HVa := Lib.hid (fun w => HVa w (by omega))
          have b1 : (J : Int) + 1 ≤ (N : Int) := by omega
          have b2 : (N : Int) ≤ (s.size : Int) := by omega
          have b3 : (0 : Int) ≤ (J : Int) + 1 := by omega
          have hN0 : ((N : Int) == 0) = false := beq_eq_false_iff_ne.2 (by omega)
          have hJt : ((J : Int) + 1).toNat = J + 1 := by omega
          clear hmk hb34 hdr1 hq hwh hqt hwx hsp2 hUb hvT hword hqe hNi
          go_wp2_with fail
          refine HSc.out.mono ?_
          rintro e w5 ⟨rfl, g5⟩
          have Hb5 := Lib.hid (Hb3.out.keep g5)
          have HP5 := Lib.hid (HP0.out.keep g5)
          have HB5 : Hid (Below R w w5) := Lib.hid (HB3.out.trans (g5.mono (by have := Hb3.out.lt; omega)))
          clear g5 HSc
          go_wp2_with fail
          refine (HVa.out _).mono ?_
          rintro e w6 ⟨rfl, g6⟩
          have Hb6 := Lib.hid (Hb5.out.keep g6)
          have HP6 := Lib.hid (HP5.out.keep g6)
          have HB6 : Hid (Below R w w6) := Lib.hid (HB5.out.trans (g6.mono (by have := Hb5.out.lt; omega)))
          clear g6 HVa
          have f2 := HP6.out.free 2
          have k2 := HP6.out.c2
          go_upto_region 16 with fail
          have HP7 : Hid (PB (w6.setCell ⟨P, 2, none⟩ (.string (txt wd))) P (V : Int) 0 (txt wd)) := Lib.hid (HP6.out.set2)
          have Hb7 : Hid (PB (w6.setCell ⟨P, 2, none⟩ (.string (txt wd))) R 0 0 ⟨#[]⟩) := Lib.hid (Hb6.out.far hRP _)
          have HB7 : Hid (Below R w (w6.setCell ⟨P, 2, none⟩ (.string (txt wd)))) := Lib.hid (HB6.out.setCell (p := ⟨P, 2, none⟩) (Nat.le_of_lt hRl) _)
          clear f2 k2
          generalize w6.setCell ⟨P, 2, none⟩ (.string (txt wd)) = w7 at HP7 Hb7 HB7 ⊢
          obtain ⟨BD, hBD⟩ : ∃ BD : Bool, (BD = false ↔ (wd ≠ [] ∧ quoteL wd = 34 :: (xx ++ [34]))) := ⟨decide (¬ (wd ≠ [] ∧ quoteL wd = 34 :: (xx ++ [34]))), by simp⟩
          have HBD := Lib.hid hBD
          clear hBD
          go_cut [96] from 83 to 97 (fun bv wx => bv = .bool BD ∧ Hid (PB wx P (V : Int) 0 (txt wd)) ∧ Hid (PB wx R 0 0 ⟨#[]⟩) ∧ Hid (Below R w wx))
          case first =>
            have c2 := HP7.out.c2
            have hPl : P < w7.heap.size := HP7.out.lt
            by_cases hw0 : wd = []
            · subst hw0
              have hem : (txt ([] : List UInt8)).toList.isEmpty = true := by rw [emp_iff]; rfl
              have hbd : BD = true := by
                cases BD with
                | true => rfl
                | false => exact absurd rfl (HBD.out.1 rfl).1
              subst hbd
              go_quiet (fail)
              go_wp2_with fail
              go_meet
              case rel => exact ⟨rfl, Lib.hid (HP7.out.keep ⟨rfl, rfl, rfl, Nat.le_refl _, fun _ _ => rfl⟩), Lib.hid (Hb7.out.keep ⟨rfl, rfl, rfl, Nat.le_refl _, fun _ _ => rfl⟩), Lib.hid (HB7.out.trans ⟨rfl, rfl, rfl, Nat.le_refl _, fun _ _ => rfl⟩)⟩
            · have hem : (txt wd).toList.isEmpty = false := by rw [emp_iff, txt_size]; exact decide_eq_false (fun h => hw0 (List.eq_nil_of_length_eq_zero h))
              have HQ := fun w => quote_any (txt wd) w (by rw [txt_size]; omega)
              rw [txt_bl] at HQ
              have HQ := Lib.hid HQ
              obtain ⟨Qt, hQt⟩ : ∃ Qt, txt (quoteL wd) = Qt := ⟨_, rfl⟩
              have hQb : bl Qt = quoteL wd := by rw [← hQt, txt_bl]
              rw [hQt] at HQ
              have hcm2 : (Qt.toList != U.toList) = BD := by
                rw [Lib.toList_data, Lib.toList_data, show Qt.data.toList = quoteL wd from hQb, show U.data.toList = 34 :: (xx ++ [34]) from HUB.out]
                cases BD with
                | true =>
                  rw [bne, beq_eq_false_iff_ne.2 (fun h => by have := HBD.out.2 ⟨hw0, h⟩; cases this)]; rfl
                | false => rw [bne, beq_iff_eq.2 (HBD.out.1 rfl).2]; rfl
              obtain ⟨X, hX⟩ : ∃ X, txt wd = X := ⟨_, rfl⟩
              rw [hX] at hem HQ c2
              have HXe := Lib.hid hX
              clear hQb hQt hX
              have hUe : s.extract (J + 1) N = U := hU
              have b5' : (0 : Int) ≤ (N : Int) := by omega
              have b4 : (J : Int) < (N : Int) := by omega
              have hsr : ∀ w, (Instr.slice 9 (.string s) (some (.int .i64 ((J : Int) + 1))) (some (.int .i64 (N : Int))) none).run Tryz.prog w = .ok (.string U) w := fun w => by
                rw [run_slice_string_if w 9 s .i64 .i64 ((J : Int) + 1) (N : Int) Tryz.underlying9, if_pos ⟨b5', b2⟩, if_pos ⟨b3, b1⟩, hJt, Int.toNat_natCast, hUe]
              have b5 : (0 : Int) ≤ (N : Int) := by omega
              go_region_held3 (fun w' => w'.cell? ⟨P, 2, none⟩ = some (.string X))
                (first | exact c2 | exact (hb8.cell (p := ⟨P, 2, none⟩) hPl).trans c2)
                ((go_at_call 45; refine (HQ.out _).mono ?_; rintro e w8 ⟨rfl, hb8⟩))
              all_goals
                go_wp2_with fail
                go_meet
                have hb9 : Below w7.heap.size w7 w8 := (show Below w7.heap.size w7 w7.drew from ⟨rfl, rfl, rfl, Nat.le_refl _, fun _ _ => rfl⟩).trans hb8
                exact ⟨by first | rfl | exact congrArg Value.bool hcm2, Lib.hid (HP7.out.keep hb9), Lib.hid (Hb7.out.keep hb9), Lib.hid (HB7.out.trans (hb9.mono (Nat.le_of_lt Hb7.out.lt)))⟩
          case rest =>
          obtain ⟨rfl, HP8, Hb8, HB8⟩ := hcut
          cases BD with
          | true =>
            have HNone : Hid (hdA (40 :: m) = none) := Lib.hid (by
              rw [HHD.out, HWO.out, if_neg]
              rintro ⟨h1, h2⟩
              have := HBD.out.2 ⟨h1, HQE.out.1 h2⟩
              cases this)
            have z0 := Hb8.out.free 0
            have z1 := Hb8.out.free 1
            have z2 := Hb8.out.free 2
            have k0 := Hb8.out.c0
            have k1 := Hb8.out.c1
            have k2 := Hb8.out.c2
            go_wp2
            have hf := Hb8.out.all 0 0 ⟨#[]⟩
            have r0 := hf.c0
            have r1 := hf.c1
            have r2 := hf.c2
            refine bodyPost_ret (v := hV s.size none) ?_ rfl ⟨by rw [HNone.out], by rw [HR.out]; exact below_all HB8.out (Nat.le_refl _) _ _ _⟩
            simp [results, Tryz.results50, go_sem, r0, r1, r2, hV]
          | false =>
            have hfin : hdA (40 :: m) = some ((V, txt wd), q) := by
              rw [HHD.out, HWO.out, if_pos ⟨(HBD.out.1 rfl).1, HQE.out.2 (HBD.out.1 rfl).2⟩]
            have HFin := Lib.hid hfin
            have hrl2 : (s.size : Int) - (q.length : Int) = (N : Int) := by omega
            have q0 := HP8.out.c0
            have q1 := HP8.out.c1
            have q2 := HP8.out.c2
            clear hfin hN
            have z0 := Hb8.out.free 0
            have z1 := Hb8.out.free 1
            have z2 := Hb8.out.free 2
            have k0 := Hb8.out.c0
            have k1 := Hb8.out.c1
            have k2 := Hb8.out.c2
            go_wp2
            have hf := Hb8.out.all (V : Int) 0 (txt wd)
            have r0 := hf.c0
            have r1 := hf.c1
            have r2 := hf.c2
            refine bodyPost_ret (v := hV s.size (some ((V, txt wd), q))) ?_ rfl ⟨by rw [HFin.out], by rw [HR.out]; exact below_all HB8.out (Nat.le_refl _) _ _ _⟩
            simp [results, Tryz.results50, go_sem, r0, r1, r2, hV]
            omega
      · rw [decide_eq_false hq]
        have hfin : hdA (40 :: m) = some ((V, ⟨#[]⟩), rs) := by rw [HHD.out, wordP_none hq]; rfl
        have HFin := Lib.hid hfin
        have hrl2 : (s.size : Int) - (rs.length : Int) = (J : Int) := by omega
        clear hfin hq
        have q0 := HP0.out.c0
        have q1 := HP0.out.c1
        have q2 := HP0.out.c2
        have z0 := Hb3.out.free 0
        have z1 := Hb3.out.free 1
        have z2 := Hb3.out.free 2
        have k0 := Hb3.out.c0
        have k1 := Hb3.out.c1
        have k2 := Hb3.out.c2
        go_wp2
        have hf := Hb3.out.all (V : Int) 0 ⟨#[]⟩
        have r0 := hf.c0
        have r1 := hf.c1
        have r2 := hf.c2
        refine bodyPost_ret (v := hV s.size (some ((V, ⟨#[]⟩), rs))) ?_ rfl ⟨by rw [HFin.out], by rw [HR.out]; exact below_all HB3.out (Nat.le_refl _) _ _ _⟩
        simp [results, Tryz.results50, go_sem, r0, r1, r2, hV]
        omega
    · have HNone : Hid (hdA (40 :: m) = none) := Lib.hid (hdA_num hok)
      by_cases hp : ∃ u, Lib.parseUintB 8 T.data.toList = .ok u
      · obtain ⟨u, hu⟩ := hp
        have hne : dsA m ≠ [] := fun e => by
          rw [show T.data.toList = dsA m from HTB.out, parseB_digits _ (ds_all m), if_pos e] at hu; cases hu
        have hv : val (dsA m) < 256 := by
          rw [show T.data.toList = dsA m from HTB.out, parseB_digits _ (ds_all m), if_neg hne] at hu
          by_cases h : val (dsA m) < 256
          · exact h
          · rw [if_neg h] at hu; cases hu
        have hz : (dsA m).head? = some 48 ∧ 1 < (dsA m).length := Classical.byContradiction fun h => hok (okD_of (ds_all m) hne hv h)
        have hJ2 : 2 < J := by have := HJE.out; omega
        have hb1 : byN s 1 = 48 := by
          cases hd : dsA m with
          | nil => exact absurd hd hne
          | cons d r =>
            have h3 : (bl s)[1]? = some d := by
              have h4 := ds_split m
              rw [Hs.out, List.getElem?_cons_succ, h4, hd]
              rfl
            have h5 := byN_of h3
            have h6 := hz.1
            rw [hd] at h6
            simp only [List.head?_cons, Option.some.injEq] at h6
            rw [h5, h6]; rfl
        have e1 := byN_get s 1 (by omega)
        rw [hb1] at e1
        have a3 : (1 : Int) < (s.size : Int) := by omega
        have a4 : (2 : Int) < (J : Int) := by omega
        have HPa := Lib.hid (parse_ok T hTs u hu wc)
        clear hok hu hne hv hz hb1
        go_wp2_with fail
        refine HPa.out.mono ?_
        rintro e w2 ⟨rfl, g2⟩
        have Hb2 := Lib.hid (Hb.out.keep g2)
        have HB2 : Hid (Below R w w2) := Lib.hid (HB.out.trans (g2.mono (by have := Hb.out.lt; omega)))
        have z0 := Hb2.out.free 0
        have z1 := Hb2.out.free 1
        have z2 := Hb2.out.free 2
        have k0 := Hb2.out.c0
        have k1 := Hb2.out.c1
        have k2 := Hb2.out.c2
        go_wp2
        have hf := Hb2.out.all 0 0 ⟨#[]⟩
        have r0 := hf.c0
        have r1 := hf.c1
        have r2 := hf.c2
        refine bodyPost_ret (v := hV s.size none) ?_ rfl ⟨by rw [HNone.out], by rw [HR.out]; exact below_all HB2.out (Nat.le_refl _) _ _ _⟩
        simp [results, Tryz.results50, go_sem, r0, r1, r2, hV]
      · have HPa := Lib.hid (parse_no T hTs (fun u h => hp ⟨u, h⟩) wc (HS.out.keep (by rw [HR.out]; exact HB.out)))
        clear hok hp
        go_wp2_with fail
        refine HPa.out.mono ?_
        rintro e w2 ⟨⟨v, t, p, rfl⟩, g2⟩
        have Hb2 := Lib.hid (Hb.out.keep g2)
        have HB2 : Hid (Below R w w2) := Lib.hid (HB.out.trans (g2.mono (by have := Hb.out.lt; omega)))
        have z0 := Hb2.out.free 0
        have z1 := Hb2.out.free 1
        have z2 := Hb2.out.free 2
        have k0 := Hb2.out.c0
        have k1 := Hb2.out.c1
        have k2 := Hb2.out.c2
        go_wp2
        have hf := Hb2.out.all 0 0 ⟨#[]⟩
        have r0 := hf.c0
        have r1 := hf.c1
        have r2 := hf.c2
        refine bodyPost_ret (v := hV s.size none) ?_ rfl ⟨by rw [HNone.out], by rw [HR.out]; exact below_all HB2.out (Nat.le_refl _) _ _ _⟩
        simp [results, Tryz.results50, go_sem, r0, r1, r2, hV]
theorem head_any (s : ByteArray) (w : World) (hs : s.size ≤ 1048576) (hsn : Snt w) :
    Calls Tryz.prog 50 #[.string s] w fun e w' => e = .returned (hV s.size (hdA (bl s))) ∧ Below w.heap.size w w' := by
  by_cases h : (bl s).head? = some 40
  · obtain ⟨m, hm⟩ : ∃ m, bl s = 40 :: m := by
      cases hb : bl s with
      | nil => rw [hb] at h; simp at h
      | cons c m => rw [hb] at h; simp at h; exact ⟨m, by rw [h]⟩
    exact head_yes s m w hm hs hsn
  · exact head_no s w h
end Go.Proofs.YtklmiabgalanhaaGreatDoor
