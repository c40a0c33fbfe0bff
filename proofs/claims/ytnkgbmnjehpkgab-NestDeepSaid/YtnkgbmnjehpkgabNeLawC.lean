/- The law's helper 'repeat'; the walk of the law NestDeep. -/
import Derived.Test.YtnkgbmnjehpkgabNeLawA
import Derived.Test.YtnkgbmnjehpkgabNeDp
namespace Go.Proofs.Ytnkgbmnjehpkgab
open Go.RowKit Em
set_option maxRecDepth 100000
set_option linter.unusedVariables false

def repB (u : UInt8) (k : Nat) : ByteArray := ⟨(List.replicate k u).toArray⟩
theorem repB_bl (u : UInt8) (k : Nat) : bl (repB u k) = List.replicate k u := by unfold repB bl; simp
theorem repB_size (u : UInt8) (k : Nat) : (repB u k).size = k := by rw [← bl_size, repB_bl, List.length_replicate]
theorem repB_step (u : UInt8) (k : Nat) : repB u k ++ (⟨#[u]⟩ : ByteArray) = repB u (k + 1) := by
  apply ByteArray.ext
  apply Array.toList_inj.1
  rw [ByteArray.data_append, Array.toList_append]
  unfold repB
  simp [List.replicate_succ']
theorem repeat_any (u : UInt8) (k : Nat) (w : World) (hk : k < 130) :
    Calls Try.prog 9 #[.string ⟨#[u]⟩, .int .i64 (k : Int)] w fun e w' => e = .returned (.string (repB u k)) ∧ w = w' := by
  go_enter Try.func9, Try.ntmps9
  go_wp2
  go_loopw [5, 6] (fun tv iv wr => ∃ i : Nat, i ≤ k ∧ iv = .int .i64 i ∧ tv = .string (repB u i) ∧ wr = w) (fun _ iv _ => k - (intOf iv).toNat)
  case atStart => exact ⟨0, by omega, rfl, rfl, rfl⟩
  case round =>
    obtain ⟨i, hi, rfl, rfl, rfl⟩ := hrel
    by_cases hlt : i < k
    · have b1 : (i : Int) < (k : Int) := by omega
      have Hst := Lib.hid (repB_step u i)
      have r1 : (Op.stringOp .add (repB u i) (⟨#[u]⟩ : ByteArray)).run Try.prog = fun w => .ok (.string (repB u i ++ (⟨#[u]⟩ : ByteArray))) w := funext fun w => run_string_add_sum w _ _ (by rw [repB_size]; show _ + 1 ≤ _; omega)
      go_wp2
      go_roundw
      case rel => exact ⟨i + 1, by omega, by go_num, by rw [← Hst.out], by first | trivial | rfl⟩
      case measure => simp [intOf]; omega
    · have hie : i = k := by omega
      subst hie
      have b1 : ¬ (i : Int) < (i : Int) := by omega
      go_wp2
      go_ret
      exact ⟨rfl, by first | trivial | rfl⟩

def dS1 (u v : UInt8) (k : Nat) : ByteArray := repB u k ++ (⟨#[120]⟩ : ByteArray) ++ repB v k
def dS2 (u : UInt8) (k : Nat) : ByteArray := (⟨#[97]⟩ : ByteArray) ++ repB u k
theorem dS1_bl {u v : UInt8} {o c : Nat} (hu : ch o = u) (hv : ch c = v) (k : Nat) : bl (dS1 u v k) = dOne o c k := by
  subst hu; subst hv
  unfold dS1 dOne
  have e : ∀ a b : ByteArray, bl (a ++ b) = bl a ++ bl b := fun a b => by unfold bl; rw [ByteArray.data_append, Array.toList_append]
  rw [e, e, repB_bl, repB_bl, List.append_assoc]; rfl
theorem dS2_bl {u : UInt8} {o : Nat} (hu : ch o = u) (k : Nat) : bl (dS2 u k) = dTwo o k := by
  subst hu
  unfold dS2 dTwo
  have e : ∀ a b : ByteArray, bl (a ++ b) = bl a ++ bl b := fun a b => by unfold bl; rw [ByteArray.data_append, Array.toList_append]
  rw [e, repB_bl]; rfl

set_option maxHeartbeats 16000000 in
theorem walk_NestDeep (a0 a1 : Int) (w : World) (h0 : (Lit.int .u8 a0).wf = true) (h1 : (Lit.int .u8 a1).wf = true) (hm : Mx w) :
    Calls Try.prog 5 #[.int .u8 a0, .int .u8 a1] w fun e w' => e = .returned (.bool true) ∧ Below w.heap.size w w' := by
  obtain ⟨N, rfl, hN⟩ : ∃ n : Nat, a0 = n ∧ n < 256 := ⟨a0.toNat, by
    have := h0
    simp [Lit.wf, IntKind.min, IntKind.max, IntKind.signed, IntKind.bits] at this
    omega⟩
  obtain ⟨S, rfl, hS⟩ : ∃ n : Nat, a1 = n ∧ n < 256 := ⟨a1.toNat, by
    have := h1
    simp [Lit.wf, IntKind.min, IntKind.max, IntKind.signed, IntKind.bits] at this
    omega⟩
  clear h0 h1
  have Hm := Lib.hid hm
  obtain ⟨k, hk⟩ : ∃ k, N % 130 = k := ⟨_, rfl⟩
  have hk130 : k < 130 := by omega
  have hkI : (N : Int) % 130 = (k : Int) := by omega
  have m2 := guard_fau
  have hS3 : S % 3 = 0 ∨ S % 3 = 1 ∨ S % 3 = 2 := by omega
  clear hm
  rcases hS3 with hj | hj | hj
  · have hjI : (S : Int) % 3 = 0 := by omega
    have R1 := fun w => repeat_any 40 k w hk130
    have R2 := fun w => repeat_any 41 k w hk130
    have D1 := deep_one (t := dS1 40 41 k) (o := 40) (c := 41) (.inl ⟨rfl, rfl⟩) hk130 (dS1_bl rfl rfl k)
    have D2 := deep_two (t := dS2 40 k) (o := 40) (c := 41) (.inl ⟨rfl, rfl⟩) hk130 (dS2_bl rfl k)
    have H1 := fun w hm => depth_any (dS1 40 41 k) w hm
    have H2 := fun w hm => nest_any (dS2 40 k) w hm
    unfold NstP at H2
    dsimp only [fauV] at H1 H2
    have r1 : (Op.stringOp .add (repB 40 k) (⟨#[120]⟩ : ByteArray)).run Try.prog = fun w => .ok (.string (repB 40 k ++ (⟨#[120]⟩ : ByteArray))) w := funext fun w => run_string_add_sum w _ _ (by rw [repB_size]; show _ + 1 ≤ _; omega)
    have r2 : (Op.stringOp .add (repB 40 k ++ (⟨#[120]⟩ : ByteArray)) (repB 41 k)).run Try.prog = fun w => .ok (.string (dS1 40 41 k)) w := funext fun w => run_string_add_sum w _ _ (by rw [ByteArray.size_append, repB_size, repB_size]; show _ + 1 + _ ≤ _; omega)
    have r3 : (Op.stringOp .add (⟨#[97]⟩ : ByteArray) (repB 40 k)).run Try.prog = fun w => .ok (.string (dS2 40 k)) w := funext fun w => run_string_add_sum w _ _ (by rw [repB_size]; show 1 + _ ≤ _; omega)
    generalize dS1 40 41 k = V1 at D1 H1 r2
    generalize dS2 40 k = V2 at D2 H2 r3
    generalize nestM V1 = M1 at D1 H1
    generalize nestE V1 = E1 at D1 H1
    generalize nestF V1 = F1 at D1 H1
    generalize nestE V2 = E2 at D2 H2
    generalize nestF V2 = F2 at D2 H2
    have R1 := Lib.hid R1
    have R2 := Lib.hid R2
    have H1 := Lib.hid H1
    have H2 := Lib.hid H2
    have ha1 := (Below.refl w.heap.size w).alloc (Nat.le_refl _) (.cells #[.string ⟨#[40]⟩, .string ⟨#[91]⟩, .string ⟨#[123]⟩] 9)
    have B1 := Lib.hid (ha1.alloc ha1.size (.cells #[.string ⟨#[41]⟩, .string ⟨#[93]⟩, .string ⟨#[125]⟩] 9))
    clear ha1
    go_enter Try.func5, Try.ntmps5
    go_wp2_with fail
    refine (R1.out _).mono ?_
    rintro e w1 ⟨rfl, rfl⟩
    go_wp2_with fail
    refine (R2.out _).mono ?_
    rintro e w1 ⟨rfl, rfl⟩
    go_wp2_with fail
    refine (H1.out _ (Hm.out.keep B1.out)).mono ?_
    rintro e w2 ⟨rfl, b2⟩
    have b2' := B1.out.trans (b2.mono B1.out.size)
    have B2 := Lib.hid (b2'.alloc b2'.size (.cells #[.int .i64 E1, .int .i64 F1] 26))
    have T2 : Hid (FBox (w2.alloc (.cells #[.int .i64 E1, .int .i64 F1] 26)) w2.heap.size E1 F1) := Lib.hid (heap_alloc_new w2 _)
    clear b2 b2'
    go_wp2_with fail
    refine (R1.out _).mono ?_
    rintro e w3 ⟨rfl, rfl⟩
    go_wp2_with fail
    refine (H2.out _ (Hm.out.keep B2.out)).mono ?_
    rintro e w4 ⟨x1, c1, x2, c2, rfl, i1, i2, b4⟩
    have b4' := B2.out.trans (b4.mono B2.out.size)
    have B4 := Lib.hid (b4'.alloc b4'.size (.cells #[.int .i64 E2, .int .i64 F2] 26))
    have T4 : Hid (FBox (w4.alloc (.cells #[.int .i64 E2, .int .i64 F2] 26)) w4.heap.size E2 F2) := Lib.hid (heap_alloc_new w4 _)
    have S2 := Lib.hid ((T2.out.keep b4).alloc (.cells #[.int .i64 E2, .int .i64 F2] 26))
    clear b4 b4' i1 i2
    by_cases h100 : 100 < k
    · have u1 : (100 : Int) < (k : Int) := by omega
      obtain ⟨d1, d2, d3⟩ : M1 = 0 ∧ E1 = 6 ∧ F1 = 100 := by
        rcases D1 with ⟨h, _⟩ | ⟨_, h⟩
        · omega
        · exact h
      obtain ⟨d4, d5⟩ : E2 = 6 ∧ F2 = 101 := by
        rcases D2 with ⟨h, _⟩ | ⟨_, h, _⟩ | ⟨_, h⟩
        · omega
        · omega
        · exact h
      subst d1; subst d2; subst d3; subst d4; subst d5
      have q1 := fun w => run_equal_fau w 6 100 6 100
      have q2 := fun w => run_equal_fau w 6 101 6 101
      rw [faEq_self] at q1 q2
      clear D1 D2
      go_wp2_with fail
      refine (fixed9_any _ (Hm.out.keep B4.out)).mono ?_
      rintro e w5 ⟨rfl, b5⟩
      have B5 := Lib.hid (B4.out.trans (b5.mono B4.out.size))
      have y1 := S2.out.keep b5
      have y2 := T4.out.keep b5
      have p0 := y1.c0
      have p1 := y1.c1
      have p2 := y2.c0
      have p3 := y2.c1
      clear b5 y1 y2
      go_wp2
      go_ret
      exact ⟨by first | rfl | simp, B5.out⟩
    · have u1 : ¬ (100 : Int) < (k : Int) := by omega
      obtain ⟨d1, d2, d3⟩ : M1 = k ∧ E1 = 0 ∧ F1 = 0 := by
        rcases D1 with ⟨_, h⟩ | ⟨h, _⟩
        · exact h
        · omega
      subst d2; subst d3
      rw [d1]
      clear d1
      have q1 := fun w => run_equal_fau w 0 0 0 0
      rw [faEq_self] at q1
      by_cases hz : k = 0
      · obtain ⟨d4, d5⟩ : E2 = 0 ∧ F2 = 0 := by
          rcases D2 with ⟨_, h⟩ | ⟨h, _⟩ | ⟨h, _⟩
          · exact h
          · omega
          · omega
        subst d4; subst d5
        have u2 : ((k : Int) == 0) = true := by rw [hz]; rfl
        clear D1 D2
        go_wp2_with fail
        refine (fixed9_any _ (Hm.out.keep B4.out)).mono ?_
        rintro e w5 ⟨rfl, b5⟩
        have B5 := Lib.hid (B4.out.trans (b5.mono B4.out.size))
        have y1 := S2.out.keep b5
        have y2 := T4.out.keep b5
        have p0 := y1.c0
        have p1 := y1.c1
        have p2 := y2.c0
        have p3 := y2.c1
        clear b5 y1 y2
        go_wp2
        go_ret
        exact ⟨by first | rfl | simp, B5.out⟩
      · obtain ⟨d4, d5⟩ : E2 = 5 ∧ F2 = k := by
          rcases D2 with ⟨h, _⟩ | ⟨_, _, h⟩ | ⟨h, _⟩
          · omega
          · exact h
          · omega
        subst d4; subst d5
        have u2 : ((k : Int) == 0) = false := beq_eq_false_iff_ne.2 (by omega)
        have u3 : ((k : Int) == (k : Int)) = true := beq_self_eq_true _
        have q2 := fun w => run_equal_fau w 5 (k : Int) 5 (k : Int)
        rw [faEq_self] at q2
        clear D1 D2
        go_wp2_with fail
        refine (fixed9_any _ (Hm.out.keep B4.out)).mono ?_
        rintro e w5 ⟨rfl, b5⟩
        have B5 := Lib.hid (B4.out.trans (b5.mono B4.out.size))
        have y1 := S2.out.keep b5
        have y2 := T4.out.keep b5
        have p0 := y1.c0
        have p1 := y1.c1
        have p2 := y2.c0
        have p3 := y2.c1
        clear b5 y1 y2
        go_wp2
        go_ret
        exact ⟨by first | rfl | simp, B5.out⟩
  · have hjI : (S : Int) % 3 = 1 := by omega
    have R1 := fun w => repeat_any 91 k w hk130
    have R2 := fun w => repeat_any 93 k w hk130
    have D1 := deep_one (t := dS1 91 93 k) (o := 91) (c := 93) (.inr (.inl ⟨rfl, rfl⟩)) hk130 (dS1_bl rfl rfl k)
    have D2 := deep_two (t := dS2 91 k) (o := 91) (c := 93) (.inr (.inl ⟨rfl, rfl⟩)) hk130 (dS2_bl rfl k)
    have H1 := fun w hm => depth_any (dS1 91 93 k) w hm
    have H2 := fun w hm => nest_any (dS2 91 k) w hm
    unfold NstP at H2
    dsimp only [fauV] at H1 H2
    have r1 : (Op.stringOp .add (repB 91 k) (⟨#[120]⟩ : ByteArray)).run Try.prog = fun w => .ok (.string (repB 91 k ++ (⟨#[120]⟩ : ByteArray))) w := funext fun w => run_string_add_sum w _ _ (by rw [repB_size]; show _ + 1 ≤ _; omega)
    have r2 : (Op.stringOp .add (repB 91 k ++ (⟨#[120]⟩ : ByteArray)) (repB 93 k)).run Try.prog = fun w => .ok (.string (dS1 91 93 k)) w := funext fun w => run_string_add_sum w _ _ (by rw [ByteArray.size_append, repB_size, repB_size]; show _ + 1 + _ ≤ _; omega)
    have r3 : (Op.stringOp .add (⟨#[97]⟩ : ByteArray) (repB 91 k)).run Try.prog = fun w => .ok (.string (dS2 91 k)) w := funext fun w => run_string_add_sum w _ _ (by rw [repB_size]; show 1 + _ ≤ _; omega)
    generalize dS1 91 93 k = V1 at D1 H1 r2
    generalize dS2 91 k = V2 at D2 H2 r3
    generalize nestM V1 = M1 at D1 H1
    generalize nestE V1 = E1 at D1 H1
    generalize nestF V1 = F1 at D1 H1
    generalize nestE V2 = E2 at D2 H2
    generalize nestF V2 = F2 at D2 H2
    have R1 := Lib.hid R1
    have R2 := Lib.hid R2
    have H1 := Lib.hid H1
    have H2 := Lib.hid H2
    have ha1 := (Below.refl w.heap.size w).alloc (Nat.le_refl _) (.cells #[.string ⟨#[40]⟩, .string ⟨#[91]⟩, .string ⟨#[123]⟩] 9)
    have B1 := Lib.hid (ha1.alloc ha1.size (.cells #[.string ⟨#[41]⟩, .string ⟨#[93]⟩, .string ⟨#[125]⟩] 9))
    clear ha1
    go_enter Try.func5, Try.ntmps5
    go_wp2_with fail
    refine (R1.out _).mono ?_
    rintro e w1 ⟨rfl, rfl⟩
    go_wp2_with fail
    refine (R2.out _).mono ?_
    rintro e w1 ⟨rfl, rfl⟩
    go_wp2_with fail
    refine (H1.out _ (Hm.out.keep B1.out)).mono ?_
    rintro e w2 ⟨rfl, b2⟩
    have b2' := B1.out.trans (b2.mono B1.out.size)
    have B2 := Lib.hid (b2'.alloc b2'.size (.cells #[.int .i64 E1, .int .i64 F1] 26))
    have T2 : Hid (FBox (w2.alloc (.cells #[.int .i64 E1, .int .i64 F1] 26)) w2.heap.size E1 F1) := Lib.hid (heap_alloc_new w2 _)
    clear b2 b2'
    go_wp2_with fail
    refine (R1.out _).mono ?_
    rintro e w3 ⟨rfl, rfl⟩
    go_wp2_with fail
    refine (H2.out _ (Hm.out.keep B2.out)).mono ?_
    rintro e w4 ⟨x1, c1, x2, c2, rfl, i1, i2, b4⟩
    have b4' := B2.out.trans (b4.mono B2.out.size)
    have B4 := Lib.hid (b4'.alloc b4'.size (.cells #[.int .i64 E2, .int .i64 F2] 26))
    have T4 : Hid (FBox (w4.alloc (.cells #[.int .i64 E2, .int .i64 F2] 26)) w4.heap.size E2 F2) := Lib.hid (heap_alloc_new w4 _)
    have S2 := Lib.hid ((T2.out.keep b4).alloc (.cells #[.int .i64 E2, .int .i64 F2] 26))
    clear b4 b4' i1 i2
    by_cases h100 : 100 < k
    · have u1 : (100 : Int) < (k : Int) := by omega
      obtain ⟨d1, d2, d3⟩ : M1 = 0 ∧ E1 = 6 ∧ F1 = 100 := by
        rcases D1 with ⟨h, _⟩ | ⟨_, h⟩
        · omega
        · exact h
      obtain ⟨d4, d5⟩ : E2 = 6 ∧ F2 = 101 := by
        rcases D2 with ⟨h, _⟩ | ⟨_, h, _⟩ | ⟨_, h⟩
        · omega
        · omega
        · exact h
      subst d1; subst d2; subst d3; subst d4; subst d5
      have q1 := fun w => run_equal_fau w 6 100 6 100
      have q2 := fun w => run_equal_fau w 6 101 6 101
      rw [faEq_self] at q1 q2
      clear D1 D2
      go_wp2_with fail
      refine (fixed9_any _ (Hm.out.keep B4.out)).mono ?_
      rintro e w5 ⟨rfl, b5⟩
      have B5 := Lib.hid (B4.out.trans (b5.mono B4.out.size))
      have y1 := S2.out.keep b5
      have y2 := T4.out.keep b5
      have p0 := y1.c0
      have p1 := y1.c1
      have p2 := y2.c0
      have p3 := y2.c1
      clear b5 y1 y2
      go_wp2
      go_ret
      exact ⟨by first | rfl | simp, B5.out⟩
    · have u1 : ¬ (100 : Int) < (k : Int) := by omega
      obtain ⟨d1, d2, d3⟩ : M1 = k ∧ E1 = 0 ∧ F1 = 0 := by
        rcases D1 with ⟨_, h⟩ | ⟨h, _⟩
        · exact h
        · omega
      subst d2; subst d3
      rw [d1]
      clear d1
      have q1 := fun w => run_equal_fau w 0 0 0 0
      rw [faEq_self] at q1
      by_cases hz : k = 0
      · obtain ⟨d4, d5⟩ : E2 = 0 ∧ F2 = 0 := by
          rcases D2 with ⟨_, h⟩ | ⟨h, _⟩ | ⟨h, _⟩
          · exact h
          · omega
          · omega
        subst d4; subst d5
        have u2 : ((k : Int) == 0) = true := by rw [hz]; rfl
        clear D1 D2
        go_wp2_with fail
        refine (fixed9_any _ (Hm.out.keep B4.out)).mono ?_
        rintro e w5 ⟨rfl, b5⟩
        have B5 := Lib.hid (B4.out.trans (b5.mono B4.out.size))
        have y1 := S2.out.keep b5
        have y2 := T4.out.keep b5
        have p0 := y1.c0
        have p1 := y1.c1
        have p2 := y2.c0
        have p3 := y2.c1
        clear b5 y1 y2
        go_wp2
        go_ret
        exact ⟨by first | rfl | simp, B5.out⟩
      · obtain ⟨d4, d5⟩ : E2 = 5 ∧ F2 = k := by
          rcases D2 with ⟨h, _⟩ | ⟨_, _, h⟩ | ⟨h, _⟩
          · omega
          · exact h
          · omega
        subst d4; subst d5
        have u2 : ((k : Int) == 0) = false := beq_eq_false_iff_ne.2 (by omega)
        have u3 : ((k : Int) == (k : Int)) = true := beq_self_eq_true _
        have q2 := fun w => run_equal_fau w 5 (k : Int) 5 (k : Int)
        rw [faEq_self] at q2
        clear D1 D2
        go_wp2_with fail
        refine (fixed9_any _ (Hm.out.keep B4.out)).mono ?_
        rintro e w5 ⟨rfl, b5⟩
        have B5 := Lib.hid (B4.out.trans (b5.mono B4.out.size))
        have y1 := S2.out.keep b5
        have y2 := T4.out.keep b5
        have p0 := y1.c0
        have p1 := y1.c1
        have p2 := y2.c0
        have p3 := y2.c1
        clear b5 y1 y2
        go_wp2
        go_ret
        exact ⟨by first | rfl | simp, B5.out⟩
  · have hjI : (S : Int) % 3 = 2 := by omega
    have R1 := fun w => repeat_any 123 k w hk130
    have R2 := fun w => repeat_any 125 k w hk130
    have D1 := deep_one (t := dS1 123 125 k) (o := 123) (c := 125) (.inr (.inr ⟨rfl, rfl⟩)) hk130 (dS1_bl rfl rfl k)
    have D2 := deep_two (t := dS2 123 k) (o := 123) (c := 125) (.inr (.inr ⟨rfl, rfl⟩)) hk130 (dS2_bl rfl k)
    have H1 := fun w hm => depth_any (dS1 123 125 k) w hm
    have H2 := fun w hm => nest_any (dS2 123 k) w hm
    unfold NstP at H2
    dsimp only [fauV] at H1 H2
    have r1 : (Op.stringOp .add (repB 123 k) (⟨#[120]⟩ : ByteArray)).run Try.prog = fun w => .ok (.string (repB 123 k ++ (⟨#[120]⟩ : ByteArray))) w := funext fun w => run_string_add_sum w _ _ (by rw [repB_size]; show _ + 1 ≤ _; omega)
    have r2 : (Op.stringOp .add (repB 123 k ++ (⟨#[120]⟩ : ByteArray)) (repB 125 k)).run Try.prog = fun w => .ok (.string (dS1 123 125 k)) w := funext fun w => run_string_add_sum w _ _ (by rw [ByteArray.size_append, repB_size, repB_size]; show _ + 1 + _ ≤ _; omega)
    have r3 : (Op.stringOp .add (⟨#[97]⟩ : ByteArray) (repB 123 k)).run Try.prog = fun w => .ok (.string (dS2 123 k)) w := funext fun w => run_string_add_sum w _ _ (by rw [repB_size]; show 1 + _ ≤ _; omega)
    generalize dS1 123 125 k = V1 at D1 H1 r2
    generalize dS2 123 k = V2 at D2 H2 r3
    generalize nestM V1 = M1 at D1 H1
    generalize nestE V1 = E1 at D1 H1
    generalize nestF V1 = F1 at D1 H1
    generalize nestE V2 = E2 at D2 H2
    generalize nestF V2 = F2 at D2 H2
    have R1 := Lib.hid R1
    have R2 := Lib.hid R2
    have H1 := Lib.hid H1
    have H2 := Lib.hid H2
    have ha1 := (Below.refl w.heap.size w).alloc (Nat.le_refl _) (.cells #[.string ⟨#[40]⟩, .string ⟨#[91]⟩, .string ⟨#[123]⟩] 9)
    have B1 := Lib.hid (ha1.alloc ha1.size (.cells #[.string ⟨#[41]⟩, .string ⟨#[93]⟩, .string ⟨#[125]⟩] 9))
    clear ha1
    go_enter Try.func5, Try.ntmps5
    go_wp2_with fail
    refine (R1.out _).mono ?_
    rintro e w1 ⟨rfl, rfl⟩
    go_wp2_with fail
    refine (R2.out _).mono ?_
    rintro e w1 ⟨rfl, rfl⟩
    go_wp2_with fail
    refine (H1.out _ (Hm.out.keep B1.out)).mono ?_
    rintro e w2 ⟨rfl, b2⟩
    have b2' := B1.out.trans (b2.mono B1.out.size)
    have B2 := Lib.hid (b2'.alloc b2'.size (.cells #[.int .i64 E1, .int .i64 F1] 26))
    have T2 : Hid (FBox (w2.alloc (.cells #[.int .i64 E1, .int .i64 F1] 26)) w2.heap.size E1 F1) := Lib.hid (heap_alloc_new w2 _)
    clear b2 b2'
    go_wp2_with fail
    refine (R1.out _).mono ?_
    rintro e w3 ⟨rfl, rfl⟩
    go_wp2_with fail
    refine (H2.out _ (Hm.out.keep B2.out)).mono ?_
    rintro e w4 ⟨x1, c1, x2, c2, rfl, i1, i2, b4⟩
    have b4' := B2.out.trans (b4.mono B2.out.size)
    have B4 := Lib.hid (b4'.alloc b4'.size (.cells #[.int .i64 E2, .int .i64 F2] 26))
    have T4 : Hid (FBox (w4.alloc (.cells #[.int .i64 E2, .int .i64 F2] 26)) w4.heap.size E2 F2) := Lib.hid (heap_alloc_new w4 _)
    have S2 := Lib.hid ((T2.out.keep b4).alloc (.cells #[.int .i64 E2, .int .i64 F2] 26))
    clear b4 b4' i1 i2
    by_cases h100 : 100 < k
    · have u1 : (100 : Int) < (k : Int) := by omega
      obtain ⟨d1, d2, d3⟩ : M1 = 0 ∧ E1 = 6 ∧ F1 = 100 := by
        rcases D1 with ⟨h, _⟩ | ⟨_, h⟩
        · omega
        · exact h
      obtain ⟨d4, d5⟩ : E2 = 6 ∧ F2 = 101 := by
        rcases D2 with ⟨h, _⟩ | ⟨_, h, _⟩ | ⟨_, h⟩
        · omega
        · omega
        · exact h
      subst d1; subst d2; subst d3; subst d4; subst d5
      have q1 := fun w => run_equal_fau w 6 100 6 100
      have q2 := fun w => run_equal_fau w 6 101 6 101
      rw [faEq_self] at q1 q2
      clear D1 D2
      go_wp2_with fail
      refine (fixed9_any _ (Hm.out.keep B4.out)).mono ?_
      rintro e w5 ⟨rfl, b5⟩
      have B5 := Lib.hid (B4.out.trans (b5.mono B4.out.size))
      have y1 := S2.out.keep b5
      have y2 := T4.out.keep b5
      have p0 := y1.c0
      have p1 := y1.c1
      have p2 := y2.c0
      have p3 := y2.c1
      clear b5 y1 y2
      go_wp2
      go_ret
      exact ⟨by first | rfl | simp, B5.out⟩
    · have u1 : ¬ (100 : Int) < (k : Int) := by omega
      obtain ⟨d1, d2, d3⟩ : M1 = k ∧ E1 = 0 ∧ F1 = 0 := by
        rcases D1 with ⟨_, h⟩ | ⟨h, _⟩
        · exact h
        · omega
      subst d2; subst d3
      rw [d1]
      clear d1
      have q1 := fun w => run_equal_fau w 0 0 0 0
      rw [faEq_self] at q1
      by_cases hz : k = 0
      · obtain ⟨d4, d5⟩ : E2 = 0 ∧ F2 = 0 := by
          rcases D2 with ⟨_, h⟩ | ⟨h, _⟩ | ⟨h, _⟩
          · exact h
          · omega
          · omega
        subst d4; subst d5
        have u2 : ((k : Int) == 0) = true := by rw [hz]; rfl
        clear D1 D2
        go_wp2_with fail
        refine (fixed9_any _ (Hm.out.keep B4.out)).mono ?_
        rintro e w5 ⟨rfl, b5⟩
        have B5 := Lib.hid (B4.out.trans (b5.mono B4.out.size))
        have y1 := S2.out.keep b5
        have y2 := T4.out.keep b5
        have p0 := y1.c0
        have p1 := y1.c1
        have p2 := y2.c0
        have p3 := y2.c1
        clear b5 y1 y2
        go_wp2
        go_ret
        exact ⟨by first | rfl | simp, B5.out⟩
      · obtain ⟨d4, d5⟩ : E2 = 5 ∧ F2 = k := by
          rcases D2 with ⟨h, _⟩ | ⟨_, _, h⟩ | ⟨h, _⟩
          · omega
          · exact h
          · omega
        subst d4; subst d5
        have u2 : ((k : Int) == 0) = false := beq_eq_false_iff_ne.2 (by omega)
        have u3 : ((k : Int) == (k : Int)) = true := beq_self_eq_true _
        have q2 := fun w => run_equal_fau w 5 (k : Int) 5 (k : Int)
        rw [faEq_self] at q2
        clear D1 D2
        go_wp2_with fail
        refine (fixed9_any _ (Hm.out.keep B4.out)).mono ?_
        rintro e w5 ⟨rfl, b5⟩
        have B5 := Lib.hid (B4.out.trans (b5.mono B4.out.size))
        have y1 := S2.out.keep b5
        have y2 := T4.out.keep b5
        have p0 := y1.c0
        have p1 := y1.c1
        have p2 := y2.c0
        have p3 := y2.c1
        clear b5 y1 y2
        go_wp2
        go_ret
        exact ⟨by first | rfl | simp, B5.out⟩
end Go.Proofs.Ytnkgbmnjehpkgab

