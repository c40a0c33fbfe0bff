/- Contracts of the reference of numbers: pointed, Int. -/
import Derived.Test.YtdpngmhjdafdpaaNuRefB
namespace Go.Proofs.Ytdpngmhjdafdpaa
open Go.RowKit Em
set_option linter.unusedVariables false
set_option linter.unusedSimpArgs false

theorem under_from (s : ByteArray) (a b : Nat) (w : World) (hb : b ≤ 16) (hs : s.size ≤ 4611686018427387000) :
    Calls Try.prog 40 #[.string (s.extract a s.size), .int .i64 b] w fun e w' => e = .returned (.bool (Nm.under b ((bl s).drop a))) ∧ w = w' := by
  have := under_any (s.extract a s.size) b w hb (Nat.le_trans (size_from s a) hs)
  rw [bl_from] at this; exact this
theorem under_to (s : ByteArray) (a b : Nat) (w : World) (hb : b ≤ 16) (hs : s.size ≤ 4611686018427387000) :
    Calls Try.prog 40 #[.string (s.extract 0 a), .int .i64 b] w fun e w' => e = .returned (.bool (Nm.under b ((bl s).take a))) ∧ w = w' := by
  have := under_any (s.extract 0 a) b w hb (Nat.le_trans (size_to s a) hs)
  rw [bl_to] at this; exact this

theorem no46 {b : Nat} (hb : b ≤ 16) {hex : Bool} {x y : List UInt8} (h : Nm.cuts b hex x y = true) : 46 ∉ x := by
  have hR : ∀ {z}, Nm.R b z = true → 46 ∉ z := by
    intro z hz hm
    rcases Nm.R_mem z hz 46 hm with h | h
    · exact absurd h (by show ¬ 16 < b; omega)
    · exact absurd h (by decide)
  intro hm
  simp only [Nm.cuts, Nm.front, Bool.or_eq_true, Bool.and_eq_true, List.isEmpty_iff] at h
  rcases h with ⟨h | ⟨_, h⟩, _⟩ | ⟨h, _⟩
  · exact hR h hm
  · rcases Nm.under_cases h with h1 | ⟨u, rfl, h1⟩
    · exact hR h1 hm
    · rcases List.mem_cons.1 hm with h' | h'
      · exact absurd h' (by decide)
      · exact hR h1 h'
  · subst h; cases hm

theorem cut_unique {x y x' y' : List UInt8} (h : x ++ 46 :: y = x' ++ 46 :: y') (h1 : 46 ∉ x) (h2 : 46 ∉ x') : x = x' ∧ y = y' := by
  induction x generalizing x' with
  | nil =>
    match x', h, h2 with
    | [], h, _ => exact ⟨rfl, (List.cons.inj h).2⟩
    | c :: x', h, h2 => exact absurd (by rw [(List.cons.inj h).1]; exact List.mem_cons_self ..) h2
  | cons c x ih =>
    match x', h, h2 with
    | [], h, _ => exact absurd (by rw [(List.cons.inj h).1]; exact List.mem_cons_self ..) h1
    | d :: x', h, h2 =>
      obtain ⟨e1, e2⟩ := List.cons.inj h
      obtain ⟨a, b⟩ := ih e2 (fun m => h1 (List.mem_cons_of_mem _ m)) (fun m => h2 (List.mem_cons_of_mem _ m))
      exact ⟨by rw [e1, a], b⟩

theorem pointed_iff {b : Nat} (hb : b ≤ 16) {hex : Bool} {x y : List UInt8} (h1 : 46 ∉ x) : Nm.pointed b hex (x ++ 46 :: y) ↔ Nm.cuts b hex x y = true := by
  constructor
  · rintro ⟨x', y', h, hc⟩
    obtain ⟨rfl, rfl⟩ := cut_unique h h1 (no46 hb hc)
    exact hc
  · exact fun h => ⟨x, y, rfl, h⟩
theorem pointed_no {b : Nat} {hex : Bool} {l : List UInt8} (h : 46 ∉ l) : ¬ Nm.pointed b hex l := by
  rintro ⟨x, y, rfl, _⟩
  exact h (by simp)

theorem take_mem (s : ByteArray) (k : Nat) (h : ∀ j, j < k → byN s j ≠ 46) (hk : k ≤ s.size) : 46 ∉ (bl s).take k := by
  intro hm
  obtain ⟨j, hj, he⟩ := List.mem_iff_getElem.1 hm
  rw [List.length_take, bl_size] at hj
  have hjk : j < k := by omega
  have hjs : j < s.size := by omega
  rw [List.getElem_take] at he
  have h2 := bl_get s j hjs
  rw [List.getElem?_eq_getElem (by rw [bl_size]; omega), he] at h2
  have := h j hjk
  rw [← byN_get s j hjs, ← Option.some.inj h2] at this
  exact this rfl

theorem cut_at (s : ByteArray) (k : Nat) (hk : k < s.size) (h : byN s k = 46) : bl s = (bl s).take k ++ 46 :: (bl s).drop (k + 1) := by
  have := bl_drop s k hk
  have e : s[k]'hk = 46 := UInt8.toNat_inj.1 (by rw [byN_get s k hk, h]; rfl)
  rw [e] at this
  rw [← this, List.take_append_drop]

theorem ext_empty (s : ByteArray) (a b : Nat) : ((s.extract a b).toList == []) = (bl (s.extract a b)).isEmpty := by
  have e : (s.extract a b).toList = bl (s.extract a b) := by rw [Lib.extract_toList, ← Lib.extract_data]; rfl
  rw [e, Bool.eq_iff_iff, beq_iff_eq, List.isEmpty_iff]

noncomputable def ptB (b : Nat) (hex : Bool) (l : List UInt8) : Bool := @decide (Nm.pointed b hex l) (Classical.propDecidable _)
theorem ptB_iff {b : Nat} {hex : Bool} {l : List UInt8} : ptB b hex l = true ↔ Nm.pointed b hex l := @decide_eq_true_iff _ (Classical.propDecidable _)
theorem ptB_of {b : Nat} {hex : Bool} {l : List UInt8} {v : Bool} (h : Nm.pointed b hex l ↔ v = true) : v = ptB b hex l := by
  rw [Bool.eq_iff_iff, ptB_iff]; exact h.symm

set_option maxHeartbeats 2000000 in
theorem pointed_any (s : ByteArray) (b : Nat) (hex : Bool) (w : World) (hb : b ≤ 16) (hs : s.size ≤ 4611686018427387000) :
    Calls Try.prog 43 #[.string s, .int .i64 b, .bool hex] w fun e w' => e = .returned (.bool (ptB b hex (bl s))) ∧ w = w' := by
  go_enter Try.func43, Try.ntmps43
  go_wp2
  go_loop [7] (fun i => ∃ k : Nat, k ≤ s.size ∧ i = .int .i64 k ∧ ∀ j, j < k → byN s j ≠ 46) (fun i => s.size - (intOf i).toNat)
  case atStart => exact ⟨0, by omega, rfl, fun j hj => by omega⟩
  case round =>
    obtain ⟨k, hk, rfl, hno⟩ := hrel
    have Hno := Lib.hid hno
    clear hno
    by_cases hlt : k < s.size
    · have e1 := byN_get s k hlt
      have l1 := byN_lt s k
      have b0 : (0 : Int) ≤ (k : Int) := by omega
      have b1 : (k : Int) < (s.size : Int) := by omega
      have b2 : (k : Int) ≤ (s.size : Int) := by omega
      have b3 : (k : Int) + 1 ≤ (s.size : Int) := by omega
      have b4 : (0 : Int) ≤ (k : Int) + 1 := by omega
      by_cases hc : byN s k = 46
      · have hcut := cut_at s k hlt hc
        have hfin : Nm.pointed b hex (bl s) ↔ Nm.cuts b hex ((bl s).take k) ((bl s).drop (k + 1)) = true := by
          conv => lhs; rw [hcut]
          exact pointed_iff hb (take_mem s k Hno.out hk)
        have Hfin := Lib.hid (ptB_of hfin)
        have HA := fun w => rrow_to s k b w hb hs
        have HU := fun w => under_to s k b w hb hs
        have HB := fun w => rrow_from s (k + 1) b w hb hs
        have xa := ext_empty s 0 k
        have xb := ext_empty s (k + 1) s.size
        rw [bl_to] at xa
        rw [bl_from] at xb
        rw [hc] at e1
        clear hfin hcut hc l1 Hno
        unfold Nm.cuts Nm.front at Hfin
        generalize (bl s).take k = X at Hfin HA HU xa
        generalize (bl s).drop (k + 1) = Y at Hfin HB xb
        generalize Nm.R b X = vX at HA Hfin
        generalize Nm.under b X = vU at HU Hfin
        generalize Nm.R b Y = vY at HB Hfin
        generalize X.isEmpty = zX at xa Hfin
        generalize Y.isEmpty = zY at xb Hfin
        have HF : Hid ((((vX || (hex && vU)) && (zY || vY)) || (zX && vY)) = ptB b hex (bl s)) := Hfin
        clear Hfin
        cases vX with
        | true =>
          cases zY with
          | true =>
            go_wp2_with fail
            refine (HA _).mono ?_
            rintro e w' ⟨rfl, rfl⟩
            clear HA HU
            go_wp2
            go_ret
            exact ⟨ret_bool (by rw [← HF.out]; simp), rfl⟩
          | false =>
            cases vY with
            | true =>
              go_wp2_with fail
              refine (HA _).mono ?_
              rintro e w' ⟨rfl, rfl⟩
              clear HA HU
              go_wp2_with fail
              refine (HB _).mono ?_
              rintro e w' ⟨rfl, rfl⟩
              go_wp2
              go_ret
              exact ⟨ret_bool (by rw [← HF.out]; simp), rfl⟩
            | false =>
              cases zX with
              | true =>
                go_wp2_with fail
                refine (HA _).mono ?_
                rintro e w' ⟨rfl, rfl⟩
                clear HA HU
                go_wp2_with fail
                refine (HB _).mono ?_
                rintro e w' ⟨rfl, rfl⟩
                go_wp2_with fail
                refine (HB _).mono ?_
                rintro e w' ⟨rfl, rfl⟩
                go_wp2
                go_ret
                exact ⟨ret_bool (by rw [← HF.out]; simp), rfl⟩
              | false =>
                go_wp2_with fail
                refine (HA _).mono ?_
                rintro e w' ⟨rfl, rfl⟩
                clear HA HU
                go_wp2_with fail
                refine (HB _).mono ?_
                rintro e w' ⟨rfl, rfl⟩
                go_wp2
                go_ret
                exact ⟨ret_bool (by rw [← HF.out]; simp), rfl⟩
        | false =>
          cases hex with
          | true =>
            cases vU with
            | true =>
              cases zY with
              | true =>
                go_wp2_with fail
                refine (HA _).mono ?_
                rintro e w' ⟨rfl, rfl⟩
                go_wp2_with fail
                refine (HU _).mono ?_
                rintro e w' ⟨rfl, rfl⟩
                clear HA HU
                go_wp2
                go_ret
                exact ⟨ret_bool (by rw [← HF.out]; simp), rfl⟩
              | false =>
                cases vY with
                | true =>
                  go_wp2_with fail
                  refine (HA _).mono ?_
                  rintro e w' ⟨rfl, rfl⟩
                  go_wp2_with fail
                  refine (HU _).mono ?_
                  rintro e w' ⟨rfl, rfl⟩
                  clear HA HU
                  go_wp2_with fail
                  refine (HB _).mono ?_
                  rintro e w' ⟨rfl, rfl⟩
                  go_wp2
                  go_ret
                  exact ⟨ret_bool (by rw [← HF.out]; simp), rfl⟩
                | false =>
                  cases zX with
                  | true =>
                    go_wp2_with fail
                    refine (HA _).mono ?_
                    rintro e w' ⟨rfl, rfl⟩
                    go_wp2_with fail
                    refine (HU _).mono ?_
                    rintro e w' ⟨rfl, rfl⟩
                    clear HA HU
                    go_wp2_with fail
                    refine (HB _).mono ?_
                    rintro e w' ⟨rfl, rfl⟩
                    go_wp2_with fail
                    refine (HB _).mono ?_
                    rintro e w' ⟨rfl, rfl⟩
                    go_wp2
                    go_ret
                    exact ⟨ret_bool (by rw [← HF.out]; simp), rfl⟩
                  | false =>
                    go_wp2_with fail
                    refine (HA _).mono ?_
                    rintro e w' ⟨rfl, rfl⟩
                    go_wp2_with fail
                    refine (HU _).mono ?_
                    rintro e w' ⟨rfl, rfl⟩
                    clear HA HU
                    go_wp2_with fail
                    refine (HB _).mono ?_
                    rintro e w' ⟨rfl, rfl⟩
                    go_wp2
                    go_ret
                    exact ⟨ret_bool (by rw [← HF.out]; simp), rfl⟩
            | false =>
              cases zX with
              | true =>
                go_wp2_with fail
                refine (HA _).mono ?_
                rintro e w' ⟨rfl, rfl⟩
                go_wp2_with fail
                refine (HU _).mono ?_
                rintro e w' ⟨rfl, rfl⟩
                clear HA HU
                go_wp2_with fail
                refine (HB _).mono ?_
                rintro e w' ⟨rfl, rfl⟩
                go_wp2
                go_ret
                exact ⟨ret_bool (by rw [← HF.out]; simp), rfl⟩
              | false =>
                go_wp2_with fail
                refine (HA _).mono ?_
                rintro e w' ⟨rfl, rfl⟩
                go_wp2_with fail
                refine (HU _).mono ?_
                rintro e w' ⟨rfl, rfl⟩
                clear HA HU
                go_wp2
                go_ret
                exact ⟨ret_bool (by rw [← HF.out]; simp), rfl⟩
          | false =>
            cases zX with
            | true =>
              go_wp2_with fail
              refine (HA _).mono ?_
              rintro e w' ⟨rfl, rfl⟩
              clear HA HU
              go_wp2_with fail
              refine (HB _).mono ?_
              rintro e w' ⟨rfl, rfl⟩
              go_wp2
              go_ret
              exact ⟨ret_bool (by rw [← HF.out]; simp), rfl⟩
            | false =>
              go_wp2_with fail
              refine (HA _).mono ?_
              rintro e w' ⟨rfl, rfl⟩
              clear HA HU
              go_wp2
              go_ret
              exact ⟨ret_bool (by rw [← HF.out]; simp), rfl⟩
      · have d1 : ((byN s k : Int) != 46) = true := by simp; omega
        have d2 : ((byN s k : Int) == 46) = false := beq_eq_false_iff_ne.2 (by omega)
        have hk2 : ∀ j, j < k + 1 → byN s j ≠ 46 := by
          intro j hj
          by_cases e : j = k
          · subst e; exact hc
          · exact Hno.out j (by omega)
        have Hk2 := Lib.hid hk2
        clear hk2 Hno hc
        generalize byN s k = C at e1 l1 d1 d2
        go_wp2
        go_round
        case rel => exact ⟨k + 1, by omega, by go_num, Hk2.out⟩
        case measure => simp [intOf]; omega
    · obtain rfl : k = s.size := by omega
      have hfin : ¬ Nm.pointed b hex (bl s) := pointed_no (by
        have := take_mem s s.size Hno.out hk
        rwa [List.take_of_length_le (by rw [bl_size]; omega)] at this)
      have Hfin := Lib.hid (ptB_of (v := false) (by simp [hfin] : Nm.pointed b hex (bl s) ↔ false = true))
      clear hfin Hno
      go_wp2
      go_ret
      exact ⟨ret_bool Hfin.out, rfl⟩
end Go.Proofs.Ytdpngmhjdafdpaa
