/- The reference's ended: does a line end behind a lexeme? -/
import Derived.Test.YtnkgbmnjehpkgabGreatGZ
import Derived.Test.YtnkgbmnjehpkgabGreatSeREnds
import Derived.Test.YtnkgbmnjehpkgabGreatSeRMath
namespace Go.Proofs.YtnkgbmnjehpkgabGreat
open Go.RowKit Em
set_option maxRecDepth 100000
set_option linter.unusedVariables false

theorem nl_step {s : ByteArray} {p t : Nat} (h1 : p < t) (h2 : t ≤ s.size) : hasNL (cutT s p t) = (decide (byN s p = 10) || hasNL (cutT s (p + 1) t)) := by
  have hp : p < (bl s).length := by rw [bl_size]; omega
  rw [cutT_join s (a := p) (b := p + 1) (c := t) (by omega) (by omega), hasNL_append]
  congr 1
  have : cutT s p (p + 1) = [(bl s)[p]] := by
    unfold cutT
    rw [List.take_succ_eq_append_getElem hp, List.drop_append_of_le_length (by rw [List.length_take]; omega), List.drop_of_length_le (by rw [List.length_take]; omega), List.nil_append]
  rw [this]
  have hb : byN s p = ((bl s)[p]).toNat := by
    rw [← byN_get s p (by omega)]; rfl
  rw [hb]
  generalize (bl s)[p] = c
  unfold hasNL
  simp only [List.contains_cons, List.contains_nil, Bool.or_false]
  by_cases h : c = 10
  · subst h; rfl
  · have : ¬ c.toNat = 10 := fun e => h (UInt8.toNat_inj.1 e)
    rw [decide_eq_false this]
    exact beq_eq_false_iff_ne.2 (fun e => h e.symm)

set_option maxHeartbeats 2000000 in
theorem rended_any (s : ByteArray) (L : List Sc.Tk) (x : Option Addr) (c i : Nat) (w : World) (hx : TkI w x L) (ho : ∀ t ∈ L, t.f < t.t ∧ t.t ≤ s.size) (hi : i < L.length) (hl : L.length ≤ 65536) (hs : s.size ≤ 65536) :
    Calls Tryz.prog 23 #[.string s, .slice x L.length c, .int .i64 (i : Int)] w fun e w' => e = .returned (.bool (endedL s (L.drop (i + 1)))) ∧ w' = w := by
  have Hx := Lib.hid hx
  have Ho := Lib.hid ho
  generalize hR : endedL s (L.drop (i + 1)) = R
  have HR := Lib.hid hR
  clear hx ho hR
  go_enter Tryz.func23, Tryz.ntmps23
  go_wp2
  go_loopw [7] (fun at' wr => ∃ k : Nat, k ≤ L.length ∧ at' = .int .i64 k ∧ Hid (endedL s (L.drop k) = R) ∧ wr = w) (fun at' _ => L.length - (intOf at').toNat)
  case atStart => exact ⟨i + 1, by omega, by go_num, HR, rfl⟩
  case round =>
    obtain ⟨k, hk, rfl, HK, rfl⟩ := hrel
    by_cases hlt : k < L.length
    · obtain ⟨g, rfl, hg, d0, d1, d2⟩ := Hx.out.cells hlt
      have hd : L.drop k = nthT L k :: L.drop (k + 1) := by rw [nthT_get hlt]; exact List.drop_eq_getElem_cons hlt
      have hK := HK.out
      rw [hd, endedL_cons] at hK
      have hsz := Ho.out _ (show nthT L k ∈ L by rw [nthT_get hlt]; exact List.getElem_mem _)
      have b0 : (0 : Int) ≤ (k : Int) := by omega
      have b1 : (k : Int) < (L.length : Int) := by omega
      generalize nthT L k = T at d0 d1 d2 hK hsz
      obtain ⟨K, F, U⟩ := T
      dsimp only at d0 d1 d2 hK hsz
      have HS := fun w => rsilent_any K w
      cases hsil : silent K with
      | false =>
        rw [hsil] at hK HS
        rw [if_neg (by simp)] at hK
        have HS := Lib.hid HS
        have HK' := Lib.hid hK
        clear hK
        go_wp2_with fail
        refine (HS.out _).mono ?_
        rintro e w2 ⟨rfl, rfl⟩
        go_wp2
        go_ret
        exact ⟨ret_bool HK'.out, by first | trivial | rfl⟩
      | true =>
        rw [hsil] at hK HS
        rw [if_pos rfl] at hK
        have HS := Lib.hid HS
        have HK' := Lib.hid hK
        clear hK
        go_wp2_with fail
        refine (HS.out _).mono ?_
        rintro e w2 ⟨rfl, rfl⟩
        go_wp2
        go_loopw [8] (fun at' wr => ∃ p : Nat, p ≤ U ∧ at' = .int .i64 p ∧ Hid ((hasNL (cutT s p U) || endedL s (L.drop (k + 1))) = R) ∧ wr = w2) (fun at' _ => U - (intOf at').toNat)
        case atStart => exact ⟨F, by omega, rfl, HK', rfl⟩
        case round =>
          obtain ⟨p, hp, rfl, HP, rfl⟩ := hrel
          by_cases hpu : p < U
          · have hP := HP.out
            rw [nl_step hpu hsz.2] at hP
            have e1 := byN_get s p (by omega)
            have l1 := byN_lt s p
            have c0 : (0 : Int) ≤ (p : Int) := by omega
            have c1 : (p : Int) < (s.size : Int) := by omega
            have c2 : (p : Int) < (U : Int) := by omega
            by_cases h10 : byN s p = 10
            · rw [decide_eq_true h10, Bool.true_or, Bool.true_or] at hP
              rw [h10] at e1
              have HP' := Lib.hid hP
              clear hP h10 l1
              go_wp2
              go_ret
              exact ⟨ret_bool HP'.out, by first | trivial | rfl⟩
            · rw [decide_eq_false h10, Bool.false_or] at hP
              have HP' := Lib.hid hP
              have t10 : ((byN s p : Int) == 10) = false := beq_eq_false_iff_ne.2 (by omega)
              clear hP
              generalize byN s p = B at e1 l1 h10 t10
              go_wp2
              go_roundw
              case rel => exact ⟨p + 1, by omega, by go_num, HP', by first | trivial | rfl⟩
              case measure => simp [intOf]; omega
          · have hpe : p = U := by omega
            subst hpe
            have hP := HP.out
            rw [cutT_same, Bool.false_or] at hP
            have HP' := Lib.hid hP
            have c2 : ¬ (p : Int) < (p : Int) := by omega
            clear hP
            go_wp2
            go_roundw
            case rel => exact ⟨k + 1, by omega, by go_num, HP', by first | trivial | rfl⟩
            case measure => simp [intOf]; omega
    · have hd : L.drop k = [] := List.drop_of_length_le (by omega)
      have hK := HK.out
      rw [hd] at hK
      have HK' := Lib.hid hK
      have b1 : ¬ (k : Int) < (L.length : Int) := by omega
      clear hK hd
      go_wp2
      go_ret
      exact ⟨ret_bool HK'.out, by first | trivial | rfl⟩
end Go.Proofs.YtnkgbmnjehpkgabGreat

