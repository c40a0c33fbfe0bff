/- The walk of the law RunesBack. -/
import Derived.Test.YtlmhcjomegiibaaLawJoins
namespace Go.Proofs.Ytlmhcjomegiibaa
open Go.RowKit

theorem bytes_nat : ∀ {L : List Nat}, (bytesJ (L.map fun c : Nat => (c : Int))) = (Um.joinL L).data.toList
  | [] => rfl
  | c :: L => by
    have ih := bytes_nat (L := L)
    unfold bytesJ at *
    rw [List.map_cons, List.flatMap_cons, ih, Um.joinL, ByteArray.data_append, Array.toList_append, formOf_eq]

theorem join_nat {L : List Nat} (h : ∀ c ∈ L, Um.okN c) : joinS (L.map fun c : Nat => (c : Int)) = Um.joinL L ∧ allV (L.map fun c : Nat => (c : Int)) = true := by
  have hv : allV (L.map fun c : Nat => (c : Int)) = true := by
    unfold allV
    rw [List.all_eq_true]
    intro x hx
    obtain ⟨c, hc, rfl⟩ := List.mem_map.1 hx
    exact (Um.valid_iff c).2 (h c hc)
  refine ⟨?_, hv⟩
  rw [joinS_yes hv]
  apply Um.bytes_ext
  show bytesJ _ = _
  exact bytes_nat

theorem nat_of {l : List Int} (h : allV l = true) : ∃ L : List Nat, l = L.map (fun c : Nat => (c : Int)) ∧ ∀ c ∈ L, Um.okN c := by
  unfold allV at h
  rw [List.all_eq_true] at h
  induction l with
  | nil => exact ⟨[], rfl, fun c hc => by simp at hc⟩
  | cons x l ih =>
    obtain ⟨L, rfl, hL⟩ := ih fun y hy => h y (List.mem_cons_of_mem _ hy)
    obtain ⟨c, rfl, hc⟩ := Um.okN_of_valid (h x (List.mem_cons_self ..))
    refine ⟨c :: L, rfl, fun y hy => ?_⟩
    rcases List.mem_cons.1 hy with rfl | hy
    · exact hc
    · exact hL y hy

theorem nthI_nat {L : List Nat} {i : Nat} (h : i < L.length) : nthI (L.map fun c : Nat => (c : Int)) i = (nth L i : Nat) := by
  unfold nthI nth
  simp [h]

theorem rowI_of_cells {w : World} {B : Nat} {e : TypeId} {v : Value} {L : List Nat} (h : w.ownsRow B e 1 v L.length (cells .i32 L)) :
    ∃ (x : Option Addr) (c : Nat), v = .slice x L.length c ∧ RowI w x (L.map fun c : Nat => (c : Int)) := by
  have e1 : cells .i32 L = (L.map fun c : Nat => (c : Int)).map (Value.int .i32) := by unfold cells; rw [List.map_map]; rfl
  rw [e1] at h
  obtain ⟨x, c, hv, hr⟩ := rowI_of_owns (l := L.map fun c : Nat => (c : Int)) (by rw [List.length_map]; exact h)
  rw [List.length_map] at hv
  exact ⟨x, c, hv, hr⟩

set_option maxRecDepth 100000 in
set_option maxHeartbeats 4000000 in
theorem walk_RunesBack (a : Option Addr) (len cap : Nat) (zs : List Int) (s : ByteArray) (w : World) (hrow : IsRow .i32 w a len cap zs) (hcap : cap ≤ 1048576) (hs : s.size ≤ 1048576) :
    Calls Try.prog 7 #[.slice a len cap, .string s] w fun e w' => e = .returned (.bool true) ∧ Below w.heap.size w w' := by
  have hle : len ≤ cap := by
    rcases hrow with ⟨_, rfl, rfl, _⟩ | ⟨x, _, h, _⟩
    · omega
    · exact h
  obtain ⟨hlen, hra⟩ := rowI_of_row hrow
  have H0 := fixed_any w
  have Hs := fun wx => all_any s wx (by omega)
  have hls := Um.allC_length s
  have hoks := allC_ok s
  go_enter Try.func7, Try.ntmps7
  go_wp2_with fail
  refine H0.mono ?_
  rintro e w0 ⟨rfl, g0⟩
  have hrow0 : IsRow .i32 w0 a len cap zs := row_below hrow g0
  obtain ⟨v, w1, hrun, hown, hb1⟩ := copy_run hrow0 (by omega)
  have hra1 := (hra.below g0).below hb1
  have s0 := g0.size; have s1 := hb1.size
  generalize zs.take len = l at hown hlen hra hra1
  obtain ⟨x, c, rfl, hrx⟩ := rowI_of_owns hown
  subst hlen
  have gb := g0.trans (hb1.mono s0)
  have Hrun := Lib.hid hrun
  clear hrow hrow0 hra hown hrun H0
  go_wp2_with (at_builtin; refine wpList_append_run rfl _ _ 32 rfl _ _ _ rfl rfl Hrun.out ?_)
  refine (join_any x c l w1 hrx (by omega)).mono ?_
  rintro e w2 ⟨rfl, g2⟩
  have gb2 := gb.trans (g2.mono (by omega))
  have hra2 := hra1.below g2
  have s2 := g2.size
  clear Hrun hrx hra1 gb g0 hb1 g2
  cases hv : allV l with
  | true =>
    obtain ⟨L, rfl, hL⟩ := nat_of hv
    obtain ⟨ej, -⟩ := join_nat hL
    obtain ⟨ec, eb, -⟩ := Um.all_join hL
    have hsz : (Um.joinL L).size ≤ 17592186044416 := by
      have := bytesJ_len (L.map fun c : Nat => (c : Int))
      rw [bytes_nat, Array.length_toList, List.length_map] at this
      rw [List.length_map] at hle
      rw [Um.size_data]; omega
    have Ht := fun wx => all_any (Um.joinL L) wx hsz
    rw [ec, eb] at Ht
    rw [ej]
    rw [List.length_map] at *
    generalize Um.joinL L = t at Ht ej hsz
    go_wp2_with fail
    refine (Ht w2).mono ?_
    rintro e w3 ⟨vm, rfl, om, g3⟩
    obtain ⟨xm, cm, rfl, rm⟩ := row_of om
    have hra3 := hra2.below g3
    have gb3 := gb2.trans (g3.mono (by omega))
    have s3 := g3.size
    have Hm := Lib.hid rm
    have Hl := Lib.hid hra3
    clear om rm hra2 hra3 Ht ej ec eb hsz g3 gb2
    go_wp2
    go_loopw [9] (fun i wr => ∃ k q : Nat, k ≤ L.length ∧ i = .int .i64 k ∧ wr = w3.drewN q) (fun i _ => L.length - (intOf i).toNat)
    case atStart => exact ⟨0, 0, by omega, rfl, rfl⟩
    case round =>
      obtain ⟨k, q, hk, rfl, rfl⟩ := hrel
      by_cases hlt : k < L.length
      · obtain ⟨g, o, rfl, hg, hc⟩ := Hl.out (by rw [List.length_map]; omega)
        obtain ⟨gm, rfl, hgm, hcm⟩ := Hm.out (by omega)
        have c1 := hc k (by rw [List.length_map]; exact hlt)
        have c2 := hcm k hlt
        rw [nthI_nat hlt] at c1
        clear hc hcm
        generalize nth L k = y at c1 c2
        have y1 : ((y : Int) == (y : Int)) = true := beq_self_eq_true _
        have y2 : ((y : Int) != (y : Int)) = false := by unfold bne; rw [y1]; rfl
        have b0 : (0 : Int) ≤ (k : Int) := by omega
        have b1 : (k : Int) < (L.length : Int) := by omega
        go_wp2
        go_quiet (fail)
        clear y1 y2
        go_wp2
        go_roundw
        case rel => exact ⟨k + 1, q + nq, by omega, by go_num, rfl⟩
        case measure => simp [intOf]; omega
      · have gq : Below w.heap.size w (w3.drewN q) := gb3.trans ⟨rfl, rfl, rfl, Nat.le_refl _, fun _ _ => rfl⟩
        have sq : (w3.drewN q).heap.size = w3.heap.size := rfl
        generalize w3.drewN q = w4 at gq sq
        clear gb3
        cases hb : Um.allB s with
        | false =>
          have hbn := Um.bad_nonneg hb
          have hem := Um.bad_empty hb
          rw [hb, hem] at Hs
          go_wp2_with fail
          refine (Hs w4).mono ?_
          rintro e w5 ⟨vm2, rfl, om2, g5⟩
          obtain ⟨xm2, cm2, rfl, -⟩ := row_of om2
          go_wp2_with fail
          refine (bad_any s w5).mono ?_
          rintro e w6 ⟨rfl, g6⟩
          go_wp2
          go_ret
          have s4 := gq.size; have s5 := g5.size; have s6 := g6.size
          exact ⟨rfl, (gq.trans (g5.mono (by omega))).trans (g6.mono (by omega))⟩
        | true =>
          have hgb := Um.good_bad hb
          obtain ⟨p1, p2⟩ := join_nat hoks
          have es := Um.join_all hb
          rw [es] at p1
          have HB := fun wx => bad_any s wx
          rw [hgb] at HB
          rw [hb] at Hs
          have hlm : ((Um.allC s).map fun c : Nat => (c : Int)).length = (Um.allC s).length := List.length_map _
          generalize Um.allC s = A at Hs hls p1 p2 hlm
          go_wp2_with fail
          refine (Hs w4).mono ?_
          rintro e w5 ⟨vm2, rfl, om2, g5⟩
          obtain ⟨xm2, cm2, rfl, rm2⟩ := rowI_of_cells om2
          have HJ := join_any xm2 cm2 _ w5 rm2 (by rw [hlm]; omega)
          rw [hlm, p1, p2] at HJ
          clear p1 p2 es hgb Hs rm2 om2 hlm hoks
          go_wp2_with fail
          refine HJ.mono ?_
          rintro e w6 ⟨rfl, g6⟩
          go_wp2_with fail
          refine (HB w6).mono ?_
          rintro e w7 ⟨rfl, g7⟩
          go_wp2
          go_ret
          have s4 := gq.size; have s5 := g5.size; have s6 := g6.size
          exact ⟨rfl, ((gq.trans (g5.mono (by omega))).trans (g6.mono (by omega))).trans (g7.mono (by omega))⟩
  | false =>
    go_wp2_with fail
    have gq := gb2
    generalize w2 = w4 at gq s2
    cases hb : Um.allB s with
    | false =>
      have hbn := Um.bad_nonneg hb
      have hem := Um.bad_empty hb
      rw [hb, hem] at Hs
      go_wp2_with fail
      refine (Hs w4).mono ?_
      rintro e w5 ⟨vm2, rfl, om2, g5⟩
      obtain ⟨xm2, cm2, rfl, -⟩ := row_of om2
      go_wp2_with fail
      refine (bad_any s w5).mono ?_
      rintro e w6 ⟨rfl, g6⟩
      go_wp2
      go_ret
      have s4 := gq.size; have s5 := g5.size; have s6 := g6.size
      exact ⟨rfl, (gq.trans (g5.mono (by omega))).trans (g6.mono (by omega))⟩
    | true =>
      have hgb := Um.good_bad hb
      obtain ⟨p1, p2⟩ := join_nat hoks
      have es := Um.join_all hb
      rw [es] at p1
      have HB := fun wx => bad_any s wx
      rw [hgb] at HB
      rw [hb] at Hs
      have hlm : ((Um.allC s).map fun c : Nat => (c : Int)).length = (Um.allC s).length := List.length_map _
      generalize Um.allC s = A at Hs hls p1 p2 hlm
      go_wp2_with fail
      refine (Hs w4).mono ?_
      rintro e w5 ⟨vm2, rfl, om2, g5⟩
      obtain ⟨xm2, cm2, rfl, rm2⟩ := rowI_of_cells om2
      have HJ := join_any xm2 cm2 _ w5 rm2 (by rw [hlm]; omega)
      rw [hlm, p1, p2] at HJ
      clear p1 p2 es hgb Hs rm2 om2 hlm hoks
      go_wp2_with fail
      refine HJ.mono ?_
      rintro e w6 ⟨rfl, g6⟩
      go_wp2_with fail
      refine (HB w6).mono ?_
      rintro e w7 ⟨rfl, g7⟩
      go_wp2
      go_ret
      have s4 := gq.size; have s5 := g5.size; have s6 := g6.size
      exact ⟨rfl, ((gq.trans (g5.mono (by omega))).trans (g6.mono (by omega))).trans (g7.mono (by omega))⟩
end Go.Proofs.Ytlmhcjomegiibaa
