/- Contract of the law's hex. -/
import Derived.Test.YtdpngmhjdafdpabQuLawE
namespace Go.Proofs.Ytdpngmhjdafdpab
open Go.Shelf Go.RowKit Em
set_option linter.unusedVariables false
set_option linter.unusedSimpArgs false

set_option maxHeartbeats 2000000 in
theorem hex_any (n : Nat) (w : World) (hn : n < 4294967296) :
    Calls Try.prog 14 #[.int .i64 n, .int .i64 8] w fun e w' => e = .returned (.string (txt (hx8 n 8))) ∧ Below w.heap.size w w' := by
  go_enter Try.func14, Try.ntmps14
  go_wp2
  go_loopw [0, 5, 6] (fun a u i wr => ∃ k N : Nat, k ≤ 8 ∧ N = n / 16 ^ k ∧ a = .int .i64 N ∧ u = .string (txt (hx8 n k)) ∧ i = .int .i64 k ∧ Below w.heap.size w wr) (fun _ _ i _ => 8 - (intOf i).toNat)
  case atStart => exact ⟨0, n, by omega, by rw [Nat.pow_zero, Nat.div_one], rfl, rfl, rfl, Below.refl _ _⟩
  case round =>
    obtain ⟨k, N, hk, hN, rfl, rfl, rfl, hb⟩ := hrel
    have hbs := hb.size
    have hN' : N ≤ n := by rw [hN]; exact Nat.div_le_self _ _
    have b0 : (0 : Int) ≤ (k : Int) := by omega
    by_cases hlt : k < 8
    · have b1 : (k : Int) < 8 := by omega
      obtain ⟨M, hM⟩ : ∃ M, N / 16 = M := ⟨_, rfl⟩
      obtain ⟨D, hD⟩ : ∃ D, N % 16 = D := ⟨_, rfl⟩
      have q1 : (N : Int).tdiv 16 = (M : Int) := by rw [Int.tdiv_eq_ediv_of_nonneg (by omega)]; omega
      have q2 : (N : Int).tmod 16 = (D : Int) := by rw [Int.tmod_eq_emod_of_nonneg (by omega)]; omega
      have hA : D < 16 := by omega
      have q3 : IntKind.i64.wrap (M : Int) = (M : Int) := IntWalk.i64_in _ (by omega)
      have q4 : IntKind.i64.wrap (D : Int) = (D : Int) := IntWalk.i64_in _ (by omega)
      have a1 : (0 : Int) ≤ (D : Int) := by omega
      have a2 : (D : Int) < 16 := by omega
      have hM2 : M = n / 16 ^ (k + 1) := by rw [← hM, hN, Nat.div_div_eq_div_mul, Nat.pow_succ]
      have hS : txt [UInt8.ofNat (hbN D)] ++ txt (hx8 n k) = txt (hx8 n (k + 1)) := by
        rw [← Qm.txt_append, hx8, ← hN, hD]; rfl
      have x1 := (byN_get ⟨#[48, 49, 50, 51, 52, 53, 54, 55, 56, 57, 97, 66, 99, 68, 101, 70]⟩ D hA).trans (hb_at ⟨D, hA⟩)
      have y1 := hb_lt D hA
      simp only [] at x1
      generalize hbN D = X at x1 y1 hS
      have hc := conv_new wr [(X : Int)]
      simp only [List.length_singleton, List.map_cons, List.map_nil, List.foldl_cons, List.foldl_nil, Int.toNat_natCast] at hc
      have hp : ByteArray.empty.push (UInt8.ofNat X) = txt [UInt8.ofNat X] := rfl
      rw [hp] at hc
      have z1 : (txt [UInt8.ofNat X]).size = 1 := rfl
      have z2 : (txt (hx8 n k)).size = k := by rw [txt_size, hx8_len]
      have f1 : ¬ 9223372036854775807 < (txt [UInt8.ofNat X]).size + (txt (hx8 n k)).size := by rw [z1, z2]; omega
      have f2 : ¬ 9223372036854775807 < 1 + (txt (hx8 n k)).size := by rw [z2]; omega
      have Hb2 := Lib.hid (hb.alloc hbs (.cells #[.int .u8 X] 5))
      have HS := Lib.hid hS
      have HM2 := Lib.hid hM2
      clear hN hM hD hM2 hS hb hp z2 y1
      generalize txt [UInt8.ofNat X] = P at hc z1 f1 HS
      generalize txt (hx8 n k) = T at f1 f2 HS
      go_wp2
      go_roundw
      case rel => exact ⟨k + 1, M, by omega, HM2.out, rfl, by rw [← HS.out], by go_num, Hb2.out⟩
      case measure => simp [intOf]; omega
    · obtain rfl : k = 8 := by omega
      go_wp2
      go_ret
      exact ⟨rfl, hb⟩
end Go.Proofs.Ytdpngmhjdafdpab
