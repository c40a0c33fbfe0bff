/- A row of bytes that the call owns, made a text. -/
import Derived.Test.YtdpngmhjdafdpaaRows
import Derived.Test.YtdpngmhjdafdpaaEdTrimMath
import Derived.WalkKit
import Derived.WalkSmall
import Derived.Lib.SlBytesRow
import Derived.Lib.BufferRead
import Derived.Deep.OwnRows
namespace Go.Proofs.Ytdpngmhjdafdpaa
open Go.RowKit Em
set_option linter.unusedVariables false

theorem info_u8 : (Try.prog.info? 5).map (fun i => (i.zero, i.size, i.bytes)) = some (some (.int .u8 0), 1, 1) := by kernel_rfl

/-- The text of some bytes. -/
def txt (T : List UInt8) : ByteArray := ⟨T.toArray⟩
theorem txt_bl (T : List UInt8) : bl (txt T) = T := by unfold bl txt; simp
theorem bl_txt (s : ByteArray) : txt (bl s) = s := bl_inj (txt_bl _)
theorem txt_size (T : List UInt8) : (txt T).size = T.length := by rw [← bl_size, txt_bl]

def bCells (T : List UInt8) : List Value := T.map fun b => Value.int .u8 (b.toNat : Int)
theorem bCells_len (T : List UInt8) : (bCells T).length = T.length := by simp [bCells]
theorem bCells_snoc (T : List UInt8) (c : UInt8) : bCells (T ++ [c]) = bCells T ++ [.int .u8 (c.toNat : Int)] := by simp [bCells]
theorem bCells_append (T U : List UInt8) : bCells (T ++ U) = bCells T ++ bCells U := by simp [bCells]

theorem conv_own {w : World} {B : Nat} {v : Value} {T : List UInt8} (h : w.ownsRow B 5 1 v T.length (bCells T)) :
    ∃ (x : Option Addr) (c : Nat), v = .slice x T.length c ∧ ∀ q, (convert 38 9 (.slice x T.length c)).run Try.prog (w.drewN q) = .ok (.string (txt T)) (w.drewN q) := by
  rcases h.2 with ⟨rfl, h0⟩ | ⟨g, cap, cur, rfl, hb, hg, hn, _, hs, ht⟩
  · have : T = [] := List.eq_nil_of_length_eq_zero h0
    subst this
    exact ⟨none, 0, rfl, fun q => Lib.run_convert_nil_bytes (P := Try.prog) (w.drewN q) 38 9 5 0 Try.underlying38 Try.underlying5 Try.underlying9⟩
  · refine ⟨_, cap, rfl, fun q => ?_⟩
    have hby : Lib.Bytes w g 0 (txt T) := by
      intro i hi
      have hi' : i < T.length := by rw [txt_size] at hi; exact hi
      have hc := h.cells (g := g) rfl i (.int .u8 ((txt T)[i].toNat : Int)) (by
        unfold bCells
        rw [List.getElem?_map, List.getElem?_eq_getElem hi']
        rfl)
      have ea : (⟨g, 0, none⟩ : Addr).add i = ⟨g, 0 + i, none⟩ := by unfold Addr.add; split <;> simp_all
      rw [ea, Nat.zero_add] at hc
      rw [Nat.zero_add]; exact hc
    have := Lib.run_convert_whole (P := Try.prog) (w.drewN q) 38 5 9 Try.underlying38 Try.underlying5 Try.underlying9 g 0 (txt T) (hby.drewN q) cap
    rw [txt_size] at this
    exact this
end Go.Proofs.Ytdpngmhjdafdpaa
