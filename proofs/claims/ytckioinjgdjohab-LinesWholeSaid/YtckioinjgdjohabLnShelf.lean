/- The library's contracts of strings.Count (of one byte) and sort.Search, laid at this dump. -/
import Derived.Shelf.Strings.Count
import Derived.Shelf.SlSorted.Search
import Derived.Test.YtckioinjgdjohabRows
namespace Go.Proofs.Ytckioinjgdjohab
open Go.Shelf Go.RowKit

def cntRen : Go.Shelf.Ren := ⟨fun | 138 => 21 | 143 => 27 | 195 => 25 | 217 => 29 | 218 => 26 | 219 => 28 | 224 => 31 | 225 => 30 | 266 => 33 | 267 => 32 | 314 => 34 | n => n, fun | 0 => 0 | 3 => 3 | 4 => 4 | 5 => 5 | 9 => 9 | 46 => 46 | 51 => 48 | 146 => 49 | n => n, fun | 1 => 0 | n => n⟩
theorem cntLays : Go.Proofs.Lays.n138 Try.prog cntRen := {
  mixed := by kernel_rfl
  f138 := Try.func21.trans (congrArg some (by kernel_rfl))
  f143 := Try.func27.trans (congrArg some (by kernel_rfl))
  f195 := Try.func25.trans (congrArg some (by kernel_rfl))
  f217 := Try.func29.trans (congrArg some (by kernel_rfl))
  f218 := Try.func26.trans (congrArg some (by kernel_rfl))
  f219 := Try.func28.trans (congrArg some (by kernel_rfl))
  f224 := Try.func31.trans (congrArg some (by kernel_rfl))
  f225 := Try.func30.trans (congrArg some (by kernel_rfl))
  f266 := Try.func33.trans (congrArg some (by kernel_rfl))
  f267 := Try.func32.trans (congrArg some (by kernel_rfl))
  f314 := Try.func34.trans (congrArg some (by kernel_rfl))
  t0 := Try.underlying0
  a0 := Try.isAgg0
  z0 := Try.sizeOf0
  v0 := Try.zeroValue0
  t3 := Try.underlying3
  a3 := Try.isAgg3
  z3 := Try.sizeOf3
  v3 := Try.zeroValue3
  t4 := Try.underlying4
  a4 := Try.isAgg4
  z4 := Try.sizeOf4
  v4 := Try.zeroValue4
  t5 := Try.underlying5
  a5 := Try.isAgg5
  z5 := Try.sizeOf5
  v5 := Try.zeroValue5
  t9 := Try.underlying9
  a9 := Try.isAgg9
  z9 := Try.sizeOf9
  v9 := Try.zeroValue9
  t46 := Try.underlying46
  a46 := Try.isAgg46
  z46 := Try.sizeOf46
  v46 := Try.zeroValue46
  t51 := Try.underlying48
  a51 := Try.isAgg48
  z51 := Try.sizeOf48
  v51 := Try.zeroValue48
  t146 := Try.underlying49
  a146 := Try.isAgg49
  z146 := Try.sizeOf49
  v146 := Try.zeroValue49
  g1 := by kernel_rfl }

/-- strings.Count of one byte. -/
theorem count_one (s : ByteArray) (c : UInt8) (w : World) :
    Calls Try.prog 21 #[.string s, .string ⟨#[c]⟩] w fun e w' => e = .returned (.int .i64 (Lib.countByte s.data.toList c)) ∧ w' = w := Any.strings_Count_one cntLays s c w

def seaRen : Go.Shelf.Ren := ⟨fun | 16 => 23 | n => n, fun | 3 => 3 | 4 => 4 | 35 => 44 | 38 => 46 | n => n, fun | n => n⟩
theorem seaLays : Go.Proofs.SlLaysO.n16 Try.prog seaRen := {
  mixed := by kernel_rfl
  f16 := Try.func23.trans (congrArg some (by kernel_rfl))
  t3 := Try.underlying3
  a3 := Try.isAgg3
  z3 := Try.sizeOf3
  v3 := Try.zeroValue3
  t4 := Try.underlying4
  a4 := Try.isAgg4
  z4 := Try.sizeOf4
  v4 := Try.zeroValue4
  t35 := Try.underlying44
  a35 := Try.isAgg44
  z35 := Try.sizeOf44
  v35 := Try.zeroValue44
  t38 := Try.underlying46
  a38 := Try.isAgg46
  z38 := Try.sizeOf46
  v38 := Try.zeroValue46 }
end Go.Proofs.Ytckioinjgdjohab
