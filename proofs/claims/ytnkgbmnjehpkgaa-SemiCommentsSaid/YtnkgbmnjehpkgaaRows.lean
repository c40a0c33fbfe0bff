/-
  No cell of these rows narrows 'for every input' (looked for: loops, veiled, ifaces, maps, wideKeys, modest, calm, conditions, laid).
  DERIVED. THE GIVEN ROWS OF THIS SEAT. 8 by the template 'for every input the law returns true; each argument reads behind the call as it read before'; 0 by the template 'total and deterministic' (their statements: YtnkgbmnjehpkgaaTotals.lean).
  GIVEN WITH THE SEED: the statements are not yours to turn. If you find one false, say at which input.
  Laid BY PROGRAM, IN A SANDBOX (cutbox-rows.mjs): the forced cells as the released guide's own fill.sh prints them over the translation 2b6c9fb9d0151808… (all of the seat's roots in one cut). By AI agents, Wed Nov 11 2026. No macro, syntax, notation, axiom, sorry.
-/
import Derived.Test.YtnkgbmnjehpkgaaChecked
import GoSem.Claim
import GoSem.ClaimJoined
import GoSem.ClaimMapViews
import Derived.JoinedTies
import Derived.KernelRfl
namespace Go.Proofs.Ytnkgbmnjehpkgaa
/- THE CELL 'sum', in the pinned program and in every row, IS THE sha256 OF THE DUMP (.gsa) THAT YtnkgbmnjehpkgaaProg.lean LOADS. Nothing in Lean hashes anything: it is a label: what it is worth is what the hold of that sum in a sandbox is worth. -/
noncomputable def Try.pinned : Pinned := { name := "ytnkgbmnjehpkgaa", sum := "2b6c9fb9d01518084fae0df5498c3f2e741a8b5596332271ab2a0f0b39aa6092", checked := Try.checked }
namespace Rows
def none {H : Type} : Left H := { results := [], args := [] }

/-- 'emendlaw07.ScanCleans': WHATEVER THE INPUT: true; the input reads as it did. -/
def scanCleansSpec : ChangeSpec := { name := "scanCleans", fn := fun _ => fun
  | [d] => { results := [.lit (.bool true)], args := [d] }
  | _ => none }
def scanCleansRow : OpenClaim := { program := "ytnkgbmnjehpkgaa", sum := "2b6c9fb9d01518084fae0df5498c3f2e741a8b5596332271ab2a0f0b39aa6092", func := "emend/emendlaw07.ScanCleans", spec := "scanCleans", inPlace := ["internal/bytealg.IndexByteString", "internal/bytealg.IndexString"], unfollowed := true, recurses := true, named := ["internal/bytealg.MaxLen"], apart := false }
def ScanCleansSaid : Prop := scanCleansRow.holds Try.pinned (OpenSpec.ofChange scanCleansSpec)

/-- ITS FALSE NEIGHBOUR: 'it returns false'. Refute it at one input. -/
def scanCleansWrong : ChangeSpec := { name := "scanCleans", fn := fun _ => fun
  | [d] => { results := [.lit (.bool false)], args := [d] }
  | _ => none }
def ScanCleansWrongFalsely : Prop := scanCleansRow.holds Try.pinned (OpenSpec.ofChange scanCleansWrong)

/-- 'emendlaw07.ScanWhole': WHATEVER THE INPUT: true; the input reads as it did. -/
def scanWholeSpec : ChangeSpec := { name := "scanWhole", fn := fun _ => fun
  | [d] => { results := [.lit (.bool true)], args := [d] }
  | _ => none }
def scanWholeRow : OpenClaim := { program := "ytnkgbmnjehpkgaa", sum := "2b6c9fb9d01518084fae0df5498c3f2e741a8b5596332271ab2a0f0b39aa6092", func := "emend/emendlaw07.ScanWhole", spec := "scanWhole", inPlace := ["internal/bytealg.IndexByteString", "internal/bytealg.IndexString"], unfollowed := true, recurses := true, named := ["internal/bytealg.MaxLen"], apart := false }
def ScanWholeSaid : Prop := scanWholeRow.holds Try.pinned (OpenSpec.ofChange scanWholeSpec)

/-- ITS FALSE NEIGHBOUR: 'it returns false'. Refute it at one input. -/
def scanWholeWrong : ChangeSpec := { name := "scanWhole", fn := fun _ => fun
  | [d] => { results := [.lit (.bool false)], args := [d] }
  | _ => none }
def ScanWholeWrongFalsely : Prop := scanWholeRow.holds Try.pinned (OpenSpec.ofChange scanWholeWrong)

/-- 'emendlaw07.ScanApart': WHATEVER THE INPUT: true; the input reads as it did. -/
def scanApartSpec : ChangeSpec := { name := "scanApart", fn := fun _ => fun
  | [d] => { results := [.lit (.bool true)], args := [d] }
  | _ => none }
def scanApartRow : OpenClaim := { program := "ytnkgbmnjehpkgaa", sum := "2b6c9fb9d01518084fae0df5498c3f2e741a8b5596332271ab2a0f0b39aa6092", func := "emend/emendlaw07.ScanApart", spec := "scanApart", inPlace := ["internal/bytealg.IndexByteString", "internal/bytealg.IndexString"], unfollowed := true, recurses := true, named := ["internal/bytealg.MaxLen"], apart := false }
def ScanApartSaid : Prop := scanApartRow.holds Try.pinned (OpenSpec.ofChange scanApartSpec)

/-- ITS FALSE NEIGHBOUR: 'it returns false'. Refute it at one input. -/
def scanApartWrong : ChangeSpec := { name := "scanApart", fn := fun _ => fun
  | [d] => { results := [.lit (.bool false)], args := [d] }
  | _ => none }
def ScanApartWrongFalsely : Prop := scanApartRow.holds Try.pinned (OpenSpec.ofChange scanApartWrong)

/-- 'emendlaw07.ScanLong': WHATEVER THE INPUT: true; the input reads as it did. -/
def scanLongSpec : ChangeSpec := { name := "scanLong", fn := fun _ => fun
  | [] => { results := [.lit (.bool true)], args := [] }
  | _ => none }
def scanLongRow : OpenClaim := { program := "ytnkgbmnjehpkgaa", sum := "2b6c9fb9d01518084fae0df5498c3f2e741a8b5596332271ab2a0f0b39aa6092", func := "emend/emendlaw07.ScanLong", spec := "scanLong", inPlace := ["internal/bytealg.IndexByteString", "internal/bytealg.IndexString"], unfollowed := true, recurses := true, named := ["internal/bytealg.MaxLen"], apart := false }
def ScanLongSaid : Prop := scanLongRow.holds Try.pinned (OpenSpec.ofChange scanLongSpec)

/-- ITS FALSE NEIGHBOUR: 'it returns false'. Refute it at one input. -/
def scanLongWrong : ChangeSpec := { name := "scanLong", fn := fun _ => fun
  | [] => { results := [.lit (.bool false)], args := [] }
  | _ => none }
def ScanLongWrongFalsely : Prop := scanLongRow.holds Try.pinned (OpenSpec.ofChange scanLongWrong)

/-- 'emendlaw08.SemiEnds': WHATEVER THE INPUT: true; the input reads as it did. -/
def semiEndsSpec : ChangeSpec := { name := "semiEnds", fn := fun _ => fun
  | [d1, d2] => { results := [.lit (.bool true)], args := [d1, d2] }
  | _ => none }
def semiEndsRow : OpenClaim := { program := "ytnkgbmnjehpkgaa", sum := "2b6c9fb9d01518084fae0df5498c3f2e741a8b5596332271ab2a0f0b39aa6092", func := "emend/emendlaw08.SemiEnds", spec := "semiEnds", inPlace := ["internal/bytealg.IndexByteString", "internal/bytealg.IndexString"], unfollowed := true, recurses := true, named := ["internal/bytealg.MaxLen"], apart := false }
def SemiEndsSaid : Prop := semiEndsRow.holds Try.pinned (OpenSpec.ofChange semiEndsSpec)

/-- ITS FALSE NEIGHBOUR: 'it returns false'. Refute it at one input. -/
def semiEndsWrong : ChangeSpec := { name := "semiEnds", fn := fun _ => fun
  | [d1, d2] => { results := [.lit (.bool false)], args := [d1, d2] }
  | _ => none }
def SemiEndsWrongFalsely : Prop := semiEndsRow.holds Try.pinned (OpenSpec.ofChange semiEndsWrong)

/-- 'emendlaw08.SemiComments': WHATEVER THE INPUT: true; the input reads as it did. -/
def semiCommentsSpec : ChangeSpec := { name := "semiComments", fn := fun _ => fun
  | [d] => { results := [.lit (.bool true)], args := [d] }
  | _ => none }
def semiCommentsRow : OpenClaim := { program := "ytnkgbmnjehpkgaa", sum := "2b6c9fb9d01518084fae0df5498c3f2e741a8b5596332271ab2a0f0b39aa6092", func := "emend/emendlaw08.SemiComments", spec := "semiComments", inPlace := ["internal/bytealg.IndexByteString", "internal/bytealg.IndexString"], unfollowed := true, recurses := true, named := ["internal/bytealg.MaxLen"], apart := false }
def SemiCommentsSaid : Prop := semiCommentsRow.holds Try.pinned (OpenSpec.ofChange semiCommentsSpec)

/-- ITS FALSE NEIGHBOUR: 'it returns false'. Refute it at one input. -/
def semiCommentsWrong : ChangeSpec := { name := "semiComments", fn := fun _ => fun
  | [d] => { results := [.lit (.bool false)], args := [d] }
  | _ => none }
def SemiCommentsWrongFalsely : Prop := semiCommentsRow.holds Try.pinned (OpenSpec.ofChange semiCommentsWrong)

/-- 'emendlaw08.SemiWritten': WHATEVER THE INPUT: true; the input reads as it did. -/
def semiWrittenSpec : ChangeSpec := { name := "semiWritten", fn := fun _ => fun
  | [d] => { results := [.lit (.bool true)], args := [d] }
  | _ => none }
def semiWrittenRow : OpenClaim := { program := "ytnkgbmnjehpkgaa", sum := "2b6c9fb9d01518084fae0df5498c3f2e741a8b5596332271ab2a0f0b39aa6092", func := "emend/emendlaw08.SemiWritten", spec := "semiWritten", inPlace := ["internal/bytealg.IndexByteString", "internal/bytealg.IndexString"], unfollowed := true, recurses := true, named := ["internal/bytealg.MaxLen"], apart := false }
def SemiWrittenSaid : Prop := semiWrittenRow.holds Try.pinned (OpenSpec.ofChange semiWrittenSpec)

/-- ITS FALSE NEIGHBOUR: 'it returns false'. Refute it at one input. -/
def semiWrittenWrong : ChangeSpec := { name := "semiWritten", fn := fun _ => fun
  | [d] => { results := [.lit (.bool false)], args := [d] }
  | _ => none }
def SemiWrittenWrongFalsely : Prop := semiWrittenRow.holds Try.pinned (OpenSpec.ofChange semiWrittenWrong)

/-- 'emendlaw08.SemiTokens': WHATEVER THE INPUT: true; the input reads as it did. -/
def semiTokensSpec : ChangeSpec := { name := "semiTokens", fn := fun _ => fun
  | [d] => { results := [.lit (.bool true)], args := [d] }
  | _ => none }
def semiTokensRow : OpenClaim := { program := "ytnkgbmnjehpkgaa", sum := "2b6c9fb9d01518084fae0df5498c3f2e741a8b5596332271ab2a0f0b39aa6092", func := "emend/emendlaw08.SemiTokens", spec := "semiTokens", inPlace := ["internal/bytealg.IndexByteString", "internal/bytealg.IndexString"], unfollowed := true, recurses := true, named := ["internal/bytealg.MaxLen"], apart := false }
def SemiTokensSaid : Prop := semiTokensRow.holds Try.pinned (OpenSpec.ofChange semiTokensSpec)

/-- ITS FALSE NEIGHBOUR: 'it returns false'. Refute it at one input. -/
def semiTokensWrong : ChangeSpec := { name := "semiTokens", fn := fun _ => fun
  | [d] => { results := [.lit (.bool false)], args := [d] }
  | _ => none }
def SemiTokensWrongFalsely : Prop := semiTokensRow.holds Try.pinned (OpenSpec.ofChange semiTokensWrong)

/- THE SECOND FORM. 'bulk': how many values and letters a reading holds, each counted each time it is reached (what is shared counts as often as it is met; a slice's spare places count too). A statement '..UptoSaid' is the law's where the arguments, and the package variables that the reading takes, are together of bulk at most 1048576: NARROWER than '..Said'. Prove '..Said' where nothing that the law and all that it calls make is longer than what came in: it says more and counts as full. Else prove '..UptoSaid'. A law counts once. -/
mutual
def uptoBulk {H : Type} : DataW H → Nat
  | .lit (.string bytes) => bytes.length + 1
  | .lit _ => 1
  | .nil => 1
  | .ptr d => uptoBulk d + 1
  | .slice elems spare => uptoBulkAll elems + uptoBulkAll spare + 1
  | .agg parts => uptoBulkAll parts + 1
  | .iface _ d => uptoBulk d + 1
  | .map entries => uptoBulkEntries entries + 1
  | .held _ => 1
def uptoBulkAll {H : Type} : List (DataW H) → Nat
  | [] => 0
  | d :: r => uptoBulk d + uptoBulkAll r
def uptoBulkEntries {H : Type} : List (Lit × DataW H) → Nat
  | [] => 0
  | x :: r => uptoBulkEntry x + uptoBulkEntries r
def uptoBulkEntry {H : Type} : Lit × DataW H → Nat
  | (.string bytes, d) => bytes.length + uptoBulk d + 1
  | (_, d) => uptoBulk d + 1
 end
def uptoSmall : (H : Type) → List (DataW H) → Bool := fun _ ds => decide (uptoBulkAll ds ≤ 1048576)
def OpenSpec.upto (s : _root_.Go.ChangeSpec) : _root_.Go.OpenSpec := { _root_.Go.OpenSpec.ofChange s with cond := some uptoSmall }

/-- 'emendlaw07.ScanCleans', WHERE WHAT IT READS IS OF BULK AT MOST 1048576: true; the input reads as it did. -/
def scanCleansUptoRow : OpenClaim := { program := "ytnkgbmnjehpkgaa", sum := "2b6c9fb9d01518084fae0df5498c3f2e741a8b5596332271ab2a0f0b39aa6092", func := "emend/emendlaw07.ScanCleans", spec := "scanCleans", inPlace := ["internal/bytealg.IndexByteString", "internal/bytealg.IndexString"], unfollowed := true, recurses := true, named := ["internal/bytealg.MaxLen"], apart := false, narrowed := true }
def ScanCleansUptoSaid : Prop := scanCleansUptoRow.holds Try.pinned (OpenSpec.upto scanCleansSpec)

/-- 'emendlaw07.ScanWhole', WHERE WHAT IT READS IS OF BULK AT MOST 1048576: true; the input reads as it did. -/
def scanWholeUptoRow : OpenClaim := { program := "ytnkgbmnjehpkgaa", sum := "2b6c9fb9d01518084fae0df5498c3f2e741a8b5596332271ab2a0f0b39aa6092", func := "emend/emendlaw07.ScanWhole", spec := "scanWhole", inPlace := ["internal/bytealg.IndexByteString", "internal/bytealg.IndexString"], unfollowed := true, recurses := true, named := ["internal/bytealg.MaxLen"], apart := false, narrowed := true }
def ScanWholeUptoSaid : Prop := scanWholeUptoRow.holds Try.pinned (OpenSpec.upto scanWholeSpec)

/-- 'emendlaw07.ScanApart', WHERE WHAT IT READS IS OF BULK AT MOST 1048576: true; the input reads as it did. -/
def scanApartUptoRow : OpenClaim := { program := "ytnkgbmnjehpkgaa", sum := "2b6c9fb9d01518084fae0df5498c3f2e741a8b5596332271ab2a0f0b39aa6092", func := "emend/emendlaw07.ScanApart", spec := "scanApart", inPlace := ["internal/bytealg.IndexByteString", "internal/bytealg.IndexString"], unfollowed := true, recurses := true, named := ["internal/bytealg.MaxLen"], apart := false, narrowed := true }
def ScanApartUptoSaid : Prop := scanApartUptoRow.holds Try.pinned (OpenSpec.upto scanApartSpec)

/-- 'emendlaw07.ScanLong', WHERE WHAT IT READS IS OF BULK AT MOST 1048576: true; the input reads as it did. -/
def scanLongUptoRow : OpenClaim := { program := "ytnkgbmnjehpkgaa", sum := "2b6c9fb9d01518084fae0df5498c3f2e741a8b5596332271ab2a0f0b39aa6092", func := "emend/emendlaw07.ScanLong", spec := "scanLong", inPlace := ["internal/bytealg.IndexByteString", "internal/bytealg.IndexString"], unfollowed := true, recurses := true, named := ["internal/bytealg.MaxLen"], apart := false, narrowed := true }
def ScanLongUptoSaid : Prop := scanLongUptoRow.holds Try.pinned (OpenSpec.upto scanLongSpec)

/-- 'emendlaw08.SemiEnds', WHERE WHAT IT READS IS OF BULK AT MOST 1048576: true; the input reads as it did. -/
def semiEndsUptoRow : OpenClaim := { program := "ytnkgbmnjehpkgaa", sum := "2b6c9fb9d01518084fae0df5498c3f2e741a8b5596332271ab2a0f0b39aa6092", func := "emend/emendlaw08.SemiEnds", spec := "semiEnds", inPlace := ["internal/bytealg.IndexByteString", "internal/bytealg.IndexString"], unfollowed := true, recurses := true, named := ["internal/bytealg.MaxLen"], apart := false, narrowed := true }
def SemiEndsUptoSaid : Prop := semiEndsUptoRow.holds Try.pinned (OpenSpec.upto semiEndsSpec)

/-- 'emendlaw08.SemiComments', WHERE WHAT IT READS IS OF BULK AT MOST 1048576: true; the input reads as it did. -/
def semiCommentsUptoRow : OpenClaim := { program := "ytnkgbmnjehpkgaa", sum := "2b6c9fb9d01518084fae0df5498c3f2e741a8b5596332271ab2a0f0b39aa6092", func := "emend/emendlaw08.SemiComments", spec := "semiComments", inPlace := ["internal/bytealg.IndexByteString", "internal/bytealg.IndexString"], unfollowed := true, recurses := true, named := ["internal/bytealg.MaxLen"], apart := false, narrowed := true }
def SemiCommentsUptoSaid : Prop := semiCommentsUptoRow.holds Try.pinned (OpenSpec.upto semiCommentsSpec)

/-- 'emendlaw08.SemiWritten', WHERE WHAT IT READS IS OF BULK AT MOST 1048576: true; the input reads as it did. -/
def semiWrittenUptoRow : OpenClaim := { program := "ytnkgbmnjehpkgaa", sum := "2b6c9fb9d01518084fae0df5498c3f2e741a8b5596332271ab2a0f0b39aa6092", func := "emend/emendlaw08.SemiWritten", spec := "semiWritten", inPlace := ["internal/bytealg.IndexByteString", "internal/bytealg.IndexString"], unfollowed := true, recurses := true, named := ["internal/bytealg.MaxLen"], apart := false, narrowed := true }
def SemiWrittenUptoSaid : Prop := semiWrittenUptoRow.holds Try.pinned (OpenSpec.upto semiWrittenSpec)

/-- 'emendlaw08.SemiTokens', WHERE WHAT IT READS IS OF BULK AT MOST 1048576: true; the input reads as it did. -/
def semiTokensUptoRow : OpenClaim := { program := "ytnkgbmnjehpkgaa", sum := "2b6c9fb9d01518084fae0df5498c3f2e741a8b5596332271ab2a0f0b39aa6092", func := "emend/emendlaw08.SemiTokens", spec := "semiTokens", inPlace := ["internal/bytealg.IndexByteString", "internal/bytealg.IndexString"], unfollowed := true, recurses := true, named := ["internal/bytealg.MaxLen"], apart := false, narrowed := true }
def SemiTokensUptoSaid : Prop := semiTokensUptoRow.holds Try.pinned (OpenSpec.upto semiTokensSpec)

end Rows
end Go.Proofs.Ytnkgbmnjehpkgaa
