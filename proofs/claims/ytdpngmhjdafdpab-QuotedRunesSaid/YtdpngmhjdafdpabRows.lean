/-
  No cell of these rows narrows 'for every input' (looked for: loops, veiled, ifaces, maps, wideKeys, modest, calm, conditions, laid).
  DERIVED. THE GIVEN ROWS OF THIS SEAT. 5 by the template 'for every input the law returns true; each argument reads behind the call as it read before'; 0 by the template 'total and deterministic' (their statements: YtdpngmhjdafdpabTotals.lean).
  GIVEN WITH THE SEED: the statements are not yours to turn. If you find one false, say at which input.
  Laid BY PROGRAM, IN A SANDBOX (cutbox-rows.mjs): the forced cells as the released guide's own fill.sh prints them over the translation ca2b1e3ee9664237… (all of the seat's roots in one cut). By AI agents, Wed Nov 11 2026. No macro, syntax, notation, axiom, sorry.
-/
import Derived.Test.YtdpngmhjdafdpabChecked
import GoSem.Claim
import GoSem.ClaimJoined
import GoSem.ClaimMapViews
import Derived.JoinedTies
import Derived.KernelRfl
namespace Go.Proofs.Ytdpngmhjdafdpab
/- THE CELL 'sum', in the pinned program and in every row, IS THE sha256 OF THE DUMP (.gsa) THAT YtdpngmhjdafdpabProg.lean LOADS. Nothing in Lean hashes anything: it is a label: what it is worth is what the hold of that sum in a sandbox is worth. -/
noncomputable def Try.pinned : Pinned := { name := "ytdpngmhjdafdpab", sum := "ca2b1e3ee9664237514d5117be13cbc4fc4c282f79e96a8e1b82664c924bffd6", checked := Try.checked }
namespace Rows
def none {H : Type} : Left H := { results := [], args := [] }

/-- 'emendlaw06.QuotedQuotes': WHATEVER THE INPUT: true; the input reads as it did. -/
def quotedQuotesSpec : ChangeSpec := { name := "quotedQuotes", fn := fun _ => fun
  | [d] => { results := [.lit (.bool true)], args := [d] }
  | _ => none }
def quotedQuotesRow : OpenClaim := { program := "ytdpngmhjdafdpab", sum := "ca2b1e3ee9664237514d5117be13cbc4fc4c282f79e96a8e1b82664c924bffd6", func := "emend/emendlaw06.QuotedQuotes", spec := "quotedQuotes", inPlace := ["internal/abi.NoEscape"], apart := false }
def QuotedQuotesSaid : Prop := quotedQuotesRow.holds Try.pinned (OpenSpec.ofChange quotedQuotesSpec)

/-- ITS FALSE NEIGHBOUR: 'it returns false'. Refute it at one input. -/
def quotedQuotesWrong : ChangeSpec := { name := "quotedQuotes", fn := fun _ => fun
  | [d] => { results := [.lit (.bool false)], args := [d] }
  | _ => none }
def QuotedQuotesWrongFalsely : Prop := quotedQuotesRow.holds Try.pinned (OpenSpec.ofChange quotedQuotesWrong)

/-- 'emendlaw06.QuotedJoins': WHATEVER THE INPUT: true; the input reads as it did. -/
def quotedJoinsSpec : ChangeSpec := { name := "quotedJoins", fn := fun _ => fun
  | [d1, d2] => { results := [.lit (.bool true)], args := [d1, d2] }
  | _ => none }
def quotedJoinsRow : OpenClaim := { program := "ytdpngmhjdafdpab", sum := "ca2b1e3ee9664237514d5117be13cbc4fc4c282f79e96a8e1b82664c924bffd6", func := "emend/emendlaw06.QuotedJoins", spec := "quotedJoins", inPlace := ["internal/abi.NoEscape"], apart := false }
def QuotedJoinsSaid : Prop := quotedJoinsRow.holds Try.pinned (OpenSpec.ofChange quotedJoinsSpec)

/-- ITS FALSE NEIGHBOUR: 'it returns false'. Refute it at one input. -/
def quotedJoinsWrong : ChangeSpec := { name := "quotedJoins", fn := fun _ => fun
  | [d1, d2] => { results := [.lit (.bool false)], args := [d1, d2] }
  | _ => none }
def QuotedJoinsWrongFalsely : Prop := quotedJoinsRow.holds Try.pinned (OpenSpec.ofChange quotedJoinsWrong)

/-- 'emendlaw06.QuotedRaw': WHATEVER THE INPUT: true; the input reads as it did. -/
def quotedRawSpec : ChangeSpec := { name := "quotedRaw", fn := fun _ => fun
  | [d] => { results := [.lit (.bool true)], args := [d] }
  | _ => none }
def quotedRawRow : OpenClaim := { program := "ytdpngmhjdafdpab", sum := "ca2b1e3ee9664237514d5117be13cbc4fc4c282f79e96a8e1b82664c924bffd6", func := "emend/emendlaw06.QuotedRaw", spec := "quotedRaw", inPlace := ["internal/abi.NoEscape"], apart := false }
def QuotedRawSaid : Prop := quotedRawRow.holds Try.pinned (OpenSpec.ofChange quotedRawSpec)

/-- ITS FALSE NEIGHBOUR: 'it returns false'. Refute it at one input. -/
def quotedRawWrong : ChangeSpec := { name := "quotedRaw", fn := fun _ => fun
  | [d] => { results := [.lit (.bool false)], args := [d] }
  | _ => none }
def QuotedRawWrongFalsely : Prop := quotedRawRow.holds Try.pinned (OpenSpec.ofChange quotedRawWrong)

/-- 'emendlaw06.QuotedRunes': WHATEVER THE INPUT: true; the input reads as it did. -/
def quotedRunesSpec : ChangeSpec := { name := "quotedRunes", fn := fun _ => fun
  | [d] => { results := [.lit (.bool true)], args := [d] }
  | _ => none }
def quotedRunesRow : OpenClaim := { program := "ytdpngmhjdafdpab", sum := "ca2b1e3ee9664237514d5117be13cbc4fc4c282f79e96a8e1b82664c924bffd6", func := "emend/emendlaw06.QuotedRunes", spec := "quotedRunes", inPlace := ["internal/abi.NoEscape"], apart := false }
def QuotedRunesSaid : Prop := quotedRunesRow.holds Try.pinned (OpenSpec.ofChange quotedRunesSpec)

/-- ITS FALSE NEIGHBOUR: 'it returns false'. Refute it at one input. -/
def quotedRunesWrong : ChangeSpec := { name := "quotedRunes", fn := fun _ => fun
  | [d] => { results := [.lit (.bool false)], args := [d] }
  | _ => none }
def QuotedRunesWrongFalsely : Prop := quotedRunesRow.holds Try.pinned (OpenSpec.ofChange quotedRunesWrong)

/-- 'emendlaw06.QuotedFound': WHATEVER THE INPUT: true; the input reads as it did. -/
def quotedFoundSpec : ChangeSpec := { name := "quotedFound", fn := fun _ => fun
  | [d1, d2] => { results := [.lit (.bool true)], args := [d1, d2] }
  | _ => none }
def quotedFoundRow : OpenClaim := { program := "ytdpngmhjdafdpab", sum := "ca2b1e3ee9664237514d5117be13cbc4fc4c282f79e96a8e1b82664c924bffd6", func := "emend/emendlaw06.QuotedFound", spec := "quotedFound", inPlace := ["internal/abi.NoEscape"], apart := false }
def QuotedFoundSaid : Prop := quotedFoundRow.holds Try.pinned (OpenSpec.ofChange quotedFoundSpec)

/-- ITS FALSE NEIGHBOUR: 'it returns false'. Refute it at one input. -/
def quotedFoundWrong : ChangeSpec := { name := "quotedFound", fn := fun _ => fun
  | [d1, d2] => { results := [.lit (.bool false)], args := [d1, d2] }
  | _ => none }
def QuotedFoundWrongFalsely : Prop := quotedFoundRow.holds Try.pinned (OpenSpec.ofChange quotedFoundWrong)

/- THE SECOND FORM. 'bulk': how many values and letters a reading holds, each counted each time it is reached (what is shared counts as often as it is met; a slice's spare places count too). A statement '..UptoSaid' is the law's where the arguments, and the package variables that the reading takes, are together of bulk at most 1048576: NARROWER than '..Said'. Prove '..Said' where nothing that the law and all that it calls make is longer than what came in: it says more and counts as full. Else prove '..UptoSaid'. A law counts once. -/
mutual
def uptoBulk {H : Type} : DataW H → Nat
  | .lit (.string bytes) => bytes.length + 1
  | .lit _ => 1
  | .nil => 1
  | .ptr d => uptoBulk d + 1
  | .slice elems spare => uptoBulkAll elems + uptoBulkAll spare + 1
  | .agg parts => uptoBulkAll parts + 1
  | .iface _ d => uptoBulk d + 1
  | .map entries => uptoBulkEntries entries + 1
  | .held _ => 1
def uptoBulkAll {H : Type} : List (DataW H) → Nat
  | [] => 0
  | d :: r => uptoBulk d + uptoBulkAll r
def uptoBulkEntries {H : Type} : List (Lit × DataW H) → Nat
  | [] => 0
  | x :: r => uptoBulkEntry x + uptoBulkEntries r
def uptoBulkEntry {H : Type} : Lit × DataW H → Nat
  | (.string bytes, d) => bytes.length + uptoBulk d + 1
  | (_, d) => uptoBulk d + 1
 end
def uptoSmall : (H : Type) → List (DataW H) → Bool := fun _ ds => decide (uptoBulkAll ds ≤ 1048576)
def OpenSpec.upto (s : _root_.Go.ChangeSpec) : _root_.Go.OpenSpec := { _root_.Go.OpenSpec.ofChange s with cond := some uptoSmall }

/-- 'emendlaw06.QuotedQuotes', WHERE WHAT IT READS IS OF BULK AT MOST 1048576: true; the input reads as it did. -/
def quotedQuotesUptoRow : OpenClaim := { program := "ytdpngmhjdafdpab", sum := "ca2b1e3ee9664237514d5117be13cbc4fc4c282f79e96a8e1b82664c924bffd6", func := "emend/emendlaw06.QuotedQuotes", spec := "quotedQuotes", inPlace := ["internal/abi.NoEscape"], apart := false, narrowed := true }
def QuotedQuotesUptoSaid : Prop := quotedQuotesUptoRow.holds Try.pinned (OpenSpec.upto quotedQuotesSpec)

/-- 'emendlaw06.QuotedJoins', WHERE WHAT IT READS IS OF BULK AT MOST 1048576: true; the input reads as it did. -/
def quotedJoinsUptoRow : OpenClaim := { program := "ytdpngmhjdafdpab", sum := "ca2b1e3ee9664237514d5117be13cbc4fc4c282f79e96a8e1b82664c924bffd6", func := "emend/emendlaw06.QuotedJoins", spec := "quotedJoins", inPlace := ["internal/abi.NoEscape"], apart := false, narrowed := true }
def QuotedJoinsUptoSaid : Prop := quotedJoinsUptoRow.holds Try.pinned (OpenSpec.upto quotedJoinsSpec)

/-- 'emendlaw06.QuotedRaw', WHERE WHAT IT READS IS OF BULK AT MOST 1048576: true; the input reads as it did. -/
def quotedRawUptoRow : OpenClaim := { program := "ytdpngmhjdafdpab", sum := "ca2b1e3ee9664237514d5117be13cbc4fc4c282f79e96a8e1b82664c924bffd6", func := "emend/emendlaw06.QuotedRaw", spec := "quotedRaw", inPlace := ["internal/abi.NoEscape"], apart := false, narrowed := true }
def QuotedRawUptoSaid : Prop := quotedRawUptoRow.holds Try.pinned (OpenSpec.upto quotedRawSpec)

/-- 'emendlaw06.QuotedRunes', WHERE WHAT IT READS IS OF BULK AT MOST 1048576: true; the input reads as it did. -/
def quotedRunesUptoRow : OpenClaim := { program := "ytdpngmhjdafdpab", sum := "ca2b1e3ee9664237514d5117be13cbc4fc4c282f79e96a8e1b82664c924bffd6", func := "emend/emendlaw06.QuotedRunes", spec := "quotedRunes", inPlace := ["internal/abi.NoEscape"], apart := false, narrowed := true }
def QuotedRunesUptoSaid : Prop := quotedRunesUptoRow.holds Try.pinned (OpenSpec.upto quotedRunesSpec)

/-- 'emendlaw06.QuotedFound', WHERE WHAT IT READS IS OF BULK AT MOST 1048576: true; the input reads as it did. -/
def quotedFoundUptoRow : OpenClaim := { program := "ytdpngmhjdafdpab", sum := "ca2b1e3ee9664237514d5117be13cbc4fc4c282f79e96a8e1b82664c924bffd6", func := "emend/emendlaw06.QuotedFound", spec := "quotedFound", inPlace := ["internal/abi.NoEscape"], apart := false, narrowed := true }
def QuotedFoundUptoSaid : Prop := quotedFoundUptoRow.holds Try.pinned (OpenSpec.upto quotedFoundSpec)

end Rows
end Go.Proofs.Ytdpngmhjdafdpab
