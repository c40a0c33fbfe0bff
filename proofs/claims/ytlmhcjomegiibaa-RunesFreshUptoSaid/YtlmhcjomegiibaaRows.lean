/-
  No cell of these rows narrows 'for every input' (looked for: loops, veiled, ifaces, maps, wideKeys, modest, calm, conditions, laid).
  DERIVED. THE GIVEN ROWS OF THIS SEAT. 12 by the template 'for every input the law returns true; each argument reads behind the call as it read before'; 0 by the template 'total and deterministic' (their statements: YtlmhcjomegiibaaTotals.lean).
  GIVEN WITH THE SEED: the statements are not yours to turn. If you find one false, say at which input.
  Laid BY PROGRAM, IN A SANDBOX (cutbox-rows.mjs): the forced cells as the released guide's own fill.sh prints them over the translation 7fbf47b262eb28a8… (all of the seat's roots in one cut). By AI agents, Wed Nov 11 2026. No macro, syntax, notation, axiom, sorry.
-/
import Derived.Test.YtlmhcjomegiibaaChecked
import GoSem.Claim
import GoSem.ClaimJoined
import GoSem.ClaimMapViews
import Derived.JoinedTies
import Derived.KernelRfl
namespace Go.Proofs.Ytlmhcjomegiibaa
/- THE CELL 'sum', in the pinned program and in every row, IS THE sha256 OF THE DUMP (.gsa) THAT YtlmhcjomegiibaaProg.lean LOADS. Nothing in Lean hashes anything: it is a label: what it is worth is what the hold of that sum in a sandbox is worth. -/
noncomputable def Try.pinned : Pinned := { name := "ytlmhcjomegiibaa", sum := "7fbf47b262eb28a8e5940c6b786a3eecfaca6d62bd10107d7c634da29f18a4df", checked := Try.checked }
namespace Rows
def none {H : Type} : Left H := { results := [], args := [] }

/-- 'emendlaw01.RunesRead': WHATEVER THE INPUT: true; the input reads as it did. -/
def runesReadSpec : ChangeSpec := { name := "runesRead", fn := fun _ => fun
  | [d1, d2] => { results := [.lit (.bool true)], args := [d1, d2] }
  | _ => none }
def runesReadRow : OpenClaim := { program := "ytlmhcjomegiibaa", sum := "7fbf47b262eb28a8e5940c6b786a3eecfaca6d62bd10107d7c634da29f18a4df", func := "emend/emendlaw01.RunesRead", spec := "runesRead", apart := false }
def RunesReadSaid : Prop := runesReadRow.holds Try.pinned (OpenSpec.ofChange runesReadSpec)

/-- ITS FALSE NEIGHBOUR: 'it returns false'. Refute it at one input. -/
def runesReadWrong : ChangeSpec := { name := "runesRead", fn := fun _ => fun
  | [d1, d2] => { results := [.lit (.bool false)], args := [d1, d2] }
  | _ => none }
def RunesReadWrongFalsely : Prop := runesReadRow.holds Try.pinned (OpenSpec.ofChange runesReadWrong)

/-- 'emendlaw01.RunesForms': WHATEVER THE INPUT: true; the input reads as it did. -/
def runesFormsSpec : ChangeSpec := { name := "runesForms", fn := fun _ => fun
  | [d] => { results := [.lit (.bool true)], args := [d] }
  | _ => none }
def runesFormsRow : OpenClaim := { program := "ytlmhcjomegiibaa", sum := "7fbf47b262eb28a8e5940c6b786a3eecfaca6d62bd10107d7c634da29f18a4df", func := "emend/emendlaw01.RunesForms", spec := "runesForms", apart := false }
def RunesFormsSaid : Prop := runesFormsRow.holds Try.pinned (OpenSpec.ofChange runesFormsSpec)

/-- ITS FALSE NEIGHBOUR: 'it returns false'. Refute it at one input. -/
def runesFormsWrong : ChangeSpec := { name := "runesForms", fn := fun _ => fun
  | [d] => { results := [.lit (.bool false)], args := [d] }
  | _ => none }
def RunesFormsWrongFalsely : Prop := runesFormsRow.holds Try.pinned (OpenSpec.ofChange runesFormsWrong)

/-- 'emendlaw01.RunesBad': WHATEVER THE INPUT: true; the input reads as it did. -/
def runesBadSpec : ChangeSpec := { name := "runesBad", fn := fun _ => fun
  | [d] => { results := [.lit (.bool true)], args := [d] }
  | _ => none }
def runesBadRow : OpenClaim := { program := "ytlmhcjomegiibaa", sum := "7fbf47b262eb28a8e5940c6b786a3eecfaca6d62bd10107d7c634da29f18a4df", func := "emend/emendlaw01.RunesBad", spec := "runesBad", apart := false }
def RunesBadSaid : Prop := runesBadRow.holds Try.pinned (OpenSpec.ofChange runesBadSpec)

/-- ITS FALSE NEIGHBOUR: 'it returns false'. Refute it at one input. -/
def runesBadWrong : ChangeSpec := { name := "runesBad", fn := fun _ => fun
  | [d] => { results := [.lit (.bool false)], args := [d] }
  | _ => none }
def RunesBadWrongFalsely : Prop := runesBadRow.holds Try.pinned (OpenSpec.ofChange runesBadWrong)

/-- 'emendlaw01.RunesJoins': WHATEVER THE INPUT: true; the input reads as it did. -/
def runesJoinsSpec : ChangeSpec := { name := "runesJoins", fn := fun _ => fun
  | [d] => { results := [.lit (.bool true)], args := [d] }
  | _ => none }
def runesJoinsRow : OpenClaim := { program := "ytlmhcjomegiibaa", sum := "7fbf47b262eb28a8e5940c6b786a3eecfaca6d62bd10107d7c634da29f18a4df", func := "emend/emendlaw01.RunesJoins", spec := "runesJoins", inPlace := ["internal/abi.NoEscape"], apart := false }
def RunesJoinsSaid : Prop := runesJoinsRow.holds Try.pinned (OpenSpec.ofChange runesJoinsSpec)

/-- ITS FALSE NEIGHBOUR: 'it returns false'. Refute it at one input. -/
def runesJoinsWrong : ChangeSpec := { name := "runesJoins", fn := fun _ => fun
  | [d] => { results := [.lit (.bool false)], args := [d] }
  | _ => none }
def RunesJoinsWrongFalsely : Prop := runesJoinsRow.holds Try.pinned (OpenSpec.ofChange runesJoinsWrong)

/-- 'emendlaw01.RunesBack': WHATEVER THE INPUT: true; the input reads as it did. -/
def runesBackSpec : ChangeSpec := { name := "runesBack", fn := fun _ => fun
  | [d1, d2] => { results := [.lit (.bool true)], args := [d1, d2] }
  | _ => none }
def runesBackRow : OpenClaim := { program := "ytlmhcjomegiibaa", sum := "7fbf47b262eb28a8e5940c6b786a3eecfaca6d62bd10107d7c634da29f18a4df", func := "emend/emendlaw01.RunesBack", spec := "runesBack", inPlace := ["internal/abi.NoEscape"], apart := false }
def RunesBackSaid : Prop := runesBackRow.holds Try.pinned (OpenSpec.ofChange runesBackSpec)

/-- ITS FALSE NEIGHBOUR: 'it returns false'. Refute it at one input. -/
def runesBackWrong : ChangeSpec := { name := "runesBack", fn := fun _ => fun
  | [d1, d2] => { results := [.lit (.bool false)], args := [d1, d2] }
  | _ => none }
def RunesBackWrongFalsely : Prop := runesBackRow.holds Try.pinned (OpenSpec.ofChange runesBackWrong)

/-- 'emendlaw01.RunesBehind': WHATEVER THE INPUT: true; the input reads as it did. -/
def runesBehindSpec : ChangeSpec := { name := "runesBehind", fn := fun _ => fun
  | [d1, d2] => { results := [.lit (.bool true)], args := [d1, d2] }
  | _ => none }
def runesBehindRow : OpenClaim := { program := "ytlmhcjomegiibaa", sum := "7fbf47b262eb28a8e5940c6b786a3eecfaca6d62bd10107d7c634da29f18a4df", func := "emend/emendlaw01.RunesBehind", spec := "runesBehind", apart := false }
def RunesBehindSaid : Prop := runesBehindRow.holds Try.pinned (OpenSpec.ofChange runesBehindSpec)

/-- ITS FALSE NEIGHBOUR: 'it returns false'. Refute it at one input. -/
def runesBehindWrong : ChangeSpec := { name := "runesBehind", fn := fun _ => fun
  | [d1, d2] => { results := [.lit (.bool false)], args := [d1, d2] }
  | _ => none }
def RunesBehindWrongFalsely : Prop := runesBehindRow.holds Try.pinned (OpenSpec.ofChange runesBehindWrong)

/-- 'emendlaw01.RunesFresh': WHATEVER THE INPUT: true; the input reads as it did. -/
def runesFreshSpec : ChangeSpec := { name := "runesFresh", fn := fun _ => fun
  | [d1, d2] => { results := [.lit (.bool true)], args := [d1, d2] }
  | _ => none }
def runesFreshRow : OpenClaim := { program := "ytlmhcjomegiibaa", sum := "7fbf47b262eb28a8e5940c6b786a3eecfaca6d62bd10107d7c634da29f18a4df", func := "emend/emendlaw01.RunesFresh", spec := "runesFresh", inPlace := ["internal/abi.NoEscape"], apart := false }
def RunesFreshSaid : Prop := runesFreshRow.holds Try.pinned (OpenSpec.ofChange runesFreshSpec)

/-- ITS FALSE NEIGHBOUR: 'it returns false'. Refute it at one input. -/
def runesFreshWrong : ChangeSpec := { name := "runesFresh", fn := fun _ => fun
  | [d1, d2] => { results := [.lit (.bool false)], args := [d1, d2] }
  | _ => none }
def RunesFreshWrongFalsely : Prop := runesFreshRow.holds Try.pinned (OpenSpec.ofChange runesFreshWrong)

/-- 'emendlaw02.ClassTells': WHATEVER THE INPUT: true; the input reads as it did. -/
def classTellsSpec : ChangeSpec := { name := "classTells", fn := fun _ => fun
  | [d] => { results := [.lit (.bool true)], args := [d] }
  | _ => none }
def classTellsRow : OpenClaim := { program := "ytlmhcjomegiibaa", sum := "7fbf47b262eb28a8e5940c6b786a3eecfaca6d62bd10107d7c634da29f18a4df", func := "emend/emendlaw02.ClassTells", spec := "classTells", apart := false }
def ClassTellsSaid : Prop := classTellsRow.holds Try.pinned (OpenSpec.ofChange classTellsSpec)

/-- ITS FALSE NEIGHBOUR: 'it returns false'. Refute it at one input. -/
def classTellsWrong : ChangeSpec := { name := "classTells", fn := fun _ => fun
  | [d] => { results := [.lit (.bool false)], args := [d] }
  | _ => none }
def ClassTellsWrongFalsely : Prop := classTellsRow.holds Try.pinned (OpenSpec.ofChange classTellsWrong)

/-- 'emendlaw02.ClassNames': WHATEVER THE INPUT: true; the input reads as it did. -/
def classNamesSpec : ChangeSpec := { name := "classNames", fn := fun _ => fun
  | [d] => { results := [.lit (.bool true)], args := [d] }
  | _ => none }
def classNamesRow : OpenClaim := { program := "ytlmhcjomegiibaa", sum := "7fbf47b262eb28a8e5940c6b786a3eecfaca6d62bd10107d7c634da29f18a4df", func := "emend/emendlaw02.ClassNames", spec := "classNames", apart := false }
def ClassNamesSaid : Prop := classNamesRow.holds Try.pinned (OpenSpec.ofChange classNamesSpec)

/-- ITS FALSE NEIGHBOUR: 'it returns false'. Refute it at one input. -/
def classNamesWrong : ChangeSpec := { name := "classNames", fn := fun _ => fun
  | [d] => { results := [.lit (.bool false)], args := [d] }
  | _ => none }
def ClassNamesWrongFalsely : Prop := classNamesRow.holds Try.pinned (OpenSpec.ofChange classNamesWrong)

/-- 'emendlaw02.ClassApart': WHATEVER THE INPUT: true; the input reads as it did. -/
def classApartSpec : ChangeSpec := { name := "classApart", fn := fun _ => fun
  | [d] => { results := [.lit (.bool true)], args := [d] }
  | _ => none }
def classApartRow : OpenClaim := { program := "ytlmhcjomegiibaa", sum := "7fbf47b262eb28a8e5940c6b786a3eecfaca6d62bd10107d7c634da29f18a4df", func := "emend/emendlaw02.ClassApart", spec := "classApart", apart := false }
def ClassApartSaid : Prop := classApartRow.holds Try.pinned (OpenSpec.ofChange classApartSpec)

/-- ITS FALSE NEIGHBOUR: 'it returns false'. Refute it at one input. -/
def classApartWrong : ChangeSpec := { name := "classApart", fn := fun _ => fun
  | [d] => { results := [.lit (.bool false)], args := [d] }
  | _ => none }
def ClassApartWrongFalsely : Prop := classApartRow.holds Try.pinned (OpenSpec.ofChange classApartWrong)

/-- 'emendlaw02.ClassLonger': WHATEVER THE INPUT: true; the input reads as it did. -/
def classLongerSpec : ChangeSpec := { name := "classLonger", fn := fun _ => fun
  | [d1, d2] => { results := [.lit (.bool true)], args := [d1, d2] }
  | _ => none }
def classLongerRow : OpenClaim := { program := "ytlmhcjomegiibaa", sum := "7fbf47b262eb28a8e5940c6b786a3eecfaca6d62bd10107d7c634da29f18a4df", func := "emend/emendlaw02.ClassLonger", spec := "classLonger", apart := false }
def ClassLongerSaid : Prop := classLongerRow.holds Try.pinned (OpenSpec.ofChange classLongerSpec)

/-- ITS FALSE NEIGHBOUR: 'it returns false'. Refute it at one input. -/
def classLongerWrong : ChangeSpec := { name := "classLonger", fn := fun _ => fun
  | [d1, d2] => { results := [.lit (.bool false)], args := [d1, d2] }
  | _ => none }
def ClassLongerWrongFalsely : Prop := classLongerRow.holds Try.pinned (OpenSpec.ofChange classLongerWrong)

/-- 'emendlaw02.ClassEdges': WHATEVER THE INPUT: true; the input reads as it did. -/
def classEdgesSpec : ChangeSpec := { name := "classEdges", fn := fun _ => fun
  | [] => { results := [.lit (.bool true)], args := [] }
  | _ => none }
def classEdgesRow : OpenClaim := { program := "ytlmhcjomegiibaa", sum := "7fbf47b262eb28a8e5940c6b786a3eecfaca6d62bd10107d7c634da29f18a4df", func := "emend/emendlaw02.ClassEdges", spec := "classEdges", apart := false }
def ClassEdgesSaid : Prop := classEdgesRow.holds Try.pinned (OpenSpec.ofChange classEdgesSpec)

/-- ITS FALSE NEIGHBOUR: 'it returns false'. Refute it at one input. -/
def classEdgesWrong : ChangeSpec := { name := "classEdges", fn := fun _ => fun
  | [] => { results := [.lit (.bool false)], args := [] }
  | _ => none }
def ClassEdgesWrongFalsely : Prop := classEdgesRow.holds Try.pinned (OpenSpec.ofChange classEdgesWrong)

/- THE SECOND FORM. 'bulk': how many values and letters a reading holds, each counted each time it is reached (what is shared counts as often as it is met; a slice's spare places count too). A statement '..UptoSaid' is the law's where the arguments, and the package variables that the reading takes, are together of bulk at most 1048576: NARROWER than '..Said'. Prove '..Said' where nothing that the law and all that it calls make is longer than what came in: it says more and counts as full. Else prove '..UptoSaid'. A law counts once. -/
mutual
def uptoBulk {H : Type} : DataW H → Nat
  | .lit (.string bytes) => bytes.length + 1
  | .lit _ => 1
  | .nil => 1
  | .ptr d => uptoBulk d + 1
  | .slice elems spare => uptoBulkAll elems + uptoBulkAll spare + 1
  | .agg parts => uptoBulkAll parts + 1
  | .iface _ d => uptoBulk d + 1
  | .map entries => uptoBulkEntries entries + 1
  | .held _ => 1
def uptoBulkAll {H : Type} : List (DataW H) → Nat
  | [] => 0
  | d :: r => uptoBulk d + uptoBulkAll r
def uptoBulkEntries {H : Type} : List (Lit × DataW H) → Nat
  | [] => 0
  | x :: r => uptoBulkEntry x + uptoBulkEntries r
def uptoBulkEntry {H : Type} : Lit × DataW H → Nat
  | (.string bytes, d) => bytes.length + uptoBulk d + 1
  | (_, d) => uptoBulk d + 1
 end
def uptoSmall : (H : Type) → List (DataW H) → Bool := fun _ ds => decide (uptoBulkAll ds ≤ 1048576)
def OpenSpec.upto (s : _root_.Go.ChangeSpec) : _root_.Go.OpenSpec := { _root_.Go.OpenSpec.ofChange s with cond := some uptoSmall }

/-- 'emendlaw01.RunesRead', WHERE WHAT IT READS IS OF BULK AT MOST 1048576: true; the input reads as it did. -/
def runesReadUptoRow : OpenClaim := { program := "ytlmhcjomegiibaa", sum := "7fbf47b262eb28a8e5940c6b786a3eecfaca6d62bd10107d7c634da29f18a4df", func := "emend/emendlaw01.RunesRead", spec := "runesRead", apart := false, narrowed := true }
def RunesReadUptoSaid : Prop := runesReadUptoRow.holds Try.pinned (OpenSpec.upto runesReadSpec)

/-- 'emendlaw01.RunesForms', WHERE WHAT IT READS IS OF BULK AT MOST 1048576: true; the input reads as it did. -/
def runesFormsUptoRow : OpenClaim := { program := "ytlmhcjomegiibaa", sum := "7fbf47b262eb28a8e5940c6b786a3eecfaca6d62bd10107d7c634da29f18a4df", func := "emend/emendlaw01.RunesForms", spec := "runesForms", apart := false, narrowed := true }
def RunesFormsUptoSaid : Prop := runesFormsUptoRow.holds Try.pinned (OpenSpec.upto runesFormsSpec)

/-- 'emendlaw01.RunesBad', WHERE WHAT IT READS IS OF BULK AT MOST 1048576: true; the input reads as it did. -/
def runesBadUptoRow : OpenClaim := { program := "ytlmhcjomegiibaa", sum := "7fbf47b262eb28a8e5940c6b786a3eecfaca6d62bd10107d7c634da29f18a4df", func := "emend/emendlaw01.RunesBad", spec := "runesBad", apart := false, narrowed := true }
def RunesBadUptoSaid : Prop := runesBadUptoRow.holds Try.pinned (OpenSpec.upto runesBadSpec)

/-- 'emendlaw01.RunesJoins', WHERE WHAT IT READS IS OF BULK AT MOST 1048576: true; the input reads as it did. -/
def runesJoinsUptoRow : OpenClaim := { program := "ytlmhcjomegiibaa", sum := "7fbf47b262eb28a8e5940c6b786a3eecfaca6d62bd10107d7c634da29f18a4df", func := "emend/emendlaw01.RunesJoins", spec := "runesJoins", inPlace := ["internal/abi.NoEscape"], apart := false, narrowed := true }
def RunesJoinsUptoSaid : Prop := runesJoinsUptoRow.holds Try.pinned (OpenSpec.upto runesJoinsSpec)

/-- 'emendlaw01.RunesBack', WHERE WHAT IT READS IS OF BULK AT MOST 1048576: true; the input reads as it did. -/
def runesBackUptoRow : OpenClaim := { program := "ytlmhcjomegiibaa", sum := "7fbf47b262eb28a8e5940c6b786a3eecfaca6d62bd10107d7c634da29f18a4df", func := "emend/emendlaw01.RunesBack", spec := "runesBack", inPlace := ["internal/abi.NoEscape"], apart := false, narrowed := true }
def RunesBackUptoSaid : Prop := runesBackUptoRow.holds Try.pinned (OpenSpec.upto runesBackSpec)

/-- 'emendlaw01.RunesBehind', WHERE WHAT IT READS IS OF BULK AT MOST 1048576: true; the input reads as it did. -/
def runesBehindUptoRow : OpenClaim := { program := "ytlmhcjomegiibaa", sum := "7fbf47b262eb28a8e5940c6b786a3eecfaca6d62bd10107d7c634da29f18a4df", func := "emend/emendlaw01.RunesBehind", spec := "runesBehind", apart := false, narrowed := true }
def RunesBehindUptoSaid : Prop := runesBehindUptoRow.holds Try.pinned (OpenSpec.upto runesBehindSpec)

/-- 'emendlaw01.RunesFresh', WHERE WHAT IT READS IS OF BULK AT MOST 1048576: true; the input reads as it did. -/
def runesFreshUptoRow : OpenClaim := { program := "ytlmhcjomegiibaa", sum := "7fbf47b262eb28a8e5940c6b786a3eecfaca6d62bd10107d7c634da29f18a4df", func := "emend/emendlaw01.RunesFresh", spec := "runesFresh", inPlace := ["internal/abi.NoEscape"], apart := false, narrowed := true }
def RunesFreshUptoSaid : Prop := runesFreshUptoRow.holds Try.pinned (OpenSpec.upto runesFreshSpec)

/-- 'emendlaw02.ClassTells', WHERE WHAT IT READS IS OF BULK AT MOST 1048576: true; the input reads as it did. -/
def classTellsUptoRow : OpenClaim := { program := "ytlmhcjomegiibaa", sum := "7fbf47b262eb28a8e5940c6b786a3eecfaca6d62bd10107d7c634da29f18a4df", func := "emend/emendlaw02.ClassTells", spec := "classTells", apart := false, narrowed := true }
def ClassTellsUptoSaid : Prop := classTellsUptoRow.holds Try.pinned (OpenSpec.upto classTellsSpec)

/-- 'emendlaw02.ClassNames', WHERE WHAT IT READS IS OF BULK AT MOST 1048576: true; the input reads as it did. -/
def classNamesUptoRow : OpenClaim := { program := "ytlmhcjomegiibaa", sum := "7fbf47b262eb28a8e5940c6b786a3eecfaca6d62bd10107d7c634da29f18a4df", func := "emend/emendlaw02.ClassNames", spec := "classNames", apart := false, narrowed := true }
def ClassNamesUptoSaid : Prop := classNamesUptoRow.holds Try.pinned (OpenSpec.upto classNamesSpec)

/-- 'emendlaw02.ClassApart', WHERE WHAT IT READS IS OF BULK AT MOST 1048576: true; the input reads as it did. -/
def classApartUptoRow : OpenClaim := { program := "ytlmhcjomegiibaa", sum := "7fbf47b262eb28a8e5940c6b786a3eecfaca6d62bd10107d7c634da29f18a4df", func := "emend/emendlaw02.ClassApart", spec := "classApart", apart := false, narrowed := true }
def ClassApartUptoSaid : Prop := classApartUptoRow.holds Try.pinned (OpenSpec.upto classApartSpec)

/-- 'emendlaw02.ClassLonger', WHERE WHAT IT READS IS OF BULK AT MOST 1048576: true; the input reads as it did. -/
def classLongerUptoRow : OpenClaim := { program := "ytlmhcjomegiibaa", sum := "7fbf47b262eb28a8e5940c6b786a3eecfaca6d62bd10107d7c634da29f18a4df", func := "emend/emendlaw02.ClassLonger", spec := "classLonger", apart := false, narrowed := true }
def ClassLongerUptoSaid : Prop := classLongerUptoRow.holds Try.pinned (OpenSpec.upto classLongerSpec)

/-- 'emendlaw02.ClassEdges', WHERE WHAT IT READS IS OF BULK AT MOST 1048576: true; the input reads as it did. -/
def classEdgesUptoRow : OpenClaim := { program := "ytlmhcjomegiibaa", sum := "7fbf47b262eb28a8e5940c6b786a3eecfaca6d62bd10107d7c634da29f18a4df", func := "emend/emendlaw02.ClassEdges", spec := "classEdges", apart := false, narrowed := true }
def ClassEdgesUptoSaid : Prop := classEdgesUptoRow.holds Try.pinned (OpenSpec.upto classEdgesSpec)

end Rows
end Go.Proofs.Ytlmhcjomegiibaa
