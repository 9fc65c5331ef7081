/-
  No cell of these rows narrows 'for every input' (looked for: loops, veiled, ifaces, maps, wideKeys, modest, calm, conditions, laid).
  DERIVED. THE GIVEN ROWS OF THIS SEAT. 11 by the template 'for every input the law returns true; each argument reads behind the call as it read before'; 0 by the template 'total and deterministic' (their statements: YtllobkppehlgbaaTotals.lean).
  GIVEN WITH THE SEED: the statements are not yours to turn. If you find one false, say at which input.
  Laid BY PROGRAM, IN A SANDBOX (cutbox-rows.mjs): the forced cells as the released guide's own fill.sh prints them over the translation 25b7e37ffbe84b3b… (all of the seat's roots in one cut). By AI agents, Wed Nov 11 2026. No macro, syntax, notation, axiom, sorry.
-/
import Derived.Test.YtllobkppehlgbaaChecked
import GoSem.Claim
import GoSem.ClaimJoined
import GoSem.ClaimMapViews
import Derived.JoinedTies
import Derived.KernelRfl
namespace Go.Proofs.Ytllobkppehlgbaa
/- THE CELL 'sum', in the pinned program and in every row, IS THE sha256 OF THE DUMP (.gsa) THAT YtllobkppehlgbaaProg.lean LOADS. Nothing in Lean hashes anything: it is a label: what it is worth is what the hold of that sum in a sandbox is worth. -/
noncomputable def Try.pinned : Pinned := { name := "ytllobkppehlgbaa", sum := "25b7e37ffbe84b3b4c45dff6dfd4fb4d5a28c84211af75cbc5ae8fa480514fe9", checked := Try.checked }
namespace Rows
def none {H : Type} : Left H := { results := [], args := [] }

/-- 'nameplanlaw01.NameLabels': WHATEVER THE INPUT: true; the input reads as it did. -/
def nameLabelsSpec : ChangeSpec := { name := "nameLabels", fn := fun _ => fun
  | [d1, d2] => { results := [.lit (.bool true)], args := [d1, d2] }
  | _ => none }
def nameLabelsRow : OpenClaim := { program := "ytllobkppehlgbaa", sum := "25b7e37ffbe84b3b4c45dff6dfd4fb4d5a28c84211af75cbc5ae8fa480514fe9", func := "nameplan/nameplanlaw01.NameLabels", spec := "nameLabels", inPlace := ["internal/bytealg.IndexByteString", "internal/bytealg.abigen_runtime_cmpstring", "internal/abi.NoEscape", "internal/bytealg.MakeNoZero"], unfollowed := true, recurses := true, apart := false }
def NameLabelsSaid : Prop := nameLabelsRow.holds Try.pinned (OpenSpec.ofChange nameLabelsSpec)

/-- ITS FALSE NEIGHBOUR: 'it returns false'. Refute it at one input. -/
def nameLabelsWrong : ChangeSpec := { name := "nameLabels", fn := fun _ => fun
  | [d1, d2] => { results := [.lit (.bool false)], args := [d1, d2] }
  | _ => none }
def NameLabelsWrongFalsely : Prop := nameLabelsRow.holds Try.pinned (OpenSpec.ofChange nameLabelsWrong)

/-- 'nameplanlaw01.NameOrder': WHATEVER THE INPUT: true; the input reads as it did. -/
def nameOrderSpec : ChangeSpec := { name := "nameOrder", fn := fun _ => fun
  | [d1, d2, d3] => { results := [.lit (.bool true)], args := [d1, d2, d3] }
  | _ => none }
def nameOrderRow : OpenClaim := { program := "ytllobkppehlgbaa", sum := "25b7e37ffbe84b3b4c45dff6dfd4fb4d5a28c84211af75cbc5ae8fa480514fe9", func := "nameplan/nameplanlaw01.NameOrder", spec := "nameOrder", inPlace := ["internal/bytealg.IndexByteString", "internal/bytealg.abigen_runtime_cmpstring"], unfollowed := true, recurses := true, apart := false }
def NameOrderSaid : Prop := nameOrderRow.holds Try.pinned (OpenSpec.ofChange nameOrderSpec)

/-- ITS FALSE NEIGHBOUR: 'it returns false'. Refute it at one input. -/
def nameOrderWrong : ChangeSpec := { name := "nameOrder", fn := fun _ => fun
  | [d1, d2, d3] => { results := [.lit (.bool false)], args := [d1, d2, d3] }
  | _ => none }
def NameOrderWrongFalsely : Prop := nameOrderRow.holds Try.pinned (OpenSpec.ofChange nameOrderWrong)

/-- 'nameplanlaw01.NameTree': WHATEVER THE INPUT: true; the input reads as it did. -/
def nameTreeSpec : ChangeSpec := { name := "nameTree", fn := fun _ => fun
  | [d1, d2, d3] => { results := [.lit (.bool true)], args := [d1, d2, d3] }
  | _ => none }
def nameTreeRow : OpenClaim := { program := "ytllobkppehlgbaa", sum := "25b7e37ffbe84b3b4c45dff6dfd4fb4d5a28c84211af75cbc5ae8fa480514fe9", func := "nameplan/nameplanlaw01.NameTree", spec := "nameTree", inPlace := ["internal/bytealg.IndexByteString", "internal/bytealg.abigen_runtime_cmpstring"], unfollowed := true, recurses := true, apart := false }
def NameTreeSaid : Prop := nameTreeRow.holds Try.pinned (OpenSpec.ofChange nameTreeSpec)

/-- ITS FALSE NEIGHBOUR: 'it returns false'. Refute it at one input. -/
def nameTreeWrong : ChangeSpec := { name := "nameTree", fn := fun _ => fun
  | [d1, d2, d3] => { results := [.lit (.bool false)], args := [d1, d2, d3] }
  | _ => none }
def NameTreeWrongFalsely : Prop := nameTreeRow.holds Try.pinned (OpenSpec.ofChange nameTreeWrong)

/-- 'nameplanlaw01.NameStretches': WHATEVER THE INPUT: true; the input reads as it did. -/
def nameStretchesSpec : ChangeSpec := { name := "nameStretches", fn := fun _ => fun
  | [d1, d2, d3, d4] => { results := [.lit (.bool true)], args := [d1, d2, d3, d4] }
  | _ => none }
def nameStretchesRow : OpenClaim := { program := "ytllobkppehlgbaa", sum := "25b7e37ffbe84b3b4c45dff6dfd4fb4d5a28c84211af75cbc5ae8fa480514fe9", func := "nameplan/nameplanlaw01.NameStretches", spec := "nameStretches", inPlace := ["internal/bytealg.IndexByteString", "internal/bytealg.abigen_runtime_cmpstring"], unfollowed := true, recurses := true, apart := false }
def NameStretchesSaid : Prop := nameStretchesRow.holds Try.pinned (OpenSpec.ofChange nameStretchesSpec)

/-- ITS FALSE NEIGHBOUR: 'it returns false'. Refute it at one input. -/
def nameStretchesWrong : ChangeSpec := { name := "nameStretches", fn := fun _ => fun
  | [d1, d2, d3, d4] => { results := [.lit (.bool false)], args := [d1, d2, d3, d4] }
  | _ => none }
def NameStretchesWrongFalsely : Prop := nameStretchesRow.holds Try.pinned (OpenSpec.ofChange nameStretchesWrong)

/-- 'nameplanlaw01.NameCommon': WHATEVER THE INPUT: true; the input reads as it did. -/
def nameCommonSpec : ChangeSpec := { name := "nameCommon", fn := fun _ => fun
  | [d1, d2, d3] => { results := [.lit (.bool true)], args := [d1, d2, d3] }
  | _ => none }
def nameCommonRow : OpenClaim := { program := "ytllobkppehlgbaa", sum := "25b7e37ffbe84b3b4c45dff6dfd4fb4d5a28c84211af75cbc5ae8fa480514fe9", func := "nameplan/nameplanlaw01.NameCommon", spec := "nameCommon", inPlace := ["internal/bytealg.IndexByteString", "internal/bytealg.abigen_runtime_cmpstring"], unfollowed := true, recurses := true, apart := false }
def NameCommonSaid : Prop := nameCommonRow.holds Try.pinned (OpenSpec.ofChange nameCommonSpec)

/-- ITS FALSE NEIGHBOUR: 'it returns false'. Refute it at one input. -/
def nameCommonWrong : ChangeSpec := { name := "nameCommon", fn := fun _ => fun
  | [d1, d2, d3] => { results := [.lit (.bool false)], args := [d1, d2, d3] }
  | _ => none }
def NameCommonWrongFalsely : Prop := nameCommonRow.holds Try.pinned (OpenSpec.ofChange nameCommonWrong)

/-- 'nameplanlaw01.NameBelow': WHATEVER THE INPUT: true; the input reads as it did. -/
def nameBelowSpec : ChangeSpec := { name := "nameBelow", fn := fun _ => fun
  | [d1, d2, d3] => { results := [.lit (.bool true)], args := [d1, d2, d3] }
  | _ => none }
def nameBelowRow : OpenClaim := { program := "ytllobkppehlgbaa", sum := "25b7e37ffbe84b3b4c45dff6dfd4fb4d5a28c84211af75cbc5ae8fa480514fe9", func := "nameplan/nameplanlaw01.NameBelow", spec := "nameBelow", inPlace := ["internal/bytealg.IndexByteString", "internal/bytealg.abigen_runtime_cmpstring", "internal/abi.NoEscape", "internal/bytealg.MakeNoZero"], unfollowed := true, recurses := true, apart := false }
def NameBelowSaid : Prop := nameBelowRow.holds Try.pinned (OpenSpec.ofChange nameBelowSpec)

/-- ITS FALSE NEIGHBOUR: 'it returns false'. Refute it at one input. -/
def nameBelowWrong : ChangeSpec := { name := "nameBelow", fn := fun _ => fun
  | [d1, d2, d3] => { results := [.lit (.bool false)], args := [d1, d2, d3] }
  | _ => none }
def NameBelowWrongFalsely : Prop := nameBelowRow.holds Try.pinned (OpenSpec.ofChange nameBelowWrong)

/-- 'nameplanlaw03.LexerMatchesReference': WHATEVER THE INPUT: true; the input reads as it did. -/
def lexerMatchesReferenceSpec : ChangeSpec := { name := "lexerMatchesReference", fn := fun _ => fun
  | [d] => { results := [.lit (.bool true)], args := [d] }
  | _ => none }
def lexerMatchesReferenceRow : OpenClaim := { program := "ytllobkppehlgbaa", sum := "25b7e37ffbe84b3b4c45dff6dfd4fb4d5a28c84211af75cbc5ae8fa480514fe9", func := "nameplan/nameplanlaw03.LexerMatchesReference", spec := "lexerMatchesReference", unfollowed := true, recurses := true, apart := false }
def LexerMatchesReferenceSaid : Prop := lexerMatchesReferenceRow.holds Try.pinned (OpenSpec.ofChange lexerMatchesReferenceSpec)

/-- ITS FALSE NEIGHBOUR: 'it returns false'. Refute it at one input. -/
def lexerMatchesReferenceWrong : ChangeSpec := { name := "lexerMatchesReference", fn := fun _ => fun
  | [d] => { results := [.lit (.bool false)], args := [d] }
  | _ => none }
def LexerMatchesReferenceWrongFalsely : Prop := lexerMatchesReferenceRow.holds Try.pinned (OpenSpec.ofChange lexerMatchesReferenceWrong)

/-- 'nameplanlaw03.LexerGaps': WHATEVER THE INPUT: true; the input reads as it did. -/
def lexerGapsSpec : ChangeSpec := { name := "lexerGaps", fn := fun _ => fun
  | [d1, d2, d3] => { results := [.lit (.bool true)], args := [d1, d2, d3] }
  | _ => none }
def lexerGapsRow : OpenClaim := { program := "ytllobkppehlgbaa", sum := "25b7e37ffbe84b3b4c45dff6dfd4fb4d5a28c84211af75cbc5ae8fa480514fe9", func := "nameplan/nameplanlaw03.LexerGaps", spec := "lexerGaps", inPlace := ["internal/bytealg.IndexByteString", "internal/bytealg.IndexString"], unfollowed := true, recurses := true, named := ["internal/bytealg.MaxLen"], apart := false }
def LexerGapsSaid : Prop := lexerGapsRow.holds Try.pinned (OpenSpec.ofChange lexerGapsSpec)

/-- ITS FALSE NEIGHBOUR: 'it returns false'. Refute it at one input. -/
def lexerGapsWrong : ChangeSpec := { name := "lexerGaps", fn := fun _ => fun
  | [d1, d2, d3] => { results := [.lit (.bool false)], args := [d1, d2, d3] }
  | _ => none }
def LexerGapsWrongFalsely : Prop := lexerGapsRow.holds Try.pinned (OpenSpec.ofChange lexerGapsWrong)

/-- 'nameplanlaw03.LexerJoin': WHATEVER THE INPUT: true; the input reads as it did. -/
def lexerJoinSpec : ChangeSpec := { name := "lexerJoin", fn := fun _ => fun
  | [d1, d2] => { results := [.lit (.bool true)], args := [d1, d2] }
  | _ => none }
def lexerJoinRow : OpenClaim := { program := "ytllobkppehlgbaa", sum := "25b7e37ffbe84b3b4c45dff6dfd4fb4d5a28c84211af75cbc5ae8fa480514fe9", func := "nameplan/nameplanlaw03.LexerJoin", spec := "lexerJoin", unfollowed := true, recurses := true, apart := false }
def LexerJoinSaid : Prop := lexerJoinRow.holds Try.pinned (OpenSpec.ofChange lexerJoinSpec)

/-- ITS FALSE NEIGHBOUR: 'it returns false'. Refute it at one input. -/
def lexerJoinWrong : ChangeSpec := { name := "lexerJoin", fn := fun _ => fun
  | [d1, d2] => { results := [.lit (.bool false)], args := [d1, d2] }
  | _ => none }
def LexerJoinWrongFalsely : Prop := lexerJoinRow.holds Try.pinned (OpenSpec.ofChange lexerJoinWrong)

/-- 'nameplanlaw03.LexerTexts': WHATEVER THE INPUT: true; the input reads as it did. -/
def lexerTextsSpec : ChangeSpec := { name := "lexerTexts", fn := fun _ => fun
  | [d] => { results := [.lit (.bool true)], args := [d] }
  | _ => none }
def lexerTextsRow : OpenClaim := { program := "ytllobkppehlgbaa", sum := "25b7e37ffbe84b3b4c45dff6dfd4fb4d5a28c84211af75cbc5ae8fa480514fe9", func := "nameplan/nameplanlaw03.LexerTexts", spec := "lexerTexts", inPlace := ["internal/abi.NoEscape", "internal/bytealg.MakeNoZero"], unfollowed := true, recurses := true, apart := false }
def LexerTextsSaid : Prop := lexerTextsRow.holds Try.pinned (OpenSpec.ofChange lexerTextsSpec)

/-- ITS FALSE NEIGHBOUR: 'it returns false'. Refute it at one input. -/
def lexerTextsWrong : ChangeSpec := { name := "lexerTexts", fn := fun _ => fun
  | [d] => { results := [.lit (.bool false)], args := [d] }
  | _ => none }
def LexerTextsWrongFalsely : Prop := lexerTextsRow.holds Try.pinned (OpenSpec.ofChange lexerTextsWrong)

/-- 'nameplanlaw03.LexerErrors': WHATEVER THE INPUT: true; the input reads as it did. -/
def lexerErrorsSpec : ChangeSpec := { name := "lexerErrors", fn := fun _ => fun
  | [d1, d2, d3] => { results := [.lit (.bool true)], args := [d1, d2, d3] }
  | _ => none }
def lexerErrorsRow : OpenClaim := { program := "ytllobkppehlgbaa", sum := "25b7e37ffbe84b3b4c45dff6dfd4fb4d5a28c84211af75cbc5ae8fa480514fe9", func := "nameplan/nameplanlaw03.LexerErrors", spec := "lexerErrors", inPlace := ["internal/bytealg.IndexByteString", "internal/bytealg.IndexString"], unfollowed := true, recurses := true, named := ["internal/bytealg.MaxLen"], apart := false }
def LexerErrorsSaid : Prop := lexerErrorsRow.holds Try.pinned (OpenSpec.ofChange lexerErrorsSpec)

/-- ITS FALSE NEIGHBOUR: 'it returns false'. Refute it at one input. -/
def lexerErrorsWrong : ChangeSpec := { name := "lexerErrors", fn := fun _ => fun
  | [d1, d2, d3] => { results := [.lit (.bool false)], args := [d1, d2, d3] }
  | _ => none }
def LexerErrorsWrongFalsely : Prop := lexerErrorsRow.holds Try.pinned (OpenSpec.ofChange lexerErrorsWrong)

/- THE SECOND FORM. 'bulk': how many values and letters a reading holds, each counted each time it is reached (what is shared counts as often as it is met; a slice's spare places count too). A statement '..UptoSaid' is the law's where the arguments, and the package variables that the reading takes, are together of bulk at most 1048576: NARROWER than '..Said'. Prove '..Said' where nothing that the law and all that it calls make is longer than what came in: it says more and counts as full. Else prove '..UptoSaid'. A law counts once. -/
mutual
def uptoBulk {H : Type} : DataW H → Nat
  | .lit (.string bytes) => bytes.length + 1
  | .lit _ => 1
  | .nil => 1
  | .ptr d => uptoBulk d + 1
  | .slice elems spare => uptoBulkAll elems + uptoBulkAll spare + 1
  | .agg parts => uptoBulkAll parts + 1
  | .iface _ d => uptoBulk d + 1
  | .map entries => uptoBulkEntries entries + 1
  | .held _ => 1
def uptoBulkAll {H : Type} : List (DataW H) → Nat
  | [] => 0
  | d :: r => uptoBulk d + uptoBulkAll r
def uptoBulkEntries {H : Type} : List (Lit × DataW H) → Nat
  | [] => 0
  | x :: r => uptoBulkEntry x + uptoBulkEntries r
def uptoBulkEntry {H : Type} : Lit × DataW H → Nat
  | (.string bytes, d) => bytes.length + uptoBulk d + 1
  | (_, d) => uptoBulk d + 1
 end
def uptoSmall : (H : Type) → List (DataW H) → Bool := fun _ ds => decide (uptoBulkAll ds ≤ 1048576)
def OpenSpec.upto (s : _root_.Go.ChangeSpec) : _root_.Go.OpenSpec := { _root_.Go.OpenSpec.ofChange s with cond := some uptoSmall }

/-- 'nameplanlaw01.NameLabels', WHERE WHAT IT READS IS OF BULK AT MOST 1048576: true; the input reads as it did. -/
def nameLabelsUptoRow : OpenClaim := { program := "ytllobkppehlgbaa", sum := "25b7e37ffbe84b3b4c45dff6dfd4fb4d5a28c84211af75cbc5ae8fa480514fe9", func := "nameplan/nameplanlaw01.NameLabels", spec := "nameLabels", inPlace := ["internal/bytealg.IndexByteString", "internal/bytealg.abigen_runtime_cmpstring", "internal/abi.NoEscape", "internal/bytealg.MakeNoZero"], unfollowed := true, recurses := true, apart := false, narrowed := true }
def NameLabelsUptoSaid : Prop := nameLabelsUptoRow.holds Try.pinned (OpenSpec.upto nameLabelsSpec)

/-- 'nameplanlaw01.NameOrder', WHERE WHAT IT READS IS OF BULK AT MOST 1048576: true; the input reads as it did. -/
def nameOrderUptoRow : OpenClaim := { program := "ytllobkppehlgbaa", sum := "25b7e37ffbe84b3b4c45dff6dfd4fb4d5a28c84211af75cbc5ae8fa480514fe9", func := "nameplan/nameplanlaw01.NameOrder", spec := "nameOrder", inPlace := ["internal/bytealg.IndexByteString", "internal/bytealg.abigen_runtime_cmpstring"], unfollowed := true, recurses := true, apart := false, narrowed := true }
def NameOrderUptoSaid : Prop := nameOrderUptoRow.holds Try.pinned (OpenSpec.upto nameOrderSpec)

/-- 'nameplanlaw01.NameTree', WHERE WHAT IT READS IS OF BULK AT MOST 1048576: true; the input reads as it did. -/
def nameTreeUptoRow : OpenClaim := { program := "ytllobkppehlgbaa", sum := "25b7e37ffbe84b3b4c45dff6dfd4fb4d5a28c84211af75cbc5ae8fa480514fe9", func := "nameplan/nameplanlaw01.NameTree", spec := "nameTree", inPlace := ["internal/bytealg.IndexByteString", "internal/bytealg.abigen_runtime_cmpstring"], unfollowed := true, recurses := true, apart := false, narrowed := true }
def NameTreeUptoSaid : Prop := nameTreeUptoRow.holds Try.pinned (OpenSpec.upto nameTreeSpec)

/-- 'nameplanlaw01.NameStretches', WHERE WHAT IT READS IS OF BULK AT MOST 1048576: true; the input reads as it did. -/
def nameStretchesUptoRow : OpenClaim := { program := "ytllobkppehlgbaa", sum := "25b7e37ffbe84b3b4c45dff6dfd4fb4d5a28c84211af75cbc5ae8fa480514fe9", func := "nameplan/nameplanlaw01.NameStretches", spec := "nameStretches", inPlace := ["internal/bytealg.IndexByteString", "internal/bytealg.abigen_runtime_cmpstring"], unfollowed := true, recurses := true, apart := false, narrowed := true }
def NameStretchesUptoSaid : Prop := nameStretchesUptoRow.holds Try.pinned (OpenSpec.upto nameStretchesSpec)

/-- 'nameplanlaw01.NameCommon', WHERE WHAT IT READS IS OF BULK AT MOST 1048576: true; the input reads as it did. -/
def nameCommonUptoRow : OpenClaim := { program := "ytllobkppehlgbaa", sum := "25b7e37ffbe84b3b4c45dff6dfd4fb4d5a28c84211af75cbc5ae8fa480514fe9", func := "nameplan/nameplanlaw01.NameCommon", spec := "nameCommon", inPlace := ["internal/bytealg.IndexByteString", "internal/bytealg.abigen_runtime_cmpstring"], unfollowed := true, recurses := true, apart := false, narrowed := true }
def NameCommonUptoSaid : Prop := nameCommonUptoRow.holds Try.pinned (OpenSpec.upto nameCommonSpec)

/-- 'nameplanlaw01.NameBelow', WHERE WHAT IT READS IS OF BULK AT MOST 1048576: true; the input reads as it did. -/
def nameBelowUptoRow : OpenClaim := { program := "ytllobkppehlgbaa", sum := "25b7e37ffbe84b3b4c45dff6dfd4fb4d5a28c84211af75cbc5ae8fa480514fe9", func := "nameplan/nameplanlaw01.NameBelow", spec := "nameBelow", inPlace := ["internal/bytealg.IndexByteString", "internal/bytealg.abigen_runtime_cmpstring", "internal/abi.NoEscape", "internal/bytealg.MakeNoZero"], unfollowed := true, recurses := true, apart := false, narrowed := true }
def NameBelowUptoSaid : Prop := nameBelowUptoRow.holds Try.pinned (OpenSpec.upto nameBelowSpec)

/-- 'nameplanlaw03.LexerMatchesReference', WHERE WHAT IT READS IS OF BULK AT MOST 1048576: true; the input reads as it did. -/
def lexerMatchesReferenceUptoRow : OpenClaim := { program := "ytllobkppehlgbaa", sum := "25b7e37ffbe84b3b4c45dff6dfd4fb4d5a28c84211af75cbc5ae8fa480514fe9", func := "nameplan/nameplanlaw03.LexerMatchesReference", spec := "lexerMatchesReference", unfollowed := true, recurses := true, apart := false, narrowed := true }
def LexerMatchesReferenceUptoSaid : Prop := lexerMatchesReferenceUptoRow.holds Try.pinned (OpenSpec.upto lexerMatchesReferenceSpec)

/-- 'nameplanlaw03.LexerGaps', WHERE WHAT IT READS IS OF BULK AT MOST 1048576: true; the input reads as it did. -/
def lexerGapsUptoRow : OpenClaim := { program := "ytllobkppehlgbaa", sum := "25b7e37ffbe84b3b4c45dff6dfd4fb4d5a28c84211af75cbc5ae8fa480514fe9", func := "nameplan/nameplanlaw03.LexerGaps", spec := "lexerGaps", inPlace := ["internal/bytealg.IndexByteString", "internal/bytealg.IndexString"], unfollowed := true, recurses := true, named := ["internal/bytealg.MaxLen"], apart := false, narrowed := true }
def LexerGapsUptoSaid : Prop := lexerGapsUptoRow.holds Try.pinned (OpenSpec.upto lexerGapsSpec)

/-- 'nameplanlaw03.LexerJoin', WHERE WHAT IT READS IS OF BULK AT MOST 1048576: true; the input reads as it did. -/
def lexerJoinUptoRow : OpenClaim := { program := "ytllobkppehlgbaa", sum := "25b7e37ffbe84b3b4c45dff6dfd4fb4d5a28c84211af75cbc5ae8fa480514fe9", func := "nameplan/nameplanlaw03.LexerJoin", spec := "lexerJoin", unfollowed := true, recurses := true, apart := false, narrowed := true }
def LexerJoinUptoSaid : Prop := lexerJoinUptoRow.holds Try.pinned (OpenSpec.upto lexerJoinSpec)

/-- 'nameplanlaw03.LexerTexts', WHERE WHAT IT READS IS OF BULK AT MOST 1048576: true; the input reads as it did. -/
def lexerTextsUptoRow : OpenClaim := { program := "ytllobkppehlgbaa", sum := "25b7e37ffbe84b3b4c45dff6dfd4fb4d5a28c84211af75cbc5ae8fa480514fe9", func := "nameplan/nameplanlaw03.LexerTexts", spec := "lexerTexts", inPlace := ["internal/abi.NoEscape", "internal/bytealg.MakeNoZero"], unfollowed := true, recurses := true, apart := false, narrowed := true }
def LexerTextsUptoSaid : Prop := lexerTextsUptoRow.holds Try.pinned (OpenSpec.upto lexerTextsSpec)

/-- 'nameplanlaw03.LexerErrors', WHERE WHAT IT READS IS OF BULK AT MOST 1048576: true; the input reads as it did. -/
def lexerErrorsUptoRow : OpenClaim := { program := "ytllobkppehlgbaa", sum := "25b7e37ffbe84b3b4c45dff6dfd4fb4d5a28c84211af75cbc5ae8fa480514fe9", func := "nameplan/nameplanlaw03.LexerErrors", spec := "lexerErrors", inPlace := ["internal/bytealg.IndexByteString", "internal/bytealg.IndexString"], unfollowed := true, recurses := true, named := ["internal/bytealg.MaxLen"], apart := false, narrowed := true }
def LexerErrorsUptoSaid : Prop := lexerErrorsUptoRow.holds Try.pinned (OpenSpec.upto lexerErrorsSpec)

end Rows
end Go.Proofs.Ytllobkppehlgbaa
