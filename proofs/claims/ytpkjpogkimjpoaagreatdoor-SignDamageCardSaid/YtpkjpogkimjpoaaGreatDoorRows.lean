/-
  NARROWER THAN 'FOR EVERY INPUT', by the rows' own cells (each row's printed sentence says how): SignAccepted: laid · SignDamage: laid.
  DERIVED. THE GIVEN ROWS OF THIS SEAT. 2 by the template 'for every input the law returns true; each argument reads behind the call as it read before'; 0 by the template 'total and deterministic' (their statements: YtpkjpogkimjpoaaGreatDoorTotals.lean).
  GIVEN WITH THE SEED: the statements are not yours to turn. If you find one false, say at which input.
  Laid BY PROGRAM, IN A SANDBOX (cutbox-rows.mjs): the forced cells as the released guide's own fill.sh prints them over the translation 541a5189b9cd3043… (all of the seat's roots in one cut). By AI agents, Wed Nov 11 2026. No macro, syntax, notation, axiom, sorry.
-/
import Derived.Test.YtpkjpogkimjpoaaGreatDoorChecked
import GoSem.Claim
import GoSem.ClaimJoined
import GoSem.ClaimMapViews
import Derived.JoinedTies
import Derived.KernelRfl
namespace Go.Proofs.YtpkjpogkimjpoaaGreatDoor
/- THE CELL 'sum', in the pinned program and in every row, IS THE sha256 OF THE DUMP (.gsa) THAT YtpkjpogkimjpoaaGreatDoorProg.lean LOADS. Nothing in Lean hashes anything: it is a label: what it is worth is what the hold of that sum in a sandbox is worth. -/
noncomputable def Tryz.pinned : Pinned := { name := "ytpkjpogkimjpoaagreatdoor", sum := "541a5189b9cd30431924b7d6542fb67aa005698a5d90d0908b4b9fef54736a26", checked := Tryz.checked }
namespace Rows
def none {H : Type} : Left H := { results := [], args := [] }

/- WHAT THE LISTED PACKAGE-LEVEL VARIABLES READ AS WHEN THE CALL BEGINS. Each datum BY PROGRAM (the guide's laid-datum.mjs) off the statement by which the dump's own 'gosem.cut.vars' lays the variable. In a bare row this is a premise. The card (YtpkjpogkimjpoaaGreatDoorCards.lean) ties it to the program's text. -/
def laid_nameplan_record_rules {H : Type} : DataW H := .agg [.agg [.lit (.int .i64 0), .lit (.int .i64 0), .lit (.int .i64 0), .lit (.int .i64 0), .lit (.int .i64 0), .lit (.bool false), .lit (.bool false)], .agg [.lit (.int .i64 0), .lit (.int .i64 1), .lit (.int .i64 1000000), .lit (.int .i64 0), .lit (.int .i64 0), .lit (.bool false), .lit (.bool true)], .agg [.lit (.int .i64 1), .lit (.int .i64 0), .lit (.int .i64 0), .lit (.int .i64 0), .lit (.int .i64 0), .lit (.bool false), .lit (.bool false)], .agg [.lit (.int .i64 1), .lit (.int .i64 0), .lit (.int .i64 0), .lit (.int .i64 0), .lit (.int .i64 0), .lit (.bool true), .lit (.bool false)], .agg [.lit (.int .i64 0), .lit (.int .i64 0), .lit (.int .i64 65535), .lit (.int .i64 0), .lit (.int .i64 100000), .lit (.bool true), .lit (.bool false)], .agg [.lit (.int .i64 2), .lit (.int .i64 0), .lit (.int .i64 0), .lit (.int .i64 0), .lit (.int .i64 0), .lit (.bool false), .lit (.bool true)], .agg [.lit (.int .i64 0), .lit (.int .i64 1), .lit (.int .i64 1000000), .lit (.int .i64 1), .lit (.int .i64 3), .lit (.bool false), .lit (.bool false)], .agg [.lit (.int .i64 0), .lit (.int .i64 1), .lit (.int .i64 1000000), .lit (.int .i64 1), .lit (.int .i64 3), .lit (.bool false), .lit (.bool false)], .agg [.lit (.int .i64 3), .lit (.int .i64 2), .lit (.int .i64 510), .lit (.int .i64 0), .lit (.int .i64 0), .lit (.bool false), .lit (.bool true)]]

/-- 'nameplanlaw08.SignAccepted': WHATEVER THE INPUT: true; the input reads as it did. -/
def signAcceptedSpec : ChangeSpec := { name := "signAccepted", fn := fun _ => fun
  | [d1, d2, d3, d4, d5, d6, d7] => { results := [.lit (.bool true)], args := [d1, d2, d3, d4, d5, d6, d7] }
  | _ => none }
def signAcceptedRow : OpenClaim := { program := "ytpkjpogkimjpoaagreatdoor", sum := "541a5189b9cd30431924b7d6542fb67aa005698a5d90d0908b4b9fef54736a26", func := "nameplan/nameplanlaw08.SignAccepted", spec := "signAccepted", inPlace := ["internal/bytealg.abigen_runtime_cmpstring"], unfollowed := true, recurses := true, named := ["nameplan/record.rules"], apart := false, laid := [("nameplan/record.rules", laid_nameplan_record_rules)] }
def SignAcceptedSaid : Prop := signAcceptedRow.holds Tryz.pinned (OpenSpec.ofChange signAcceptedSpec)

/-- ITS FALSE NEIGHBOUR: 'it returns false'. Refute it at one input. -/
def signAcceptedWrong : ChangeSpec := { name := "signAccepted", fn := fun _ => fun
  | [d1, d2, d3, d4, d5, d6, d7] => { results := [.lit (.bool false)], args := [d1, d2, d3, d4, d5, d6, d7] }
  | _ => none }
def SignAcceptedWrongFalsely : Prop := signAcceptedRow.holds Tryz.pinned (OpenSpec.ofChange signAcceptedWrong)

/-- 'nameplanlaw08.SignDamage': WHATEVER THE INPUT: true; the input reads as it did. -/
def signDamageSpec : ChangeSpec := { name := "signDamage", fn := fun _ => fun
  | [d1, d2, d3, d4, d5, d6, d7, d8] => { results := [.lit (.bool true)], args := [d1, d2, d3, d4, d5, d6, d7, d8] }
  | _ => none }
def signDamageRow : OpenClaim := { program := "ytpkjpogkimjpoaagreatdoor", sum := "541a5189b9cd30431924b7d6542fb67aa005698a5d90d0908b4b9fef54736a26", func := "nameplan/nameplanlaw08.SignDamage", spec := "signDamage", inPlace := ["internal/bytealg.abigen_runtime_cmpstring"], unfollowed := true, recurses := true, named := ["nameplan/record.rules"], apart := false, laid := [("nameplan/record.rules", laid_nameplan_record_rules)] }
def SignDamageSaid : Prop := signDamageRow.holds Tryz.pinned (OpenSpec.ofChange signDamageSpec)

/-- ITS FALSE NEIGHBOUR: 'it returns false'. Refute it at one input. -/
def signDamageWrong : ChangeSpec := { name := "signDamage", fn := fun _ => fun
  | [d1, d2, d3, d4, d5, d6, d7, d8] => { results := [.lit (.bool false)], args := [d1, d2, d3, d4, d5, d6, d7, d8] }
  | _ => none }
def SignDamageWrongFalsely : Prop := signDamageRow.holds Tryz.pinned (OpenSpec.ofChange signDamageWrong)

/- THE SECOND FORM. 'bulk': how many values and letters a reading holds, each counted each time it is reached (what is shared counts as often as it is met; a slice's spare places count too). A statement '..UptoSaid' is the law's where the arguments, and the package variables that the reading takes, are together of bulk at most 1048576: NARROWER than '..Said'. Prove '..Said' where nothing that the law and all that it calls make is longer than what came in: it says more and counts as full. Else prove '..UptoSaid'. A law counts once. -/
mutual
def uptoBulk {H : Type} : DataW H → Nat
  | .lit (.string bytes) => bytes.length + 1
  | .lit _ => 1
  | .nil => 1
  | .ptr d => uptoBulk d + 1
  | .slice elems spare => uptoBulkAll elems + uptoBulkAll spare + 1
  | .agg parts => uptoBulkAll parts + 1
  | .iface _ d => uptoBulk d + 1
  | .map entries => uptoBulkEntries entries + 1
  | .held _ => 1
def uptoBulkAll {H : Type} : List (DataW H) → Nat
  | [] => 0
  | d :: r => uptoBulk d + uptoBulkAll r
def uptoBulkEntries {H : Type} : List (Lit × DataW H) → Nat
  | [] => 0
  | x :: r => uptoBulkEntry x + uptoBulkEntries r
def uptoBulkEntry {H : Type} : Lit × DataW H → Nat
  | (.string bytes, d) => bytes.length + uptoBulk d + 1
  | (_, d) => uptoBulk d + 1
 end
def uptoSmall : (H : Type) → List (DataW H) → Bool := fun _ ds => decide (uptoBulkAll ds ≤ 1048576)
def OpenSpec.upto (s : _root_.Go.ChangeSpec) : _root_.Go.OpenSpec := { _root_.Go.OpenSpec.ofChange s with cond := some uptoSmall }

/-- 'nameplanlaw08.SignAccepted', WHERE WHAT IT READS IS OF BULK AT MOST 1048576: true; the input reads as it did. -/
def signAcceptedUptoRow : OpenClaim := { program := "ytpkjpogkimjpoaagreatdoor", sum := "541a5189b9cd30431924b7d6542fb67aa005698a5d90d0908b4b9fef54736a26", func := "nameplan/nameplanlaw08.SignAccepted", spec := "signAccepted", inPlace := ["internal/bytealg.abigen_runtime_cmpstring"], unfollowed := true, recurses := true, named := ["nameplan/record.rules"], apart := false, laid := [("nameplan/record.rules", laid_nameplan_record_rules)], narrowed := true }
def SignAcceptedUptoSaid : Prop := signAcceptedUptoRow.holds Tryz.pinned (OpenSpec.upto signAcceptedSpec)

/-- 'nameplanlaw08.SignDamage', WHERE WHAT IT READS IS OF BULK AT MOST 1048576: true; the input reads as it did. -/
def signDamageUptoRow : OpenClaim := { program := "ytpkjpogkimjpoaagreatdoor", sum := "541a5189b9cd30431924b7d6542fb67aa005698a5d90d0908b4b9fef54736a26", func := "nameplan/nameplanlaw08.SignDamage", spec := "signDamage", inPlace := ["internal/bytealg.abigen_runtime_cmpstring"], unfollowed := true, recurses := true, named := ["nameplan/record.rules"], apart := false, laid := [("nameplan/record.rules", laid_nameplan_record_rules)], narrowed := true }
def SignDamageUptoSaid : Prop := signDamageUptoRow.holds Tryz.pinned (OpenSpec.upto signDamageSpec)

end Rows
end Go.Proofs.YtpkjpogkimjpoaaGreatDoor
