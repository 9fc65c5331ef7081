/-
  DERIVED. GIVEN WITH THE SEED: THE CARDS: each row of YtahbnhdalimdpaaDoorRows.lean that lists a variable, with what it lists TIED to the program's text (the seventh form; the later family's looks); each row that meets fmt, with fmt's text TOLD by the authors' own Lean function (tested against real Go, not proved from fmt's source: count such statements apart). THE CARD IS WHAT COUNTS. Prove the row's statement (the work); the ties are given (YtahbnhdalimdpaaDoorTie.lean); close each card by the builder's one call (the guide's Derived/Test/ToyasCard.lean, 'card_holds'). Laid BY PROGRAM, IN A SANDBOX (cutbox-door.mjs). By AI agents, Wed Nov 11 2026. No macro, syntax, notation, axiom, sorry.
-/
import Derived.Test.YtahbnhdalimdpaaDoorRows
import GoSem.ClaimSeven
namespace Go.Proofs.YtahbnhdalimdpaaDoor
namespace Rows

/-- THE TIED CARD OF 'nameplanlaw25.ResignMore'. -/
def resignMoreCard : Claim7 := { stood := { row := resignMoreRow, standIns := [], harness := (true, "ee2756dc0ed21c19845e1e12e093e53132d1c29280f2efa832dacbf3ae06fbce"), looks := false }, kinds := [], alts := [], laidByText := true, laidKinds := [.data], laidTests := true, laidLooks := .later }
def ResignMoreCardSaid : Prop := Claim7.holds Tryd.pinned (.plain (OpenSpec.ofChange resignMoreSpec)) resignMoreCard

/-- THE SECOND FORM's CARD OF 'nameplanlaw25.ResignMore'. -/
def resignMoreUptoCard : Claim7 := { stood := { row := resignMoreUptoRow, standIns := [], harness := (true, "ee2756dc0ed21c19845e1e12e093e53132d1c29280f2efa832dacbf3ae06fbce"), looks := false }, kinds := [], alts := [], laidByText := true, laidKinds := [.data], laidTests := true, laidLooks := .later }
def ResignMoreUptoCardSaid : Prop := Claim7.holds Tryd.pinned (.plain (OpenSpec.upto resignMoreSpec)) resignMoreUptoCard
end Rows
end Go.Proofs.YtahbnhdalimdpaaDoor
