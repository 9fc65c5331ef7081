/-
  DERIVED. GIVEN WITH THE SEED: THE CARDS: each row of YtpkjpogkimjpoaaGreatDoorRows.lean that lists a variable, with what it lists TIED to the program's text (the seventh form; the later family's looks); each row that meets fmt, with fmt's text TOLD by the authors' own Lean function (tested against real Go, not proved from fmt's source: count such statements apart). THE CARD IS WHAT COUNTS. Prove the row's statement (the work); the ties are given (YtpkjpogkimjpoaaGreatDoorTie.lean); close each card by the builder's one call (the guide's Derived/Test/ToyasCard.lean, 'card_holds'). Laid BY PROGRAM, IN A SANDBOX (cutbox-door.mjs). By AI agents, Wed Nov 11 2026. No macro, syntax, notation, axiom, sorry.
-/
import Derived.Test.YtpkjpogkimjpoaaGreatDoorRows
import GoSem.ClaimSeven
namespace Go.Proofs.YtpkjpogkimjpoaaGreatDoor
namespace Rows

/-- THE TIED CARD OF 'nameplanlaw08.SignAccepted'. -/
def signAcceptedCard : Claim7 := { stood := { row := signAcceptedRow, standIns := [], harness := (true, "724c8fa24d94ab00e2cb92ca8b0441f68cc88480ec3a4821caaa376296ad9ac8"), looks := false }, kinds := [], alts := [], laidByText := true, laidKinds := [.data], laidTests := true, laidLooks := .later }
def SignAcceptedCardSaid : Prop := Claim7.holds Tryz.pinned (.plain (OpenSpec.ofChange signAcceptedSpec)) signAcceptedCard

/-- THE TIED CARD OF 'nameplanlaw08.SignDamage'. -/
def signDamageCard : Claim7 := { stood := { row := signDamageRow, standIns := [], harness := (true, "724c8fa24d94ab00e2cb92ca8b0441f68cc88480ec3a4821caaa376296ad9ac8"), looks := false }, kinds := [], alts := [], laidByText := true, laidKinds := [.data], laidTests := true, laidLooks := .later }
def SignDamageCardSaid : Prop := Claim7.holds Tryz.pinned (.plain (OpenSpec.ofChange signDamageSpec)) signDamageCard

/-- THE SECOND FORM's CARD OF 'nameplanlaw08.SignAccepted'. -/
def signAcceptedUptoCard : Claim7 := { stood := { row := signAcceptedUptoRow, standIns := [], harness := (true, "724c8fa24d94ab00e2cb92ca8b0441f68cc88480ec3a4821caaa376296ad9ac8"), looks := false }, kinds := [], alts := [], laidByText := true, laidKinds := [.data], laidTests := true, laidLooks := .later }
def SignAcceptedUptoCardSaid : Prop := Claim7.holds Tryz.pinned (.plain (OpenSpec.upto signAcceptedSpec)) signAcceptedUptoCard

/-- THE SECOND FORM's CARD OF 'nameplanlaw08.SignDamage'. -/
def signDamageUptoCard : Claim7 := { stood := { row := signDamageUptoRow, standIns := [], harness := (true, "724c8fa24d94ab00e2cb92ca8b0441f68cc88480ec3a4821caaa376296ad9ac8"), looks := false }, kinds := [], alts := [], laidByText := true, laidKinds := [.data], laidTests := true, laidLooks := .later }
def SignDamageUptoCardSaid : Prop := Claim7.holds Tryz.pinned (.plain (OpenSpec.upto signDamageSpec)) signDamageUptoCard
end Rows
end Go.Proofs.YtpkjpogkimjpoaaGreatDoor
