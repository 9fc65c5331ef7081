/-
  DERIVED. GIVEN WITH THE SEED: THE CARDS: each row of YtkhckgknldiheaaDoorRows.lean that lists a variable, with what it lists TIED to the program's text (the seventh form; the later family's looks); each row that meets fmt, with fmt's text TOLD by the authors' own Lean function (tested against real Go, not proved from fmt's source: count such statements apart). THE CARD IS WHAT COUNTS. Prove the row's statement (the work); the ties are given (YtkhckgknldiheaaDoorTie.lean); close each card by the builder's one call (the guide's Derived/Test/ToyasCard.lean, 'card_holds'). Laid BY PROGRAM, IN A SANDBOX (cutbox-door.mjs). By AI agents, Wed Nov 11 2026. No macro, syntax, notation, axiom, sorry.
-/
import Derived.Test.YtkhckgknldiheaaDoorRows
import GoSem.ClaimSeven
namespace Go.Proofs.YtkhckgknldiheaaDoor
namespace Rows

/-- THE TIED CARD OF 'nameplanlaw10.TrustMatchesReference'. -/
def trustMatchesReferenceCard : Claim7 := { stood := { row := trustMatchesReferenceRow, standIns := [], harness := (true, "72c70ca73b4dac03409ae724638be9bf31a57bc611aeb588084e06e5cc89b738"), looks := false }, kinds := [], alts := [], laidByText := true, laidKinds := [.data], laidTests := true, laidLooks := .later }
def TrustMatchesReferenceCardSaid : Prop := Claim7.holds Tryd.pinned (.plain (OpenSpec.ofChange trustMatchesReferenceSpec)) trustMatchesReferenceCard

/-- THE TIED CARD OF 'nameplanlaw10.TrustSigned'. -/
def trustSignedCard : Claim7 := { stood := { row := trustSignedRow, standIns := [], harness := (true, "72c70ca73b4dac03409ae724638be9bf31a57bc611aeb588084e06e5cc89b738"), looks := false }, kinds := [], alts := [], laidByText := true, laidKinds := [.data], laidTests := true, laidLooks := .later }
def TrustSignedCardSaid : Prop := Claim7.holds Tryd.pinned (.plain (OpenSpec.ofChange trustSignedSpec)) trustSignedCard

/-- THE TIED CARD OF 'nameplanlaw10.TrustTimes'. -/
def trustTimesCard : Claim7 := { stood := { row := trustTimesRow, standIns := [], harness := (true, "72c70ca73b4dac03409ae724638be9bf31a57bc611aeb588084e06e5cc89b738"), looks := false }, kinds := [], alts := [], laidByText := true, laidKinds := [.data], laidTests := true, laidLooks := .later }
def TrustTimesCardSaid : Prop := Claim7.holds Tryd.pinned (.plain (OpenSpec.ofChange trustTimesSpec)) trustTimesCard

/-- THE TIED CARD OF 'nameplanlaw10.TrustChains'. -/
def trustChainsCard : Claim7 := { stood := { row := trustChainsRow, standIns := [], harness := (true, "72c70ca73b4dac03409ae724638be9bf31a57bc611aeb588084e06e5cc89b738"), looks := false }, kinds := [], alts := [], laidByText := true, laidKinds := [.data], laidTests := true, laidLooks := .later }
def TrustChainsCardSaid : Prop := Claim7.holds Tryd.pinned (.plain (OpenSpec.ofChange trustChainsSpec)) trustChainsCard

/-- THE TIED CARD OF 'nameplanlaw10.TrustFurther'. -/
def trustFurtherCard : Claim7 := { stood := { row := trustFurtherRow, standIns := [], harness := (true, "72c70ca73b4dac03409ae724638be9bf31a57bc611aeb588084e06e5cc89b738"), looks := false }, kinds := [], alts := [], laidByText := true, laidKinds := [.data], laidTests := true, laidLooks := .later }
def TrustFurtherCardSaid : Prop := Claim7.holds Tryd.pinned (.plain (OpenSpec.ofChange trustFurtherSpec)) trustFurtherCard

/-- THE TIED CARD OF 'nameplanlaw10.TrustWays'. -/
def trustWaysCard : Claim7 := { stood := { row := trustWaysRow, standIns := [], harness := (true, "72c70ca73b4dac03409ae724638be9bf31a57bc611aeb588084e06e5cc89b738"), looks := false }, kinds := [], alts := [], laidByText := true, laidKinds := [.data], laidTests := true, laidLooks := .later }
def TrustWaysCardSaid : Prop := Claim7.holds Tryd.pinned (.plain (OpenSpec.ofChange trustWaysSpec)) trustWaysCard

/-- THE SECOND FORM's CARD OF 'nameplanlaw10.TrustMatchesReference'. -/
def trustMatchesReferenceUptoCard : Claim7 := { stood := { row := trustMatchesReferenceUptoRow, standIns := [], harness := (true, "72c70ca73b4dac03409ae724638be9bf31a57bc611aeb588084e06e5cc89b738"), looks := false }, kinds := [], alts := [], laidByText := true, laidKinds := [.data], laidTests := true, laidLooks := .later }
def TrustMatchesReferenceUptoCardSaid : Prop := Claim7.holds Tryd.pinned (.plain (OpenSpec.upto trustMatchesReferenceSpec)) trustMatchesReferenceUptoCard

/-- THE SECOND FORM's CARD OF 'nameplanlaw10.TrustSigned'. -/
def trustSignedUptoCard : Claim7 := { stood := { row := trustSignedUptoRow, standIns := [], harness := (true, "72c70ca73b4dac03409ae724638be9bf31a57bc611aeb588084e06e5cc89b738"), looks := false }, kinds := [], alts := [], laidByText := true, laidKinds := [.data], laidTests := true, laidLooks := .later }
def TrustSignedUptoCardSaid : Prop := Claim7.holds Tryd.pinned (.plain (OpenSpec.upto trustSignedSpec)) trustSignedUptoCard

/-- THE SECOND FORM's CARD OF 'nameplanlaw10.TrustTimes'. -/
def trustTimesUptoCard : Claim7 := { stood := { row := trustTimesUptoRow, standIns := [], harness := (true, "72c70ca73b4dac03409ae724638be9bf31a57bc611aeb588084e06e5cc89b738"), looks := false }, kinds := [], alts := [], laidByText := true, laidKinds := [.data], laidTests := true, laidLooks := .later }
def TrustTimesUptoCardSaid : Prop := Claim7.holds Tryd.pinned (.plain (OpenSpec.upto trustTimesSpec)) trustTimesUptoCard

/-- THE SECOND FORM's CARD OF 'nameplanlaw10.TrustChains'. -/
def trustChainsUptoCard : Claim7 := { stood := { row := trustChainsUptoRow, standIns := [], harness := (true, "72c70ca73b4dac03409ae724638be9bf31a57bc611aeb588084e06e5cc89b738"), looks := false }, kinds := [], alts := [], laidByText := true, laidKinds := [.data], laidTests := true, laidLooks := .later }
def TrustChainsUptoCardSaid : Prop := Claim7.holds Tryd.pinned (.plain (OpenSpec.upto trustChainsSpec)) trustChainsUptoCard

/-- THE SECOND FORM's CARD OF 'nameplanlaw10.TrustFurther'. -/
def trustFurtherUptoCard : Claim7 := { stood := { row := trustFurtherUptoRow, standIns := [], harness := (true, "72c70ca73b4dac03409ae724638be9bf31a57bc611aeb588084e06e5cc89b738"), looks := false }, kinds := [], alts := [], laidByText := true, laidKinds := [.data], laidTests := true, laidLooks := .later }
def TrustFurtherUptoCardSaid : Prop := Claim7.holds Tryd.pinned (.plain (OpenSpec.upto trustFurtherSpec)) trustFurtherUptoCard

/-- THE SECOND FORM's CARD OF 'nameplanlaw10.TrustWays'. -/
def trustWaysUptoCard : Claim7 := { stood := { row := trustWaysUptoRow, standIns := [], harness := (true, "72c70ca73b4dac03409ae724638be9bf31a57bc611aeb588084e06e5cc89b738"), looks := false }, kinds := [], alts := [], laidByText := true, laidKinds := [.data], laidTests := true, laidLooks := .later }
def TrustWaysUptoCardSaid : Prop := Claim7.holds Tryd.pinned (.plain (OpenSpec.upto trustWaysSpec)) trustWaysUptoCard
end Rows
end Go.Proofs.YtkhckgknldiheaaDoor
