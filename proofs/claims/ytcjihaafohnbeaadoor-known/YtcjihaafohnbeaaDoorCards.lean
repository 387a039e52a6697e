/-
  DERIVED. GIVEN WITH THE SEED: THE CARDS: each row of YtcjihaafohnbeaaDoorRows.lean that lists a variable, with what it lists TIED to the program's text (the seventh form; the later family's looks); each row that meets fmt, with fmt's text TOLD by the authors' own Lean function (tested against real Go, not proved from fmt's source: count such statements apart). THE CARD IS WHAT COUNTS. Prove the row's statement (the work); the ties are given (YtcjihaafohnbeaaDoorTie.lean); close each card by the builder's one call (the guide's Derived/Test/ToyasCard.lean, 'card_holds'). Laid BY PROGRAM, IN A SANDBOX (cutbox-door.mjs). By AI agents, Wed Nov 11 2026. No macro, syntax, notation, axiom, sorry.
-/
import Derived.Test.YtcjihaafohnbeaaDoorRows
import GoSem.ClaimSeven
namespace Go.Proofs.YtcjihaafohnbeaaDoor
namespace Rows

/-- THE TIED CARD OF 'softfloatlaw.Around'. -/
def aroundCard : Claim7 := { stood := { row := aroundRow, standIns := [], harness := (true, "7183b0de1ece0dd0ca37ce0527d795fa076391d4118922edd41d94099d15e1d3"), looks := false }, kinds := [], alts := [], laidByText := true, laidKinds := [.data], laidTests := true, laidLooks := .later }
def AroundCardSaid : Prop := Claim7.holds Tryd.pinned (.plain (OpenSpec.ofChange aroundSpec)) aroundCard

/-- THE TIED CARD OF 'softfloatlaw.Turned'. -/
def turnedCard : Claim7 := { stood := { row := turnedRow, standIns := [], harness := (true, "7183b0de1ece0dd0ca37ce0527d795fa076391d4118922edd41d94099d15e1d3"), looks := false }, kinds := [], alts := [], laidByText := true, laidKinds := [.data], laidTests := true, laidLooks := .later }
def TurnedCardSaid : Prop := Claim7.holds Tryd.pinned (.plain (OpenSpec.ofChange turnedSpec)) turnedCard

/-- THE TIED CARD OF 'softfloatlaw.Rounded'. -/
def roundedCard : Claim7 := { stood := { row := roundedRow, standIns := [], harness := (true, "7183b0de1ece0dd0ca37ce0527d795fa076391d4118922edd41d94099d15e1d3"), looks := false }, kinds := [], alts := [], laidByText := true, laidKinds := [.data], laidTests := true, laidLooks := .later }
def RoundedCardSaid : Prop := Claim7.holds Tryd.pinned (.plain (OpenSpec.ofChange roundedSpec)) roundedCard

/-- THE TIED CARD OF 'softfloatlaw.Known'. -/
def knownCard : Claim7 := { stood := { row := knownRow, standIns := [], harness := (true, "7183b0de1ece0dd0ca37ce0527d795fa076391d4118922edd41d94099d15e1d3"), looks := false }, kinds := [], alts := [], laidByText := true, laidKinds := [.data], laidTests := true, laidLooks := .later }
def KnownCardSaid : Prop := Claim7.holds Tryd.pinned (.plain (OpenSpec.ofChange knownSpec)) knownCard

/-- THE SECOND FORM's CARD OF 'softfloatlaw.Around'. -/
def aroundUptoCard : Claim7 := { stood := { row := aroundUptoRow, standIns := [], harness := (true, "7183b0de1ece0dd0ca37ce0527d795fa076391d4118922edd41d94099d15e1d3"), looks := false }, kinds := [], alts := [], laidByText := true, laidKinds := [.data], laidTests := true, laidLooks := .later }
def AroundUptoCardSaid : Prop := Claim7.holds Tryd.pinned (.plain (OpenSpec.upto aroundSpec)) aroundUptoCard

/-- THE SECOND FORM's CARD OF 'softfloatlaw.Turned'. -/
def turnedUptoCard : Claim7 := { stood := { row := turnedUptoRow, standIns := [], harness := (true, "7183b0de1ece0dd0ca37ce0527d795fa076391d4118922edd41d94099d15e1d3"), looks := false }, kinds := [], alts := [], laidByText := true, laidKinds := [.data], laidTests := true, laidLooks := .later }
def TurnedUptoCardSaid : Prop := Claim7.holds Tryd.pinned (.plain (OpenSpec.upto turnedSpec)) turnedUptoCard

/-- THE SECOND FORM's CARD OF 'softfloatlaw.Rounded'. -/
def roundedUptoCard : Claim7 := { stood := { row := roundedUptoRow, standIns := [], harness := (true, "7183b0de1ece0dd0ca37ce0527d795fa076391d4118922edd41d94099d15e1d3"), looks := false }, kinds := [], alts := [], laidByText := true, laidKinds := [.data], laidTests := true, laidLooks := .later }
def RoundedUptoCardSaid : Prop := Claim7.holds Tryd.pinned (.plain (OpenSpec.upto roundedSpec)) roundedUptoCard

/-- THE SECOND FORM's CARD OF 'softfloatlaw.Known'. -/
def knownUptoCard : Claim7 := { stood := { row := knownUptoRow, standIns := [], harness := (true, "7183b0de1ece0dd0ca37ce0527d795fa076391d4118922edd41d94099d15e1d3"), looks := false }, kinds := [], alts := [], laidByText := true, laidKinds := [.data], laidTests := true, laidLooks := .later }
def KnownUptoCardSaid : Prop := Claim7.holds Tryd.pinned (.plain (OpenSpec.upto knownSpec)) knownUptoCard
end Rows
end Go.Proofs.YtcjihaafohnbeaaDoor
