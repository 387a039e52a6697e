/-
  DERIVED. GIVEN WITH THE SEED: THE CARDS: each row of YtfbdgecanfmgiaaDoorRows.lean that lists a variable, with what it lists TIED to the program's text (the seventh form; the later family's looks); each row that meets fmt, with fmt's text TOLD by the authors' own Lean function (tested against real Go, not proved from fmt's source: count such statements apart). THE CARD IS WHAT COUNTS. Prove the row's statement (the work); the ties are given (YtfbdgecanfmgiaaDoorTie.lean); close each card by the builder's one call (the guide's Derived/Test/ToyasCard.lean, 'card_holds'). Laid BY PROGRAM, IN A SANDBOX (cutbox-door.mjs). By AI agents, Wed Nov 11 2026. No macro, syntax, notation, axiom, sorry.
-/
import Derived.Test.YtfbdgecanfmgiaaDoorRows
import GoSem.ClaimSeven
namespace Go.Proofs.YtfbdgecanfmgiaaDoor
namespace Rows

/-- THE TIED CARD OF 'softfloatlaw.Sums'. -/
def sumsCard : Claim7 := { stood := { row := sumsRow, standIns := [], harness := (true, "af8c5da1ed8f1293da167874df5e3f831a50bd2dadce0b563be9f254e2a2349c"), looks := false }, kinds := [], alts := [], laidByText := true, laidKinds := [.data], laidTests := true, laidLooks := .later }
def SumsCardSaid : Prop := Claim7.holds Tryd.pinned (.plain (OpenSpec.ofChange sumsSpec)) sumsCard

/-- THE TIED CARD OF 'softfloatlaw.Products'. -/
def productsCard : Claim7 := { stood := { row := productsRow, standIns := [], harness := (true, "af8c5da1ed8f1293da167874df5e3f831a50bd2dadce0b563be9f254e2a2349c"), looks := false }, kinds := [], alts := [], laidByText := true, laidKinds := [.data], laidTests := true, laidLooks := .later }
def ProductsCardSaid : Prop := Claim7.holds Tryd.pinned (.plain (OpenSpec.ofChange productsSpec)) productsCard

/-- THE TIED CARD OF 'softfloatlaw.Around'. -/
def aroundCard : Claim7 := { stood := { row := aroundRow, standIns := [], harness := (true, "af8c5da1ed8f1293da167874df5e3f831a50bd2dadce0b563be9f254e2a2349c"), looks := false }, kinds := [], alts := [], laidByText := true, laidKinds := [.data], laidTests := true, laidLooks := .later }
def AroundCardSaid : Prop := Claim7.holds Tryd.pinned (.plain (OpenSpec.ofChange aroundSpec)) aroundCard

/-- THE TIED CARD OF 'softfloatlaw.Turned'. -/
def turnedCard : Claim7 := { stood := { row := turnedRow, standIns := [], harness := (true, "af8c5da1ed8f1293da167874df5e3f831a50bd2dadce0b563be9f254e2a2349c"), looks := false }, kinds := [], alts := [], laidByText := true, laidKinds := [.data], laidTests := true, laidLooks := .later }
def TurnedCardSaid : Prop := Claim7.holds Tryd.pinned (.plain (OpenSpec.ofChange turnedSpec)) turnedCard

/-- THE TIED CARD OF 'softfloatlaw.Others'. -/
def othersCard : Claim7 := { stood := { row := othersRow, standIns := [], harness := (true, "af8c5da1ed8f1293da167874df5e3f831a50bd2dadce0b563be9f254e2a2349c"), looks := false }, kinds := [], alts := [], laidByText := true, laidKinds := [.data], laidTests := true, laidLooks := .later }
def OthersCardSaid : Prop := Claim7.holds Tryd.pinned (.plain (OpenSpec.ofChange othersSpec)) othersCard

/-- THE SECOND FORM's CARD OF 'softfloatlaw.Sums'. -/
def sumsUptoCard : Claim7 := { stood := { row := sumsUptoRow, standIns := [], harness := (true, "af8c5da1ed8f1293da167874df5e3f831a50bd2dadce0b563be9f254e2a2349c"), looks := false }, kinds := [], alts := [], laidByText := true, laidKinds := [.data], laidTests := true, laidLooks := .later }
def SumsUptoCardSaid : Prop := Claim7.holds Tryd.pinned (.plain (OpenSpec.upto sumsSpec)) sumsUptoCard

/-- THE SECOND FORM's CARD OF 'softfloatlaw.Products'. -/
def productsUptoCard : Claim7 := { stood := { row := productsUptoRow, standIns := [], harness := (true, "af8c5da1ed8f1293da167874df5e3f831a50bd2dadce0b563be9f254e2a2349c"), looks := false }, kinds := [], alts := [], laidByText := true, laidKinds := [.data], laidTests := true, laidLooks := .later }
def ProductsUptoCardSaid : Prop := Claim7.holds Tryd.pinned (.plain (OpenSpec.upto productsSpec)) productsUptoCard

/-- THE SECOND FORM's CARD OF 'softfloatlaw.Around'. -/
def aroundUptoCard : Claim7 := { stood := { row := aroundUptoRow, standIns := [], harness := (true, "af8c5da1ed8f1293da167874df5e3f831a50bd2dadce0b563be9f254e2a2349c"), looks := false }, kinds := [], alts := [], laidByText := true, laidKinds := [.data], laidTests := true, laidLooks := .later }
def AroundUptoCardSaid : Prop := Claim7.holds Tryd.pinned (.plain (OpenSpec.upto aroundSpec)) aroundUptoCard

/-- THE SECOND FORM's CARD OF 'softfloatlaw.Turned'. -/
def turnedUptoCard : Claim7 := { stood := { row := turnedUptoRow, standIns := [], harness := (true, "af8c5da1ed8f1293da167874df5e3f831a50bd2dadce0b563be9f254e2a2349c"), looks := false }, kinds := [], alts := [], laidByText := true, laidKinds := [.data], laidTests := true, laidLooks := .later }
def TurnedUptoCardSaid : Prop := Claim7.holds Tryd.pinned (.plain (OpenSpec.upto turnedSpec)) turnedUptoCard

/-- THE SECOND FORM's CARD OF 'softfloatlaw.Others'. -/
def othersUptoCard : Claim7 := { stood := { row := othersUptoRow, standIns := [], harness := (true, "af8c5da1ed8f1293da167874df5e3f831a50bd2dadce0b563be9f254e2a2349c"), looks := false }, kinds := [], alts := [], laidByText := true, laidKinds := [.data], laidTests := true, laidLooks := .later }
def OthersUptoCardSaid : Prop := Claim7.holds Tryd.pinned (.plain (OpenSpec.upto othersSpec)) othersUptoCard
end Rows
end Go.Proofs.YtfbdgecanfmgiaaDoor
