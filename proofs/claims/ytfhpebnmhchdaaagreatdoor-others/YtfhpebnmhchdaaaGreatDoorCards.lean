/-
  DERIVED. GIVEN WITH THE SEED: THE CARDS: each row of YtfhpebnmhchdaaaGreatDoorRows.lean that lists a variable, with what it lists TIED to the program's text (the seventh form; the later family's looks); each row that meets fmt, with fmt's text TOLD by the authors' own Lean function (tested against real Go, not proved from fmt's source: count such statements apart). THE CARD IS WHAT COUNTS. Prove the row's statement (the work); the ties are given (YtfhpebnmhchdaaaGreatDoorTie.lean); close each card by the builder's one call (the guide's Derived/Test/ToyasCard.lean, 'card_holds'). Laid BY PROGRAM, IN A SANDBOX (cutbox-door.mjs). By AI agents, Wed Nov 11 2026. No macro, syntax, notation, axiom, sorry.
-/
import Derived.Test.YtfhpebnmhchdaaaGreatDoorRows
import GoSem.ClaimSeven
namespace Go.Proofs.YtfhpebnmhchdaaaGreatDoor
namespace Rows

/-- THE TIED CARD OF 'softfloatlaw.Sums'. -/
def sumsCard : Claim7 := { stood := { row := sumsRow, standIns := [], harness := (true, "abca206042a850be31c7e432b4b3d80bd59cac53cb3871047b210a2f41234589"), looks := false }, kinds := [], alts := [], laidByText := true, laidKinds := [.data], laidTests := true, laidLooks := .later }
def SumsCardSaid : Prop := Claim7.holds Tryz.pinned (.plain (OpenSpec.ofChange sumsSpec)) sumsCard

/-- THE TIED CARD OF 'softfloatlaw.Products'. -/
def productsCard : Claim7 := { stood := { row := productsRow, standIns := [], harness := (true, "abca206042a850be31c7e432b4b3d80bd59cac53cb3871047b210a2f41234589"), looks := false }, kinds := [], alts := [], laidByText := true, laidKinds := [.data], laidTests := true, laidLooks := .later }
def ProductsCardSaid : Prop := Claim7.holds Tryz.pinned (.plain (OpenSpec.ofChange productsSpec)) productsCard

/-- THE TIED CARD OF 'softfloatlaw.Quotients'. -/
def quotientsCard : Claim7 := { stood := { row := quotientsRow, standIns := [], harness := (true, "abca206042a850be31c7e432b4b3d80bd59cac53cb3871047b210a2f41234589"), looks := false }, kinds := [], alts := [], laidByText := true, laidKinds := [.data], laidTests := true, laidLooks := .later }
def QuotientsCardSaid : Prop := Claim7.holds Tryz.pinned (.plain (OpenSpec.ofChange quotientsSpec)) quotientsCard

/-- THE TIED CARD OF 'softfloatlaw.Fused'. -/
def fusedCard : Claim7 := { stood := { row := fusedRow, standIns := [], harness := (true, "abca206042a850be31c7e432b4b3d80bd59cac53cb3871047b210a2f41234589"), looks := false }, kinds := [], alts := [], laidByText := true, laidKinds := [.data], laidTests := true, laidLooks := .later }
def FusedCardSaid : Prop := Claim7.holds Tryz.pinned (.plain (OpenSpec.ofChange fusedSpec)) fusedCard

/-- THE TIED CARD OF 'softfloatlaw.Others'. -/
def othersCard : Claim7 := { stood := { row := othersRow, standIns := [], harness := (true, "abca206042a850be31c7e432b4b3d80bd59cac53cb3871047b210a2f41234589"), looks := false }, kinds := [], alts := [], laidByText := true, laidKinds := [.data], laidTests := true, laidLooks := .later }
def OthersCardSaid : Prop := Claim7.holds Tryz.pinned (.plain (OpenSpec.ofChange othersSpec)) othersCard

/-- THE SECOND FORM's CARD OF 'softfloatlaw.Sums'. -/
def sumsUptoCard : Claim7 := { stood := { row := sumsUptoRow, standIns := [], harness := (true, "abca206042a850be31c7e432b4b3d80bd59cac53cb3871047b210a2f41234589"), looks := false }, kinds := [], alts := [], laidByText := true, laidKinds := [.data], laidTests := true, laidLooks := .later }
def SumsUptoCardSaid : Prop := Claim7.holds Tryz.pinned (.plain (OpenSpec.upto sumsSpec)) sumsUptoCard

/-- THE SECOND FORM's CARD OF 'softfloatlaw.Products'. -/
def productsUptoCard : Claim7 := { stood := { row := productsUptoRow, standIns := [], harness := (true, "abca206042a850be31c7e432b4b3d80bd59cac53cb3871047b210a2f41234589"), looks := false }, kinds := [], alts := [], laidByText := true, laidKinds := [.data], laidTests := true, laidLooks := .later }
def ProductsUptoCardSaid : Prop := Claim7.holds Tryz.pinned (.plain (OpenSpec.upto productsSpec)) productsUptoCard

/-- THE SECOND FORM's CARD OF 'softfloatlaw.Quotients'. -/
def quotientsUptoCard : Claim7 := { stood := { row := quotientsUptoRow, standIns := [], harness := (true, "abca206042a850be31c7e432b4b3d80bd59cac53cb3871047b210a2f41234589"), looks := false }, kinds := [], alts := [], laidByText := true, laidKinds := [.data], laidTests := true, laidLooks := .later }
def QuotientsUptoCardSaid : Prop := Claim7.holds Tryz.pinned (.plain (OpenSpec.upto quotientsSpec)) quotientsUptoCard

/-- THE SECOND FORM's CARD OF 'softfloatlaw.Fused'. -/
def fusedUptoCard : Claim7 := { stood := { row := fusedUptoRow, standIns := [], harness := (true, "abca206042a850be31c7e432b4b3d80bd59cac53cb3871047b210a2f41234589"), looks := false }, kinds := [], alts := [], laidByText := true, laidKinds := [.data], laidTests := true, laidLooks := .later }
def FusedUptoCardSaid : Prop := Claim7.holds Tryz.pinned (.plain (OpenSpec.upto fusedSpec)) fusedUptoCard

/-- THE SECOND FORM's CARD OF 'softfloatlaw.Others'. -/
def othersUptoCard : Claim7 := { stood := { row := othersUptoRow, standIns := [], harness := (true, "abca206042a850be31c7e432b4b3d80bd59cac53cb3871047b210a2f41234589"), looks := false }, kinds := [], alts := [], laidByText := true, laidKinds := [.data], laidTests := true, laidLooks := .later }
def OthersUptoCardSaid : Prop := Claim7.holds Tryz.pinned (.plain (OpenSpec.upto othersSpec)) othersUptoCard
end Rows
end Go.Proofs.YtfhpebnmhchdaaaGreatDoor
