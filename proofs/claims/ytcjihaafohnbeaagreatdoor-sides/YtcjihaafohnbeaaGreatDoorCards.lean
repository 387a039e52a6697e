/-
  DERIVED. GIVEN WITH THE SEED: THE CARDS: each row of YtcjihaafohnbeaaGreatDoorRows.lean that lists a variable, with what it lists TIED to the program's text (the seventh form; the later family's looks); each row that meets fmt, with fmt's text TOLD by the authors' own Lean function (tested against real Go, not proved from fmt's source: count such statements apart). THE CARD IS WHAT COUNTS. Prove the row's statement (the work); the ties are given (YtcjihaafohnbeaaGreatDoorTie.lean); close each card by the builder's one call (the guide's Derived/Test/ToyasCard.lean, 'card_holds'). Laid BY PROGRAM, IN A SANDBOX (cutbox-door.mjs). By AI agents, Wed Nov 11 2026. No macro, syntax, notation, axiom, sorry.
-/
import Derived.Test.YtcjihaafohnbeaaGreatDoorRows
import GoSem.ClaimSeven
namespace Go.Proofs.YtcjihaafohnbeaaGreatDoor
namespace Rows

/-- THE TIED CARD OF 'softfloatlaw.Sums'. -/
def sumsCard : Claim7 := { stood := { row := sumsRow, standIns := [], harness := (true, "3503e237b2df51ff58aba62c872aeca12bf6cdafbedfb67c3ddfef5d7bdd3364"), looks := false }, kinds := [], alts := [], laidByText := true, laidKinds := [.data], laidTests := true, laidLooks := .later }
def SumsCardSaid : Prop := Claim7.holds Tryz.pinned (.plain (OpenSpec.ofChange sumsSpec)) sumsCard

/-- THE TIED CARD OF 'softfloatlaw.Products'. -/
def productsCard : Claim7 := { stood := { row := productsRow, standIns := [], harness := (true, "3503e237b2df51ff58aba62c872aeca12bf6cdafbedfb67c3ddfef5d7bdd3364"), looks := false }, kinds := [], alts := [], laidByText := true, laidKinds := [.data], laidTests := true, laidLooks := .later }
def ProductsCardSaid : Prop := Claim7.holds Tryz.pinned (.plain (OpenSpec.ofChange productsSpec)) productsCard

/-- THE TIED CARD OF 'softfloatlaw.Quotients'. -/
def quotientsCard : Claim7 := { stood := { row := quotientsRow, standIns := [], harness := (true, "3503e237b2df51ff58aba62c872aeca12bf6cdafbedfb67c3ddfef5d7bdd3364"), looks := false }, kinds := [], alts := [], laidByText := true, laidKinds := [.data], laidTests := true, laidLooks := .later }
def QuotientsCardSaid : Prop := Claim7.holds Tryz.pinned (.plain (OpenSpec.ofChange quotientsSpec)) quotientsCard

/-- THE TIED CARD OF 'softfloatlaw.Fused'. -/
def fusedCard : Claim7 := { stood := { row := fusedRow, standIns := [], harness := (true, "3503e237b2df51ff58aba62c872aeca12bf6cdafbedfb67c3ddfef5d7bdd3364"), looks := false }, kinds := [], alts := [], laidByText := true, laidKinds := [.data], laidTests := true, laidLooks := .later }
def FusedCardSaid : Prop := Claim7.holds Tryz.pinned (.plain (OpenSpec.ofChange fusedSpec)) fusedCard

/-- THE TIED CARD OF 'softfloatlaw.Roots'. -/
def rootsCard : Claim7 := { stood := { row := rootsRow, standIns := [], harness := (true, "3503e237b2df51ff58aba62c872aeca12bf6cdafbedfb67c3ddfef5d7bdd3364"), looks := false }, kinds := [], alts := [], laidByText := true, laidKinds := [.data], laidTests := true, laidLooks := .later }
def RootsCardSaid : Prop := Claim7.holds Tryz.pinned (.plain (OpenSpec.ofChange rootsSpec)) rootsCard

/-- THE TIED CARD OF 'softfloatlaw.Sides'. -/
def sidesCard : Claim7 := { stood := { row := sidesRow, standIns := [], harness := (true, "3503e237b2df51ff58aba62c872aeca12bf6cdafbedfb67c3ddfef5d7bdd3364"), looks := false }, kinds := [], alts := [], laidByText := true, laidKinds := [.data], laidTests := true, laidLooks := .later }
def SidesCardSaid : Prop := Claim7.holds Tryz.pinned (.plain (OpenSpec.ofChange sidesSpec)) sidesCard

/-- THE TIED CARD OF 'softfloatlaw.Others'. -/
def othersCard : Claim7 := { stood := { row := othersRow, standIns := [], harness := (true, "3503e237b2df51ff58aba62c872aeca12bf6cdafbedfb67c3ddfef5d7bdd3364"), looks := false }, kinds := [], alts := [], laidByText := true, laidKinds := [.data], laidTests := true, laidLooks := .later }
def OthersCardSaid : Prop := Claim7.holds Tryz.pinned (.plain (OpenSpec.ofChange othersSpec)) othersCard

/-- THE SECOND FORM's CARD OF 'softfloatlaw.Sums'. -/
def sumsUptoCard : Claim7 := { stood := { row := sumsUptoRow, standIns := [], harness := (true, "3503e237b2df51ff58aba62c872aeca12bf6cdafbedfb67c3ddfef5d7bdd3364"), looks := false }, kinds := [], alts := [], laidByText := true, laidKinds := [.data], laidTests := true, laidLooks := .later }
def SumsUptoCardSaid : Prop := Claim7.holds Tryz.pinned (.plain (OpenSpec.upto sumsSpec)) sumsUptoCard

/-- THE SECOND FORM's CARD OF 'softfloatlaw.Products'. -/
def productsUptoCard : Claim7 := { stood := { row := productsUptoRow, standIns := [], harness := (true, "3503e237b2df51ff58aba62c872aeca12bf6cdafbedfb67c3ddfef5d7bdd3364"), looks := false }, kinds := [], alts := [], laidByText := true, laidKinds := [.data], laidTests := true, laidLooks := .later }
def ProductsUptoCardSaid : Prop := Claim7.holds Tryz.pinned (.plain (OpenSpec.upto productsSpec)) productsUptoCard

/-- THE SECOND FORM's CARD OF 'softfloatlaw.Quotients'. -/
def quotientsUptoCard : Claim7 := { stood := { row := quotientsUptoRow, standIns := [], harness := (true, "3503e237b2df51ff58aba62c872aeca12bf6cdafbedfb67c3ddfef5d7bdd3364"), looks := false }, kinds := [], alts := [], laidByText := true, laidKinds := [.data], laidTests := true, laidLooks := .later }
def QuotientsUptoCardSaid : Prop := Claim7.holds Tryz.pinned (.plain (OpenSpec.upto quotientsSpec)) quotientsUptoCard

/-- THE SECOND FORM's CARD OF 'softfloatlaw.Fused'. -/
def fusedUptoCard : Claim7 := { stood := { row := fusedUptoRow, standIns := [], harness := (true, "3503e237b2df51ff58aba62c872aeca12bf6cdafbedfb67c3ddfef5d7bdd3364"), looks := false }, kinds := [], alts := [], laidByText := true, laidKinds := [.data], laidTests := true, laidLooks := .later }
def FusedUptoCardSaid : Prop := Claim7.holds Tryz.pinned (.plain (OpenSpec.upto fusedSpec)) fusedUptoCard

/-- THE SECOND FORM's CARD OF 'softfloatlaw.Roots'. -/
def rootsUptoCard : Claim7 := { stood := { row := rootsUptoRow, standIns := [], harness := (true, "3503e237b2df51ff58aba62c872aeca12bf6cdafbedfb67c3ddfef5d7bdd3364"), looks := false }, kinds := [], alts := [], laidByText := true, laidKinds := [.data], laidTests := true, laidLooks := .later }
def RootsUptoCardSaid : Prop := Claim7.holds Tryz.pinned (.plain (OpenSpec.upto rootsSpec)) rootsUptoCard

/-- THE SECOND FORM's CARD OF 'softfloatlaw.Sides'. -/
def sidesUptoCard : Claim7 := { stood := { row := sidesUptoRow, standIns := [], harness := (true, "3503e237b2df51ff58aba62c872aeca12bf6cdafbedfb67c3ddfef5d7bdd3364"), looks := false }, kinds := [], alts := [], laidByText := true, laidKinds := [.data], laidTests := true, laidLooks := .later }
def SidesUptoCardSaid : Prop := Claim7.holds Tryz.pinned (.plain (OpenSpec.upto sidesSpec)) sidesUptoCard

/-- THE SECOND FORM's CARD OF 'softfloatlaw.Others'. -/
def othersUptoCard : Claim7 := { stood := { row := othersUptoRow, standIns := [], harness := (true, "3503e237b2df51ff58aba62c872aeca12bf6cdafbedfb67c3ddfef5d7bdd3364"), looks := false }, kinds := [], alts := [], laidByText := true, laidKinds := [.data], laidTests := true, laidLooks := .later }
def OthersUptoCardSaid : Prop := Claim7.holds Tryz.pinned (.plain (OpenSpec.upto othersSpec)) othersUptoCard
end Rows
end Go.Proofs.YtcjihaafohnbeaaGreatDoor
