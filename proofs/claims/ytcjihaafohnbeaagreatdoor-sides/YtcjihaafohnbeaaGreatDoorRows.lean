/-
  NARROWER THAN 'FOR EVERY INPUT', by the rows' own cells (each row's printed sentence says how): Sums: laid · Products: laid · Quotients: laid · Fused: laid · Roots: laid · Sides: laid · Others: laid.
  DERIVED. THE GIVEN ROWS OF THIS SEAT. 7 by the template 'for every input the law returns true; each argument reads behind the call as it read before'; 0 by the template 'total and deterministic' (their statements: YtcjihaafohnbeaaGreatDoorTotals.lean).
  GIVEN WITH THE SEED: the statements are not yours to turn. If you find one false, say at which input.
  Laid BY PROGRAM, IN A SANDBOX (cutbox-rows.mjs): the forced cells as the released guide's own fill.sh prints them over the translation 88955d73f72fd477… (all of the seat's roots in one cut). By AI agents, Wed Nov 11 2026. No macro, syntax, notation, axiom, sorry.
-/
import Derived.Test.YtcjihaafohnbeaaGreatDoorChecked
import GoSem.Claim
import GoSem.ClaimJoined
import GoSem.ClaimMapViews
import Derived.JoinedTies
import Derived.KernelRfl
namespace Go.Proofs.YtcjihaafohnbeaaGreatDoor
/- THE CELL 'sum', in the pinned program and in every row, IS THE sha256 OF THE DUMP (.gsa) THAT YtcjihaafohnbeaaGreatDoorProg.lean LOADS. Nothing in Lean hashes anything: it is a label: what it is worth is what the hold of that sum in a sandbox is worth. -/
noncomputable def Tryz.pinned : Pinned := { name := "ytcjihaafohnbeaagreatdoor", sum := "88955d73f72fd47790e267029820347c3abaf6e641f775b10ad48d6cab35bf9e", checked := Tryz.checked }
namespace Rows
def none {H : Type} : Left H := { results := [], args := [] }

/- WHAT THE LISTED PACKAGE-LEVEL VARIABLES READ AS WHEN THE CALL BEGINS. Each datum BY PROGRAM (the guide's laid-datum.mjs) off the statement by which the dump's own 'gosem.cut.vars' lays the variable. In a bare row this is a premise. The card (YtcjihaafohnbeaaGreatDoorCards.lean) ties it to the program's text. -/
def laid_softfloat_soft_growth {H : Type} : DataW H := .agg [.agg [.agg [.lit (.int .u8 0), .lit (.int .u8 0), .lit (.int .u8 1), .lit (.int .u8 2)], .agg [.lit (.int .u8 0), .lit (.int .u8 0), .lit (.int .u8 1), .lit (.int .u8 2)]], .agg [.agg [.lit (.int .u8 0), .lit (.int .u8 0), .lit (.int .u8 2), .lit (.int .u8 2)], .agg [.lit (.int .u8 0), .lit (.int .u8 0), .lit (.int .u8 2), .lit (.int .u8 2)]], .agg [.agg [.lit (.int .u8 0), .lit (.int .u8 0), .lit (.int .u8 0), .lit (.int .u8 0)], .agg [.lit (.int .u8 0), .lit (.int .u8 0), .lit (.int .u8 0), .lit (.int .u8 0)]], .agg [.agg [.lit (.int .u8 0), .lit (.int .u8 2), .lit (.int .u8 2), .lit (.int .u8 2)], .agg [.lit (.int .u8 0), .lit (.int .u8 0), .lit (.int .u8 0), .lit (.int .u8 0)]], .agg [.agg [.lit (.int .u8 0), .lit (.int .u8 0), .lit (.int .u8 0), .lit (.int .u8 0)], .agg [.lit (.int .u8 0), .lit (.int .u8 2), .lit (.int .u8 2), .lit (.int .u8 2)]]]

/-- 'softfloatlaw.Sums': WHATEVER THE INPUT: true; the input reads as it did. -/
def sumsSpec : ChangeSpec := { name := "sums", fn := fun _ => fun
  | [d] => { results := [.lit (.bool true)], args := [d] }
  | _ => none }
def sumsRow : OpenClaim := { program := "ytcjihaafohnbeaagreatdoor", sum := "88955d73f72fd47790e267029820347c3abaf6e641f775b10ad48d6cab35bf9e", func := "softfloat/softfloatlaw.Sums", spec := "sums", inPlace := ["math/bits.Add64", "math/bits.Sub64"], unfollowed := true, recurses := true, named := ["softfloat/soft.growth", "math/bits.divideError", "math/bits.overflowError"], apart := false, laid := [("softfloat/soft.growth", laid_softfloat_soft_growth)] }
def SumsSaid : Prop := sumsRow.holds Tryz.pinned (OpenSpec.ofChange sumsSpec)

/-- ITS FALSE NEIGHBOUR: 'it returns false'. Refute it at one input. -/
def sumsWrong : ChangeSpec := { name := "sums", fn := fun _ => fun
  | [d] => { results := [.lit (.bool false)], args := [d] }
  | _ => none }
def SumsWrongFalsely : Prop := sumsRow.holds Tryz.pinned (OpenSpec.ofChange sumsWrong)

/-- 'softfloatlaw.Products': WHATEVER THE INPUT: true; the input reads as it did. -/
def productsSpec : ChangeSpec := { name := "products", fn := fun _ => fun
  | [d] => { results := [.lit (.bool true)], args := [d] }
  | _ => none }
def productsRow : OpenClaim := { program := "ytcjihaafohnbeaagreatdoor", sum := "88955d73f72fd47790e267029820347c3abaf6e641f775b10ad48d6cab35bf9e", func := "softfloat/softfloatlaw.Products", spec := "products", inPlace := ["math/bits.Add64", "math/bits.Sub64"], unfollowed := true, recurses := true, named := ["softfloat/soft.growth", "math/bits.divideError", "math/bits.overflowError"], apart := false, laid := [("softfloat/soft.growth", laid_softfloat_soft_growth)] }
def ProductsSaid : Prop := productsRow.holds Tryz.pinned (OpenSpec.ofChange productsSpec)

/-- ITS FALSE NEIGHBOUR: 'it returns false'. Refute it at one input. -/
def productsWrong : ChangeSpec := { name := "products", fn := fun _ => fun
  | [d] => { results := [.lit (.bool false)], args := [d] }
  | _ => none }
def ProductsWrongFalsely : Prop := productsRow.holds Tryz.pinned (OpenSpec.ofChange productsWrong)

/-- 'softfloatlaw.Quotients': WHATEVER THE INPUT: true; the input reads as it did. -/
def quotientsSpec : ChangeSpec := { name := "quotients", fn := fun _ => fun
  | [d] => { results := [.lit (.bool true)], args := [d] }
  | _ => none }
def quotientsRow : OpenClaim := { program := "ytcjihaafohnbeaagreatdoor", sum := "88955d73f72fd47790e267029820347c3abaf6e641f775b10ad48d6cab35bf9e", func := "softfloat/softfloatlaw.Quotients", spec := "quotients", inPlace := ["math/bits.Add64", "math/bits.Sub64"], unfollowed := true, recurses := true, named := ["softfloat/soft.growth", "math/bits.divideError", "math/bits.overflowError"], apart := false, laid := [("softfloat/soft.growth", laid_softfloat_soft_growth)] }
def QuotientsSaid : Prop := quotientsRow.holds Tryz.pinned (OpenSpec.ofChange quotientsSpec)

/-- ITS FALSE NEIGHBOUR: 'it returns false'. Refute it at one input. -/
def quotientsWrong : ChangeSpec := { name := "quotients", fn := fun _ => fun
  | [d] => { results := [.lit (.bool false)], args := [d] }
  | _ => none }
def QuotientsWrongFalsely : Prop := quotientsRow.holds Tryz.pinned (OpenSpec.ofChange quotientsWrong)

/-- 'softfloatlaw.Fused': WHATEVER THE INPUT: true; the input reads as it did. -/
def fusedSpec : ChangeSpec := { name := "fused", fn := fun _ => fun
  | [d] => { results := [.lit (.bool true)], args := [d] }
  | _ => none }
def fusedRow : OpenClaim := { program := "ytcjihaafohnbeaagreatdoor", sum := "88955d73f72fd47790e267029820347c3abaf6e641f775b10ad48d6cab35bf9e", func := "softfloat/softfloatlaw.Fused", spec := "fused", inPlace := ["math/bits.Add64", "math/bits.Sub64"], unfollowed := true, recurses := true, named := ["softfloat/soft.growth", "math/bits.divideError", "math/bits.overflowError"], apart := false, laid := [("softfloat/soft.growth", laid_softfloat_soft_growth)] }
def FusedSaid : Prop := fusedRow.holds Tryz.pinned (OpenSpec.ofChange fusedSpec)

/-- ITS FALSE NEIGHBOUR: 'it returns false'. Refute it at one input. -/
def fusedWrong : ChangeSpec := { name := "fused", fn := fun _ => fun
  | [d] => { results := [.lit (.bool false)], args := [d] }
  | _ => none }
def FusedWrongFalsely : Prop := fusedRow.holds Tryz.pinned (OpenSpec.ofChange fusedWrong)

/-- 'softfloatlaw.Roots': WHATEVER THE INPUT: true; the input reads as it did. -/
def rootsSpec : ChangeSpec := { name := "roots", fn := fun _ => fun
  | [d] => { results := [.lit (.bool true)], args := [d] }
  | _ => none }
def rootsRow : OpenClaim := { program := "ytcjihaafohnbeaagreatdoor", sum := "88955d73f72fd47790e267029820347c3abaf6e641f775b10ad48d6cab35bf9e", func := "softfloat/softfloatlaw.Roots", spec := "roots", inPlace := ["math/bits.Add64", "math/bits.Sub64"], unfollowed := true, recurses := true, named := ["softfloat/soft.growth", "math/bits.divideError", "math/bits.overflowError"], apart := false, laid := [("softfloat/soft.growth", laid_softfloat_soft_growth)] }
def RootsSaid : Prop := rootsRow.holds Tryz.pinned (OpenSpec.ofChange rootsSpec)

/-- ITS FALSE NEIGHBOUR: 'it returns false'. Refute it at one input. -/
def rootsWrong : ChangeSpec := { name := "roots", fn := fun _ => fun
  | [d] => { results := [.lit (.bool false)], args := [d] }
  | _ => none }
def RootsWrongFalsely : Prop := rootsRow.holds Tryz.pinned (OpenSpec.ofChange rootsWrong)

/-- 'softfloatlaw.Sides': WHATEVER THE INPUT: true; the input reads as it did. -/
def sidesSpec : ChangeSpec := { name := "sides", fn := fun _ => fun
  | [d] => { results := [.lit (.bool true)], args := [d] }
  | _ => none }
def sidesRow : OpenClaim := { program := "ytcjihaafohnbeaagreatdoor", sum := "88955d73f72fd47790e267029820347c3abaf6e641f775b10ad48d6cab35bf9e", func := "softfloat/softfloatlaw.Sides", spec := "sides", inPlace := ["math/bits.Add64", "math/bits.Sub64"], unfollowed := true, recurses := true, named := ["softfloat/soft.growth", "math/bits.divideError", "math/bits.overflowError"], apart := false, laid := [("softfloat/soft.growth", laid_softfloat_soft_growth)] }
def SidesSaid : Prop := sidesRow.holds Tryz.pinned (OpenSpec.ofChange sidesSpec)

/-- ITS FALSE NEIGHBOUR: 'it returns false'. Refute it at one input. -/
def sidesWrong : ChangeSpec := { name := "sides", fn := fun _ => fun
  | [d] => { results := [.lit (.bool false)], args := [d] }
  | _ => none }
def SidesWrongFalsely : Prop := sidesRow.holds Tryz.pinned (OpenSpec.ofChange sidesWrong)

/-- 'softfloatlaw.Others': WHATEVER THE INPUT: true; the input reads as it did. -/
def othersSpec : ChangeSpec := { name := "others", fn := fun _ => fun
  | [d] => { results := [.lit (.bool true)], args := [d] }
  | _ => none }
def othersRow : OpenClaim := { program := "ytcjihaafohnbeaagreatdoor", sum := "88955d73f72fd47790e267029820347c3abaf6e641f775b10ad48d6cab35bf9e", func := "softfloat/softfloatlaw.Others", spec := "others", inPlace := ["math/bits.Add64", "math/bits.Sub64"], unfollowed := true, recurses := true, named := ["softfloat/soft.growth", "math/bits.divideError", "math/bits.overflowError"], apart := false, laid := [("softfloat/soft.growth", laid_softfloat_soft_growth)] }
def OthersSaid : Prop := othersRow.holds Tryz.pinned (OpenSpec.ofChange othersSpec)

/-- ITS FALSE NEIGHBOUR: 'it returns false'. Refute it at one input. -/
def othersWrong : ChangeSpec := { name := "others", fn := fun _ => fun
  | [d] => { results := [.lit (.bool false)], args := [d] }
  | _ => none }
def OthersWrongFalsely : Prop := othersRow.holds Tryz.pinned (OpenSpec.ofChange othersWrong)

/- THE SECOND FORM. 'bulk': how many values and letters a reading holds, each counted each time it is reached (what is shared counts as often as it is met; a slice's spare places count too). A statement '..UptoSaid' is the law's where the arguments, and the package variables that the reading takes, are together of bulk at most 1048576: NARROWER than '..Said'. Prove '..Said' where nothing that the law and all that it calls make is longer than what came in: it says more and counts as full. Else prove '..UptoSaid'. A law counts once. -/
mutual
def uptoBulk {H : Type} : DataW H → Nat
  | .lit (.string bytes) => bytes.length + 1
  | .lit _ => 1
  | .nil => 1
  | .ptr d => uptoBulk d + 1
  | .slice elems spare => uptoBulkAll elems + uptoBulkAll spare + 1
  | .agg parts => uptoBulkAll parts + 1
  | .iface _ d => uptoBulk d + 1
  | .map entries => uptoBulkEntries entries + 1
  | .held _ => 1
def uptoBulkAll {H : Type} : List (DataW H) → Nat
  | [] => 0
  | d :: r => uptoBulk d + uptoBulkAll r
def uptoBulkEntries {H : Type} : List (Lit × DataW H) → Nat
  | [] => 0
  | x :: r => uptoBulkEntry x + uptoBulkEntries r
def uptoBulkEntry {H : Type} : Lit × DataW H → Nat
  | (.string bytes, d) => bytes.length + uptoBulk d + 1
  | (_, d) => uptoBulk d + 1
 end
def uptoSmall : (H : Type) → List (DataW H) → Bool := fun _ ds => decide (uptoBulkAll ds ≤ 1048576)
def OpenSpec.upto (s : _root_.Go.ChangeSpec) : _root_.Go.OpenSpec := { _root_.Go.OpenSpec.ofChange s with cond := some uptoSmall }

/-- 'softfloatlaw.Sums', WHERE WHAT IT READS IS OF BULK AT MOST 1048576: true; the input reads as it did. -/
def sumsUptoRow : OpenClaim := { program := "ytcjihaafohnbeaagreatdoor", sum := "88955d73f72fd47790e267029820347c3abaf6e641f775b10ad48d6cab35bf9e", func := "softfloat/softfloatlaw.Sums", spec := "sums", inPlace := ["math/bits.Add64", "math/bits.Sub64"], unfollowed := true, recurses := true, named := ["softfloat/soft.growth", "math/bits.divideError", "math/bits.overflowError"], apart := false, laid := [("softfloat/soft.growth", laid_softfloat_soft_growth)], narrowed := true }
def SumsUptoSaid : Prop := sumsUptoRow.holds Tryz.pinned (OpenSpec.upto sumsSpec)

/-- 'softfloatlaw.Products', WHERE WHAT IT READS IS OF BULK AT MOST 1048576: true; the input reads as it did. -/
def productsUptoRow : OpenClaim := { program := "ytcjihaafohnbeaagreatdoor", sum := "88955d73f72fd47790e267029820347c3abaf6e641f775b10ad48d6cab35bf9e", func := "softfloat/softfloatlaw.Products", spec := "products", inPlace := ["math/bits.Add64", "math/bits.Sub64"], unfollowed := true, recurses := true, named := ["softfloat/soft.growth", "math/bits.divideError", "math/bits.overflowError"], apart := false, laid := [("softfloat/soft.growth", laid_softfloat_soft_growth)], narrowed := true }
def ProductsUptoSaid : Prop := productsUptoRow.holds Tryz.pinned (OpenSpec.upto productsSpec)

/-- 'softfloatlaw.Quotients', WHERE WHAT IT READS IS OF BULK AT MOST 1048576: true; the input reads as it did. -/
def quotientsUptoRow : OpenClaim := { program := "ytcjihaafohnbeaagreatdoor", sum := "88955d73f72fd47790e267029820347c3abaf6e641f775b10ad48d6cab35bf9e", func := "softfloat/softfloatlaw.Quotients", spec := "quotients", inPlace := ["math/bits.Add64", "math/bits.Sub64"], unfollowed := true, recurses := true, named := ["softfloat/soft.growth", "math/bits.divideError", "math/bits.overflowError"], apart := false, laid := [("softfloat/soft.growth", laid_softfloat_soft_growth)], narrowed := true }
def QuotientsUptoSaid : Prop := quotientsUptoRow.holds Tryz.pinned (OpenSpec.upto quotientsSpec)

/-- 'softfloatlaw.Fused', WHERE WHAT IT READS IS OF BULK AT MOST 1048576: true; the input reads as it did. -/
def fusedUptoRow : OpenClaim := { program := "ytcjihaafohnbeaagreatdoor", sum := "88955d73f72fd47790e267029820347c3abaf6e641f775b10ad48d6cab35bf9e", func := "softfloat/softfloatlaw.Fused", spec := "fused", inPlace := ["math/bits.Add64", "math/bits.Sub64"], unfollowed := true, recurses := true, named := ["softfloat/soft.growth", "math/bits.divideError", "math/bits.overflowError"], apart := false, laid := [("softfloat/soft.growth", laid_softfloat_soft_growth)], narrowed := true }
def FusedUptoSaid : Prop := fusedUptoRow.holds Tryz.pinned (OpenSpec.upto fusedSpec)

/-- 'softfloatlaw.Roots', WHERE WHAT IT READS IS OF BULK AT MOST 1048576: true; the input reads as it did. -/
def rootsUptoRow : OpenClaim := { program := "ytcjihaafohnbeaagreatdoor", sum := "88955d73f72fd47790e267029820347c3abaf6e641f775b10ad48d6cab35bf9e", func := "softfloat/softfloatlaw.Roots", spec := "roots", inPlace := ["math/bits.Add64", "math/bits.Sub64"], unfollowed := true, recurses := true, named := ["softfloat/soft.growth", "math/bits.divideError", "math/bits.overflowError"], apart := false, laid := [("softfloat/soft.growth", laid_softfloat_soft_growth)], narrowed := true }
def RootsUptoSaid : Prop := rootsUptoRow.holds Tryz.pinned (OpenSpec.upto rootsSpec)

/-- 'softfloatlaw.Sides', WHERE WHAT IT READS IS OF BULK AT MOST 1048576: true; the input reads as it did. -/
def sidesUptoRow : OpenClaim := { program := "ytcjihaafohnbeaagreatdoor", sum := "88955d73f72fd47790e267029820347c3abaf6e641f775b10ad48d6cab35bf9e", func := "softfloat/softfloatlaw.Sides", spec := "sides", inPlace := ["math/bits.Add64", "math/bits.Sub64"], unfollowed := true, recurses := true, named := ["softfloat/soft.growth", "math/bits.divideError", "math/bits.overflowError"], apart := false, laid := [("softfloat/soft.growth", laid_softfloat_soft_growth)], narrowed := true }
def SidesUptoSaid : Prop := sidesUptoRow.holds Tryz.pinned (OpenSpec.upto sidesSpec)

/-- 'softfloatlaw.Others', WHERE WHAT IT READS IS OF BULK AT MOST 1048576: true; the input reads as it did. -/
def othersUptoRow : OpenClaim := { program := "ytcjihaafohnbeaagreatdoor", sum := "88955d73f72fd47790e267029820347c3abaf6e641f775b10ad48d6cab35bf9e", func := "softfloat/softfloatlaw.Others", spec := "others", inPlace := ["math/bits.Add64", "math/bits.Sub64"], unfollowed := true, recurses := true, named := ["softfloat/soft.growth", "math/bits.divideError", "math/bits.overflowError"], apart := false, laid := [("softfloat/soft.growth", laid_softfloat_soft_growth)], narrowed := true }
def OthersUptoSaid : Prop := othersUptoRow.holds Tryz.pinned (OpenSpec.upto othersSpec)

end Rows
end Go.Proofs.YtcjihaafohnbeaaGreatDoor
