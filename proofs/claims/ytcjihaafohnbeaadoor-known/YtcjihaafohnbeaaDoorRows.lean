/-
  NARROWER THAN 'FOR EVERY INPUT', by the rows' own cells (each row's printed sentence says how): Around: laid · Turned: laid · Rounded: laid · Known: laid.
  DERIVED. THE GIVEN ROWS OF THIS SEAT. 4 by the template 'for every input the law returns true; each argument reads behind the call as it read before'; 0 by the template 'total and deterministic' (their statements: YtcjihaafohnbeaaDoorTotals.lean).
  GIVEN WITH THE SEED: the statements are not yours to turn. If you find one false, say at which input.
  Laid BY PROGRAM, IN A SANDBOX (cutbox-rows.mjs): the forced cells as the released guide's own fill.sh prints them over the translation 2534b3fb2ee5b682… (all of the seat's roots in one cut). By AI agents, Wed Nov 11 2026. No macro, syntax, notation, axiom, sorry.
-/
import Derived.Test.YtcjihaafohnbeaaDoorChecked
import GoSem.Claim
import GoSem.ClaimJoined
import GoSem.ClaimMapViews
import Derived.JoinedTies
import Derived.KernelRfl
namespace Go.Proofs.YtcjihaafohnbeaaDoor
/- THE CELL 'sum', in the pinned program and in every row, IS THE sha256 OF THE DUMP (.gsa) THAT YtcjihaafohnbeaaDoorProg.lean LOADS. Nothing in Lean hashes anything: it is a label: what it is worth is what the hold of that sum in a sandbox is worth. -/
noncomputable def Tryd.pinned : Pinned := { name := "ytcjihaafohnbeaadoor", sum := "2534b3fb2ee5b6827daa5ccc74e07e94706a6665d9bb5e91c0a0c7ea6f74c7ea", checked := Tryd.checked }
namespace Rows
def none {H : Type} : Left H := { results := [], args := [] }

/- WHAT THE LISTED PACKAGE-LEVEL VARIABLES READ AS WHEN THE CALL BEGINS. Each datum BY PROGRAM (the guide's laid-datum.mjs) off the statement by which the dump's own 'gosem.cut.vars' lays the variable. In a bare row this is a premise. The card (YtcjihaafohnbeaaDoorCards.lean) ties it to the program's text. -/
def laid_softfloat_soft_growth {H : Type} : DataW H := .agg [.agg [.agg [.lit (.int .u8 0), .lit (.int .u8 0), .lit (.int .u8 1), .lit (.int .u8 2)], .agg [.lit (.int .u8 0), .lit (.int .u8 0), .lit (.int .u8 1), .lit (.int .u8 2)]], .agg [.agg [.lit (.int .u8 0), .lit (.int .u8 0), .lit (.int .u8 2), .lit (.int .u8 2)], .agg [.lit (.int .u8 0), .lit (.int .u8 0), .lit (.int .u8 2), .lit (.int .u8 2)]], .agg [.agg [.lit (.int .u8 0), .lit (.int .u8 0), .lit (.int .u8 0), .lit (.int .u8 0)], .agg [.lit (.int .u8 0), .lit (.int .u8 0), .lit (.int .u8 0), .lit (.int .u8 0)]], .agg [.agg [.lit (.int .u8 0), .lit (.int .u8 2), .lit (.int .u8 2), .lit (.int .u8 2)], .agg [.lit (.int .u8 0), .lit (.int .u8 0), .lit (.int .u8 0), .lit (.int .u8 0)]], .agg [.agg [.lit (.int .u8 0), .lit (.int .u8 0), .lit (.int .u8 0), .lit (.int .u8 0)], .agg [.lit (.int .u8 0), .lit (.int .u8 2), .lit (.int .u8 2), .lit (.int .u8 2)]]]

/-- 'softfloatlaw.Around': WHATEVER THE INPUT: true; the input reads as it did. -/
def aroundSpec : ChangeSpec := { name := "around", fn := fun _ => fun
  | [d] => { results := [.lit (.bool true)], args := [d] }
  | _ => none }
def aroundRow : OpenClaim := { program := "ytcjihaafohnbeaadoor", sum := "2534b3fb2ee5b6827daa5ccc74e07e94706a6665d9bb5e91c0a0c7ea6f74c7ea", func := "softfloat/softfloatlaw.Around", spec := "around", inPlace := ["math/bits.Add64", "math/bits.Sub64"], unfollowed := true, recurses := true, named := ["softfloat/soft.growth", "math/bits.divideError", "math/bits.overflowError"], apart := false, laid := [("softfloat/soft.growth", laid_softfloat_soft_growth)] }
def AroundSaid : Prop := aroundRow.holds Tryd.pinned (OpenSpec.ofChange aroundSpec)

/-- ITS FALSE NEIGHBOUR: 'it returns false'. Refute it at one input. -/
def aroundWrong : ChangeSpec := { name := "around", fn := fun _ => fun
  | [d] => { results := [.lit (.bool false)], args := [d] }
  | _ => none }
def AroundWrongFalsely : Prop := aroundRow.holds Tryd.pinned (OpenSpec.ofChange aroundWrong)

/-- 'softfloatlaw.Turned': WHATEVER THE INPUT: true; the input reads as it did. -/
def turnedSpec : ChangeSpec := { name := "turned", fn := fun _ => fun
  | [d] => { results := [.lit (.bool true)], args := [d] }
  | _ => none }
def turnedRow : OpenClaim := { program := "ytcjihaafohnbeaadoor", sum := "2534b3fb2ee5b6827daa5ccc74e07e94706a6665d9bb5e91c0a0c7ea6f74c7ea", func := "softfloat/softfloatlaw.Turned", spec := "turned", inPlace := ["math/bits.Add64", "math/bits.Sub64"], unfollowed := true, recurses := true, named := ["softfloat/soft.growth", "math/bits.divideError", "math/bits.overflowError"], apart := false, laid := [("softfloat/soft.growth", laid_softfloat_soft_growth)] }
def TurnedSaid : Prop := turnedRow.holds Tryd.pinned (OpenSpec.ofChange turnedSpec)

/-- ITS FALSE NEIGHBOUR: 'it returns false'. Refute it at one input. -/
def turnedWrong : ChangeSpec := { name := "turned", fn := fun _ => fun
  | [d] => { results := [.lit (.bool false)], args := [d] }
  | _ => none }
def TurnedWrongFalsely : Prop := turnedRow.holds Tryd.pinned (OpenSpec.ofChange turnedWrong)

/-- 'softfloatlaw.Rounded': WHATEVER THE INPUT: true; the input reads as it did. -/
def roundedSpec : ChangeSpec := { name := "rounded", fn := fun _ => fun
  | [d] => { results := [.lit (.bool true)], args := [d] }
  | _ => none }
def roundedRow : OpenClaim := { program := "ytcjihaafohnbeaadoor", sum := "2534b3fb2ee5b6827daa5ccc74e07e94706a6665d9bb5e91c0a0c7ea6f74c7ea", func := "softfloat/softfloatlaw.Rounded", spec := "rounded", inPlace := ["math/bits.Add64", "math/bits.Sub64"], unfollowed := true, recurses := true, named := ["softfloat/soft.growth", "math/bits.divideError", "math/bits.overflowError"], apart := false, laid := [("softfloat/soft.growth", laid_softfloat_soft_growth)] }
def RoundedSaid : Prop := roundedRow.holds Tryd.pinned (OpenSpec.ofChange roundedSpec)

/-- ITS FALSE NEIGHBOUR: 'it returns false'. Refute it at one input. -/
def roundedWrong : ChangeSpec := { name := "rounded", fn := fun _ => fun
  | [d] => { results := [.lit (.bool false)], args := [d] }
  | _ => none }
def RoundedWrongFalsely : Prop := roundedRow.holds Tryd.pinned (OpenSpec.ofChange roundedWrong)

/-- 'softfloatlaw.Known': WHATEVER THE INPUT: true; the input reads as it did. -/
def knownSpec : ChangeSpec := { name := "known", fn := fun _ => fun
  | [d] => { results := [.lit (.bool true)], args := [d] }
  | _ => none }
def knownRow : OpenClaim := { program := "ytcjihaafohnbeaadoor", sum := "2534b3fb2ee5b6827daa5ccc74e07e94706a6665d9bb5e91c0a0c7ea6f74c7ea", func := "softfloat/softfloatlaw.Known", spec := "known", inPlace := ["math/bits.Add64", "math/bits.Sub64"], unfollowed := true, recurses := true, named := ["softfloat/soft.growth", "math/bits.divideError", "math/bits.overflowError"], apart := false, laid := [("softfloat/soft.growth", laid_softfloat_soft_growth)] }
def KnownSaid : Prop := knownRow.holds Tryd.pinned (OpenSpec.ofChange knownSpec)

/-- ITS FALSE NEIGHBOUR: 'it returns false'. Refute it at one input. -/
def knownWrong : ChangeSpec := { name := "known", fn := fun _ => fun
  | [d] => { results := [.lit (.bool false)], args := [d] }
  | _ => none }
def KnownWrongFalsely : Prop := knownRow.holds Tryd.pinned (OpenSpec.ofChange knownWrong)

/- THE SECOND FORM. 'bulk': how many values and letters a reading holds, each counted each time it is reached (what is shared counts as often as it is met; a slice's spare places count too). A statement '..UptoSaid' is the law's where the arguments, and the package variables that the reading takes, are together of bulk at most 1048576: NARROWER than '..Said'. Prove '..Said' where nothing that the law and all that it calls make is longer than what came in: it says more and counts as full. Else prove '..UptoSaid'. A law counts once. -/
mutual
def uptoBulk {H : Type} : DataW H → Nat
  | .lit (.string bytes) => bytes.length + 1
  | .lit _ => 1
  | .nil => 1
  | .ptr d => uptoBulk d + 1
  | .slice elems spare => uptoBulkAll elems + uptoBulkAll spare + 1
  | .agg parts => uptoBulkAll parts + 1
  | .iface _ d => uptoBulk d + 1
  | .map entries => uptoBulkEntries entries + 1
  | .held _ => 1
def uptoBulkAll {H : Type} : List (DataW H) → Nat
  | [] => 0
  | d :: r => uptoBulk d + uptoBulkAll r
def uptoBulkEntries {H : Type} : List (Lit × DataW H) → Nat
  | [] => 0
  | x :: r => uptoBulkEntry x + uptoBulkEntries r
def uptoBulkEntry {H : Type} : Lit × DataW H → Nat
  | (.string bytes, d) => bytes.length + uptoBulk d + 1
  | (_, d) => uptoBulk d + 1
 end
def uptoSmall : (H : Type) → List (DataW H) → Bool := fun _ ds => decide (uptoBulkAll ds ≤ 1048576)
def OpenSpec.upto (s : _root_.Go.ChangeSpec) : _root_.Go.OpenSpec := { _root_.Go.OpenSpec.ofChange s with cond := some uptoSmall }

/-- 'softfloatlaw.Around', WHERE WHAT IT READS IS OF BULK AT MOST 1048576: true; the input reads as it did. -/
def aroundUptoRow : OpenClaim := { program := "ytcjihaafohnbeaadoor", sum := "2534b3fb2ee5b6827daa5ccc74e07e94706a6665d9bb5e91c0a0c7ea6f74c7ea", func := "softfloat/softfloatlaw.Around", spec := "around", inPlace := ["math/bits.Add64", "math/bits.Sub64"], unfollowed := true, recurses := true, named := ["softfloat/soft.growth", "math/bits.divideError", "math/bits.overflowError"], apart := false, laid := [("softfloat/soft.growth", laid_softfloat_soft_growth)], narrowed := true }
def AroundUptoSaid : Prop := aroundUptoRow.holds Tryd.pinned (OpenSpec.upto aroundSpec)

/-- 'softfloatlaw.Turned', WHERE WHAT IT READS IS OF BULK AT MOST 1048576: true; the input reads as it did. -/
def turnedUptoRow : OpenClaim := { program := "ytcjihaafohnbeaadoor", sum := "2534b3fb2ee5b6827daa5ccc74e07e94706a6665d9bb5e91c0a0c7ea6f74c7ea", func := "softfloat/softfloatlaw.Turned", spec := "turned", inPlace := ["math/bits.Add64", "math/bits.Sub64"], unfollowed := true, recurses := true, named := ["softfloat/soft.growth", "math/bits.divideError", "math/bits.overflowError"], apart := false, laid := [("softfloat/soft.growth", laid_softfloat_soft_growth)], narrowed := true }
def TurnedUptoSaid : Prop := turnedUptoRow.holds Tryd.pinned (OpenSpec.upto turnedSpec)

/-- 'softfloatlaw.Rounded', WHERE WHAT IT READS IS OF BULK AT MOST 1048576: true; the input reads as it did. -/
def roundedUptoRow : OpenClaim := { program := "ytcjihaafohnbeaadoor", sum := "2534b3fb2ee5b6827daa5ccc74e07e94706a6665d9bb5e91c0a0c7ea6f74c7ea", func := "softfloat/softfloatlaw.Rounded", spec := "rounded", inPlace := ["math/bits.Add64", "math/bits.Sub64"], unfollowed := true, recurses := true, named := ["softfloat/soft.growth", "math/bits.divideError", "math/bits.overflowError"], apart := false, laid := [("softfloat/soft.growth", laid_softfloat_soft_growth)], narrowed := true }
def RoundedUptoSaid : Prop := roundedUptoRow.holds Tryd.pinned (OpenSpec.upto roundedSpec)

/-- 'softfloatlaw.Known', WHERE WHAT IT READS IS OF BULK AT MOST 1048576: true; the input reads as it did. -/
def knownUptoRow : OpenClaim := { program := "ytcjihaafohnbeaadoor", sum := "2534b3fb2ee5b6827daa5ccc74e07e94706a6665d9bb5e91c0a0c7ea6f74c7ea", func := "softfloat/softfloatlaw.Known", spec := "known", inPlace := ["math/bits.Add64", "math/bits.Sub64"], unfollowed := true, recurses := true, named := ["softfloat/soft.growth", "math/bits.divideError", "math/bits.overflowError"], apart := false, laid := [("softfloat/soft.growth", laid_softfloat_soft_growth)], narrowed := true }
def KnownUptoSaid : Prop := knownUptoRow.holds Tryd.pinned (OpenSpec.upto knownSpec)

end Rows
end Go.Proofs.YtcjihaafohnbeaaDoor
