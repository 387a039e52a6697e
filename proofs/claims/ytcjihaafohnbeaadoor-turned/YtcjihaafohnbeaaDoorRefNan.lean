import Derived.Test.YtcjihaafohnbeaaDoorNan
import Derived.Deep.Light
import Derived.Deep.Cut
import Derived.Deep.CutRange
namespace Go.Proofs.YtcjihaafohnbeaaDoor
open Go.RowKit

def anyN (l : List Int) : Bool := l.any isN
theorem nanFlag_none {l : List Int} (h : anyN l = false) : nanFlag l = 0 := by
  unfold nanFlag
  rw [if_neg]
  intro hs
  obtain ⟨a, ha, h5⟩ := List.any_eq_true.1 hs
  have := List.any_eq_false.1 h a ha
  simp [isS, isN] at this h5
  omega
def fi (x : Int) (l : List Int) : Int := if l.any isN then (if isN x then 0 else 1) else -1

end Go.Proofs.YtcjihaafohnbeaaDoor
