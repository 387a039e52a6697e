import Derived.Test.YtcjihaafohnbeaaDoorDo
import Derived.Test.YtcjihaafohnbeaaDoorRefNan
import Derived.Shelf.Abstract
namespace Go.Proofs.YtcjihaafohnbeaaDoor
open Go.RowKit

theorem index10 (w : World) : (Instr.index 48 (.agg opsCells) (.int .u8 10)).run Tryd.prog w = .ok (.agg #[.int .i64 ((0 : Nat) : Int), .func (.func 32) #[] #[], .nilFunc]) w := by kernel_rfl
theorem soft_clear (m x y z : Int) (hm : 0 ≤ m ∧ m ≤ 4) (hx : 0 ≤ x ∧ x < 18446744073709551616) (hy : 0 ≤ y ∧ y < 18446744073709551616) (hz : 0 ≤ z ∧ z < 18446744073709551616) (w : World) :
    Calls Tryd.prog 12 #[.agg #[.int .u8 10, .int .u8 m, .int .u64 x, .int .u64 y, .int .u64 z]] w fun e w' =>
      e = .returned (.agg #[.int .u64 0, .int .u8 0, .bool false]) ∧ Below w.heap.size w w' := by
  obtain ⟨X, rfl⟩ := Int.eq_ofNat_of_zero_le hx.1
  obtain ⟨Y, rfl⟩ := Int.eq_ofNat_of_zero_le hy.1
  obtain ⟨Z, rfl⟩ := Int.eq_ofNat_of_zero_le hz.1
  exact soft_do 10 m X Y Z 0 32 (by omega) hm (by omega) (by omega) (by omega) (by omega) index10 rfl w 0 0 false (enters_of Tryd.func32 (by kernel_rfl) rfl) (fun w1 _ => zeros_any 10 m X Y Z w1)

end Go.Proofs.YtcjihaafohnbeaaDoor
