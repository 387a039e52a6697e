import Derived.Test.YtcjihaafohnbeaaGreatDoorDo
namespace Go.Proofs.YtcjihaafohnbeaaGreatDoor
open Go.RowKit

/-- A NaN among the operands, where nothing is reckoned despite it. -/
theorem soft_nans (op m x y z : Int) (n f : Nat) (ho : 1 ≤ op ∧ op ≤ 10) (hm : 0 ≤ m ∧ m ≤ 4) (hx : 0 ≤ x ∧ x < 18446744073709551616) (hy : 0 ≤ y ∧ y < 18446744073709551616) (hz : 0 ≤ z ∧ z < 18446744073709551616) (hn : n ≤ 3)
    (hix : ∀ w, (Instr.index 47 (.agg opsCells) (.int .u8 op)).run Tryz.prog w = .ok (.agg #[.int .i64 n, .func (.func f) #[] #[], .nilFunc]) w)
    (hnan : ([x, y, z].take n).any isN = true) (w : World) :
    Calls Tryz.prog 13 #[.agg #[.int .u8 op, .int .u8 m, .int .u64 x, .int .u64 y, .int .u64 z]] w fun e w' =>
      e = .returned (.agg #[.int .u64 (nanBits ([x, y, z].take n)), .int .u8 (nanFlag ([x, y, z].take n)), .bool false]) ∧ Below w.heap.size w w' := by
  obtain ⟨X, rfl⟩ := Int.eq_ofNat_of_zero_le hx.1
  obtain ⟨Y, rfl⟩ := Int.eq_ofNat_of_zero_le hy.1
  obtain ⟨Z, rfl⟩ := Int.eq_ofNat_of_zero_le hz.1
  rcases Bool.eq_false_or_eq_true (nanFlag ([(X : Int), (Y : Int), (Z : Int)].take n) == 16) with h | h
  · exact soft_nan op m X Y Z n f ho hm (by omega) (by omega) (by omega) hn hix hnan h w
  · exact soft_nil op m X Y Z n f ho hm (by omega) (by omega) (by omega) hn hix hnan h w
theorem anyN_false {x y : Nat} {z : Int} (h1 : kind x < 4) (h2 : kind y < 4) : ([(x : Int), (y : Int), z].take 2).any isN = false := by simp [isN]; omega
end Go.Proofs.YtcjihaafohnbeaaGreatDoor
