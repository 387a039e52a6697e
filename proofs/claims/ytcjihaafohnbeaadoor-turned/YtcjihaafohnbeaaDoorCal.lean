import Derived.Test.YtcjihaafohnbeaaDoorPE
import Derived.Test.YtcjihaafohnbeaaDoorLaw2
namespace Go.Proofs.YtcjihaafohnbeaaDoor
open Go.RowKit

/-- The other sign. -/
def neg (y : Nat) : Nat := if y < 9223372036854775808 then y + 9223372036854775808 else y - 9223372036854775808
theorem neg_lt {y : Nat} (h : y < 18446744073709551616) : neg y < 18446744073709551616 := by unfold neg; split <;> omega
theorem neg_neg {y : Nat} (h : y < 18446744073709551616) : neg (neg y) = y := by unfold neg; (repeat' split) <;> omega
theorem xor_low (y : Nat) (h : y < 9223372036854775808) : y ^^^ 2 ^ 63 = 2 ^ 63 + y := by
  apply Nat.eq_of_testBit_eq
  intro i
  rw [Nat.testBit_xor, Nat.testBit_two_pow]
  by_cases h1 : i < 63
  · rw [Nat.testBit_two_pow_add_gt h1]
    have : ¬ 63 = i := by omega
    simp [this]
  · by_cases h2 : i = 63
    · subst h2
      rw [Nat.testBit_two_pow_add_eq]
      simp
    · have hp : 2 ^ 64 ≤ 2 ^ i := Nat.pow_le_pow_right (by decide) (by omega)
      rw [Nat.testBit_lt_two_pow (show y < 2 ^ i by omega), Nat.testBit_lt_two_pow (show 2 ^ 63 + y < 2 ^ i by omega)]
      have : ¬ 63 = i := by omega
      simp [this]
theorem xor_top (y : Nat) (h : y < 18446744073709551616) : bits .xor .u64 (y : Int) 9223372036854775808 = (neg y : Int) := by
  have h1 := bits_xor_u64_nat y (2 ^ 63) h (by decide)
  rw [show ((2 ^ 63 : Nat) : Int) = 9223372036854775808 by decide] at h1
  rw [h1]
  congr 1
  unfold neg
  by_cases hl : y < 9223372036854775808
  · rw [if_pos hl, xor_low y hl]; omega
  · rw [if_neg hl]
    have h2 := xor_low (y - 9223372036854775808) (by omega)
    have h3 : y = (y - 9223372036854775808) ^^^ 2 ^ 63 := by rw [h2]; omega
    have h4 : y ^^^ 2 ^ 63 = ((y - 9223372036854775808) ^^^ 2 ^ 63) ^^^ 2 ^ 63 := by rw [← h3]
    rw [h4, Nat.xor_assoc, Nat.xor_self, Nat.xor_zero]

set_option maxHeartbeats 1000000 in
theorem soft_difference (x y : Nat) (op m z : Int) (hx : x < 18446744073709551616) (hy : y < 18446744073709551616) (hm : 0 ≤ m ∧ m ≤ 4) (w : World) (hT : Tab w) :
    Calls Tryd.prog 22 #[.agg #[.int .u8 op, .int .u8 m, .int .u64 x, .int .u64 y, .int .u64 z]] w fun e w' =>
      e = .returned (.agg #[.int .u64 (psB x (neg y) m), .int .u8 (psF x (neg y) m), .bool false]) ∧ Below w.heap.size w w' := by
  have hxor := xor_top y hy
  have HS : Hid (∀ w1, Below w.heap.size w w1 → Calls Tryd.prog 21 #[.agg #[.int .u8 op, .int .u8 m, .int .u64 x, .int .u64 (neg y), .int .u64 z]] w1 fun e w' =>
      e = .returned (.agg #[.int .u64 (psB x (neg y) m), .int .u8 (psF x (neg y) m), .bool false]) ∧ Below w1.heap.size w1 w') := fun w1 hb => soft_sum x (neg y) op m z hx (neg_lt hy) hm w1 (hT.later hb)
  clear hx hy hm hT
  generalize psB x (neg y) m = B at *
  generalize psF x (neg y) m = F at *
  go_enter Tryd.func22, Tryd.ntmps22
  go_wp2_with fail
  refine (HS.out _ (((Below.refl _ _).alloc (Nat.le_refl _) _).alloc (by simp) _)).mono ?_
  rintro e w1 ⟨rfl, hb1⟩
  have KR : Hid (Rows2 w w1 [.int .u8 op, .int .u8 m, .int .u64 x, .int .u64 (neg y), .int .u64 z] [.int .u64 0, .int .u8 0, .bool false]) := (Rows2.start w _ _ _ _ (by simp) (by simp)).later hb1
  have r0 := KR.out.r.cells 0 _ rfl
  have r1 := KR.out.r.cells 1 _ rfl
  have r2 := KR.out.r.cells 2 _ rfl
  have f0 := KR.out.r.live 0 _ rfl
  have f1 := KR.out.r.live 1 _ rfl
  have f2 := KR.out.r.live 2 _ rfl
  clear hb1
  go_wp2_with fail
  refine bodyPost_ret (v := .agg #[.int .u64 B, .int .u8 F, .bool false]) (by simp [results, Tryd.results22, go_sem, *]) rfl ⟨rfl, ?_⟩
  exact ((KR.out.below.setCell (by simp) _).setCell (by simp) _).setCell (by simp) _

theorem index1 (w : World) : (Instr.index 48 (.agg opsCells) (.int .u8 1)).run Tryd.prog w = .ok (.agg #[.int .i64 ((2 : Nat) : Int), .func (.func 21) #[] #[], .nilFunc]) w := by kernel_rfl
theorem index2 (w : World) : (Instr.index 48 (.agg opsCells) (.int .u8 2)).run Tryd.prog w = .ok (.agg #[.int .i64 ((2 : Nat) : Int), .func (.func 22) #[] #[], .nilFunc]) w := by kernel_rfl
theorem index3 (w : World) : (Instr.index 48 (.agg opsCells) (.int .u8 3)).run Tryd.prog w = .ok (.agg #[.int .i64 ((2 : Nat) : Int), .func (.func 23) #[] #[], .nilFunc]) w := by kernel_rfl
theorem index4 (w : World) : (Instr.index 48 (.agg opsCells) (.int .u8 4)).run Tryd.prog w = .ok (.agg #[.int .i64 ((2 : Nat) : Int), .func (.func 24) #[] #[], .nilFunc]) w := by kernel_rfl
theorem index5 (w : World) : (Instr.index 48 (.agg opsCells) (.int .u8 5)).run Tryd.prog w = .ok (.agg #[.int .i64 ((3 : Nat) : Int), .func (.func 25) #[] #[], .func (.func 26) #[] #[]]) w := by kernel_rfl
/-- A NaN among the operands, where nothing is reckoned despite it. -/
theorem soft_nans (op m x y z : Int) (n f : Nat) (ho : 1 ≤ op ∧ op ≤ 10) (hm : 0 ≤ m ∧ m ≤ 4) (hx : 0 ≤ x ∧ x < 18446744073709551616) (hy : 0 ≤ y ∧ y < 18446744073709551616) (hz : 0 ≤ z ∧ z < 18446744073709551616) (hn : n ≤ 3)
    (hix : ∀ w, (Instr.index 48 (.agg opsCells) (.int .u8 op)).run Tryd.prog w = .ok (.agg #[.int .i64 n, .func (.func f) #[] #[], .nilFunc]) w)
    (hnan : ([x, y, z].take n).any isN = true) (w : World) :
    Calls Tryd.prog 12 #[.agg #[.int .u8 op, .int .u8 m, .int .u64 x, .int .u64 y, .int .u64 z]] w fun e w' =>
      e = .returned (.agg #[.int .u64 (nanBits ([x, y, z].take n)), .int .u8 (nanFlag ([x, y, z].take n)), .bool false]) ∧ Below w.heap.size w w' := by
  obtain ⟨X, rfl⟩ := Int.eq_ofNat_of_zero_le hx.1
  obtain ⟨Y, rfl⟩ := Int.eq_ofNat_of_zero_le hy.1
  obtain ⟨Z, rfl⟩ := Int.eq_ofNat_of_zero_le hz.1
  rcases Bool.eq_false_or_eq_true (nanFlag ([(X : Int), (Y : Int), (Z : Int)].take n) == 16) with h | h
  · exact soft_nan op m X Y Z n f ho hm (by omega) (by omega) (by omega) hn hix hnan h w
  · exact soft_nil op m X Y Z n f ho hm (by omega) (by omega) (by omega) hn hix hnan h w
theorem anyN_false {x y : Nat} {z : Int} (h1 : kind x < 4) (h2 : kind y < 4) : ([(x : Int), (y : Int), z].take 2).any isN = false := by simp [isN]; omega
theorem soft_add (x y : Nat) (m z : Int) (hx : x < 18446744073709551616) (hy : y < 18446744073709551616) (hz : 0 ≤ z ∧ z < 18446744073709551616) (hm : 0 ≤ m ∧ m ≤ 4) (h1 : kind x < 4) (h2 : kind y < 4) (w : World) (hT : Tab w) :
    Calls Tryd.prog 12 #[.agg #[.int .u8 1, .int .u8 m, .int .u64 x, .int .u64 y, .int .u64 z]] w fun e w' => e = .returned (.agg #[.int .u64 (psB x y m), .int .u8 (psF x y m), .bool false]) ∧ Below w.heap.size w w' := by
  obtain ⟨Z, rfl⟩ := Int.eq_ofNat_of_zero_le hz.1
  exact soft_do 1 m x y Z 2 21 (by omega) hm hx hy (by omega) (by omega) index1 (anyN_false h1 h2) w _ _ false (enters_of Tryd.func21 (by kernel_rfl) rfl) (fun w1 hb => soft_sum x y 1 m Z hx hy hm w1 (hT.later hb))
theorem soft_sub (x y : Nat) (m z : Int) (hx : x < 18446744073709551616) (hy : y < 18446744073709551616) (hz : 0 ≤ z ∧ z < 18446744073709551616) (hm : 0 ≤ m ∧ m ≤ 4) (h1 : kind x < 4) (h2 : kind y < 4) (w : World) (hT : Tab w) :
    Calls Tryd.prog 12 #[.agg #[.int .u8 2, .int .u8 m, .int .u64 x, .int .u64 y, .int .u64 z]] w fun e w' => e = .returned (.agg #[.int .u64 (psB x (neg y) m), .int .u8 (psF x (neg y) m), .bool false]) ∧ Below w.heap.size w w' := by
  obtain ⟨Z, rfl⟩ := Int.eq_ofNat_of_zero_le hz.1
  exact soft_do 2 m x y Z 2 22 (by omega) hm hx hy (by omega) (by omega) index2 (anyN_false h1 h2) w _ _ false (enters_of Tryd.func22 (by kernel_rfl) rfl) (fun w1 hb => soft_difference x y 2 m Z hx hy hm w1 (hT.later hb))
theorem soft_mul (x y : Nat) (m z : Int) (hx : x < 18446744073709551616) (hy : y < 18446744073709551616) (hz : 0 ≤ z ∧ z < 18446744073709551616) (hm : 0 ≤ m ∧ m ≤ 4) (h1 : kind x < 4) (h2 : kind y < 4) (w : World) (hT : Tab w) :
    Calls Tryd.prog 12 #[.agg #[.int .u8 3, .int .u8 m, .int .u64 x, .int .u64 y, .int .u64 z]] w fun e w' => e = .returned (.agg #[.int .u64 (prodB x y m), .int .u8 (prodF x y m), .bool false]) ∧ Below w.heap.size w w' := by
  obtain ⟨Z, rfl⟩ := Int.eq_ofNat_of_zero_le hz.1
  exact soft_do 3 m x y Z 2 23 (by omega) hm hx hy (by omega) (by omega) index3 (anyN_false h1 h2) w _ _ false (enters_of Tryd.func23 (by kernel_rfl) rfl) (fun w1 hb => soft_product x y 3 m Z hx hy hm w1 (hT.later hb))
end Go.Proofs.YtcjihaafohnbeaaDoor
