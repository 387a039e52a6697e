import Derived.Test.YtcjihaafohnbeaaDoorCal
namespace Go.Proofs.YtcjihaafohnbeaaDoor
open Go.RowKit

/-- A sum's sign, amount and exponent. -/
def fsS (x y : Nat) (m : Int) : Nat := gsS 128 (sgn x) (mant x) (pow x) (sgn y) (mant y) (pow y) m
def fsD (x y : Nat) : Nat := gsD 128 (sgn x) (mant x) (pow x) (sgn y) (mant y) (pow y)
def fsP (x y : Nat) : Int := gsP 128 (sgn x) (mant x) (pow x) (sgn y) (mant y) (pow y)
def sumB (x y : Nat) (m : Int) : Int :=
  if kind x = 3 ∧ kind y = 3 ∧ x ≠ y then 9221120237041090560
  else if kind x = 3 then x else if kind y = 3 then y
  else if fsD x y = 0 then fsS x y m * 9223372036854775808 else roundB (fsS x y m) (fsD x y) (fsP x y) m
def sumF (x y : Nat) (m : Int) : Int :=
  if kind x = 3 ∧ kind y = 3 ∧ x ≠ y then 16
  else if kind x = 3 then 0 else if kind y = 3 then 0
  else if fsD x y = 0 then 0 else roundF (fsS x y m) (fsD x y) (fsP x y) m
theorem ps_sum (x y : Nat) (m : Int) : psB x y m = sumB x y m ∧ psF x y m = sumF x y m := by
  unfold psB psF sumB sumF rsB rsF fsD fsS fsP
  exact ⟨rfl, rfl⟩
theorem fsS_lt {x y : Nat} {m : Int} (hx : x < 18446744073709551616) (hy : y < 18446744073709551616) : fsS x y m < 2 := gsS_lt (sgn_lt hx) (sgn_lt hy)
theorem lift_none {n d : Nat} (h : Go.bitLen d + 2 ≤ n) : lift n d 0 = 0 := by unfold lift; omega
theorem mk_whole (d : Nat) : mk d 0 = d := by unfold mk; simp [Nat.mod_one]
theorem su_comm (s1 X s2 Y : Nat) (m P : Int) : suS s1 X s2 Y m = suS s2 Y s1 X m ∧ suD s1 X s2 Y = suD s2 Y s1 X ∧ suP s1 X s2 Y P = suP s2 Y s1 X P := by
  unfold suS suD suP
  refine ⟨?_, ?_, ?_⟩ <;> (repeat' split) <;> omega
theorem gs_comm {n s1 d1 s2 d2 : Nat} {p1 p2 m : Int} (b1 : Go.bitLen d1 + 2 ≤ n) (b2 : Go.bitLen d2 + 2 ≤ n) :
    gsS n s1 d1 p1 s2 d2 p2 m = gsS n s2 d2 p2 s1 d1 p1 m ∧ gsD n s1 d1 p1 s2 d2 p2 = gsD n s2 d2 p2 s1 d1 p1 ∧ gsP n s1 d1 p1 s2 d2 p2 = gsP n s2 d2 p2 s1 d1 p1 := by
  unfold gsS gsD gsP
  by_cases h1 : p2 ≤ p1 <;> by_cases h2 : p1 ≤ p2
  · have e : p1 = p2 := by omega
    subst e
    simp only [if_pos h1, Int.sub_self, lift_none b1, lift_none b2, Int.toNat_zero, Nat.pow_zero, Nat.mul_one, mk_whole]
    exact su_comm _ _ _ _ _ _
  · simp only [if_pos h1, if_neg h2]
    exact ⟨trivial, trivial, trivial⟩
  · simp only [if_neg h1, if_pos h2]
    exact ⟨trivial, trivial, trivial⟩
  · omega
theorem sum_comm (x y : Nat) (m : Int) : sumB x y m = sumB y x m ∧ sumF x y m = sumF y x m := by
  have e := gs_comm (n := 128) (s1 := sgn x) (d1 := mant x) (p1 := pow x) (s2 := sgn y) (d2 := mant y) (p2 := pow y) (m := m) (bl_mant x) (bl_mant y)
  have e1 : fsS x y m = fsS y x m := e.1
  have e2 : fsD x y = fsD y x := e.2.1
  have e3 : fsP x y = fsP y x := e.2.2
  unfold sumB sumF
  rw [e1, e2, e3]
  by_cases h1 : kind x = 3 <;> by_cases h2 : kind y = 3 <;> by_cases h3 : x = y <;> simp [h1, h2, h3, eq_comm] <;> omega
theorem soft_addS (x y : Nat) (m z : Int) (hx : x < 18446744073709551616) (hy : y < 18446744073709551616) (hz : 0 ≤ z ∧ z < 18446744073709551616) (hm : 0 ≤ m ∧ m ≤ 4) (h1 : kind x < 4) (h2 : kind y < 4) (w : World) (hT : Tab w) :
    Calls Tryd.prog 12 #[.agg #[.int .u8 1, .int .u8 m, .int .u64 x, .int .u64 y, .int .u64 z]] w fun e w' => e = .returned (.agg #[.int .u64 (sumB x y m), .int .u8 (sumF x y m), .bool false]) ∧ Below w.heap.size w w' := by
  rw [← (ps_sum x y m).1, ← (ps_sum x y m).2]
  exact soft_add x y m z hx hy hz hm h1 h2 w hT
theorem soft_subS (x y : Nat) (m z : Int) (hx : x < 18446744073709551616) (hy : y < 18446744073709551616) (hz : 0 ≤ z ∧ z < 18446744073709551616) (hm : 0 ≤ m ∧ m ≤ 4) (h1 : kind x < 4) (h2 : kind y < 4) (w : World) (hT : Tab w) :
    Calls Tryd.prog 12 #[.agg #[.int .u8 2, .int .u8 m, .int .u64 x, .int .u64 y, .int .u64 z]] w fun e w' => e = .returned (.agg #[.int .u64 (sumB x (neg y) m), .int .u8 (sumF x (neg y) m), .bool false]) ∧ Below w.heap.size w w' := by
  rw [← (ps_sum x (neg y) m).1, ← (ps_sum x (neg y) m).2]
  exact soft_sub x y m z hx hy hz hm h1 h2 w hT
theorem live1 : sumB 4607182418800017408 4611686018427387904 0 = 4613937818241073152 ∧ sumF 4607182418800017408 4611686018427387904 0 = 0 := by decide +kernel
theorem live2 : sumB 4607182418800017408 4336966441157787648 0 = 4607182418800017408 ∧ sumF 4607182418800017408 4336966441157787648 0 = 1 := by decide +kernel
theorem live3 : sumB 4607182418800017408 4336966441157787648 3 = 4607182418800017409 ∧ sumF 4607182418800017408 4336966441157787648 3 = 1 := by decide +kernel
theorem live4 : prodB 4613937818241073152 4613937818241073152 0 = 4621256167635550208 ∧ prodF 4613937818241073152 4613937818241073152 0 = 0 := by decide +kernel
end Go.Proofs.YtcjihaafohnbeaaDoor
