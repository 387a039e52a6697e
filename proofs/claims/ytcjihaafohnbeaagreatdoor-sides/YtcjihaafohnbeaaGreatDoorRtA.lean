import Derived.Test.YtcjihaafohnbeaaGreatDoorWideB
namespace Go.Proofs.YtcjihaafohnbeaaGreatDoor
open Go.RowKit

/-- The program's root: where something is left, its last digit is 1. -/
def odd (W : Nat) (whole : Bool) : Nat := if whole then W else W + (1 - W % 2)
theorem odd_lt {W : Nat} (b : Bool) (h : W < 18446744073709551616) : odd W b < 18446744073709551616 := by unfold odd; split <;> omega
theorem odd_or {W : Nat} (h : W < 18446744073709551616) : bits .or .u64 (W : Int) 1 = ((odd W false : Nat) : Int) := by
  have e : (odd W false : Nat) = W ||| 1 := by
    unfold odd
    rw [if_neg (by decide)]
    rcases Nat.mod_two_eq_zero_or_one W with g | g
    · obtain ⟨V, rfl⟩ : ∃ V, W = 2 * V := ⟨W / 2, by omega⟩
      apply Nat.eq_of_testBit_eq
      intro i
      rw [Nat.testBit_or]
      cases i with
      | zero => simp [Nat.testBit_zero]
      | succ n => simp [Nat.testBit_succ]; congr 1; omega
    · obtain ⟨V, rfl⟩ : ∃ V, W = 2 * V + 1 := ⟨W / 2, by omega⟩
      apply Nat.eq_of_testBit_eq
      intro i
      rw [Nat.testBit_or]
      cases i with
      | zero => simp [Nat.testBit_zero]
      | succ n => simp [Nat.testBit_succ]
  rw [e]
  exact bits_or_u64_nat W 1 h (by decide)

theorem sq_grows (a b : Nat) (h : a < b) : a * a < b * b := Nat.mul_lt_mul'' h h
theorem cb_grows (a b : Nat) (h : a < b) : a * (a * a) < b * (b * b) := Nat.mul_lt_mul'' h (sq_grows a b h)
theorem sqd_grows {D : Nat} (h0 : D ≠ 0) (a b : Nat) (h : a < b) : a * a * D < b * b * D := Nat.mul_lt_mul_of_pos_right (sq_grows a b h) (Nat.pos_of_ne_zero h0)

/-- What goes over in a product by one word. -/
def tcar (D y k : Nat) : Nat := D % 18446744073709551616 ^ k * y / 18446744073709551616 ^ k
theorem tcar_zero (D y : Nat) : tcar D y 0 = 0 := by unfold tcar; simp [Nat.mod_one]
theorem tcar_le (D y k : Nat) : tcar D y k ≤ y := by
  unfold tcar
  refine Nat.div_le_of_le_mul ?_
  exact Nat.mul_le_mul_right _ (Nat.le_of_lt (Nat.mod_lt _ (big_pos k)))
theorem tcar_next (D y k : Nat) : tcar D y (k + 1) = (wd D k * y + tcar D y k) / 18446744073709551616 := by
  unfold tcar
  rw [mod_next, Nat.pow_succ, ← Nat.div_div_eq_div_mul, Nat.add_mul, Nat.mul_assoc, Nat.add_mul_div_left _ _ (big_pos k), Nat.add_comm]
theorem wd_mul (D y k : Nat) : wd (D * y) k = (wd D k * y + tcar D y k) % 18446744073709551616 := by
  have h : D * y / 18446744073709551616 ^ k = D / 18446744073709551616 ^ k * y + tcar D y k := by
    unfold tcar
    have h1 := Nat.div_add_mod D (18446744073709551616 ^ k)
    conv => lhs; rw [← h1]
    rw [Nat.add_mul, Nat.mul_assoc, Nat.add_comm, Nat.add_mul_div_left _ _ (big_pos k), Nat.add_comm]
  show D * y / _ % _ = _
  rw [h]
  unfold wd
  generalize 18446744073709551616 ^ k = b
  generalize D / b = q
  rw [Nat.add_mod, Nat.mul_mod, Nat.add_mod (q % _ * y), Nat.mul_mod (q % _) y, Nat.mod_mod]
theorem tcar_step (D y k : Nat) : (wd D k * y % 18446744073709551616 + tcar D y k) % 18446744073709551616 = wd (D * y) k ∧ wd D k * y / 18446744073709551616 + (wd D k * y % 18446744073709551616 + tcar D y k) / 18446744073709551616 = tcar D y (k + 1) := by
  rw [wd_mul, tcar_next]
  generalize wd D k * y = a
  generalize tcar D y k = c
  omega
end Go.Proofs.YtcjihaafohnbeaaGreatDoor
