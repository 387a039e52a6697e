import Derived.Test.YtcjihaafohnbeaaGreatDoorRows
import Derived.WalkKit
import Derived.WalkSpells
import Derived.WalkLawsBesides
namespace Go.Proofs.YtcjihaafohnbeaaGreatDoor
open Go.RowKit

theorem and_low (x : Int) (k : Nat) (h0 : 0 ≤ x) (h1 : x < 18446744073709551616) (hk : k ≤ 63) : bits .and .u64 x (2 ^ k - 1) = x % 2 ^ k := by
  obtain ⟨n, rfl⟩ := Int.eq_ofNat_of_zero_le h0
  have hp : 0 < 2 ^ k := Nat.two_pow_pos k
  have hp2 : 2 ^ k ≤ 2 ^ 63 := Nat.pow_le_pow_right (by decide) hk
  have h := bits_and_u64_nat n (2 ^ k - 1) (by omega) (by omega)
  have e : ((2 ^ k - 1 : Nat) : Int) = 2 ^ k - 1 := by
    rw [Int.natCast_sub (by omega)]; simp
  rw [e] at h
  rw [h, Nat.and_two_pow_sub_one_eq_mod]
  simp
theorem and_2047 (x : Int) (h0 : 0 ≤ x) (h1 : x < 18446744073709551616) : bits .and .u64 (x / 4503599627370496) 2047 = x / 4503599627370496 % 2048 := and_low _ 11 (by omega) (by omega) (by decide)
theorem and_frac (x : Int) (h0 : 0 ≤ x) (h1 : x < 18446744073709551616) : bits .and .u64 x 4503599627370495 = x % 4503599627370496 := and_low _ 52 h0 h1 (by decide)
theorem nat_and_pow (n k : Nat) : n &&& 2 ^ k = if n / 2 ^ k % 2 = 1 then 2 ^ k else 0 := by
  apply Nat.eq_of_testBit_eq
  intro i
  rw [Nat.testBit_and, Nat.testBit_two_pow]
  by_cases hi : k = i
  · subst hi
    rw [Nat.testBit_eq_decide_div_mod_eq]
    by_cases h : n / 2 ^ k % 2 = 1 <;> simp [h]
  · by_cases h : n / 2 ^ k % 2 = 1 <;> simp [h, hi]
theorem and_quiet (x : Int) (h0 : 0 ≤ x) (h1 : x < 4503599627370496) : (bits .and .u64 x 2251799813685248 != 0) = decide (2251799813685248 ≤ x) := by
  obtain ⟨n, rfl⟩ := Int.eq_ofNat_of_zero_le h0
  have h := bits_and_u64_nat n (2 ^ 51) (by omega) (by omega)
  have e : ((2 ^ 51 : Nat) : Int) = 2251799813685248 := by decide
  rw [e] at h
  rw [h, nat_and_pow]
  by_cases hn : 2251799813685248 ≤ n
  · have : n / 2 ^ 51 % 2 = 1 := by omega
    rw [if_pos this, e]
    have : (2251799813685248 : Int) ≤ n := by omega
    simp [this]
  · have : ¬ n / 2 ^ 51 % 2 = 1 := by omega
    rw [if_neg this]
    have : ¬ (2251799813685248 : Int) ≤ n := by omega
    simp [this]

def kindB (e f : Int) : Int := if e = 0 ∧ f = 0 then 0 else if e = 0 then 1 else if e < 2047 then 2 else if f = 0 then 3 else if 2251799813685248 ≤ f then 4 else 5
def kind (x : Int) : Int := kindB (x / 4503599627370496 % 2048) (x % 4503599627370496)
def cls (x : Int) : Int := if x / 9223372036854775808 = 1 then kind x + 8 else kind x
theorem kind_range (x : Int) : 0 ≤ kind x ∧ kind x ≤ 5 := by unfold kind kindB; (repeat' split) <;> omega
theorem ret_int {k : IntKind} {a b : Int} (h : a = b) : Ending.returned (.int k a) = .returned (.int k b) := by rw [h]
theorem wrap64_small (x : Int) (h0 : 0 ≤ x) (h1 : x < 9223372036854775808) : wrap64 x = x := by unfold wrap64; omega

set_option maxHeartbeats 400000 in
theorem kindOf_any (x : Int) (h0 : 0 ≤ x) (h1 : x < 18446744073709551616) (w : World) :
    Calls Tryz.prog 38 #[.int .u64 x] w fun e w' => e = .returned (.int .i64 (kind x)) ∧ w' = w := by
  have hE := and_2047 x h0 h1
  have hF := and_frac x h0 h1
  have hQ := and_quiet (x % 4503599627370496) (by omega) (by omega)
  go_enter Tryz.func38, Tryz.ntmps38
  go_wp2
  all_goals go_ret
  all_goals refine ⟨ret_int ?_, rfl⟩
  all_goals clear hE hF hQ
  all_goals simp only [beq_iff_eq, beq_eq_false_iff_ne, ne_eq] at *
  all_goals (unfold kind kindB; (repeat' split) <;> omega)

set_option maxHeartbeats 400000 in
theorem parts_any (x : Int) (h0 : 0 ≤ x) (h1 : x < 18446744073709551616) (w : World) :
    Calls Tryz.prog 66 #[.int .u64 x] w fun e w' => e = .returned (.tuple #[.int .i64 (x / 9223372036854775808), .int .i64 (x / 4503599627370496 % 2048), .int .i64 (x % 4503599627370496)]) ∧ w' = w := by
  have hE := and_2047 x h0 h1
  have hF := and_frac x h0 h1
  have hE' := wrap64_small (x / 4503599627370496 % 2048) (by omega) (by omega)
  have hF' := wrap64_small (x % 4503599627370496) (by omega) (by omega)
  go_enter Tryz.func66, Tryz.ntmps66
  go_wp2
  go_ret3
  exact ⟨rfl, rfl⟩

set_option maxHeartbeats 400000 in
theorem signOf_any (x : Int) (_h0 : 0 ≤ x) (_h1 : x < 18446744073709551616) (w : World) :
    Calls Tryz.prog 53 #[.int .u64 x] w fun e w' => e = .returned (.int .u64 (x / 9223372036854775808)) ∧ w' = w := by
  go_enter Tryz.func53, Tryz.ntmps53
  go_wp2
  go_ret
  exact ⟨rfl, rfl⟩

set_option maxHeartbeats 400000 in
theorem refKind_any (x : Int) (h0 : 0 ≤ x) (h1 : x < 18446744073709551616) (w : World) :
    Calls Tryz.prog 40 #[.int .u64 x] w fun e w' => e = .returned (.int .i64 (kind x)) ∧ w' = w := by
  go_enter Tryz.func40, Tryz.ntmps40
  go_wp2_with (go_at_call 66; refine (parts_any x h0 h1 _).mono ?_; rintro e w' ⟨rfl, rfl⟩)
  all_goals go_ret
  all_goals refine ⟨ret_int ?_, rfl⟩
  all_goals simp only [beq_iff_eq, beq_eq_false_iff_ne, ne_eq] at *
  all_goals (unfold kind kindB; (repeat' split) <;> omega)

end Go.Proofs.YtcjihaafohnbeaaGreatDoor
