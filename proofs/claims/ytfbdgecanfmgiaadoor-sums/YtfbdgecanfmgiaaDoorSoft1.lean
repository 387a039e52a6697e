import Derived.Test.YtfbdgecanfmgiaaDoorRound2
import Derived.Deep.Cut
import Derived.Deep.CutRange
import Derived.Deep.Light
namespace Go.Proofs.YtfbdgecanfmgiaaDoor
open Go.RowKit

/-- A finite number: its sign, its digits, its power of two. -/
def sgn (x : Nat) : Nat := x / 9223372036854775808
def mant (x : Nat) : Nat := if x / 4503599627370496 % 2048 = 0 then x % 4503599627370496 else x % 4503599627370496 + 4503599627370496
def pow (x : Nat) : Int := if x / 4503599627370496 % 2048 = 0 then -1074 else (x / 4503599627370496 % 2048 : Nat) - 1075
theorem sgn_lt {x : Nat} (h : x < 18446744073709551616) : sgn x < 2 := by unfold sgn; omega
theorem mant_lt (x : Nat) : mant x < 9007199254740992 := by unfold mant; split <;> omega
theorem pow_range (x : Nat) : -1074 ≤ pow x ∧ pow x ≤ 972 := by unfold pow; split <;> omega

set_option maxHeartbeats 400000 in
theorem exponentOf_any (x : Int) (h0 : 0 ≤ x) (h1 : x < 18446744073709551616) (w : World) :
    Calls Tryd.prog 54 #[.int .u64 x] w fun e w' => e = .returned (.int .u64 (x / 4503599627370496 % 2048)) ∧ w' = w := by
  have hE := and_2047 x h0 h1
  go_enter Tryd.func54, Tryd.ntmps54
  go_wp2
  go_ret
  exact ⟨rfl, rfl⟩

set_option maxHeartbeats 400000 in
theorem exactly_any (x : Nat) (hx : x < 18446744073709551616) (w : World) :
    Calls Tryd.prog 49 #[.int .u64 x] w fun e w' => e = .returned (.agg #[.int .u64 (sgn x), .int .u64 (mant x), .int .u64 0, .int .i64 (pow x)]) ∧ w' = w.alloc (.cells #[.int .u64 (sgn x), .int .u64 (mant x), .int .u64 0, .int .i64 (pow x)] 77) := by
  have hE := and_2047 (x : Int) (by omega) (by omega)
  have hF := and_frac (x : Int) (by omega) (by omega)
  have hO : bits .or .u64 ((x : Int) % 4503599627370496) 4503599627370496 = (x : Int) % 4503599627370496 + 4503599627370496 := by
    have := bits_or_u64_nat (x % 4503599627370496) (1 * 2 ^ 52) (by omega) (by omega)
    rw [Nat.or_comm, ← Nat.shiftLeft_eq, ← Nat.shiftLeft_add_eq_or_of_lt (by omega)] at this
    simp at this
    rw [this]; omega
  by_cases h : x / 4503599627370496 % 2048 = 0
  · have h0 : (x : Int) / 4503599627370496 % 2048 = 0 := by omega
    have HV : Hid (((sgn x : Nat) : Int) = (x : Int) / 9223372036854775808 ∧ ((mant x : Nat) : Int) = (x : Int) % 4503599627370496 ∧ pow x = -1074) := ⟨by unfold sgn; omega, by unfold mant; rw [if_pos h]; omega, by unfold pow; rw [if_pos h]⟩
    go_enter Tryd.func49, Tryd.ntmps49
    go_wp2_with (first | (go_at_call 52; refine (signOf_any (x : Int) (by omega) (by omega) _).mono ?_; rintro e w' ⟨rfl, rfl⟩) | (go_at_call 54; refine (exponentOf_any (x : Int) (by omega) (by omega) _).mono ?_; rintro e w' ⟨rfl, rfl⟩))
    rw [HV.out.1, HV.out.2.1, HV.out.2.2]
    exact bodyPost_ret (v := .agg #[.int .u64 ((x : Int) / 9223372036854775808), .int .u64 ((x : Int) % 4503599627370496), .int .u64 0, .int .i64 (-1074)]) (by simp [results, Tryd.results49, go_sem]) rfl ⟨rfl, rfl⟩
  · have h0 : ((x : Int) / 4503599627370496 % 2048 == 0) = false := by simp; omega
    have HV : Hid (((sgn x : Nat) : Int) = (x : Int) / 9223372036854775808 ∧ ((mant x : Nat) : Int) = (x : Int) % 4503599627370496 + 4503599627370496 ∧ pow x = -1074 + (x : Int) / 4503599627370496 % 2048 - 1) := ⟨by unfold sgn; omega, by unfold mant; rw [if_neg h]; omega, by unfold pow; rw [if_neg h]; omega⟩
    have he := wrap64_small ((x : Int) / 4503599627370496 % 2048) (by omega) (by omega)
    go_enter Tryd.func49, Tryd.ntmps49
    go_wp2_with (first | (go_at_call 52; refine (signOf_any (x : Int) (by omega) (by omega) _).mono ?_; rintro e w' ⟨rfl, rfl⟩) | (go_at_call 54; refine (exponentOf_any (x : Int) (by omega) (by omega) _).mono ?_; rintro e w' ⟨rfl, rfl⟩))
    rw [HV.out.1, HV.out.2.1, HV.out.2.2]
    exact bodyPost_ret (v := .agg #[.int .u64 ((x : Int) / 9223372036854775808), .int .u64 ((x : Int) % 4503599627370496 + 4503599627370496), .int .u64 0, .int .i64 (-1074 + (x : Int) / 4503599627370496 % 2048 - 1)]) (by simp [results, Tryd.results49, go_sem]) rfl ⟨rfl, rfl⟩
end Go.Proofs.YtfbdgecanfmgiaaDoor
