import Derived.Test.YtcjihaafohnbeaaGreatDoorPF
import Derived.Test.YtcjihaafohnbeaaGreatDoorPC
namespace Go.Proofs.YtcjihaafohnbeaaGreatDoor
open Go.RowKit

/-- The program's quotient: the digits that one division of words leaves. -/
def eqU (d : Nat) : Nat := d * 2 ^ (63 - Go.bitLen d)
def eqV (d : Nat) : Nat := d * 2 ^ (64 - Go.bitLen d)
def eqW (d1 d2 : Nat) : Nat := if eqU d1 * 18446744073709551616 % eqV d2 = 0 then eqU d1 * 18446744073709551616 / eqV d2 else eqU d1 * 18446744073709551616 / eqV d2 + (1 - eqU d1 * 18446744073709551616 / eqV d2 % 2)
theorem bl_pos {d : Nat} (h : d ≠ 0) : 1 ≤ Go.bitLen d := by
  apply Nat.pos_of_ne_zero
  intro hz
  have := (Go.bitLen_spec d).1
  rw [hz] at this
  omega
theorem eqU_range {d : Nat} (h : d ≠ 0) (hb : Go.bitLen d ≤ 53) : 4611686018427387904 ≤ eqU d ∧ eqU d < 9223372036854775808 := by
  have h1 := (Go.bitLen_spec d).2 h
  have h2 := (Go.bitLen_spec d).1
  have h3 := bl_pos h
  unfold eqU
  constructor
  · have : 2 ^ (Go.bitLen d - 1) * 2 ^ (63 - Go.bitLen d) ≤ d * 2 ^ (63 - Go.bitLen d) := Nat.mul_le_mul_right _ h1
    rw [← Nat.pow_add, show Go.bitLen d - 1 + (63 - Go.bitLen d) = 62 by omega] at this
    omega
  · have : d * 2 ^ (63 - Go.bitLen d) < 2 ^ Go.bitLen d * 2 ^ (63 - Go.bitLen d) := Nat.mul_lt_mul_of_pos_right h2 (Nat.two_pow_pos _)
    rw [← Nat.pow_add, show Go.bitLen d + (63 - Go.bitLen d) = 63 by omega] at this
    omega
theorem eqV_range {d : Nat} (h : d ≠ 0) (hb : Go.bitLen d ≤ 53) : 9223372036854775808 ≤ eqV d ∧ eqV d < 18446744073709551616 := by
  have h1 := (Go.bitLen_spec d).2 h
  have h2 := (Go.bitLen_spec d).1
  have h3 := bl_pos h
  unfold eqV
  constructor
  · have : 2 ^ (Go.bitLen d - 1) * 2 ^ (64 - Go.bitLen d) ≤ d * 2 ^ (64 - Go.bitLen d) := Nat.mul_le_mul_right _ h1
    rw [← Nat.pow_add, show Go.bitLen d - 1 + (64 - Go.bitLen d) = 63 by omega] at this
    omega
  · have : d * 2 ^ (64 - Go.bitLen d) < 2 ^ Go.bitLen d * 2 ^ (64 - Go.bitLen d) := Nat.mul_lt_mul_of_pos_right h2 (Nat.two_pow_pos _)
    rw [← Nat.pow_add, show Go.bitLen d + (64 - Go.bitLen d) = 64 by omega] at this
    omega
theorem shl_wrap (d : Nat) (k : Int) (n : Nat) (hk : k.toNat = n) (h : d * 2 ^ n < 18446744073709551616) : IntKind.u64.wrap ((d : Int) * 2 ^ k.toNat) = ((d * 2 ^ n : Nat) : Int) := by
  rw [hk, show (d : Int) * 2 ^ n = ((d * 2 ^ n : Nat) : Int) by simp]
  exact wrapU _ (by omega) (by omega)

set_option maxHeartbeats 4000000 in
set_option maxRecDepth 10000 in
theorem exactQuotient_walk (s1 s2 S : Nat) (x0 y0 U V W R B1 B2 p1 p2 : Int) (W' : Int) (hS : bits .xor .u64 (s1 : Int) (s2 : Int) = S)
    (hlx : ∀ w, Calls Tryz.prog 84 #[.int .u64 x0] w fun e w' => e = .returned (.int .i64 (64 - B1)) ∧ w' = w)
    (hly : ∀ w, Calls Tryz.prog 84 #[.int .u64 y0] w fun e w' => e = .returned (.int .i64 (64 - B2)) ∧ w' = w)
    (hdv : ∀ w, Calls Tryz.prog 85 #[.int .u64 U, .int .u64 0, .int .u64 V] w fun e w' => e = .returned (.tuple #[.int .u64 W, .int .u64 R]) ∧ w' = w)
    (v1 : IntKind.u64.wrap (x0 * 2 ^ ((64 - B1).toNat - 1)) = U) (v2 : IntKind.u64.wrap (y0 * 2 ^ (64 - B2).toNat) = V)
    (b1 : 1 ≤ B1) (b2 : B1 ≤ 53) (b3 : 1 ≤ B2) (b4 : B2 ≤ 53) (hp1 : -4000 ≤ p1) (hp2 : p1 ≤ 4000) (hp3 : -4000 ≤ p2) (hp4 : p2 ≤ 4000)
    (hr0 : R = 0 → W' = W) (hr1 : R ≠ 0 → W' = bits .or .u64 W 1) (w : World) :
    Calls Tryz.prog 59 #[.agg #[.int .u64 s1, .int .u64 x0, .int .u64 0, .int .i64 p1], .agg #[.int .u64 s2, .int .u64 y0, .int .u64 0, .int .i64 p2]] w fun e w' =>
      e = .returned (.agg #[.int .u64 S, .int .u64 W', .int .u64 0, .int .i64 (p1 - (64 - B1 - 1) - 64 - (p2 - (64 - B2)))]) ∧ Below w.heap.size w w' := by
  have HX : Hid (∀ w, Calls Tryz.prog 84 #[.int .u64 x0] w fun e w' => e = .returned (.int .i64 (64 - B1)) ∧ w' = w) := hlx
  have HY : Hid (∀ w, Calls Tryz.prog 84 #[.int .u64 y0] w fun e w' => e = .returned (.int .i64 (64 - B2)) ∧ w' = w) := hly
  have HDV : Hid (∀ w, Calls Tryz.prog 85 #[.int .u64 U, .int .u64 0, .int .u64 V] w fun e w' => e = .returned (.tuple #[.int .u64 W, .int .u64 R]) ∧ w' = w) := hdv
  have H0 : Hid (R = 0 → W' = W) := hr0
  have H1 : Hid (R ≠ 0 → W' = bits .or .u64 W 1) := hr1
  clear hlx hly hdv hr0 hr1
  go_enter Tryz.func59, Tryz.ntmps59
  go_wp2_with fail
  go_quiet (fail)
  go_wp2_with fail
  refine (HX.out _).mono ?_
  rintro e w1 ⟨rfl, hw1⟩
  subst hw1
  go_wp2_with fail
  refine (HY.out _).mono ?_
  rintro e w2 ⟨rfl, hw2⟩
  subst hw2
  go_wp2_with fail
  go_quiet (first | (go_at_call_of 85 (Value.int .u64 U); refine (HDV.out _).mono ?_; rintro e w' ⟨rfl, rfl⟩; exact ⟨rfl, _, by first | rfl | rw [World.drewN_drewN]⟩))
  by_cases hR : R = 0
  · have hb : (R != 0) = false := by simp [hR]
    have HW : Hid (W' = W) := H0.out hR
    clear hR
    go_wp2_with fail
    refine bodyPost_ret (v := .agg #[.int .u64 S, .int .u64 W, .int .u64 0, .int .i64 (p1 - (64 - B1 - 1) - 64 - (p2 - (64 - B2)))]) (by simp [results, Tryz.results59, go_sem]) rfl ⟨by rw [HW.out], ?_⟩
    repeat (first | exact Below.refl _ _ | refine below_drewN ?_ _ | refine Below.alloc ?_ (by simp <;> omega) _ | refine Below.setCell ?_ (by simp <;> omega) _)
  · have hb : (R != 0) = true := by simp [hR]
    have HW : Hid (W' = bits .or .u64 W 1) := H1.out hR
    clear hR
    go_wp2_with fail
    refine bodyPost_ret (v := .agg #[.int .u64 S, .int .u64 (bits .or .u64 W 1), .int .u64 0, .int .i64 (p1 - (64 - B1 - 1) - 64 - (p2 - (64 - B2)))]) (by simp [results, Tryz.results59, go_sem]) rfl ⟨by rw [HW.out], ?_⟩
    repeat (first | exact Below.refl _ _ | refine below_drewN ?_ _ | refine Below.alloc ?_ (by simp <;> omega) _ | refine Below.setCell ?_ (by simp <;> omega) _)
end Go.Proofs.YtcjihaafohnbeaaGreatDoor
