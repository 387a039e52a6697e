import Derived.Test.YtcjihaafohnbeaaDoorScript
import Derived.WalkKit
namespace Go.Proofs.YtcjihaafohnbeaaDoor
open Go.RowKit

theorem or_apart (a b s : Nat) (ha : a * 2 ^ s < 18446744073709551616) (hb : b < 2 ^ s) (hs : s ≤ 64) : bits .or .u64 ((a * 2 ^ s : Nat) : Int) (b : Int) = ((a * 2 ^ s + b : Nat) : Int) := by
  have h64 : 2 ^ s ≤ 2 ^ 64 := Nat.pow_le_pow_right (by decide) hs
  rw [bits_or_u64_nat _ _ ha (by omega), ← Nat.shiftLeft_eq, ← Nat.shiftLeft_add_eq_or_of_lt hb]
theorem or_flip (a b : Nat) (ha : a < 18446744073709551616) (hb : b < 18446744073709551616) : bits .or .u64 (a : Int) (b : Int) = bits .or .u64 (b : Int) (a : Int) := by
  rw [bits_or_u64_nat _ _ ha hb, bits_or_u64_nat _ _ hb ha, Nat.or_comm]
theorem or_zero_r (a : Nat) (ha : a < 18446744073709551616) : bits .or .u64 (a : Int) 0 = (a : Int) := by
  have := bits_or_u64_nat a 0 ha (by omega)
  simpa using this

theorem pow_split (s : Nat) (hs : s ≤ 64) : 2 ^ s * 2 ^ (64 - s) = 18446744073709551616 := by
  rw [← Nat.pow_add, show s + (64 - s) = 64 by omega]
/-- (h * 2^s mod 2^64) + t, where t < 2^s: all of h * 2^s + t, mod 2^64. -/
theorem mod_shift (h t s : Nat) (hs : s ≤ 64) (ht : t < 2 ^ s) : (h * 2 ^ s + t) % 18446744073709551616 = h % 2 ^ (64 - s) * 2 ^ s + t := by
  have hp := pow_split s hs
  have h1 : h = 2 ^ (64 - s) * (h / 2 ^ (64 - s)) + h % 2 ^ (64 - s) := (Nat.div_add_mod _ _).symm
  have h2 : h % 2 ^ (64 - s) < 2 ^ (64 - s) := Nat.mod_lt _ (Nat.two_pow_pos _)
  have h3 : h * 2 ^ s + t = 18446744073709551616 * (h / 2 ^ (64 - s)) + (h % 2 ^ (64 - s) * 2 ^ s + t) := by
    conv => lhs; rw [h1]
    rw [← hp, Nat.add_mul, Nat.mul_comm (2 ^ s) (2 ^ (64 - s)), Nat.mul_assoc, Nat.mul_comm (h / 2 ^ (64 - s)) (2 ^ s), ← Nat.mul_assoc, Nat.add_assoc]
  rw [h3, Nat.mul_add_mod]
  apply Nat.mod_eq_of_lt
  have h4 : (h % 2 ^ (64 - s) + 1) * 2 ^ s ≤ 2 ^ (64 - s) * 2 ^ s := Nat.mul_le_mul_right _ h2
  rw [Nat.add_mul, Nat.one_mul, Nat.mul_comm (2 ^ (64 - s)), hp] at h4
  omega
theorem mod_shift0 (h s : Nat) (hs : s ≤ 64) : h * 2 ^ s % 18446744073709551616 = h % 2 ^ (64 - s) * 2 ^ s := by
  have := mod_shift h 0 s hs (Nat.two_pow_pos _)
  simpa using this
theorem div_small (l s : Nat) (hs : s ≤ 64) (hl : l < 18446744073709551616) : l / 2 ^ (64 - s) < 2 ^ s := by
  rw [Nat.div_lt_iff_lt_mul (Nat.two_pow_pos _), pow_split s hs]; exact hl
theorem cast_pow (k : Nat) : ((2 : Int) ^ k) = ((2 ^ k : Nat) : Int) := by simp

/-- Word i of a number, the lowest first; 0 below the lowest. -/
def wd (D i : Nat) : Nat := D / 18446744073709551616 ^ i % 18446744073709551616
def wdI (D : Nat) (i : Int) : Int := if i < 0 then 0 else (wd D i.toNat : Int)
theorem wd_lt (D i : Nat) : wd D i < 18446744073709551616 := Nat.mod_lt _ (by decide)
theorem wdI_nat (D i : Nat) : wdI D (i : Int) = wd D i := by unfold wdI; rw [if_neg (by omega)]; simp
theorem wdI_neg (D : Nat) {i : Int} (h : i < 0) : wdI D i = 0 := by unfold wdI; rw [if_pos h]
theorem wd_high {D n : Nat} (i : Nat) (h : D < 18446744073709551616 ^ n) (hi : n ≤ i) : wd D i = 0 := by
  unfold wd
  have : 18446744073709551616 ^ n ≤ 18446744073709551616 ^ i := Nat.pow_le_pow_right (by decide) hi
  rw [Nat.div_eq_of_lt (by omega), Nat.zero_mod]
theorem big_pow (q : Nat) : (18446744073709551616 : Nat) ^ q = 2 ^ (64 * q) := by rw [Nat.pow_mul]

theorem wd_left {D n q s i : Nat} (hn : n = 64 * q + s) (hs : s < 64) :
    bits .or .u64 (wdI D ((i : Int) - q) * 2 ^ s % 18446744073709551616) (wdI D ((i : Int) - q - 1) / 2 ^ (64 - s)) = (wd (D * 2 ^ n) i : Int) := by
  rw [cast_pow, cast_pow]
  by_cases hlt : i < q
  · rw [wdI_neg D (show (i : Int) - q < 0 by omega), wdI_neg D (show (i : Int) - q - 1 < 0 by omega), Int.zero_mul, Int.zero_emod, Int.zero_ediv]
    have h0 : wd (D * 2 ^ n) i = 0 := by
      unfold wd
      rw [big_pow, show D * 2 ^ n = D * 2 ^ (n - 64 * i - 64) * 18446744073709551616 * 2 ^ (64 * i) by rw [Nat.mul_assoc, Nat.mul_assoc, show (18446744073709551616 : Nat) = 2 ^ 64 by decide, ← Nat.pow_add, ← Nat.pow_add]; congr 2; omega, Nat.mul_div_cancel _ (Nat.two_pow_pos _), Nat.mul_mod_left]
    rw [h0]; simpa using or_zero_r 0 (by omega)
  · obtain ⟨j, rfl⟩ : ∃ j, i = q + j := ⟨i - q, by omega⟩
    rw [show ((q + j : Nat) : Int) - q = (j : Int) by omega, wdI_nat]
    have hD : wd (D * 2 ^ n) (q + j) = D * 2 ^ s / 18446744073709551616 ^ j % 18446744073709551616 := by
      unfold wd
      rw [hn, Nat.pow_add 2, ← Nat.mul_assoc, Nat.mul_right_comm, ← big_pow, Nat.pow_add, Nat.mul_comm (18446744073709551616 ^ q), ← Nat.div_div_eq_div_mul, Nat.div_div_eq_div_mul, Nat.mul_comm (18446744073709551616 ^ j), ← Nat.div_div_eq_div_mul, Nat.mul_div_cancel _ (by rw [big_pow]; exact Nat.two_pow_pos _)]
    rw [hD]
    by_cases h0 : j = 0
    · subst h0
      rw [wdI_neg D (by omega), Int.zero_ediv]
      have e : ((wd D 0 : Nat) : Int) * ((2 ^ s : Nat) : Int) % 18446744073709551616 = ((wd D 0 * 2 ^ s % 18446744073709551616 : Nat) : Int) := by simp
      rw [e, or_zero_r _ (Nat.mod_lt _ (by decide))]
      congr 1
      unfold wd
      rw [Nat.pow_zero, Nat.div_one, Nat.div_one, Nat.mod_mul_mod]
    · obtain ⟨k, rfl⟩ : ∃ k, j = k + 1 := ⟨j - 1, by omega⟩
      rw [show ((k + 1 : Nat) : Int) - 1 = (k : Int) by omega, wdI_nat]
      have hE : D * 2 ^ s / 18446744073709551616 ^ (k + 1) = D / 18446744073709551616 ^ (k + 1) * 2 ^ s + wd D k / 2 ^ (64 - s) := by
        have hp := pow_split s (by omega)
        have h1 : D * 2 ^ s / 18446744073709551616 ^ (k + 1) = D / 18446744073709551616 ^ k / 2 ^ (64 - s) := by
          rw [Nat.pow_succ, ← hp, Nat.mul_comm (2 ^ s), ← Nat.mul_assoc, Nat.mul_div_mul_right _ _ (Nat.two_pow_pos s), Nat.div_div_eq_div_mul]
        rw [h1]
        unfold wd
        have h2 : D / 18446744073709551616 ^ (k + 1) = D / 18446744073709551616 ^ k / 18446744073709551616 := by rw [Nat.pow_succ, Nat.div_div_eq_div_mul]
        rw [h2]
        generalize D / 18446744073709551616 ^ k = E
        have h3 := Nat.div_add_mod E 18446744073709551616
        conv => lhs; rw [← h3, ← hp]
        rw [show 2 ^ s * 2 ^ (64 - s) * (E / (2 ^ s * 2 ^ (64 - s))) + E % (2 ^ s * 2 ^ (64 - s)) = E % (2 ^ s * 2 ^ (64 - s)) + 2 ^ (64 - s) * (2 ^ s * (E / (2 ^ s * 2 ^ (64 - s)))) by rw [Nat.add_comm, Nat.mul_comm (2 ^ s) (2 ^ (64 - s)), Nat.mul_assoc], Nat.add_mul_div_left _ _ (Nat.two_pow_pos _), hp, Nat.add_comm, Nat.mul_comm (2 ^ s)]
      rw [hE, mod_shift _ _ _ (by omega) (div_small _ _ (by omega) (wd_lt _ _))]
      have e3 : ((wd D (k + 1) : Nat) : Int) * ((2 ^ s : Nat) : Int) % 18446744073709551616 = ((wd D (k + 1) * 2 ^ s % 18446744073709551616 : Nat) : Int) := by simp
      have e4 : ((wd D k : Nat) : Int) / ((2 ^ (64 - s) : Nat) : Int) = ((wd D k / 2 ^ (64 - s) : Nat) : Int) := by simp
      have e5 : wd D (k + 1) * 2 ^ s % 18446744073709551616 = D / 18446744073709551616 ^ (k + 1) % 2 ^ (64 - s) * 2 ^ s := by
        rw [mod_shift0 _ _ (by omega)]
        unfold wd
        rw [Nat.mod_mod_of_dvd _ (show 2 ^ (64 - s) ∣ 18446744073709551616 from ⟨2 ^ s, by rw [Nat.mul_comm]; exact (pow_split s (by omega)).symm⟩)]
      have hb : D / 18446744073709551616 ^ (k + 1) % 2 ^ (64 - s) * 2 ^ s < 18446744073709551616 := by rw [← e5]; exact Nat.mod_lt _ (by decide)
      rw [e3, e4, e5, or_apart _ _ s hb (div_small _ _ (by omega) (wd_lt _ _)) (by omega)]

theorem wd_cut {D n q s i : Nat} (hn : n = 64 * q + s) (hs : s < 64) :
    bits .or .u64 (wdI D ((i : Int) + q) / 2 ^ s) (wdI D ((i : Int) + q + 1) * 2 ^ (64 - s) % 18446744073709551616) = (wd (D / 2 ^ n) i : Int) := by
  rw [cast_pow, cast_pow, show (i : Int) + q + 1 = ((i + q + 1 : Nat) : Int) by omega, show (i : Int) + q = ((i + q : Nat) : Int) by omega, wdI_nat, wdI_nat]
  have hp := pow_split s (by omega)
  have hD : wd (D / 2 ^ n) i = D / 18446744073709551616 ^ (i + q) / 2 ^ s % 18446744073709551616 := by
    unfold wd
    rw [hn, Nat.pow_add, ← big_pow, Nat.div_div_eq_div_mul, Nat.div_div_eq_div_mul, Nat.pow_add, Nat.mul_comm (_ ^ i), Nat.mul_right_comm]
  have h2 : D / 18446744073709551616 ^ (i + q + 1) = D / 18446744073709551616 ^ (i + q) / 18446744073709551616 := by rw [Nat.pow_succ, Nat.div_div_eq_div_mul]
  rw [hD]
  unfold wd
  rw [h2]
  generalize D / 18446744073709551616 ^ (i + q) = E
  have h3 := Nat.div_add_mod E 18446744073709551616
  have hE : E / 2 ^ s = E / 18446744073709551616 * 2 ^ (64 - s) + E % 18446744073709551616 / 2 ^ s := by
    conv => lhs; rw [← h3, ← hp]
    rw [Nat.mul_assoc, Nat.add_comm, Nat.add_mul_div_left _ _ (Nat.two_pow_pos s), Nat.add_comm, hp, Nat.mul_comm (2 ^ (64 - s))]
  have hlt : E % 18446744073709551616 / 2 ^ s < 2 ^ (64 - s) := by
    rw [Nat.div_lt_iff_lt_mul (Nat.two_pow_pos _), Nat.mul_comm, hp]; exact Nat.mod_lt _ (by decide)
  have e6 := mod_shift (E / 18446744073709551616) (E % 18446744073709551616 / 2 ^ s) (64 - s) (by omega) hlt
  rw [show 64 - (64 - s) = s by omega] at e6
  have e5 : E / 18446744073709551616 % 18446744073709551616 * 2 ^ (64 - s) % 18446744073709551616 = E / 18446744073709551616 % 2 ^ s * 2 ^ (64 - s) := by
    have := mod_shift0 (E / 18446744073709551616 % 18446744073709551616) (64 - s) (by omega)
    rw [show 64 - (64 - s) = s by omega] at this
    rw [this, Nat.mod_mod_of_dvd _ (show 2 ^ s ∣ 18446744073709551616 from ⟨2 ^ (64 - s), hp.symm⟩)]
  have hb : E / 18446744073709551616 % 2 ^ s * 2 ^ (64 - s) < 18446744073709551616 := by rw [← e5]; exact Nat.mod_lt _ (by decide)
  have hb2 : E % 18446744073709551616 / 2 ^ s < 18446744073709551616 := Nat.lt_of_le_of_lt (Nat.div_le_self _ _) (Nat.mod_lt _ (by decide))
  have e3 : ((E / 18446744073709551616 % 18446744073709551616 : Nat) : Int) * ((2 ^ (64 - s) : Nat) : Int) % 18446744073709551616 = ((E / 18446744073709551616 % 18446744073709551616 * 2 ^ (64 - s) % 18446744073709551616 : Nat) : Int) := by
    generalize E / 18446744073709551616 % 18446744073709551616 = a
    simp
  have e4 : ((E % 18446744073709551616 : Nat) : Int) / ((2 ^ s : Nat) : Int) = ((E % 18446744073709551616 / 2 ^ s : Nat) : Int) := by simp
  rw [hE, e6, e3, e5, e4, or_flip _ _ hb2 hb, or_apart _ _ (64 - s) hb hlt (by omega)]

/-- A number of two words, of four. -/
theorem wd2 {D : Nat} (h : D < 340282366920938463463374607431768211456) : D = wd D 0 + wd D 1 * 18446744073709551616 := by
  unfold wd
  omega
theorem wd4 {D : Nat} (h : D < 115792089237316195423570985008687907853269984665640564039457584007913129639936) : D = wd D 0 + wd D 1 * 18446744073709551616 + wd D 2 * 340282366920938463463374607431768211456 + wd D 3 * 6277101735386680763835789423207666416102355444464034512896 := by
  unfold wd
  omega
theorem wd2_of (a b : Nat) (ha : a < 18446744073709551616) (hb : b < 18446744073709551616) : wd (a + b * 18446744073709551616) 0 = a ∧ wd (a + b * 18446744073709551616) 1 = b := by
  unfold wd
  omega
theorem wd4_of (a b c d : Nat) (ha : a < 18446744073709551616) (hb : b < 18446744073709551616) (hc : c < 18446744073709551616) (hd : d < 18446744073709551616) :
    wd (a + b * 18446744073709551616 + c * 340282366920938463463374607431768211456 + d * 6277101735386680763835789423207666416102355444464034512896) 0 = a ∧ wd (a + b * 18446744073709551616 + c * 340282366920938463463374607431768211456 + d * 6277101735386680763835789423207666416102355444464034512896) 1 = b ∧
    wd (a + b * 18446744073709551616 + c * 340282366920938463463374607431768211456 + d * 6277101735386680763835789423207666416102355444464034512896) 2 = c ∧ wd (a + b * 18446744073709551616 + c * 340282366920938463463374607431768211456 + d * 6277101735386680763835789423207666416102355444464034512896) 3 = d := by
  unfold wd
  omega

/-- What is cut off, against half a unit: nothing, below, half, above. -/
def restN (D n : Nat) : Int := if D % 2 ^ n = 0 then 0 else if 2 * (D % 2 ^ n) < 2 ^ n then 1 else if 2 * (D % 2 ^ n) = 2 ^ n then 2 else 3
theorem restN_range (D n : Nat) : 0 ≤ restN D n ∧ restN D n ≤ 3 := by unfold restN; (repeat' split) <;> omega
theorem mod_mul (D n k : Nat) (h : n ≤ k) : D * 2 ^ (k - n) % 2 ^ k = D % 2 ^ n * 2 ^ (k - n) := by
  rw [show (2 : Nat) ^ k = 2 ^ n * 2 ^ (k - n) by rw [← Nat.pow_add]; congr 1; omega, Nat.mul_mod_mul_right]
theorem rest_far {D n k : Nat} (hD : D < 2 ^ k) (h : k < n) : restN D n = if D = 0 then 0 else 1 := by
  have hp : 2 ^ (k + 1) ≤ 2 ^ n := Nat.pow_le_pow_right (by decide) (by omega)
  rw [Nat.pow_succ] at hp
  unfold restN
  rw [Nat.mod_eq_of_lt (by omega)]
  by_cases hz : D = 0
  · rw [if_pos hz, if_pos hz]
  · rw [if_neg hz, if_neg hz, if_pos (by omega)]
/-- Weighed by moving it up to the top of K + 1 digits. -/
theorem rest_near {D n K M : Nat} (h : n ≤ K + 1) (hM : M = D * 2 ^ (K + 1 - n) % 2 ^ (K + 1)) : restN D n = if M = 0 then 0 else if M = 2 ^ K then 2 else if 2 ^ K ≤ M then 3 else 1 := by
  rw [mod_mul _ _ _ h] at hM
  have hpos : 0 < 2 ^ (K + 1 - n) := Nat.two_pow_pos _
  have hr : D % 2 ^ n < 2 ^ n := Nat.mod_lt _ (Nat.two_pow_pos _)
  have hp : 2 ^ n * 2 ^ (K + 1 - n) = 2 * 2 ^ K := by rw [← Nat.pow_add, show n + (K + 1 - n) = K + 1 by omega, Nat.pow_succ, Nat.mul_comm]
  unfold restN
  generalize D % 2 ^ n = r at *
  generalize 2 ^ (K + 1 - n) = Q at *
  generalize 2 ^ n = P at *
  generalize 2 ^ K = H at *
  subst hM
  by_cases hz : r = 0
  · subst hz; rw [if_pos rfl, Nat.zero_mul, if_pos rfl]
  · have h1 : 1 * Q ≤ r * Q := Nat.mul_le_mul_right _ (by omega)
    rw [if_neg hz]
    have two : 2 * r * Q = 2 * (r * Q) := Nat.mul_assoc _ _ _
    by_cases hlt : 2 * r < P
    · have : 2 * r * Q < P * Q := Nat.mul_lt_mul_of_pos_right hlt hpos
      rw [if_pos hlt, if_neg (show ¬ r * Q = 0 by omega), if_neg (show ¬ r * Q = H by omega), if_neg (show ¬ H ≤ r * Q by omega)]
    · have h2 : P * Q ≤ 2 * r * Q := Nat.mul_le_mul_right _ (by omega)
      rw [if_neg hlt]
      by_cases he : 2 * r = P
      · rw [he] at two
        rw [if_pos he, if_neg (show ¬ r * Q = 0 by omega), if_pos (show r * Q = H by omega)]
      · have : P * Q < 2 * r * Q := Nat.mul_lt_mul_of_pos_right (by omega) hpos
        rw [if_neg he, if_neg (show ¬ r * Q = 0 by omega), if_neg (show ¬ r * Q = H by omega), if_pos (show H ≤ r * Q by omega)]
end Go.Proofs.YtcjihaafohnbeaaDoor
