import Derived.Test.YtfbdgecanfmgiaaDoorWide2
import Derived.Test.YtfbdgecanfmgiaaDoorWide3
namespace Go.Proofs.YtfbdgecanfmgiaaDoor
open Go.RowKit

theorem or_apart (a b s : Nat) (ha : a * 2 ^ s < 18446744073709551616) (hb : b < 2 ^ s) (hs : s ≤ 64) : bits .or .u64 ((a * 2 ^ s : Nat) : Int) (b : Int) = ((a * 2 ^ s + b : Nat) : Int) := by
  have h64 : 2 ^ s ≤ 2 ^ 64 := Nat.pow_le_pow_right (by decide) hs
  rw [bits_or_u64_nat _ _ ha (by omega), ← Nat.shiftLeft_eq, ← Nat.shiftLeft_add_eq_or_of_lt hb]
theorem or_zero_r (a : Nat) (ha : a < 18446744073709551616) : bits .or .u64 (a : Int) 0 = (a : Int) := by
  have := bits_or_u64_nat a 0 ha (by omega)
  simpa using this
theorem or_zero_l (a : Nat) (ha : a < 18446744073709551616) : bits .or .u64 0 (a : Int) = (a : Int) := by
  have := bits_or_u64_nat 0 a (by omega) ha
  simpa using this

theorem pow_split (s : Nat) (hs : s ≤ 64) : 2 ^ s * 2 ^ (64 - s) = 18446744073709551616 := by
  rw [← Nat.pow_add, show s + (64 - s) = 64 by omega]
theorem pow_big (n q s : Nat) (h : n = 64 * q + s) : 2 ^ n = 18446744073709551616 ^ q * 2 ^ s := by
  rw [h, Nat.pow_add, Nat.pow_mul]

/-- (h * 2^s mod 2^64) + t, where t < 2^s: all of h * 2^s + t, mod 2^64. -/
theorem mod_shift (h t s : Nat) (hs : s ≤ 64) (ht : t < 2 ^ s) : (h * 2 ^ s + t) % 18446744073709551616 = h % 2 ^ (64 - s) * 2 ^ s + t := by
  have hp := pow_split s hs
  have h1 : h = 2 ^ (64 - s) * (h / 2 ^ (64 - s)) + h % 2 ^ (64 - s) := (Nat.div_add_mod _ _).symm
  have h2 : h % 2 ^ (64 - s) < 2 ^ (64 - s) := Nat.mod_lt _ (Nat.two_pow_pos _)
  have h3 : h * 2 ^ s + t = 18446744073709551616 * (h / 2 ^ (64 - s)) + (h % 2 ^ (64 - s) * 2 ^ s + t) := by
    conv => lhs; rw [h1]
    rw [← hp, Nat.add_mul, Nat.mul_comm (2 ^ s) (2 ^ (64 - s)), Nat.mul_assoc, Nat.mul_comm (h / 2 ^ (64 - s)) (2 ^ s), ← Nat.mul_assoc, Nat.add_assoc]
  rw [h3, Nat.mul_add_mod]
  apply Nat.mod_eq_of_lt
  calc h % 2 ^ (64 - s) * 2 ^ s + t < h % 2 ^ (64 - s) * 2 ^ s + 2 ^ s := by omega
    _ = (h % 2 ^ (64 - s) + 1) * 2 ^ s := by rw [Nat.add_mul, Nat.one_mul]
    _ ≤ 2 ^ (64 - s) * 2 ^ s := Nat.mul_le_mul_right _ h2
    _ = 18446744073709551616 := by rw [Nat.mul_comm]; exact hp
theorem mod_shift0 (h s : Nat) (hs : s ≤ 64) : h * 2 ^ s % 18446744073709551616 = h % 2 ^ (64 - s) * 2 ^ s := by
  have := mod_shift h 0 s hs (Nat.two_pow_pos _)
  simpa using this
theorem div_shift (l s : Nat) (hs : s ≤ 64) : l * 2 ^ s / 18446744073709551616 = l / 2 ^ (64 - s) := by
  rw [← pow_split s hs, Nat.mul_comm l, Nat.mul_div_mul_left _ _ (Nat.two_pow_pos s)]
theorem div_small (l s : Nat) (hs : s ≤ 64) (hl : l < 18446744073709551616) : l / 2 ^ (64 - s) < 2 ^ s := by
  rw [Nat.div_lt_iff_lt_mul (Nat.two_pow_pos _), pow_split s hs]; exact hl

theorem pow64 (n : Nat) (h : 64 ≤ n) : 2 ^ n = 18446744073709551616 * 2 ^ (n - 64) := by
  have : 2 ^ n = 2 ^ 64 * 2 ^ (n - 64) := by rw [← Nat.pow_add]; congr 1; omega
  simpa using this
theorem pow128 (n : Nat) (h : 128 ≤ n) : 2 ^ n = 18446744073709551616 * (18446744073709551616 * 2 ^ (n - 128)) := by
  rw [pow64 n (by omega), pow64 (n - 64) (by omega)]
  rfl

theorem toNat_mod (n : Nat) : ((n : Int) % 64).toNat = n % 64 := by omega
theorem toNat_rest (n : Nat) : (64 - (n : Int) % 64).toNat = 64 - n % 64 := by omega
theorem cast_pow (k : Nat) : ((2 : Int) ^ k) = ((2 ^ k : Nat) : Int) := by simp

theorem left0 (lo hi n : Nat) (_hl : lo < 18446744073709551616) : leftW lo hi n 0 = (((lo + hi * 18446744073709551616) * 2 ^ n % 18446744073709551616 : Nat) : Int) := by
  unfold leftW
  rw [toNat_mod, toNat_rest, cast_pow, cast_pow]
  by_cases h0 : n / 64 = 0
  · have e1 : wordAt lo hi (0 - (n : Int) / 64) = lo := by unfold wordAt; rw [if_pos (by omega)]
    have e2 : wordAt lo hi (0 - (n : Int) / 64 - 1) = 0 := by unfold wordAt; rw [if_neg (by omega), if_neg (by omega)]
    rw [e1, e2, Int.zero_ediv]
    have hn : n % 64 = n := by omega
    have := or_zero_r (lo * 2 ^ n % 18446744073709551616) (by omega)
    rw [hn]
    have e3 : ((lo : Int) * ((2 ^ n : Nat) : Int) % 18446744073709551616) = ((lo * 2 ^ n % 18446744073709551616 : Nat) : Int) := by simp
    rw [e3, this, Nat.add_mul, Nat.mul_right_comm hi, Nat.add_mul_mod_self_right]
  · have e1 : wordAt lo hi (0 - (n : Int) / 64) = 0 := by unfold wordAt; rw [if_neg (by omega), if_neg (by omega)]
    have e2 : wordAt lo hi (0 - (n : Int) / 64 - 1) = 0 := by unfold wordAt; rw [if_neg (by omega), if_neg (by omega)]
    rw [e1, e2, Int.zero_ediv, Int.zero_mul, Int.zero_emod]
    have := or_zero_r 0 (by omega)
    have e3 : (lo + hi * 18446744073709551616) * 2 ^ n % 18446744073709551616 = 0 := by
      rw [pow64 n (by omega)]
      rw [Nat.mul_left_comm, Nat.mul_mod_right]
    rw [e3]; simpa using this

theorem left1 (lo hi n : Nat) (hl : lo < 18446744073709551616) : leftW lo hi n 1 = (((lo + hi * 18446744073709551616) * 2 ^ n / 18446744073709551616 % 18446744073709551616 : Nat) : Int) := by
  unfold leftW
  rw [toNat_mod, toNat_rest, cast_pow, cast_pow]
  by_cases h0 : n / 64 = 0
  · have e1 : wordAt lo hi (1 - (n : Int) / 64) = hi := by unfold wordAt; rw [if_neg (by omega), if_pos (by omega)]
    have e2 : wordAt lo hi (1 - (n : Int) / 64 - 1) = lo := by unfold wordAt; rw [if_pos (by omega)]
    have hn : n % 64 = n := by omega
    rw [e1, e2, hn]
    have e3 : ((hi : Int) * ((2 ^ n : Nat) : Int) % 18446744073709551616) = ((hi % 2 ^ (64 - n) * 2 ^ n : Nat) : Int) := by
      rw [← mod_shift0 hi n (by omega)]; simp
    have e4 : ((lo : Int) / ((2 ^ (64 - n) : Nat) : Int)) = ((lo / 2 ^ (64 - n) : Nat) : Int) := by simp
    have hb : hi % 2 ^ (64 - n) * 2 ^ n < 18446744073709551616 := by rw [← mod_shift0 hi n (by omega)]; omega
    rw [e3, e4, or_apart _ _ n hb (div_small lo n (by omega) hl) (by omega)]
    have e5 : (lo + hi * 18446744073709551616) * 2 ^ n / 18446744073709551616 = hi * 2 ^ n + lo / 2 ^ (64 - n) := by
      rw [Nat.add_mul, Nat.mul_right_comm hi, Nat.add_mul_div_right _ _ (by decide), div_shift lo n (by omega), Nat.add_comm]
    rw [e5, mod_shift hi _ n (by omega) (div_small lo n (by omega) hl)]
  · by_cases h1 : n / 64 = 1
    · have e1 : wordAt lo hi (1 - (n : Int) / 64) = lo := by unfold wordAt; rw [if_pos (by omega)]
      have e2 : wordAt lo hi (1 - (n : Int) / 64 - 1) = 0 := by unfold wordAt; rw [if_neg (by omega), if_neg (by omega)]
      rw [e1, e2, Int.zero_ediv]
      have e3 : ((lo : Int) * ((2 ^ (n % 64) : Nat) : Int) % 18446744073709551616) = ((lo * 2 ^ (n % 64) % 18446744073709551616 : Nat) : Int) := by simp
      rw [e3, or_zero_r _ (by omega)]
      rw [show (2 : Nat) ^ n = 18446744073709551616 * 2 ^ (n % 64) by rw [pow_big n 1 (n % 64) (by omega)]]
      rw [Nat.mul_left_comm, Nat.mul_div_cancel_left _ (by decide), Nat.add_mul, Nat.mul_right_comm hi, Nat.add_mul_mod_self_right]
    · have e1 : wordAt lo hi (1 - (n : Int) / 64) = 0 := by unfold wordAt; rw [if_neg (by omega), if_neg (by omega)]
      have e2 : wordAt lo hi (1 - (n : Int) / 64 - 1) = 0 := by unfold wordAt; rw [if_neg (by omega), if_neg (by omega)]
      rw [e1, e2, Int.zero_ediv, Int.zero_mul, Int.zero_emod]
      have e3 : (lo + hi * 18446744073709551616) * 2 ^ n / 18446744073709551616 % 18446744073709551616 = 0 := by
        rw [pow128 n (by omega)]
        rw [Nat.mul_left_comm, Nat.mul_div_cancel_left _ (by decide), Nat.mul_left_comm, Nat.mul_mod_right]
      rw [e3]; simpa using or_zero_r 0 (by omega)
theorem cut0 (lo hi n : Nat) (hl : lo < 18446744073709551616) (hh : hi < 18446744073709551616) : cutW lo hi n 0 = (((lo + hi * 18446744073709551616) / 2 ^ n % 18446744073709551616 : Nat) : Int) := by
  unfold cutW
  rw [toNat_mod, toNat_rest, cast_pow, cast_pow]
  by_cases h0 : n / 64 = 0
  · have e1 : wordAt lo hi (0 + (n : Int) / 64) = lo := by unfold wordAt; rw [if_pos (by omega)]
    have e2 : wordAt lo hi (0 + (n : Int) / 64 + 1) = hi := by unfold wordAt; rw [if_neg (by omega), if_pos (by omega)]
    have hn : n % 64 = n := by omega
    rw [e1, e2, hn]
    have hp := pow_split n (by omega)
    have e3 : ((hi : Int) * ((2 ^ (64 - n) : Nat) : Int) % 18446744073709551616) = ((hi % 2 ^ n * 2 ^ (64 - n) : Nat) : Int) := by
      have := mod_shift0 hi (64 - n) (by omega)
      rw [show 64 - (64 - n) = n by omega] at this
      rw [← this]; simp
    have e4 : ((lo : Int) / ((2 ^ n : Nat) : Int)) = ((lo / 2 ^ n : Nat) : Int) := by simp
    have hlt : lo / 2 ^ n < 2 ^ (64 - n) := by
      rw [Nat.div_lt_iff_lt_mul (Nat.two_pow_pos _), Nat.mul_comm, hp]; exact hl
    have hb : hi % 2 ^ n * 2 ^ (64 - n) < 18446744073709551616 := by
      rw [← hp]; exact Nat.mul_lt_mul_of_pos_right (Nat.mod_lt _ (Nat.two_pow_pos _)) (Nat.two_pow_pos _)
    have e5 : (lo + hi * 18446744073709551616) / 2 ^ n = hi * 2 ^ (64 - n) + lo / 2 ^ n := by
      rw [← hp, Nat.mul_left_comm, Nat.add_mul_div_left _ _ (Nat.two_pow_pos n), Nat.add_comm]
    have e6 := mod_shift hi (lo / 2 ^ n) (64 - n) (by omega) hlt
    rw [show 64 - (64 - n) = n by omega] at e6
    rw [e3, e4, e5, e6, bits_or_u64_nat _ _ (by omega) hb, Nat.or_comm, ← bits_or_u64_nat _ _ hb (by omega), or_apart _ _ _ hb hlt (by omega)]
  · by_cases h1 : n / 64 = 1
    · have e1 : wordAt lo hi (0 + (n : Int) / 64) = hi := by unfold wordAt; rw [if_neg (by omega), if_pos (by omega)]
      have e2 : wordAt lo hi (0 + (n : Int) / 64 + 1) = 0 := by unfold wordAt; rw [if_neg (by omega), if_neg (by omega)]
      rw [e1, e2, Int.zero_mul, Int.zero_emod]
      have e4 : ((hi : Int) / ((2 ^ (n % 64) : Nat) : Int)) = ((hi / 2 ^ (n % 64) : Nat) : Int) := by simp
      have hle : hi / 2 ^ (n % 64) ≤ hi := Nat.div_le_self _ _
      have e6 : (lo + hi * 18446744073709551616) / 2 ^ n = hi / 2 ^ (n % 64) := by
        have hp : 2 ^ n = 18446744073709551616 * 2 ^ (n % 64) := by rw [pow64 n (by omega), show n - 64 = n % 64 by omega]
        rw [hp, ← Nat.div_div_eq_div_mul, show (lo + hi * 18446744073709551616) / 18446744073709551616 = hi by omega]
      rw [e4, or_zero_r _ (by omega), e6, Nat.mod_eq_of_lt (show hi / 2 ^ (n % 64) < 18446744073709551616 by omega)]
    · have e1 : wordAt lo hi (0 + (n : Int) / 64) = 0 := by unfold wordAt; rw [if_neg (by omega), if_neg (by omega)]
      have e2 : wordAt lo hi (0 + (n : Int) / 64 + 1) = 0 := by unfold wordAt; rw [if_neg (by omega), if_neg (by omega)]
      rw [e1, e2, Int.zero_mul, Int.zero_emod, Int.zero_ediv]
      have hz : (lo + hi * 18446744073709551616) / 2 ^ n = 0 := by
        rw [pow128 n (by omega), ← Nat.div_div_eq_div_mul, show (lo + hi * 18446744073709551616) / 18446744073709551616 = hi by omega, ← Nat.div_div_eq_div_mul, Nat.div_eq_of_lt hh, Nat.zero_div]
      rw [hz]; simpa using or_zero_r 0 (by omega)

theorem cut1 (lo hi n : Nat) (hl : lo < 18446744073709551616) (hh : hi < 18446744073709551616) : cutW lo hi n 1 = (((lo + hi * 18446744073709551616) / 2 ^ n / 18446744073709551616 : Nat) : Int) := by
  unfold cutW
  rw [toNat_mod, toNat_rest, cast_pow, cast_pow]
  have hd : (lo + hi * 18446744073709551616) / 2 ^ n / 18446744073709551616 = hi / 2 ^ n := by
    rw [Nat.div_div_eq_div_mul, Nat.mul_comm (2 ^ n), ← Nat.div_div_eq_div_mul, show (lo + hi * 18446744073709551616) / 18446744073709551616 = hi by omega]
  have e2 : wordAt lo hi (1 + (n : Int) / 64 + 1) = 0 := by unfold wordAt; rw [if_neg (by omega), if_neg (by omega)]
  rw [hd, e2, Int.zero_mul, Int.zero_emod]
  by_cases h0 : n / 64 = 0
  · have e1 : wordAt lo hi (1 + (n : Int) / 64) = hi := by unfold wordAt; rw [if_neg (by omega), if_pos (by omega)]
    have e4 : ((hi : Int) / ((2 ^ n : Nat) : Int)) = ((hi / 2 ^ n : Nat) : Int) := by simp
    have hle : hi / 2 ^ n ≤ hi := Nat.div_le_self _ _
    rw [e1, show n % 64 = n by omega, e4, or_zero_r _ (by omega)]
  · have e1 : wordAt lo hi (1 + (n : Int) / 64) = 0 := by unfold wordAt; rw [if_neg (by omega), if_neg (by omega)]
    have hz : hi / 2 ^ n = 0 := by
      rw [pow64 n (by omega), ← Nat.div_div_eq_div_mul, Nat.div_eq_of_lt hh, Nat.zero_div]
    rw [e1, Int.zero_ediv, hz]; simpa using or_zero_r 0 (by omega)

/-- What is cut off, against half a unit: nothing, below, half, above. -/
def restN (D n : Nat) : Int := if D % 2 ^ n = 0 then 0 else if 2 * (D % 2 ^ n) < 2 ^ n then 1 else if 2 * (D % 2 ^ n) = 2 ^ n then 2 else 3

theorem mod_mul (D n k : Nat) (h : n ≤ k) : D * 2 ^ (k - n) % 2 ^ k = D % 2 ^ n * 2 ^ (k - n) := by
  rw [show (2 : Nat) ^ k = 2 ^ n * 2 ^ (k - n) by rw [← Nat.pow_add]; congr 1; omega, Nat.mul_mod_mul_right]
theorem rest_eq (lo hi n : Nat) (hl : lo < 18446744073709551616) (hh : hi < 18446744073709551616) : restOf lo hi n = restN (lo + hi * 18446744073709551616) n := by
  unfold restOf
  by_cases h : 128 < n
  · rw [if_pos (by omega)]
    have hp : 2 ^ 129 ≤ 2 ^ n := Nat.pow_le_pow_right (by decide) (by omega)
    have hm : (lo + hi * 18446744073709551616) % 2 ^ n = lo + hi * 18446744073709551616 := Nat.mod_eq_of_lt (by omega)
    unfold restN
    rw [hm]
    by_cases hz : lo = 0 ∧ hi = 0
    · rw [if_pos (by omega), if_pos (by omega)]
    · rw [if_neg (by omega), if_neg (by omega), if_pos (by omega)]
  · rw [if_neg (by omega)]
    have e0 := left0 lo hi (128 - n) hl
    have e1 := left1 lo hi (128 - n) hl
    rw [show ((128 - n : Nat) : Int) = 128 - (n : Int) by omega] at e0 e1
    rw [e0, e1]
    have hm := mod_mul (lo + hi * 18446744073709551616) n 128 (by omega)
    generalize hT : (lo + hi * 18446744073709551616) * 2 ^ (128 - n) = T at *
    have hT2 : T % 2 ^ 128 = T % 18446744073709551616 + T / 18446744073709551616 % 18446744073709551616 * 18446744073709551616 := by
      rw [show (2 : Nat) ^ 128 = 18446744073709551616 * 18446744073709551616 by decide, Nat.mod_mul]
      omega
    have hr : (lo + hi * 18446744073709551616) % 2 ^ n < 2 ^ n := Nat.mod_lt _ (Nat.two_pow_pos _)
    unfold restN
    generalize (lo + hi * 18446744073709551616) % 2 ^ n = r at *
    have hp : 2 ^ n * 2 ^ (128 - n) = 2 ^ 128 := by rw [← Nat.pow_add]; congr 1; omega
    have hpos : 0 < 2 ^ (128 - n) := Nat.two_pow_pos _
    generalize 2 ^ n = P at *
    generalize 2 ^ (128 - n) = Q at *
    have hrm : r * Q = T % 18446744073709551616 + T / 18446744073709551616 % 18446744073709551616 * 18446744073709551616 := by rw [← hT2]; exact hm.symm
    have hm0 : T % 18446744073709551616 < 18446744073709551616 := Nat.mod_lt _ (by decide)
    generalize T % 18446744073709551616 = m0 at *
    have hm1 : T / 18446744073709551616 % 18446744073709551616 < 18446744073709551616 := Nat.mod_lt _ (by decide)
    generalize T / 18446744073709551616 % 18446744073709551616 = m1 at *
    unfold restB
    by_cases hz : r = 0
    · subst hz
      rw [if_pos (by omega), if_pos rfl]
    · have h1 : 1 * Q ≤ r * Q := Nat.mul_le_mul_right _ (by omega)
      rw [if_neg (by omega), if_neg hz]
      have two : 2 * r * Q = 2 * (m0 + m1 * 18446744073709551616) := by rw [Nat.mul_assoc, hrm]
      by_cases hlt : 2 * r < P
      · have : 2 * r * Q < P * Q := Nat.mul_lt_mul_of_pos_right hlt hpos
        rw [if_neg (by omega), if_neg (by omega), if_pos hlt]
      · have h2 : P * Q ≤ 2 * r * Q := Nat.mul_le_mul_right _ (by omega)
        rw [if_neg hlt]
        by_cases he : 2 * r = P
        · rw [he] at two
          rw [if_pos (by omega), if_pos he]
        · have : P * Q < 2 * r * Q := Nat.mul_lt_mul_of_pos_right (by omega) hpos
          rw [if_neg (by omega), if_pos (by omega), if_neg he]
end Go.Proofs.YtfbdgecanfmgiaaDoor
