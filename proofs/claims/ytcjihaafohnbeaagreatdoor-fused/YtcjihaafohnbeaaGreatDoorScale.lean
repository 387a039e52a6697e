import Derived.Test.YtcjihaafohnbeaaGreatDoorOdB
import Derived.Test.YtcjihaafohnbeaaGreatDoorRefW
import Derived.Test.YtcjihaafohnbeaaGreatDoorRefU
namespace Go.Proofs.YtcjihaafohnbeaaGreatDoor
open Go.RowKit

theorem grow_none (m s : Int) : grow m s 0 = 0 := by unfold grow; (repeat' split) <;> omega
theorem cut_scale (s m : Int) (D t : Nat) (k : Int) : cutQ s m (D * 2 ^ t) (k + t) = cutQ s m D k ∧ cutCh (D * 2 ^ t) (k + t) = cutCh D k := by
  by_cases h : k ≤ 0
  · by_cases h2 : k + t ≤ 0
    · unfold cutQ cutCh
      rw [if_pos h, if_pos h2, if_pos h, if_pos h2, Nat.mul_assoc, ← Nat.pow_add, show t + (-(k + t)).toNat = (-k).toNat by omega]
      exact ⟨rfl, rfl⟩
    · obtain ⟨j, hj⟩ : ∃ j : Nat, k + t = j := ⟨(k + t).toNat, by omega⟩
      have e : D * 2 ^ t = D * 2 ^ (-k).toNat * 2 ^ j := by rw [Nat.mul_assoc, ← Nat.pow_add, show (-k).toNat + j = t by omega]
      have hr : restN (D * 2 ^ (-k).toNat * 2 ^ j) j = 0 := by unfold restN; rw [if_pos (Nat.mul_mod_left _ _)]
      unfold cutQ cutCh
      rw [if_pos h, if_pos h, if_neg h2, if_neg h2, hj, Int.toNat_natCast, e, hr, grow_none, Nat.mul_div_cancel _ (Nat.two_pow_pos j)]
      exact ⟨rfl, rfl⟩
  · obtain ⟨j, hj⟩ : ∃ j : Nat, k = j := ⟨k.toNat, by omega⟩
    subst hj
    exact cut_same (by omega) (even_cut (E := D * 2 ^ t) (t := t) (Nat.mul_mod_left _ _) (Nat.mul_div_cancel _ (Nat.two_pow_pos t)).symm)
theorem bitLen_scale {D : Nat} (t : Nat) (h : D ≠ 0) : Go.bitLen (D * 2 ^ t) = Go.bitLen D + t := by
  have e : D * 2 ^ t / 2 ^ t = D := Nat.mul_div_cancel _ (Nat.two_pow_pos t)
  have := Go.bitLen_shift (D * 2 ^ t) t (by rw [e]; exact h)
  rw [e] at this
  omega
theorem round_scale {s m p : Int} {D : Nat} (t : Nat) (h : D ≠ 0) : roundB s (D * 2 ^ t) p m = roundB s D (p + t) m ∧ roundF s (D * 2 ^ t) p m = roundF s D (p + t) m := by
  have hb := bitLen_scale t h
  have c := cut_scale s m D t (Go.bitLen D - 53)
  have c2 := cut_scale s m D t (-1074 - (p + t))
  rw [show -1074 - (p + (t : Int)) + t = -1074 - p by omega] at c2
  unfold roundB roundF
  rw [show ((Go.bitLen (D * 2 ^ t) : Nat) : Int) - 53 = (Go.bitLen D : Int) - 53 + t by omega, c.1, c.2, c2.1, c2.2,
    show p + ((Go.bitLen (D * 2 ^ t) : Nat) : Int) - 52 = p + t + Go.bitLen D - 52 by omega, show p + ((Go.bitLen (D * 2 ^ t) : Nat) : Int) - 53 = p + t + Go.bitLen D - 53 by omega]
  exact ⟨rfl, rfl⟩
theorem alN_none (p q : Int) : alN 0 p q = 0 := by unfold alN; rw [Nat.zero_mul]
/-- A sum with 0: the other, rounded. -/
theorem ds_left {s1 s2 d1 : Nat} {p1 p2 m : Int} (g1 : s1 < 2) (h : d1 ≠ 0) : dsB s1 d1 p1 s2 0 p2 m = roundB s1 d1 p1 m ∧ dsF s1 d1 p1 s2 0 p2 m = roundF s1 d1 p1 m := by
  have hp := Nat.two_pow_pos (p1 - min p1 p2).toNat
  have hX : alN d1 p1 p2 ≠ 0 := fun e => h (alN_zero e)
  have hD : dsD s1 d1 p1 s2 0 p2 = alN d1 p1 p2 := by unfold dsD snD; rw [alN_none]; (repeat' split) <;> omega
  have hG : dsG s1 d1 p1 s2 0 p2 = decide (s1 = 1) := by
    unfold dsG snG
    rw [alN_none]
    by_cases e : decide (s1 = 1) = decide (s2 = 1)
    · rw [if_pos e]
    · rw [if_neg e, if_neg hX, if_pos (by omega)]
  have hP : dsP s1 d1 p1 s2 0 p2 = min p1 p2 := by
    unfold dsP snP
    rw [alN_none]
    by_cases e : decide (s1 = 1) = decide (s2 = 1)
    · rw [if_pos e]
    · rw [if_neg e, if_neg hX]
  unfold dsB dsF adB adF
  rw [hD, if_pos hX, if_pos hX, hG, hP, sOf_dec g1]
  have := round_scale (s := s1) (m := m) (p := min p1 p2) (p1 - min p1 p2).toNat h
  rw [show min p1 p2 + ((p1 - min p1 p2).toNat : Int) = p1 by omega] at this
  exact this
theorem ds_right {s1 s2 d2 : Nat} {p1 p2 m : Int} (g2 : s2 < 2) (h : d2 ≠ 0) : dsB s1 0 p1 s2 d2 p2 m = roundB s2 d2 p2 m ∧ dsF s1 0 p1 s2 d2 p2 m = roundF s2 d2 p2 m := by
  have c := dsB_comm (s1 := s1) (d1 := 0) (s2 := s2) (d2 := d2) (p1 := p1) (p2 := p2) (m := m)
  rw [c.1, c.2]
  exact ds_left g2 h
theorem ds_zero {s1 s2 d2 : Nat} {p1 q1 p2 m : Int} (g2 : s2 < 2) : dsB s1 0 p1 s2 d2 p2 m = dsB s1 0 q1 s2 d2 p2 m ∧ dsF s1 0 p1 s2 d2 p2 m = dsF s1 0 q1 s2 d2 p2 m := by
  by_cases h : d2 = 0
  · subst h
    have hD : ∀ p : Int, dsD s1 0 p s2 0 p2 = 0 := fun p => by unfold dsD snD; rw [alN_none, alN_none]; (repeat' split) <;> omega
    unfold dsB dsF adB adF
    rw [hD p1, hD q1]
    simp
  · have e1 := ds_right (s1 := s1) (p1 := p1) (m := m) (p2 := p2) g2 h
    have e2 := ds_right (s1 := s1) (p1 := q1) (m := m) (p2 := p2) g2 h
    rw [e1.1, e1.2, e2.1, e2.2]
    exact ⟨rfl, rfl⟩
theorem mant_none {x : Nat} (h : kind x = 0) : mant x = 0 := by
  unfold kind kindB at h
  unfold mant
  by_cases e : x / 4503599627370496 % 2048 = 0
  · rw [if_pos e]
    by_cases f : x % 4503599627370496 = 0
    · exact f
    · rw [if_neg (by omega), if_pos (by omega)] at h
      omega
  · rw [if_neg (by omega), if_neg (by omega)] at h
    (repeat' split at h) <;> omega
/-- The bits of a product that needs no reckoning. -/
def pbOf (x y : Nat) : Nat := if kind x = 3 ∨ kind y = 3 then infOf x y else xs x y * 9223372036854775808
theorem pbOf_lt (x y : Nat) : pbOf x y < 18446744073709551616 := by
  have := xs_lt x y
  have := infOf_lt x y
  unfold pbOf
  split <;> omega
theorem zero_parts (s : Nat) (h : s < 2) : kind (s * 9223372036854775808 : Nat) = 0 ∧ sgn (s * 9223372036854775808) = s ∧ mant (s * 9223372036854775808) = 0 ∧ pow (s * 9223372036854775808) = -1074 := by
  have e : s = 0 ∨ s = 1 := by omega
  rcases e with rfl | rfl <;> decide
/-- fma's answer, by the program's cases. -/
theorem fu_cases (x y z : Nat) (m : Int) (hx : x < 18446744073709551616) (hy : y < 18446744073709551616) (hz : z < 18446744073709551616) :
    (zti (kind x) (kind y) = true → fuB x y z m = 9221120237041090560 ∧ fuF x y z m = 16) ∧
    (zti (kind x) (kind y) = false → ((kind x == 3 || kind y == 3) || (kind x == 0 || kind y == 0)) = true → prodB x y m = pbOf x y ∧ fuB x y z m = psB (pbOf x y) z m ∧ fuF x y z m = psF (pbOf x y) z m) ∧
    (zti (kind x) (kind y) = false → (kind x == 3 || kind y == 3) = false → (kind x == 0 || kind y == 0) = false → (kind z == 3) = true → fuB x y z m = z ∧ fuF x y z m = 0) ∧
    (zti (kind x) (kind y) = false → (kind x == 3 || kind y == 3) = false → (kind x == 0 || kind y == 0) = false → (kind z == 3) = false → (kind z == 0) = true → fuB x y z m = prodB x y m ∧ fuF x y z m = prodF x y m) ∧
    (zti (kind x) (kind y) = false → (kind x == 3 || kind y == 3) = false → (kind x == 0 || kind y == 0) = false → (kind z == 3) = false → (kind z == 0) = false →
      fuB x y z m = rsB 256 (xs x y) (mant x * mant y) (pow x + pow y) (sgn z) (mant z) (pow z) m ∧ fuF x y z m = rsF 256 (xs x y) (mant x * mant y) (pow x + pow y) (sgn z) (mant z) (pow z) m) := by
  have hxs := xs_lt x y
  refine ⟨fun h => ?_, fun h g => ?_, fun h g k l => ?_, fun h g k l n => ?_, fun h g k l n => ?_⟩
  · unfold fuB fuF; rw [if_pos h, if_pos h]; exact ⟨rfl, rfl⟩
  · have hn : ¬ zti (kind x) (kind y) = true := by rw [h]; decide
    simp only [zti, Bool.or_eq_true, Bool.or_eq_false_iff, Bool.and_eq_false_iff, beq_iff_eq, beq_eq_false_iff_ne, ne_eq] at h g
    have h1 : ¬ ((kind x = 3 ∨ kind y = 3) ∧ (kind x = 0 ∨ kind y = 0)) := by omega
    unfold fuB fuF
    rw [if_neg hn, if_neg hn]
    by_cases hi : kind x = 3 ∨ kind y = 3
    · have e : pbOf x y = infOf x y := by unfold pbOf; rw [if_pos hi]
      rw [if_pos hi, if_pos hi, e]
      have ea := add_sum (infOf x y) z m (infOf_lt x y) hz
      refine ⟨?_, ea.1, ea.2⟩
      unfold prodB
      rw [if_neg h1, if_pos hi]
      unfold infOf
      omega
    · have e : pbOf x y = xs x y * 9223372036854775808 := by unfold pbOf; rw [if_neg hi]
      have ho : kind x = 0 ∨ kind y = 0 := by omega
      have zp := zero_parts (xs x y) hxs
      rw [if_neg hi, if_neg hi, e]
      have hM : mant x * mant y = 0 := by
        rcases ho with h0 | h0
        · rw [mant_none h0, Nat.zero_mul]
        · rw [mant_none h0, Nat.mul_zero]
      refine ⟨?_, ?_⟩
      · unfold prodB
        rw [if_neg h1, if_neg hi, if_pos ho]
        omega
      · unfold psB psF
        have n3 : ¬ kind (xs x y * 9223372036854775808 : Nat) = 3 := by rw [zp.1]; decide
        have n33 : ¬ (kind (xs x y * 9223372036854775808 : Nat) = 3 ∧ kind z = 3 ∧ xs x y * 9223372036854775808 ≠ z) := fun h => n3 h.1
        rw [if_neg n33, if_neg n33, if_neg n3, if_neg n3]
        by_cases kz : kind z = 3
        · rw [if_pos kz, if_pos kz, if_pos kz, if_pos kz]; exact ⟨rfl, rfl⟩
        · rw [if_neg kz, if_neg kz, if_neg kz, if_neg kz, hM, zp.2.1, zp.2.2.1, zp.2.2.2]
          have hb0 : Go.bitLen 0 + 2 ≤ 128 := by decide
          have pz := pow_range z
          have er := rs_doc (n := 128) (s1 := xs x y) (s2 := sgn z) (d1 := 0) (d2 := mant z) (p1 := -1074) (p2 := pow z) (m := m) hxs (sgn_lt hz) (by decide) hb0 (bl_mant z)
            (fun h => by have : Go.bitLen 0 = 0 := rfl; omega) (fun h => mant_norm (by have := bl_mant z; omega))
          have e0 := ds_zero (s1 := xs x y) (d2 := mant z) (p1 := pow x + pow y) (q1 := -1074) (p2 := pow z) (m := m) (sgn_lt hz)
          rw [er.1, er.2]
          exact e0
  · have hn : ¬ zti (kind x) (kind y) = true := by rw [h]; decide
    simp only [Bool.or_eq_false_iff, beq_iff_eq, beq_eq_false_iff_ne, ne_eq] at g k l
    have hi : ¬ (kind x = 3 ∨ kind y = 3) := by omega
    unfold fuB fuF; rw [if_neg hn, if_neg hn, if_neg hi, if_neg hi, if_pos l, if_pos l]; exact ⟨rfl, rfl⟩
  · have hn : ¬ zti (kind x) (kind y) = true := by rw [h]; decide
    simp only [Bool.or_eq_false_iff, beq_iff_eq, beq_eq_false_iff_ne, ne_eq] at g k l n
    have hi : ¬ (kind x = 3 ∨ kind y = 3) := by omega
    have h1 : ¬ ((kind x = 3 ∨ kind y = 3) ∧ (kind x = 0 ∨ kind y = 0)) := by omega
    have h0 : ¬ (kind x = 0 ∨ kind y = 0) := by omega
    unfold fuB fuF prodB prodF
    rw [if_neg hn, if_neg hn, if_neg hi, if_neg hi, if_neg l, if_neg l, if_neg h1, if_neg h1, if_neg hi, if_neg hi, if_neg h0, if_neg h0, mant_none n]
    exact ds_left hxs (Nat.mul_ne_zero (mant_some hx (by omega)) (mant_some hy (by omega)))
  · have hn : ¬ zti (kind x) (kind y) = true := by rw [h]; decide
    simp only [Bool.or_eq_false_iff, beq_eq_false_iff_ne, ne_eq] at g k l n
    have hi : ¬ (kind x = 3 ∨ kind y = 3) := by omega
    unfold fuB fuF
    rw [if_neg hn, if_neg hn, if_neg hi, if_neg hi, if_neg l, if_neg l]
    have e := rs_doc (n := 256) (s1 := xs x y) (s2 := sgn z) (d1 := mant x * mant y) (d2 := mant z) (p1 := pow x + pow y) (p2 := pow z) (m := m) hxs (sgn_lt hz) (by decide) (bl_prod x y) (bl_mant4 z)
      (fun _ => Nat.mul_ne_zero (mant_some hx (by omega)) (mant_some hy (by omega))) (fun _ => mant_some hz (by omega))
    exact ⟨e.1.symm, e.2.symm⟩
end Go.Proofs.YtcjihaafohnbeaaGreatDoor
