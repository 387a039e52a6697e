import Derived.Test.YtcjihaafohnbeaaGreatDoorSoft0
namespace Go.Proofs.YtcjihaafohnbeaaGreatDoor
open Go.RowKit

/-- The sum of two numbers of one power: sign, digits, power. -/
def suS (s1 X s2 Y : Nat) (m : Int) : Nat := if s1 = s2 then s1 else if X = Y then (if m = 4 then 1 else 0) else if Y < X then s1 else s2
def suD (s1 X s2 Y : Nat) : Nat := if s1 = s2 then X + Y else if Y < X then X - Y else Y - X
def suP (s1 X s2 Y : Nat) (P : Int) : Int := if s1 = s2 then P else if X = Y then 0 else P
theorem su_none {s1 X s2 Y : Nat} {m P : Int} (h : s1 ≠ s2 ∧ X = Y) : (suS s1 X s2 Y m : Int) = (if m = 4 then 1 else 0) ∧ suD s1 X s2 Y = 0 ∧ suP s1 X s2 Y P = 0 := by
  obtain ⟨h, rfl⟩ := h
  unfold suS suD suP
  simp only [if_neg h, if_true]
  refine ⟨?_, ?_, trivial⟩
  · split <;> rfl
  · split <;> omega
theorem su_same {s1 X s2 Y : Nat} {m P : Int} (h : s1 = s2) : suS s1 X s2 Y m = s1 ∧ suD s1 X s2 Y = X + Y ∧ suP s1 X s2 Y P = P := by
  unfold suS suD suP
  simp only [if_pos h]
  exact ⟨trivial, trivial, trivial⟩
theorem su_first {s1 X s2 Y : Nat} {m P : Int} (W : Nat) (h : s1 ≠ s2) (g : Y < X) : suS s1 X s2 Y m = s1 ∧ suD s1 X s2 Y = difW W X Y ∧ suP s1 X s2 Y P = P := by
  have g' : ¬ X = Y := by omega
  unfold suS suD suP difW
  simp only [if_neg h, if_neg g', if_pos g, if_pos (Nat.le_of_lt g)]
  exact ⟨trivial, trivial, trivial⟩
theorem su_second {s1 X s2 Y : Nat} {m P : Int} (W : Nat) (h : s1 ≠ s2) (g : X < Y) : suS s1 X s2 Y m = s2 ∧ suD s1 X s2 Y = difW W Y X ∧ suP s1 X s2 Y P = P := by
  have g' : ¬ X = Y := by omega
  have g2 : ¬ Y < X := by omega
  unfold suS suD suP difW
  simp only [if_neg h, if_neg g', if_neg g2, if_pos (Nat.le_of_lt g)]
  exact ⟨trivial, trivial, trivial⟩
theorem xor_one (s : Nat) (hs : s < 2) : bits .xor .u64 (s : Int) 1 = ((1 - s : Nat) : Int) := by
  have := bits_xor_u64_nat s 1 (by omega) (by omega)
  rw [show ((1 : Nat) : Int) = 1 from rfl] at this
  rw [this]
  have h : s = 0 ∨ s = 1 := by omega
  rcases h with rfl | rfl <;> rfl
/-- The program's sum of two numbers, in n places: sign, digits, power. -/
def gsS (n s1 d1 : Nat) (p1 : Int) (s2 d2 : Nat) (p2 m : Int) : Nat :=
  if p2 ≤ p1 then suS s1 (d1 * 2 ^ (lift n d1 (p1 - p2)).toNat) s2 (mk d2 (p1 - p2 - lift n d1 (p1 - p2)).toNat) m else suS s2 (d2 * 2 ^ (lift n d2 (p2 - p1)).toNat) s1 (mk d1 (p2 - p1 - lift n d2 (p2 - p1)).toNat) m
def gsD (n s1 d1 : Nat) (p1 : Int) (s2 d2 : Nat) (p2 : Int) : Nat :=
  if p2 ≤ p1 then suD s1 (d1 * 2 ^ (lift n d1 (p1 - p2)).toNat) s2 (mk d2 (p1 - p2 - lift n d1 (p1 - p2)).toNat) else suD s2 (d2 * 2 ^ (lift n d2 (p2 - p1)).toNat) s1 (mk d1 (p2 - p1 - lift n d2 (p2 - p1)).toNat)
def gsP (n s1 d1 : Nat) (p1 : Int) (s2 d2 : Nat) (p2 : Int) : Int :=
  if p2 ≤ p1 then suP s1 (d1 * 2 ^ (lift n d1 (p1 - p2)).toNat) s2 (mk d2 (p1 - p2 - lift n d1 (p1 - p2)).toNat) (p1 - lift n d1 (p1 - p2)) else suP s2 (d2 * 2 ^ (lift n d2 (p2 - p1)).toNat) s1 (mk d1 (p2 - p1 - lift n d2 (p2 - p1)).toNat) (p2 - lift n d2 (p2 - p1))
/-- .. rounded: bits and flags. -/
def rsB (n s1 d1 : Nat) (p1 : Int) (s2 d2 : Nat) (p2 m : Int) : Int :=
  if gsD n s1 d1 p1 s2 d2 p2 = 0 then gsS n s1 d1 p1 s2 d2 p2 m * 9223372036854775808 else roundB (gsS n s1 d1 p1 s2 d2 p2 m) (gsD n s1 d1 p1 s2 d2 p2) (gsP n s1 d1 p1 s2 d2 p2) m
def rsF (n s1 d1 : Nat) (p1 : Int) (s2 d2 : Nat) (p2 m : Int) : Int :=
  if gsD n s1 d1 p1 s2 d2 p2 = 0 then 0 else roundF (gsS n s1 d1 p1 s2 d2 p2 m) (gsD n s1 d1 p1 s2 d2 p2) (gsP n s1 d1 p1 s2 d2 p2) m
theorem suS_lt {s1 X s2 Y : Nat} {m : Int} (h1 : s1 < 2) (h2 : s2 < 2) : suS s1 X s2 Y m < 2 := by unfold suS; (repeat' split) <;> omega
theorem suD_lt {s1 X s2 Y H : Nat} (h1 : X < H) (h2 : Y < H) : suD s1 X s2 Y < 2 * H := by unfold suD; (repeat' split) <;> omega
theorem gsS_lt {n s1 d1 s2 d2 : Nat} {p1 p2 m : Int} (h1 : s1 < 2) (h2 : s2 < 2) : gsS n s1 d1 p1 s2 d2 p2 m < 2 := by
  unfold gsS
  split
  · exact suS_lt h1 h2
  · exact suS_lt h2 h1
theorem lift_le {n d : Nat} {a : Int} (h : 0 ≤ a) (hb : Go.bitLen d + 2 ≤ n) : 0 ≤ lift n d a ∧ lift n d a ≤ a ∧ lift n d a ≤ n ∧ lift n d a + Go.bitLen d + 1 ≤ n := by unfold lift; omega
theorem lifted_lt {n d : Nat} {a : Int} (h : 0 ≤ a) (hb : Go.bitLen d + 2 ≤ n) : d * 2 ^ (lift n d a).toNat < 2 ^ (n - 1) := by
  have h1 := (Go.bitLen_spec d).1
  have h2 := lift_le h hb
  have h3 : d * 2 ^ (lift n d a).toNat < 2 ^ Go.bitLen d * 2 ^ (lift n d a).toNat := Nat.mul_lt_mul_of_pos_right h1 (Nat.two_pow_pos _)
  rw [← Nat.pow_add] at h3
  exact Nat.lt_of_lt_of_le h3 (Nat.pow_le_pow_right (by decide) (by omega))
theorem lt_bl {n d : Nat} (hb : Go.bitLen d + 2 ≤ n) : d < 2 ^ (n - 2) := Nat.lt_of_lt_of_le (Go.bitLen_spec d).1 (Nat.pow_le_pow_right (by decide) (by omega))
theorem marked_lt {n d t : Nat} (h3 : 3 ≤ n) (hb : Go.bitLen d + 2 ≤ n) : mk d t < 2 ^ (n - 1) := by
  have h1 := lt_bl hb
  have h2 : mk d t < 2 ^ (n - 3 + 1) := mk_lt (by rw [show n - 3 + 1 = n - 2 by omega]; exact h1)
  exact Nat.lt_of_lt_of_le h2 (Nat.pow_le_pow_right (by decide) (by omega))
theorem gsD_lt {n s1 d1 s2 d2 : Nat} {p1 p2 : Int} (h3 : 3 ≤ n) (hb1 : Go.bitLen d1 + 2 ≤ n) (hb2 : Go.bitLen d2 + 2 ≤ n) : gsD n s1 d1 p1 s2 d2 p2 < 2 ^ n := by
  have e : 2 * 2 ^ (n - 1) = 2 ^ n := by rw [← Nat.pow_succ']; congr 1; omega
  rw [← e]
  unfold gsD
  by_cases h : p2 ≤ p1
  · rw [if_pos h]; exact suD_lt (lifted_lt (by omega) hb1) (marked_lt h3 hb2)
  · rw [if_neg h]; exact suD_lt (lifted_lt (by omega) hb2) (marked_lt h3 hb1)
theorem gsP_range {n s1 d1 s2 d2 : Nat} {p1 p2 : Int} (_hn : n ≤ 256) (hb1 : Go.bitLen d1 + 2 ≤ n) (hb2 : Go.bitLen d2 + 2 ≤ n) (h1 : -4000 ≤ p1 ∧ p1 ≤ 4000) (h2 : -4000 ≤ p2 ∧ p2 ≤ 4000) : -5000 ≤ gsP n s1 d1 p1 s2 d2 p2 ∧ gsP n s1 d1 p1 s2 d2 p2 ≤ 5000 := by
  unfold gsP
  by_cases h : p2 ≤ p1
  · rw [if_pos h]
    have := lift_le (d := d1) (show 0 ≤ p1 - p2 by omega) hb1
    unfold suP; (repeat' split) <;> omega
  · rw [if_neg h]
    have := lift_le (d := d2) (show 0 ≤ p2 - p1 by omega) hb2
    unfold suP; (repeat' split) <;> omega
end Go.Proofs.YtcjihaafohnbeaaGreatDoor
