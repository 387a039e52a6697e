import Derived.Test.YtfbdgecanfmgiaaDoorOdd1
import Derived.Test.YtfbdgecanfmgiaaDoorRefT
import Derived.Test.YtfbdgecanfmgiaaDoorSoft8
namespace Go.Proofs.YtfbdgecanfmgiaaDoor
open Go.RowKit

theorem alY_near {d : Nat} {a : Int} (h : a ≤ 70) : alY d a = d := by
  unfold alY
  rw [Int.min_eq_left h, Int.sub_self]
  have : restN d (0 : Int).toNat = 0 := by unfold restN; rw [if_pos (by simp [Nat.mod_one])]
  rw [if_pos this]
  simp
theorem alX_near {d : Nat} {a : Int} (h : a ≤ 70) : alX d a = d * 2 ^ a.toNat := by unfold alX; rw [Int.min_eq_left h]
theorem alX_far {d : Nat} {a : Int} (h : 70 < a) : alX d a = d * 2 ^ 70 := by unfold alX; rw [Int.min_eq_right (by omega)]; rfl
theorem alY_far {d t : Nat} {a : Int} (h : a = 70 + t) : alY d a = (if d % 2 ^ t = 0 then d / 2 ^ t else d / 2 ^ t + (1 - d / 2 ^ t % 2)) := by
  unfold alY
  rw [show (a - min a 70).toNat = t by omega]
  have : restN d t = 0 ↔ d % 2 ^ t = 0 := by
    unfold restN
    by_cases h : d % 2 ^ t = 0
    · rw [if_pos h]; simp [h]
    · rw [if_neg h]; (repeat' split) <;> simp [h]
  simp only [this]
theorem bl_near {F D : Nat} (h : D / 2 = F / 2) (h0 : 2 ≤ F) : Go.bitLen D = Go.bitLen F := by
  have h1 := Go.bitLen_shift D 1 (by simp; omega)
  have h2 := Go.bitLen_shift F 1 (by simp; omega)
  rw [Nat.pow_one] at h1 h2
  rw [h1, h2, h]
/-- The exact amount E and the program's D, made of it by t digits fewer and a mark. -/
theorem mark_round {s m p : Int} {E D t : Nat} (hD : (E % 2 ^ t = 0 ∧ D = E / 2 ^ t) ∨ (E % 2 ^ t ≠ 0 ∧ D = E / 2 ^ t + (1 - E / 2 ^ t % 2))) (hb : 2 ^ 60 ≤ E / 2 ^ t) : roundB s E p m = roundB s D (p + t) m ∧ roundF s E p m = roundF s D (p + t) m := by
  have hF : 2 ≤ E / 2 ^ t := Nat.le_trans (by decide) hb
  have hbE := Go.bitLen_shift E t (by omega)
  have hbD : Go.bitLen D = Go.bitLen (E / 2 ^ t) := by
    rcases hD with ⟨_, rfl⟩ | ⟨_, h⟩
    · rfl
    · exact bl_near (by omega) hF
  have h60 : 61 ≤ Go.bitLen (E / 2 ^ t) := by
    have := (Go.bitLen_spec (E / 2 ^ t)).1
    have : (2 : Nat) ^ 60 < 2 ^ Go.bitLen (E / 2 ^ t) := Nat.lt_of_le_of_lt hb this
    have := (Nat.pow_lt_pow_iff_right (by decide : 1 < 2)).1 this
    omega
  refine round_same (by omega) (by omega) fun k hk => ?_
  rcases hD with ⟨h1, h2⟩ | ⟨h1, h2⟩
  · exact even_cut h1 h2
  · exact odd_cut h1 h2 hk

def mk (d t : Nat) : Nat := if d % 2 ^ t = 0 then d / 2 ^ t else d / 2 ^ t + (1 - d / 2 ^ t % 2)
theorem far_plus {A d t : Nat} (hA : A % 2 = 0) : ((A * 2 ^ t + d) % 2 ^ t = 0 ∧ A + mk d t = (A * 2 ^ t + d) / 2 ^ t) ∨ ((A * 2 ^ t + d) % 2 ^ t ≠ 0 ∧ A + mk d t = (A * 2 ^ t + d) / 2 ^ t + (1 - (A * 2 ^ t + d) / 2 ^ t % 2)) := by
  have hp := Nat.two_pow_pos t
  have e1 : (A * 2 ^ t + d) % 2 ^ t = d % 2 ^ t := by rw [Nat.add_comm, Nat.add_mul_mod_self_right]
  have e2 : (A * 2 ^ t + d) / 2 ^ t = A + d / 2 ^ t := by rw [Nat.add_comm, Nat.add_mul_div_right _ _ hp, Nat.add_comm]
  rw [e1, e2]
  unfold mk
  by_cases h : d % 2 ^ t = 0
  · left; rw [if_pos h]; exact ⟨h, rfl⟩
  · right; rw [if_neg h]; exact ⟨h, by omega⟩
theorem far_minus {A d t : Nat} (hA : A % 2 = 0) (hd : d / 2 ^ t + 2 ≤ A) : ((A * 2 ^ t - d) % 2 ^ t = 0 ∧ A - mk d t = (A * 2 ^ t - d) / 2 ^ t) ∨ ((A * 2 ^ t - d) % 2 ^ t ≠ 0 ∧ A - mk d t = (A * 2 ^ t - d) / 2 ^ t + (1 - (A * 2 ^ t - d) / 2 ^ t % 2)) := by
  have hp := Nat.two_pow_pos t
  have hdm := Nat.div_add_mod d (2 ^ t)
  have hr := Nat.mod_lt d hp
  unfold mk
  generalize d / 2 ^ t = q at *
  generalize d % 2 ^ t = r at *
  obtain ⟨B, rfl⟩ : ∃ B, A = q + 1 + B := ⟨A - q - 1, by omega⟩
  have eA : (q + 1 + B) * 2 ^ t = 2 ^ t * q + 2 ^ t + B * 2 ^ t := by rw [Nat.add_mul, Nat.add_mul, Nat.one_mul, Nat.mul_comm q]
  by_cases h : r = 0
  · left
    have e : (q + 1 + B) * 2 ^ t - d = (B + 1) * 2 ^ t := by rw [eA, Nat.add_mul, Nat.one_mul]; omega
    rw [e, if_pos h, Nat.mul_mod_left, Nat.mul_div_cancel _ hp]
    exact ⟨rfl, by omega⟩
  · right
    have e : (q + 1 + B) * 2 ^ t - d = (2 ^ t - r) + B * 2 ^ t := by rw [eA]; omega
    rw [e, if_neg h, Nat.add_mul_mod_self_right, Nat.add_mul_div_right _ _ hp, Nat.mod_eq_of_lt (by omega), Nat.div_eq_of_lt (by omega)]
    exact ⟨by omega, by omega⟩
end Go.Proofs.YtfbdgecanfmgiaaDoor
