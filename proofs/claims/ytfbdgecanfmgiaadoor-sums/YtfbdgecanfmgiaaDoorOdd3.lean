import Derived.Test.YtfbdgecanfmgiaaDoorOdd2
namespace Go.Proofs.YtfbdgecanfmgiaaDoor
open Go.RowKit

theorem sOf_dec {s : Nat} (h : s < 2) : sOf (decide (s = 1)) = s := by
  have : s = 0 ∨ s = 1 := by omega
  rcases this with rfl | rfl <;> decide
/-- The document's sum and the program's, the first of the greater exponent: rounded alike. -/
theorem es_near {s1 s2 d1 d2 : Nat} {p1 p2 m : Int} (g1 : s1 < 2) (g2 : s2 < 2) (ha : p1 - p2 ≤ 70) (hp : p2 ≤ p1) :
    snD (decide (s1 = 1)) (alN d1 p1 p2) (decide (s2 = 1)) (alN d2 p2 p1) = esD s1 d1 p1 s2 d2 p2 ∧
    (esD s1 d1 p1 s2 d2 p2 ≠ 0 → sOf (snG (decide (s1 = 1)) (alN d1 p1 p2) (decide (s2 = 1)) (alN d2 p2 p1)) = esS s1 d1 p1 s2 d2 p2 m ∧ snP (decide (s1 = 1)) (alN d1 p1 p2) (decide (s2 = 1)) (alN d2 p2 p1) (min p1 p2) = esP s1 d1 p1 s2 d2 p2) := by
  have hX : alN d1 p1 p2 = alX d1 (p1 - p2) := by rw [alX_near ha]; unfold alN; rw [Int.min_eq_right hp]
  have hY : alN d2 p2 p1 = alY d2 (p1 - p2) := by rw [alY_near ha, alN_low hp]
  rw [hX, hY, Int.min_eq_right hp]
  have hs : decide (s1 = 1) = decide (s2 = 1) ↔ s1 = s2 := by
    have e1 : s1 = 0 ∨ s1 = 1 := by omega
    have e2 : s2 = 0 ∨ s2 = 1 := by omega
    rcases e1 with rfl | rfl <;> rcases e2 with rfl | rfl <;> decide
  have hP : p1 - min (p1 - p2) 70 = p2 := by omega
  have o1 := sOf_dec g1
  have o2 := sOf_dec g2
  unfold snD snG snP esD esS esP
  rw [hP]
  generalize alX d1 (p1 - p2) = X at *
  generalize alY d2 (p1 - p2) = Y at *
  simp only [hs]
  by_cases h : s1 = s2
  · subst h
    refine ⟨by simp, fun _ => ⟨by simpa using o2, by simp⟩⟩
  · simp only [if_neg h]
    by_cases hxy : X = Y
    · subst hxy
      refine ⟨by simp, fun hne => ?_⟩
      simp at hne
    · simp only [if_neg hxy]
      by_cases hlt : Y < X
      · simp only [if_pos hlt, hxy, and_false, if_false]
        exact ⟨trivial, fun _ => ⟨o1, trivial⟩⟩
      · simp only [if_neg hlt, hxy, and_false, if_false]
        exact ⟨trivial, fun _ => ⟨o2, trivial⟩⟩

/-- .. where the exponents lie far apart. -/
theorem es_far {s1 s2 d1 d2 : Nat} {p1 p2 m : Int} (g1 : s1 < 2) (g2 : s2 < 2) (ha : 70 < p1 - p2) (h1 : 4503599627370496 ≤ d1) (h2 : d2 < 9007199254740992) :
    snD (decide (s1 = 1)) (alN d1 p1 p2) (decide (s2 = 1)) (alN d2 p2 p1) ≠ 0 ∧ esD s1 d1 p1 s2 d2 p2 ≠ 0 ∧
    roundB (sOf (snG (decide (s1 = 1)) (alN d1 p1 p2) (decide (s2 = 1)) (alN d2 p2 p1))) (snD (decide (s1 = 1)) (alN d1 p1 p2) (decide (s2 = 1)) (alN d2 p2 p1)) (snP (decide (s1 = 1)) (alN d1 p1 p2) (decide (s2 = 1)) (alN d2 p2 p1) (min p1 p2)) m = roundB (esS s1 d1 p1 s2 d2 p2 m) (esD s1 d1 p1 s2 d2 p2) (esP s1 d1 p1 s2 d2 p2) m ∧
    roundF (sOf (snG (decide (s1 = 1)) (alN d1 p1 p2) (decide (s2 = 1)) (alN d2 p2 p1))) (snD (decide (s1 = 1)) (alN d1 p1 p2) (decide (s2 = 1)) (alN d2 p2 p1)) (snP (decide (s1 = 1)) (alN d1 p1 p2) (decide (s2 = 1)) (alN d2 p2 p1) (min p1 p2)) m = roundF (esS s1 d1 p1 s2 d2 p2 m) (esD s1 d1 p1 s2 d2 p2) (esP s1 d1 p1 s2 d2 p2) m := by
  obtain ⟨t, ht⟩ : ∃ t : Nat, p1 - p2 = 70 + t := ⟨(p1 - p2 - 70).toNat, by omega⟩
  obtain ⟨A, hA⟩ : ∃ A, d1 * 2 ^ 70 = A := ⟨_, rfl⟩
  have hX : alN d1 p1 p2 = A * 2 ^ t := by
    unfold alN
    rw [Int.min_eq_right (by omega), show (p1 - p2).toNat = 70 + t by omega, Nat.pow_add, ← Nat.mul_assoc, hA]
  have hY : alN d2 p2 p1 = d2 := alN_low (by omega)
  have hX' : alX d1 (p1 - p2) = A := by rw [alX_far ha, hA]
  have hY' : alY d2 (p1 - p2) = mk d2 t := alY_far ht
  have hP : p1 - min (p1 - p2) 70 = p2 + t := by omega
  have hA0 : A % 2 = 0 := by rw [← hA]; omega
  have hAb : 5316911983139663491615228241121378304 ≤ A := by rw [← hA]; omega
  have hp := Nat.two_pow_pos t
  have hq : d2 / 2 ^ t ≤ d2 := Nat.div_le_self _ _
  have hmk : mk d2 t ≤ d2 / 2 ^ t + 1 := by unfold mk; split <;> omega
  have hXA : A ≤ A * 2 ^ t := Nat.le_mul_of_pos_right A hp
  have hs : decide (s1 = 1) = decide (s2 = 1) ↔ s1 = s2 := by
    have e1 : s1 = 0 ∨ s1 = 1 := by omega
    have e2 : s2 = 0 ∨ s2 = 1 := by omega
    rcases e1 with rfl | rfl <;> rcases e2 with rfl | rfl <;> decide
  have o1 := sOf_dec g1
  rw [hX, hY, Int.min_eq_right (show p2 ≤ p1 by omega)]
  unfold esD esS esP
  rw [hX', hY', hP]
  by_cases h : s1 = s2
  · have hn := sn_same (n := decide (s2 = 1)) (X := A * 2 ^ t) (Y := d2) (p := p2)
    rw [h] at o1 ⊢
    rw [hn.1, hn.2.1, hn.2.2, if_pos rfl, if_pos rfl, if_neg (fun h => h.1 rfl), o1]
    have := mark_round (s := (s2 : Int)) (m := m) (p := p2) (far_plus (d := d2) (t := t) hA0) (by rw [Nat.add_comm, Nat.add_mul_div_right _ _ hp]; omega)
    exact ⟨by omega, by omega, this.1, this.2⟩
  · have hnn : decide (s1 = 1) ≠ decide (s2 = 1) := fun e => h (hs.1 e)
    have hn := sn_first (p := p2) hnn (show d2 < A * 2 ^ t by omega)
    have eD : (if s1 = s2 then A + mk d2 t else if mk d2 t < A then A - mk d2 t else mk d2 t - A) = A - mk d2 t := by rw [if_neg h, if_pos (by omega)]
    have eS : (if s1 = s2 then s1 else if A = mk d2 t then (if m = 4 then 1 else 0) else if mk d2 t < A then s1 else s2) = s1 := by rw [if_neg h, if_neg (by omega), if_pos (by omega)]
    have eP : (if s1 ≠ s2 ∧ A = mk d2 t then 0 else p2 + (t : Int)) = p2 + t := by rw [if_neg (by omega)]
    rw [hn.1, hn.2.1, hn.2.2, eD, eS, eP, o1]
    have := mark_round (s := (s1 : Int)) (m := m) (p := p2) (far_minus (d := d2) (t := t) hA0 (by omega)) (by
      rw [Nat.le_div_iff_mul_le hp]
      have : 2 ^ 60 * 2 ^ t + 2 ^ 60 * 2 ^ t ≤ A * 2 ^ t := by rw [← Nat.add_mul]; exact Nat.mul_le_mul_right _ (by omega)
      have : 2 ^ 60 ≤ 2 ^ 60 * 2 ^ t := Nat.le_mul_of_pos_right _ hp
      omega)
    exact ⟨by omega, by omega, this.1, this.2⟩
end Go.Proofs.YtfbdgecanfmgiaaDoor
