import Derived.Test.YtcjihaafohnbeaaDoorOdd1
import Derived.Test.YtcjihaafohnbeaaDoorRefT
namespace Go.Proofs.YtcjihaafohnbeaaDoor
open Go.RowKit

theorem sOf_dec {s : Nat} (h : s < 2) : sOf (decide (s = 1)) = s := by
  have : s = 0 ∨ s = 1 := by omega
  rcases this with rfl | rfl <;> decide
theorem dec_eq {s1 s2 : Nat} (g1 : s1 < 2) (g2 : s2 < 2) : decide (s1 = 1) = decide (s2 = 1) ↔ s1 = s2 := by
  have e1 : s1 = 0 ∨ s1 = 1 := by omega
  have e2 : s2 = 0 ∨ s2 = 1 := by omega
  rcases e1 with rfl | rfl <;> rcases e2 with rfl | rfl <;> decide
/-- The document's exact sum: sign, amount, exponent; rounded. -/
def dsG (s1 d1 : Nat) (p1 : Int) (s2 d2 : Nat) (p2 : Int) : Bool := snG (decide (s1 = 1)) (alN d1 p1 p2) (decide (s2 = 1)) (alN d2 p2 p1)
def dsD (s1 d1 : Nat) (p1 : Int) (s2 d2 : Nat) (p2 : Int) : Nat := snD (decide (s1 = 1)) (alN d1 p1 p2) (decide (s2 = 1)) (alN d2 p2 p1)
def dsP (s1 d1 : Nat) (p1 : Int) (s2 d2 : Nat) (p2 : Int) : Int := snP (decide (s1 = 1)) (alN d1 p1 p2) (decide (s2 = 1)) (alN d2 p2 p1) (min p1 p2)
def dsB (s1 d1 : Nat) (p1 : Int) (s2 d2 : Nat) (p2 m : Int) : Int := adB (decide (s1 = 1)) d1 (decide (s2 = 1)) d2 (dsG s1 d1 p1 s2 d2 p2) (dsD s1 d1 p1 s2 d2 p2) (dsP s1 d1 p1 s2 d2 p2) m
def dsF (s1 d1 : Nat) (p1 : Int) (s2 d2 : Nat) (p2 m : Int) : Int := adF (dsG s1 d1 p1 s2 d2 p2) (dsD s1 d1 p1 s2 d2 p2) (dsP s1 d1 p1 s2 d2 p2) m

/-- Near: nothing is cut. -/
theorem su_near {n s1 s2 d1 d2 : Nat} {p1 p2 m : Int} (g1 : s1 < 2) (g2 : s2 < 2) (hp : p2 ≤ p1) (ha : p1 - p2 ≤ n - Go.bitLen d1 - 1) :
    dsD s1 d1 p1 s2 d2 p2 = suD s1 (d1 * 2 ^ (lift n d1 (p1 - p2)).toNat) s2 (mk d2 (p1 - p2 - lift n d1 (p1 - p2)).toNat) ∧
    (dsD s1 d1 p1 s2 d2 p2 ≠ 0 → sOf (dsG s1 d1 p1 s2 d2 p2) = suS s1 (d1 * 2 ^ (lift n d1 (p1 - p2)).toNat) s2 (mk d2 (p1 - p2 - lift n d1 (p1 - p2)).toNat) m ∧
      dsP s1 d1 p1 s2 d2 p2 = suP s1 (d1 * 2 ^ (lift n d1 (p1 - p2)).toNat) s2 (mk d2 (p1 - p2 - lift n d1 (p1 - p2)).toNat) (p1 - lift n d1 (p1 - p2))) := by
  have hl : lift n d1 (p1 - p2) = p1 - p2 := by unfold lift; omega
  have hX : alN d1 p1 p2 = d1 * 2 ^ (p1 - p2).toNat := by unfold alN; rw [Int.min_eq_right hp]
  have hY : alN d2 p2 p1 = d2 := alN_low hp
  have hk : mk d2 (p1 - p2 - (p1 - p2)).toNat = d2 := by rw [Int.sub_self]; unfold mk; simp [Nat.mod_one]
  rw [hl, hk]
  unfold dsD dsG dsP
  rw [hX, hY, Int.min_eq_right hp, show p1 - (p1 - p2) = p2 by omega]
  have hs := dec_eq g1 g2
  have o1 := sOf_dec g1
  have o2 := sOf_dec g2
  generalize d1 * 2 ^ (p1 - p2).toNat = X at *
  unfold snD snG snP suD suS suP
  simp only [hs]
  by_cases h : s1 = s2
  · subst h
    simp only [if_true]
    exact ⟨trivial, fun _ => ⟨o1, trivial⟩⟩
  · simp only [if_neg h]
    by_cases hxy : X = d2
    · subst hxy
      simp
    · simp only [if_neg hxy]
      by_cases hlt : d2 < X
      · simp only [if_pos hlt]
        exact ⟨trivial, fun _ => ⟨o1, trivial⟩⟩
      · simp only [if_neg hlt]
        exact ⟨trivial, fun _ => ⟨o2, trivial⟩⟩

/-- Far: what is cut leaves its mark. -/
theorem su_far {n s1 s2 d1 d2 : Nat} {p1 p2 m : Int} (g1 : s1 < 2) (g2 : s2 < 2) (hn : 128 ≤ n) (hb1 : Go.bitLen d1 + 2 ≤ n) (hb2 : Go.bitLen d2 + 2 ≤ n) (h0 : d1 ≠ 0) (ha : n - Go.bitLen d1 - 1 < p1 - p2) :
    dsD s1 d1 p1 s2 d2 p2 ≠ 0 ∧ suD s1 (d1 * 2 ^ (lift n d1 (p1 - p2)).toNat) s2 (mk d2 (p1 - p2 - lift n d1 (p1 - p2)).toNat) ≠ 0 ∧
    roundB (sOf (dsG s1 d1 p1 s2 d2 p2)) (dsD s1 d1 p1 s2 d2 p2) (dsP s1 d1 p1 s2 d2 p2) m = roundB (suS s1 (d1 * 2 ^ (lift n d1 (p1 - p2)).toNat) s2 (mk d2 (p1 - p2 - lift n d1 (p1 - p2)).toNat) m) (suD s1 (d1 * 2 ^ (lift n d1 (p1 - p2)).toNat) s2 (mk d2 (p1 - p2 - lift n d1 (p1 - p2)).toNat)) (suP s1 (d1 * 2 ^ (lift n d1 (p1 - p2)).toNat) s2 (mk d2 (p1 - p2 - lift n d1 (p1 - p2)).toNat) (p1 - lift n d1 (p1 - p2))) m ∧
    roundF (sOf (dsG s1 d1 p1 s2 d2 p2)) (dsD s1 d1 p1 s2 d2 p2) (dsP s1 d1 p1 s2 d2 p2) m = roundF (suS s1 (d1 * 2 ^ (lift n d1 (p1 - p2)).toNat) s2 (mk d2 (p1 - p2 - lift n d1 (p1 - p2)).toNat) m) (suD s1 (d1 * 2 ^ (lift n d1 (p1 - p2)).toNat) s2 (mk d2 (p1 - p2 - lift n d1 (p1 - p2)).toNat)) (suP s1 (d1 * 2 ^ (lift n d1 (p1 - p2)).toNat) s2 (mk d2 (p1 - p2 - lift n d1 (p1 - p2)).toNat) (p1 - lift n d1 (p1 - p2))) m := by
  obtain ⟨L, hL⟩ : ∃ L : Nat, (n : Int) - Go.bitLen d1 - 1 = L := ⟨n - Go.bitLen d1 - 1, by omega⟩
  obtain ⟨t, ht⟩ : ∃ t : Nat, p1 - p2 = L + 1 + t := ⟨(p1 - p2 - L - 1).toNat, by omega⟩
  have hl : lift n d1 (p1 - p2) = L := by unfold lift; omega
  obtain ⟨T, hT⟩ : ∃ T : Nat, T = t + 1 := ⟨_, rfl⟩
  obtain ⟨A, hA⟩ : ∃ A, d1 * 2 ^ L = A := ⟨_, rfl⟩
  have hX : alN d1 p1 p2 = A * 2 ^ T := by
    unfold alN
    rw [Int.min_eq_right (by omega), show (p1 - p2).toNat = L + T by omega, Nat.pow_add, ← Nat.mul_assoc, hA]
  have hY : alN d2 p2 p1 = d2 := alN_low (by omega)
  rw [hl, show ((L : Nat) : Int).toNat = L by omega, show (p1 - p2 - (L : Int)).toNat = T by omega, hA, show p1 - (L : Int) = p2 + T by omega]
  unfold dsD dsG dsP
  rw [hX, hY, Int.min_eq_right (show p2 ≤ p1 by omega)]
  have hA0 : A % 2 = 0 := by
    obtain ⟨L', rfl⟩ : ∃ L', L = L' + 1 := ⟨L - 1, by omega⟩
    rw [← hA, Nat.pow_succ, ← Nat.mul_assoc, Nat.mul_mod_left]
  have hAb : 2 ^ (n - 2) ≤ A := by
    have h1 := (Go.bitLen_spec d1).2 h0
    have hbp : 0 < Go.bitLen d1 := by
      apply Nat.pos_of_ne_zero
      intro hz
      have := (Go.bitLen_spec d1).1
      rw [hz] at this
      omega
    have h2 : 2 ^ (Go.bitLen d1 - 1) * 2 ^ L ≤ d1 * 2 ^ L := Nat.mul_le_mul_right _ h1
    rw [← Nat.pow_add, hA] at h2
    exact Nat.le_trans (Nat.pow_le_pow_right (by decide) (by omega)) h2
  have hd2 := lt_bl hb2
  have hp := Nat.two_pow_pos T
  have hq : d2 / 2 ^ T ≤ d2 / 2 := by
    rw [hT, Nat.pow_succ, Nat.mul_comm, ← Nat.div_div_eq_div_mul]
    exact Nat.div_le_self _ _
  have hmk : mk d2 T ≤ d2 / 2 ^ T + 1 := mk_le _ _
  have h126 : 2 ^ 126 ≤ 2 ^ (n - 2) := Nat.pow_le_pow_right (by decide) (by omega)
  have hXA : A ≤ A * 2 ^ T := Nat.le_mul_of_pos_right A hp
  have hXA2 : 2 * A ≤ A * 2 ^ T := by
    rw [hT, Nat.pow_succ, ← Nat.mul_assoc, Nat.mul_comm 2 A]
    exact Nat.mul_le_mul_right _ (Nat.le_mul_of_pos_right A (Nat.two_pow_pos t))
  have hs := dec_eq g1 g2
  have o1 := sOf_dec g1
  by_cases h : s1 = s2
  · have hn' := sn_same (n := decide (s2 = 1)) (X := A * 2 ^ T) (Y := d2) (p := p2)
    have e := su_same (s1 := s1) (X := A) (s2 := s2) (Y := mk d2 T) (m := m) (P := p2 + T) h
    rw [e.1, e.2.1, e.2.2]
    rw [h] at o1 ⊢
    rw [hn'.1, hn'.2.1, hn'.2.2, o1]
    have := mark_round (s := (s2 : Int)) (m := m) (p := p2) (far_plus (d := d2) (t := T) hA0) (by rw [Nat.add_comm, Nat.add_mul_div_right _ _ hp]; omega)
    exact ⟨by omega, by omega, this.1, this.2⟩
  · have hnn : decide (s1 = 1) ≠ decide (s2 = 1) := fun e => h (hs.1 e)
    have hlt : d2 < A * 2 ^ T := by omega
    have hn' := sn_first (p := p2) hnn hlt
    have hml : mk d2 T < A := by omega
    have e := su_first (s1 := s1) (X := A) (s2 := s2) (Y := mk d2 T) (m := m) (P := p2 + T) 4 h hml
    have e2 : difW 4 A (mk d2 T) = A - mk d2 T := by unfold difW; rw [if_pos (by omega)]
    rw [e.1, e.2.1, e.2.2, e2, hn'.1, hn'.2.1, hn'.2.2, o1]
    have := mark_round (s := (s1 : Int)) (m := m) (p := p2) (far_minus (d := d2) (t := T) hA0 (by omega)) (by
      rw [Nat.le_div_iff_mul_le hp]
      have h1 : 2 ^ 60 * 2 ^ T + (d2 / 2 ^ T + 1) * 2 ^ T ≤ A * 2 ^ T := by rw [← Nat.add_mul]; exact Nat.mul_le_mul_right _ (by omega)
      have h2 : d2 < (d2 / 2 ^ T + 1) * 2 ^ T := by
        have := Nat.div_add_mod d2 (2 ^ T)
        have := Nat.mod_lt d2 hp
        rw [Nat.add_mul, Nat.one_mul, Nat.mul_comm (d2 / 2 ^ T)]
        omega
      omega)
    exact ⟨by omega, by omega, this.1, this.2⟩


theorem snD_comm (n1 n2 : Bool) (X Y : Nat) : snD n1 X n2 Y = snD n2 Y n1 X := by
  unfold snD
  by_cases h : n1 = n2
  · subst h; simp; omega
  · have h' : ¬ n2 = n1 := fun e => h e.symm
    simp only [if_neg h, if_neg h']
    (repeat' split) <;> omega
theorem snG_comm {n1 n2 : Bool} {X Y : Nat} (hne : snD n1 X n2 Y ≠ 0) : snG n1 X n2 Y = snG n2 Y n1 X := by
  unfold snD at hne
  unfold snG
  by_cases h : n1 = n2
  · subst h; simp
  · have h' : ¬ n2 = n1 := fun e => h e.symm
    simp only [if_neg h, if_neg h'] at hne ⊢
    by_cases e : X = Y
    · simp [e] at hne
    · have e' : ¬ Y = X := fun g => e g.symm
      simp only [if_neg e, if_neg e']
      by_cases hl : Y < X
      · rw [if_pos hl, if_neg (by omega)]
      · rw [if_neg hl, if_pos (by omega)]
theorem snP_comm (n1 n2 : Bool) (X Y : Nat) (p : Int) : snP n1 X n2 Y p = snP n2 Y n1 X p := by
  unfold snP
  by_cases h : n1 = n2
  · subst h; simp
  · have h' : ¬ n2 = n1 := fun e => h e.symm
    simp only [if_neg h, if_neg h']
    by_cases e : X = Y
    · rw [if_pos e, if_pos e.symm]
    · rw [if_neg e, if_neg (fun g => e g.symm)]
theorem alN_zero {D : Nat} {p q : Int} (h : alN D p q = 0) : D = 0 := by
  unfold alN at h
  rcases Nat.mul_eq_zero.1 h with h | h
  · exact h
  · have := Nat.two_pow_pos (p - min p q).toNat; omega
theorem mode_sign (m : Int) : sOf (m == 4) = ((if m = 4 then 1 else 0 : Nat) : Int) := by
  by_cases h4 : m = 4
  · subst h4; decide
  · rw [if_neg h4, (beq_eq_false_iff_ne).2 h4]; rfl
theorem ds_comm {s1 d1 s2 d2 : Nat} {p1 p2 : Int} : dsD s1 d1 p1 s2 d2 p2 = dsD s2 d2 p2 s1 d1 p1 ∧ (dsD s1 d1 p1 s2 d2 p2 ≠ 0 → dsG s1 d1 p1 s2 d2 p2 = dsG s2 d2 p2 s1 d1 p1) ∧ dsP s1 d1 p1 s2 d2 p2 = dsP s2 d2 p2 s1 d1 p1 := by
  refine ⟨snD_comm _ _ _ _, fun h => snG_comm h, ?_⟩
  unfold dsP
  rw [snP_comm, Int.min_comm]
theorem dsB_comm {s1 d1 s2 d2 : Nat} {p1 p2 m : Int} : dsB s1 d1 p1 s2 d2 p2 m = dsB s2 d2 p2 s1 d1 p1 m ∧ dsF s1 d1 p1 s2 d2 p2 m = dsF s2 d2 p2 s1 d1 p1 m := by
  have c := ds_comm (s1 := s1) (d1 := d1) (s2 := s2) (d2 := d2) (p1 := p1) (p2 := p2)
  unfold dsB dsF adB adF
  by_cases h : dsD s1 d1 p1 s2 d2 p2 ≠ 0
  · have h' : dsD s2 d2 p2 s1 d1 p1 ≠ 0 := by rw [← c.1]; exact h
    rw [if_pos h, if_pos h, if_pos h', if_pos h', c.2.1 h, c.1, c.2.2]
    exact ⟨rfl, rfl⟩
  · have h' : ¬ dsD s2 d2 p2 s1 d1 p1 ≠ 0 := by rw [← c.1]; exact h
    rw [if_neg h, if_neg h, if_neg h', if_neg h']
    refine ⟨?_, rfl⟩
    by_cases k : d1 = 0 ∧ d2 = 0 ∧ decide (s1 = 1) = decide (s2 = 1)
    · rw [if_pos k, if_pos ⟨k.2.1, k.1, k.2.2.symm⟩, k.2.2]
    · rw [if_neg k, if_neg (fun g => k ⟨g.2.1, g.1, g.2.2.symm⟩)]
theorem ord_doc {n s1 s2 d1 d2 : Nat} {p1 p2 m : Int} (g1 : s1 < 2) (g2 : s2 < 2) (hn : 128 ≤ n) (hb1 : Go.bitLen d1 + 2 ≤ n) (hb2 : Go.bitLen d2 + 2 ≤ n) (hp : p2 ≤ p1) (hf : n - Go.bitLen d1 - 1 < p1 - p2 → d1 ≠ 0) :
    rsB n s1 d1 p1 s2 d2 p2 m = dsB s1 d1 p1 s2 d2 p2 m ∧ rsF n s1 d1 p1 s2 d2 p2 m = dsF s1 d1 p1 s2 d2 p2 m := by
  unfold rsB rsF gsD gsS gsP
  simp only [if_pos hp]
  unfold dsB dsF adB adF
  by_cases ha : p1 - p2 ≤ n - Go.bitLen d1 - 1
  · have e := su_near (n := n) (d1 := d1) (d2 := d2) (m := m) g1 g2 hp ha
    by_cases h0 : dsD s1 d1 p1 s2 d2 p2 ≠ 0
    · have h0' : ¬ suD s1 (d1 * 2 ^ (lift n d1 (p1 - p2)).toNat) s2 (mk d2 (p1 - p2 - lift n d1 (p1 - p2)).toNat) = 0 := by rw [← e.1]; exact h0
      rw [if_pos h0, if_pos h0, if_neg h0', if_neg h0', (e.2 h0).1, (e.2 h0).2, e.1]
      exact ⟨rfl, rfl⟩
    · have hz : dsD s1 d1 p1 s2 d2 p2 = 0 := by omega
      have h0' : suD s1 (d1 * 2 ^ (lift n d1 (p1 - p2)).toNat) s2 (mk d2 (p1 - p2 - lift n d1 (p1 - p2)).toNat) = 0 := by rw [← e.1]; exact hz
      rw [if_neg h0, if_neg h0, if_pos h0', if_pos h0']
      refine ⟨?_, rfl⟩
      have hs := dec_eq g1 g2
      by_cases h : s1 = s2
      · have k := su_same (s1 := s1) (X := d1 * 2 ^ (lift n d1 (p1 - p2)).toNat) (s2 := s2) (Y := mk d2 (p1 - p2 - lift n d1 (p1 - p2)).toNat) (m := m) (P := 0) h
        have hd : alN d1 p1 p2 = 0 ∧ alN d2 p2 p1 = 0 := by
          unfold dsD snD at hz
          rw [if_pos (hs.2 h)] at hz
          omega
        rw [k.1, if_pos ⟨alN_zero hd.1, alN_zero hd.2, hs.2 h⟩, sOf_dec g1]
      · have hxy : d1 * 2 ^ (lift n d1 (p1 - p2)).toNat = mk d2 (p1 - p2 - lift n d1 (p1 - p2)).toNat := by
          unfold suD at h0'
          rw [if_neg h] at h0'
          split at h0' <;> omega
        have k := su_none (m := m) (P := 0) ⟨h, hxy⟩
        have kn : ¬ (d1 = 0 ∧ d2 = 0 ∧ decide (s1 = 1) = decide (s2 = 1)) := fun g => h (hs.1 g.2.2)
        rw [k.1, if_neg kn, mode_sign]
        by_cases h4 : m = 4
        · rw [if_pos h4, if_pos h4]; rfl
        · rw [if_neg h4, if_neg h4]; rfl
  · have e := su_far (n := n) (d1 := d1) (d2 := d2) (m := m) g1 g2 hn hb1 hb2 (hf (by omega)) (show n - Go.bitLen d1 - 1 < p1 - p2 by omega)
    rw [if_pos e.1, if_pos e.1, if_neg e.2.1, if_neg e.2.1]
    exact ⟨e.2.2.1.symm, e.2.2.2.symm⟩
/-- The program's sum is the document's. -/
theorem rs_doc {n s1 s2 d1 d2 : Nat} {p1 p2 m : Int} (g1 : s1 < 2) (g2 : s2 < 2) (hn : 128 ≤ n) (hb1 : Go.bitLen d1 + 2 ≤ n) (hb2 : Go.bitLen d2 + 2 ≤ n) (hf1 : n - Go.bitLen d1 - 1 < p1 - p2 → d1 ≠ 0) (hf2 : n - Go.bitLen d2 - 1 < p2 - p1 → d2 ≠ 0) :
    rsB n s1 d1 p1 s2 d2 p2 m = dsB s1 d1 p1 s2 d2 p2 m ∧ rsF n s1 d1 p1 s2 d2 p2 m = dsF s1 d1 p1 s2 d2 p2 m := by
  by_cases hp : p2 ≤ p1
  · exact ord_doc g1 g2 hn hb1 hb2 hp hf1
  · have e := ord_doc (m := m) g2 g1 hn hb2 hb1 (show p1 ≤ p2 by omega) hf2
    have c := dsB_comm (s1 := s1) (d1 := d1) (s2 := s2) (d2 := d2) (p1 := p1) (p2 := p2) (m := m)
    have sw : rsB n s1 d1 p1 s2 d2 p2 m = rsB n s2 d2 p2 s1 d1 p1 m ∧ rsF n s1 d1 p1 s2 d2 p2 m = rsF n s2 d2 p2 s1 d1 p1 m := by
      unfold rsB rsF gsD gsS gsP
      simp only [if_neg hp, if_pos (show p1 ≤ p2 by omega)]
      exact ⟨trivial, trivial⟩
    rw [sw.1, sw.2, c.1, c.2]
    exact e
theorem mant_norm {x : Nat} (h : -1074 < pow x) : mant x ≠ 0 := by
  unfold pow at h
  unfold mant
  by_cases e : x / 4503599627370496 % 2048 = 0
  · rw [if_pos e] at h; omega
  · rw [if_neg e]; omega

end Go.Proofs.YtcjihaafohnbeaaDoor
