import Derived.Test.YtfbdgecanfmgiaaDoorOdd3
namespace Go.Proofs.YtfbdgecanfmgiaaDoor
open Go.RowKit

theorem mant_norm {x : Nat} (h : -1074 < pow x) : 4503599627370496 ≤ mant x := by
  unfold pow at h
  unfold mant
  by_cases e : x / 4503599627370496 % 2048 = 0
  · rw [if_pos e] at h; omega
  · rw [if_neg e]; omega
theorem snD_comm (n1 n2 : Bool) (X Y : Nat) : snD n1 X n2 Y = snD n2 Y n1 X := by
  unfold snD
  by_cases h : n1 = n2
  · subst h; simp; omega
  · have h' : ¬ n2 = n1 := fun e => h e.symm
    simp only [if_neg h, if_neg h']
    (repeat' split) <;> omega
theorem snG_comm {n1 n2 : Bool} {X Y : Nat} (hne : snD n1 X n2 Y ≠ 0) : snG n1 X n2 Y = snG n2 Y n1 X := by
  unfold snD at hne
  unfold snG
  by_cases h : n1 = n2
  · subst h; simp
  · have h' : ¬ n2 = n1 := fun e => h e.symm
    simp only [if_neg h, if_neg h'] at hne ⊢
    by_cases e : X = Y
    · simp [e] at hne
    · have e' : ¬ Y = X := fun g => e g.symm
      simp only [if_neg e, if_neg e']
      by_cases hl : Y < X
      · rw [if_pos hl, if_neg (by omega)]
      · rw [if_neg hl, if_pos (by omega)]
theorem snP_comm (n1 n2 : Bool) (X Y : Nat) (p : Int) : snP n1 X n2 Y p = snP n2 Y n1 X p := by
  unfold snP
  by_cases h : n1 = n2
  · subst h; simp
  · have h' : ¬ n2 = n1 := fun e => h e.symm
    simp only [if_neg h, if_neg h']
    by_cases e : X = Y
    · rw [if_pos e, if_pos e.symm]
    · rw [if_neg e, if_neg (fun g => e g.symm)]
theorem rs_comm {x y : Nat} : rsD x y = rsD y x ∧ (rsD x y ≠ 0 → rsG x y = rsG y x) ∧ rsP x y = rsP y x := by
  refine ⟨snD_comm _ _ _ _, fun h => snG_comm h, ?_⟩
  unfold rsP
  rw [snP_comm, Int.min_comm]
/-- The first of the greater exponent. -/
theorem pair_doc {x y : Nat} (m : Int) (hx : x < 18446744073709551616) (hy : y < 18446744073709551616) (h : pow y ≤ pow x) :
    (rsD x y = 0 ↔ esD (sgn x) (mant x) (pow x) (sgn y) (mant y) (pow y) = 0) ∧
    (rsD x y ≠ 0 → roundB (sOf (rsG x y)) (rsD x y) (rsP x y) m = roundB (esS (sgn x) (mant x) (pow x) (sgn y) (mant y) (pow y) m) (esD (sgn x) (mant x) (pow x) (sgn y) (mant y) (pow y)) (esP (sgn x) (mant x) (pow x) (sgn y) (mant y) (pow y)) m ∧ roundF (sOf (rsG x y)) (rsD x y) (rsP x y) m = roundF (esS (sgn x) (mant x) (pow x) (sgn y) (mant y) (pow y) m) (esD (sgn x) (mant x) (pow x) (sgn y) (mant y) (pow y)) (esP (sgn x) (mant x) (pow x) (sgn y) (mant y) (pow y)) m) := by
  have px := pow_range x
  have py := pow_range y
  by_cases ha : pow x - pow y ≤ 70
  · have e := es_near (d1 := mant x) (d2 := mant y) (m := m) (sgn_lt hx) (sgn_lt hy) ha h
    unfold rsD rsG rsP negOf
    rw [e.1]
    refine ⟨Iff.rfl, fun hne => ?_⟩
    rw [(e.2 hne).1, (e.2 hne).2]
    exact ⟨rfl, rfl⟩
  · have e := es_far (d1 := mant x) (d2 := mant y) (m := m) (sgn_lt hx) (sgn_lt hy) (show 70 < pow x - pow y by omega) (mant_norm (by omega)) (mant_lt y)
    unfold rsD rsG rsP negOf
    exact ⟨⟨fun g => absurd g e.1, fun g => absurd g e.2.1⟩, fun _ => e.2.2⟩

theorem alN_zero {D : Nat} {p q : Int} (h : alN D p q = 0) : D = 0 := by
  unfold alN at h
  rcases Nat.mul_eq_zero.1 h with h | h
  · exact h
  · have := Nat.two_pow_pos (p - min p q).toNat; omega
theorem zero_doc {x y : Nat} (m : Int) (hx : x < 18446744073709551616) (hy : y < 18446744073709551616) (h : pow y ≤ pow x) (h0 : rsD x y = 0) :
    sOf (if mant x = 0 ∧ mant y = 0 ∧ negOf x = negOf y then negOf x else (m == 4)) = (esS (sgn x) (mant x) (pow x) (sgn y) (mant y) (pow y) m : Nat) := by
  have hE := (pair_doc m hx hy h).1.1 h0
  have g1 := sgn_lt hx
  have g2 := sgn_lt hy
  have hs : negOf x = negOf y ↔ sgn x = sgn y := by
    unfold negOf
    have e1 : sgn x = 0 ∨ sgn x = 1 := by omega
    have e2 : sgn y = 0 ∨ sgn y = 1 := by omega
    rcases e1 with e1 | e1 <;> rcases e2 with e2 | e2 <;> rw [e1, e2] <;> decide
  unfold esS
  by_cases hn : sgn x = sgn y
  · have hn' := hs.2 hn
    unfold rsD snD at h0
    rw [if_pos hn'] at h0
    have a := alN_zero (show alN (mant x) (pow x) (pow y) = 0 by omega)
    have b := alN_zero (show alN (mant y) (pow y) (pow x) = 0 by omega)
    rw [if_pos ⟨a, b, hn'⟩, if_pos hn, sOf_neg hx]
  · rw [if_neg (fun g => hn (hs.1 g.2.2)), if_neg hn]
    unfold esD at hE
    rw [if_neg hn] at hE
    rw [if_pos (by split at hE <;> omega)]
    by_cases h4 : m = 4
    · subst h4; decide
    · rw [if_neg h4, (beq_eq_false_iff_ne).2 h4]; rfl
/-- The program's sum is the document's. -/
theorem add_sum (x y : Nat) (m : Int) (hx : x < 18446744073709551616) (hy : y < 18446744073709551616) : addB x y m = sumB x y m ∧ addF x y m = sumF x y m := by
  unfold addB addF sumB sumF
  by_cases c1 : kind x = 3 ∧ kind y = 3 ∧ x ≠ y
  · simp only [if_pos c1]; exact ⟨trivial, trivial⟩
  simp only [if_neg c1]
  by_cases c2 : kind x = 3
  · simp only [if_pos c2]; exact ⟨trivial, trivial⟩
  simp only [if_neg c2]
  by_cases c3 : kind y = 3
  · simp only [if_pos c3]; exact ⟨trivial, trivial⟩
  simp only [if_neg c3]
  unfold fsD fsS fsP
  by_cases h : pow y ≤ pow x
  · simp only [if_pos h]
    have e := pair_doc m hx hy h
    by_cases h0 : rsD x y = 0
    · have hz : ¬ rsD x y ≠ 0 := fun g => g h0
      rw [if_neg hz, if_neg hz, if_pos (e.1.1 h0), if_pos (e.1.1 h0), zero_doc m hx hy h h0]
      exact ⟨rfl, rfl⟩
    · rw [if_pos h0, if_pos h0, if_neg (fun g => h0 (e.1.2 g)), if_neg (fun g => h0 (e.1.2 g))]
      exact e.2 h0
  · simp only [if_neg h]
    have h' : pow x ≤ pow y := by omega
    have e := pair_doc m hy hx h'
    have c := rs_comm (x := x) (y := y)
    by_cases h0 : rsD x y = 0
    · have h0' : rsD y x = 0 := by rw [← c.1]; exact h0
      have hz : ¬ rsD x y ≠ 0 := fun g => g h0
      rw [if_neg hz, if_neg hz, if_pos (e.1.1 h0'), if_pos (e.1.1 h0'), ← zero_doc m hy hx h' h0']
      refine ⟨?_, rfl⟩
      congr 2
      by_cases k : mant x = 0 ∧ mant y = 0 ∧ negOf x = negOf y
      · rw [if_pos k, if_pos ⟨k.2.1, k.1, k.2.2.symm⟩, k.2.2]
      · rw [if_neg k, if_neg (fun g => k ⟨g.2.1, g.1, g.2.2.symm⟩)]
    · have h0' : rsD y x ≠ 0 := by rw [← c.1]; exact h0
      rw [if_pos h0, if_pos h0, if_neg (fun g => h0' (e.1.2 g)), if_neg (fun g => h0' (e.1.2 g)), c.2.1 h0, c.1, c.2.2]
      exact e.2 h0'
end Go.Proofs.YtfbdgecanfmgiaaDoor
