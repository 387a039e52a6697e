import Derived.Test.YtcjihaafohnbeaaGreatDoorOdB
namespace Go.Proofs.YtcjihaafohnbeaaGreatDoor
open Go.RowKit

/-- The document's sum of two finite numbers, rounded, over any two amounts. -/
theorem added_ref (s1 s2 D1 D2 : Nat) (p1 p2 m : Int) (a1 a2 : Option Addr) (l1 c1 l2 c2 : Nat) (w : World) (h1 : IsNat w (.slice a1 l1 c1) D1) (h2 : IsNat w (.slice a2 l2 c2) D2) (n1 : nd D1 ≤ 200) (n2 : nd D2 ≤ 200)
    (hp1 : -4000 ≤ p1 ∧ p1 ≤ 4000) (hp2 : -4000 ≤ p2 ∧ p2 ≤ 4000) (hm : 0 ≤ m ∧ m ≤ 4) :
    Calls Tryz.prog 41 #[.agg #[.bool (decide (s1 = 1)), .slice a1 l1 c1, .int .i64 p1], .agg #[.bool (decide (s2 = 1)), .slice a2 l2 c2, .int .i64 p2], .int .i64 m] w fun e w' => e = .returned (.agg #[.int .u64 (dsB s1 D1 p1 s2 D2 p2 m), .int .i64 (dsF s1 D1 p1 s2 D2 p2 m), .bool false]) ∧ Below w.heap.size w w' := by
  have hal : ∀ {D : Nat} {p q : Int}, nd D ≤ 200 → -4000 ≤ p ∧ p ≤ 4000 → -4000 ≤ q ∧ q ≤ 4000 → nd (alN D p q) ≤ 600 := by
    intro D p q h hp hq
    unfold alN
    refine Nat.le_trans (nd_mul_le _ _) ?_
    have : nd (2 ^ (p - min p q).toNat) ≤ 400 := by
      apply nd_of_lt
      apply Nat.pow_lt_pow_right (by decide)
      omega
    omega
  have hnd : nd (dsD s1 D1 p1 s2 D2 p2) ≤ 1000 := by
    unfold dsD
    refine Nat.le_trans (nd_mono (snD_le _ _ _ _)) (Nat.le_trans (nd_add_le _ _) ?_)
    have := hal n1 hp1 hp2
    have := hal n2 hp2 hp1
    omega
  have hq : -10000 ≤ dsP s1 D1 p1 s2 D2 p2 ∧ dsP s1 D1 p1 s2 D2 p2 ≤ 10000 := by
    unfold dsP snP
    (repeat' split) <;> omega
  have hs : ∀ w2, Below w.heap.size w w2 → _ := fun w2 hb2 => sum_ref (decide (s1 = 1)) (decide (s2 = 1)) a1 a2 l1 c1 l2 c2 D1 D2 p1 p2 w2 (h1.later hb2) (h2.later hb2) (by omega) (by omega) (by omega) (by omega)
  unfold dsB dsF adB adF
  by_cases hD : dsD s1 D1 p1 s2 D2 p2 = 0
  · have hn : ¬ dsD s1 D1 p1 s2 D2 p2 ≠ 0 := fun h => h hD
    have hl1 : l1 = 0 ↔ D1 = 0 := len_zero h1
    have hl2 : l2 = 0 ↔ D2 = 0 := len_zero h2
    have := added_none (decide (s1 = 1)) (decide (s2 = 1)) (dsG s1 D1 p1 s2 D2 p2) a1 a2 l1 c1 l2 c2 p1 p2 (dsP s1 D1 p1 s2 D2 p2) m w (fun w2 hb2 => by rw [← hD]; exact hs w2 hb2)
    simp only [hl1, hl2] at this
    rw [if_neg hn, if_neg hn]
    by_cases hc : D1 = 0 ∧ D2 = 0 ∧ decide (s1 = 1) = decide (s2 = 1)
    · rw [if_pos hc] at this ⊢
      exact this
    · rw [if_neg hc] at this ⊢
      exact this
  · rw [if_pos hD, if_pos hD]
    exact added_some (decide (s1 = 1)) (decide (s2 = 1)) (dsG s1 D1 p1 s2 D2 p2) a1 a2 l1 c1 l2 c2 (dsD s1 D1 p1 s2 D2 p2) p1 p2 (dsP s1 D1 p1 s2 D2 p2) m w hD hnd hq hm (fun w2 hb2 => hs w2 hb2)

/-- The infinity that a product with one is. -/
def infOf (x y : Nat) : Nat := xs x y * 9223372036854775808 + 9218868437227405312
theorem infOf_lt (x y : Nat) : infOf x y < 18446744073709551616 := by have := xs_lt x y; unfold infOf; omega
/-- The document's fused product and sum, where none is a NaN. -/
def fuB (x y z : Nat) (m : Int) : Int := if zti (kind x) (kind y) = true then 9221120237041090560 else if kind x = 3 ∨ kind y = 3 then addB (infOf x y) z m else if kind z = 3 then z else dsB (xs x y) (mant x * mant y) (pow x + pow y) (sgn z) (mant z) (pow z) m
def fuF (x y z : Nat) (m : Int) : Int := if zti (kind x) (kind y) = true then 16 else if kind x = 3 ∨ kind y = 3 then addF (infOf x y) z m else if kind z = 3 then 0 else dsF (xs x y) (mant x * mant y) (pow x + pow y) (sgn z) (mant z) (pow z) m
theorem dec_xs {x y : Nat} (hx : x < 18446744073709551616) (hy : y < 18446744073709551616) : (negOf x != negOf y) = decide (xs x y = 1) := by
  have h1 := sgn_lt hx
  have h2 := sgn_lt hy
  unfold negOf xs
  have e1 : sgn x = 0 ∨ sgn x = 1 := by omega
  have e2 : sgn y = 0 ∨ sgn y = 1 := by omega
  rcases e1 with e1 | e1 <;> rcases e2 with e2 | e2 <;> rw [e1, e2] <;> decide
theorem numIn {w : World} {g : Nat} {n : Bool} {v : Value} {D : Nat} {p : Int} (h : IsNat w v D) (hg : g = w.heap.size) (t : TypeId) : NumAt (w.alloc (.cells #[.bool n, v, .int .i64 p] t)) g n v D p := by
  subst hg
  exact ⟨by simp, by go_simp, by go_simp, by go_simp, h.later ((Below.refl _ _).alloc (Nat.le_refl _) _)⟩

set_option maxRecDepth 10000 in
set_option maxHeartbeats 8000000 in
theorem fused_ref (x y z : Nat) (m : Int) (hx : x < 18446744073709551616) (hy : y < 18446744073709551616) (hz : z < 18446744073709551616) (hm : 0 ≤ m ∧ m ≤ 4) (w : World) :
    Calls Tryz.prog 23 #[.int .u64 (x : Nat), .int .u64 (y : Nat), .int .u64 (z : Nat), .int .i64 m] w fun e w' =>
      e = .returned (.agg #[.int .u64 (fuB x y z m), .int .i64 (fuF x y z m), .bool false]) ∧ Below w.heap.size w w' := by
  have HKX : Hid (∀ w, Calls Tryz.prog 40 #[.int .u64 (x : Int)] w fun e w' => e = .returned (.int .i64 (kind x)) ∧ w' = w) := fun w => refKind_any (x : Int) (by omega) (by omega) w
  have HEX : Hid (∀ w, Calls Tryz.prog 42 #[.int .u64 (x : Int)] w fun e w' => ∃ a len cap, e = .returned (.agg #[.bool (negOf x), .slice a len cap, .int .i64 (pow x)]) ∧ IsNat w' (.slice a len cap) (mant x) ∧ Below w.heap.size w w') := fun w => (exact_ref x hx w).mono fun e w' ⟨v, he, hv, hb⟩ => by
    obtain ⟨a, len, cap, g, rfl, -, -, -⟩ := hv.slice
    exact ⟨a, len, cap, he, hv, hb⟩
  have HKY : Hid (∀ w, Calls Tryz.prog 40 #[.int .u64 (y : Int)] w fun e w' => e = .returned (.int .i64 (kind y)) ∧ w' = w) := fun w => refKind_any (y : Int) (by omega) (by omega) w
  have HEY : Hid (∀ w, Calls Tryz.prog 42 #[.int .u64 (y : Int)] w fun e w' => ∃ a len cap, e = .returned (.agg #[.bool (negOf y), .slice a len cap, .int .i64 (pow y)]) ∧ IsNat w' (.slice a len cap) (mant y) ∧ Below w.heap.size w w') := fun w => (exact_ref y hy w).mono fun e w' ⟨v, he, hv, hb⟩ => by
    obtain ⟨a, len, cap, g, rfl, -, -, -⟩ := hv.slice
    exact ⟨a, len, cap, he, hv, hb⟩
  have HKZ : Hid (∀ w, Calls Tryz.prog 40 #[.int .u64 (z : Int)] w fun e w' => e = .returned (.int .i64 (kind z)) ∧ w' = w) := fun w => refKind_any (z : Int) (by omega) (by omega) w
  have HEZ : Hid (∀ w, Calls Tryz.prog 42 #[.int .u64 (z : Int)] w fun e w' => ∃ a len cap, e = .returned (.agg #[.bool (negOf z), .slice a len cap, .int .i64 (pow z)]) ∧ IsNat w' (.slice a len cap) (mant z) ∧ Below w.heap.size w w') := fun w => (exact_ref z hz w).mono fun e w' ⟨v, he, hv, hb⟩ => by
    obtain ⟨a, len, cap, g, rfl, -, -, -⟩ := hv.slice
    exact ⟨a, len, cap, he, hv, hb⟩
  have hxor := top_xor x y hx hy
  have E0 : Hid (EmptyR (w.alloc (.cells #[.int .u64 0, .int .i64 0, .bool false] 39)) w.heap.size) := ⟨by simp, by go_simp, by go_simp, by go_simp, by go_simp, by go_simp, by go_simp⟩
  have B0 : Hid (Below w.heap.size w (w.alloc (.cells #[.int .u64 0, .int .i64 0, .bool false] 39))) := (Below.refl _ _).alloc (Nat.le_refl _) _
  have hxs := xs_lt x y
  have HAD : Hid (∀ w, Calls Tryz.prog 20 #[.int .u64 ((xs x y : Int) * 9223372036854775808 + 9218868437227405312), .int .u64 (z : Nat), .int .i64 m] w fun e w' => e = .returned (.agg #[.int .u64 (addB (infOf x y) z m), .int .i64 (addF (infOf x y) z m), .bool false]) ∧ Below w.heap.size w w') := fun w => by
    have h := addition_ref (infOf x y) z m (infOf_lt x y) hz hm w
    rw [show ((infOf x y : Nat) : Int) = (xs x y : Int) * 9223372036854775808 + 9218868437227405312 by unfold infOf; omega] at h
    exact h
  have q3 := pow_range x
  have q4 := pow_range y
  have q6 := pow_range z
  have n1 := nd_mant x
  have n2 := nd_mant y
  have n3 := nd_mant z
  have HPD : Hid (∀ w1 a1 l1 c1 a2 l2 c2, IsNat w1 (.slice a1 l1 c1) (mant x) → IsNat w1 (.slice a2 l2 c2) (mant y) → Calls Tryz.prog 44 #[.agg #[.bool (negOf x), .slice a1 l1 c1, .int .i64 (pow x)], .agg #[.bool (negOf y), .slice a2 l2 c2, .int .i64 (pow y)]] w1 fun e w' => ∃ a len cap, e = .returned (.agg #[.bool (decide (xs x y = 1)), .slice a len cap, .int .i64 (pow x + pow y)]) ∧ IsNat w' (.slice a len cap) (mant x * mant y) ∧ Below w1.heap.size w1 w') := fun w1 a1 l1 c1 a2 l2 c2 k1 k2 => by
    rw [← dec_xs hx hy]
    exact product_ref (negOf x) (negOf y) a1 a2 l1 c1 l2 c2 (mant x) (mant y) (pow x) (pow y) w1 k1 k2 (by omega) (by omega) (by omega)
  have HSM : Hid (∀ w1 a1 l1 c1 a2 l2 c2, IsNat w1 (.slice a1 l1 c1) (mant x * mant y) → IsNat w1 (.slice a2 l2 c2) (mant z) → Calls Tryz.prog 41 #[.agg #[.bool (decide (xs x y = 1)), .slice a1 l1 c1, .int .i64 (pow x + pow y)], .agg #[.bool (negOf z), .slice a2 l2 c2, .int .i64 (pow z)], .int .i64 m] w1 fun e w' => e = .returned (.agg #[.int .u64 (dsB (xs x y) (mant x * mant y) (pow x + pow y) (sgn z) (mant z) (pow z) m), .int .i64 (dsF (xs x y) (mant x * mant y) (pow x + pow y) (sgn z) (mant z) (pow z) m), .bool false]) ∧ Below w1.heap.size w1 w') := fun w1 a1 l1 c1 a2 l2 c2 k1 k2 =>
    added_ref (xs x y) (sgn z) (mant x * mant y) (mant z) (pow x + pow y) (pow z) m a1 a2 l1 c1 l2 c2 w1 k1 k2 (Nat.le_trans (nd_mul_le _ _) (by omega)) (by omega) (by omega) (by omega) hm
  have H1 : Hid (zti (kind x) (kind y) = true → fuB x y z m = 9221120237041090560 ∧ fuF x y z m = 16) := fun h => by unfold fuB fuF; rw [if_pos h, if_pos h]; exact ⟨rfl, rfl⟩
  have H2 : Hid (¬ zti (kind x) (kind y) = true → kind x = 3 ∨ kind y = 3 → fuB x y z m = addB (infOf x y) z m ∧ fuF x y z m = addF (infOf x y) z m) := fun h g => by unfold fuB fuF; rw [if_neg h, if_neg h, if_pos g, if_pos g]; exact ⟨rfl, rfl⟩
  have H3 : Hid (¬ zti (kind x) (kind y) = true → ¬ (kind x = 3 ∨ kind y = 3) → kind z = 3 → fuB x y z m = z ∧ fuF x y z m = 0) := fun h g k => by unfold fuB fuF; rw [if_neg h, if_neg h, if_neg g, if_neg g, if_pos k, if_pos k]; exact ⟨rfl, rfl⟩
  have H4 : Hid (¬ zti (kind x) (kind y) = true → ¬ (kind x = 3 ∨ kind y = 3) → ¬ kind z = 3 → fuB x y z m = dsB (xs x y) (mant x * mant y) (pow x + pow y) (sgn z) (mant z) (pow z) m ∧ fuF x y z m = dsF (xs x y) (mant x * mant y) (pow x + pow y) (sgn z) (mant z) (pow z) m) := fun h g k => by unfold fuB fuF; rw [if_neg h, if_neg h, if_neg g, if_neg g, if_neg k, if_neg k]; exact ⟨rfl, rfl⟩
  clear hx hy hz hm q3 q4 q6 n1 n2 n3
  generalize fuB x y z m = B at *
  generalize fuF x y z m = F at *
  generalize addB (infOf x y) z m = AB at *
  generalize addF (infOf x y) z m = AF at *
  generalize dsB (xs x y) (mant x * mant y) (pow x + pow y) (sgn z) (mant z) (pow z) m = SB at *
  generalize dsF (xs x y) (mant x * mant y) (pow x + pow y) (sgn z) (mant z) (pow z) m = SF at *
  generalize kind (x : Int) = KX at *
  generalize kind (y : Int) = KY at *
  generalize kind (z : Int) = KZ at *
  by_cases c0 : (KX = 3) ∧ (KY = 3)
  · have bx3 : (KX == 3) = true := by rw [beq_iff_eq]; omega
    have bx0 : (KX == 0) = false := by rw [beq_eq_false_iff_ne]; omega
    have by3 : (KY == 3) = true := by rw [beq_iff_eq]; omega
    have by0 : (KY == 0) = false := by rw [beq_eq_false_iff_ne]; omega
    have HV : Hid (B = AB ∧ F = AF) := H2.out (by unfold zti; rw [bx3, bx0, by3, by0]; decide) (by omega)
    clear c0 H1 H2 H3 H4
    go_enter Tryz.func23, Tryz.ntmps23
    go_wp2_with (first | (go_at_call_of 40 (Value.int .u64 (x : Int)); refine (HKX.out _).mono ?_; rintro e w' ⟨rfl, rfl⟩) | (go_at_call_of 40 (Value.int .u64 (y : Int)); refine (HKY.out _).mono ?_; rintro e w' ⟨rfl, rfl⟩) | (go_at_call_of 40 (Value.int .u64 (z : Int)); refine (HKZ.out _).mono ?_; rintro e w' ⟨rfl, rfl⟩))
    refine (HAD.out _).mono ?_
    rintro e w1 ⟨rfl, hb1⟩
    have V1 : Hid (Below w.heap.size w w1) := B0.out.trans (hb1.mono B0.out.size)
    obtain ⟨k0, k1, k2, k3, k4, k5, k6⟩ := E0.out.later hb1
    clear hb1
    go_wp2_with fail
    refine bodyPost_ret (v := .agg #[.int .u64 AB, .int .i64 AF, .bool false]) (by simp [results, Tryz.results23, go_sem, k1, k2, k3]) rfl ⟨by rw [HV.out.1, HV.out.2], ?_⟩
    repeat (first | exact V1.out | refine Below.setCell ?_ (by simp) _)
  by_cases c1 : (KX = 3) ∧ (KY = 0)
  · have bx3 : (KX == 3) = true := by rw [beq_iff_eq]; omega
    have bx0 : (KX == 0) = false := by rw [beq_eq_false_iff_ne]; omega
    have by3 : (KY == 3) = false := by rw [beq_eq_false_iff_ne]; omega
    have by0 : (KY == 0) = true := by rw [beq_iff_eq]; omega
    have HV : Hid (B = 9221120237041090560 ∧ F = 16) := H1.out (by unfold zti; rw [bx3, bx0, by3, by0]; rfl)
    clear c1 c0 H1 H2 H3 H4
    go_enter Tryz.func23, Tryz.ntmps23
    go_wp2_with (first | (go_at_call_of 40 (Value.int .u64 (x : Int)); refine (HKX.out _).mono ?_; rintro e w' ⟨rfl, rfl⟩) | (go_at_call_of 40 (Value.int .u64 (y : Int)); refine (HKY.out _).mono ?_; rintro e w' ⟨rfl, rfl⟩) | (go_at_call_of 40 (Value.int .u64 (z : Int)); refine (HKZ.out _).mono ?_; rintro e w' ⟨rfl, rfl⟩))
    refine bodyPost_ret (v := .agg #[.int .u64 9221120237041090560, .int .i64 16, .bool false]) (by simp [results, Tryz.results23, go_sem]) rfl ⟨by rw [HV.out.1, HV.out.2], ?_⟩
    repeat (first | exact B0.out | exact Below.refl _ _ | refine Below.alloc ?_ (by simp) _ | refine Below.setCell ?_ (by simp) _)
  by_cases c2 : (KX = 3) ∧ (KY ≠ 3 ∧ KY ≠ 0)
  · have bx3 : (KX == 3) = true := by rw [beq_iff_eq]; omega
    have bx0 : (KX == 0) = false := by rw [beq_eq_false_iff_ne]; omega
    have by3 : (KY == 3) = false := by rw [beq_eq_false_iff_ne]; omega
    have by0 : (KY == 0) = false := by rw [beq_eq_false_iff_ne]; omega
    have HV : Hid (B = AB ∧ F = AF) := H2.out (by unfold zti; rw [bx3, bx0, by3, by0]; decide) (by omega)
    clear c2 c0 c1 H1 H2 H3 H4
    go_enter Tryz.func23, Tryz.ntmps23
    go_wp2_with (first | (go_at_call_of 40 (Value.int .u64 (x : Int)); refine (HKX.out _).mono ?_; rintro e w' ⟨rfl, rfl⟩) | (go_at_call_of 40 (Value.int .u64 (y : Int)); refine (HKY.out _).mono ?_; rintro e w' ⟨rfl, rfl⟩) | (go_at_call_of 40 (Value.int .u64 (z : Int)); refine (HKZ.out _).mono ?_; rintro e w' ⟨rfl, rfl⟩))
    refine (HAD.out _).mono ?_
    rintro e w1 ⟨rfl, hb1⟩
    have V1 : Hid (Below w.heap.size w w1) := B0.out.trans (hb1.mono B0.out.size)
    obtain ⟨k0, k1, k2, k3, k4, k5, k6⟩ := E0.out.later hb1
    clear hb1
    go_wp2_with fail
    refine bodyPost_ret (v := .agg #[.int .u64 AB, .int .i64 AF, .bool false]) (by simp [results, Tryz.results23, go_sem, k1, k2, k3]) rfl ⟨by rw [HV.out.1, HV.out.2], ?_⟩
    repeat (first | exact V1.out | refine Below.setCell ?_ (by simp) _)
  by_cases c3 : (KX = 0) ∧ (KY = 3)
  · have bx3 : (KX == 3) = false := by rw [beq_eq_false_iff_ne]; omega
    have bx0 : (KX == 0) = true := by rw [beq_iff_eq]; omega
    have by3 : (KY == 3) = true := by rw [beq_iff_eq]; omega
    have by0 : (KY == 0) = false := by rw [beq_eq_false_iff_ne]; omega
    have HV : Hid (B = 9221120237041090560 ∧ F = 16) := H1.out (by unfold zti; rw [bx3, bx0, by3, by0]; rfl)
    clear c3 c0 c1 c2 H1 H2 H3 H4
    go_enter Tryz.func23, Tryz.ntmps23
    go_wp2_with (first | (go_at_call_of 40 (Value.int .u64 (x : Int)); refine (HKX.out _).mono ?_; rintro e w' ⟨rfl, rfl⟩) | (go_at_call_of 40 (Value.int .u64 (y : Int)); refine (HKY.out _).mono ?_; rintro e w' ⟨rfl, rfl⟩) | (go_at_call_of 40 (Value.int .u64 (z : Int)); refine (HKZ.out _).mono ?_; rintro e w' ⟨rfl, rfl⟩))
    refine bodyPost_ret (v := .agg #[.int .u64 9221120237041090560, .int .i64 16, .bool false]) (by simp [results, Tryz.results23, go_sem]) rfl ⟨by rw [HV.out.1, HV.out.2], ?_⟩
    repeat (first | exact B0.out | exact Below.refl _ _ | refine Below.alloc ?_ (by simp) _ | refine Below.setCell ?_ (by simp) _)
  by_cases c4 : (KX = 0) ∧ (KY = 0)
  · have bx3 : (KX == 3) = false := by rw [beq_eq_false_iff_ne]; omega
    have bx0 : (KX == 0) = true := by rw [beq_iff_eq]; omega
    have by3 : (KY == 3) = false := by rw [beq_eq_false_iff_ne]; omega
    have by0 : (KY == 0) = true := by rw [beq_iff_eq]; omega
    by_cases kz : KZ = 3
    · have bz3 : (KZ == 3) = true := by rw [beq_iff_eq]; exact kz
      have HV : Hid (B = z ∧ F = 0) := H3.out (by unfold zti; rw [bx3, bx0, by3, by0]; decide) (by omega) kz
      clear c4 c0 c1 c2 c3 kz H1 H2 H3 H4
      go_enter Tryz.func23, Tryz.ntmps23
      go_wp2_with (first | (go_at_call_of 40 (Value.int .u64 (x : Int)); refine (HKX.out _).mono ?_; rintro e w' ⟨rfl, rfl⟩) | (go_at_call_of 40 (Value.int .u64 (y : Int)); refine (HKY.out _).mono ?_; rintro e w' ⟨rfl, rfl⟩) | (go_at_call_of 40 (Value.int .u64 (z : Int)); refine (HKZ.out _).mono ?_; rintro e w' ⟨rfl, rfl⟩))
      refine bodyPost_ret (v := .agg #[.int .u64 z, .int .i64 0, .bool false]) (by simp [results, Tryz.results23, go_sem]) rfl ⟨by rw [HV.out.1, HV.out.2], ?_⟩
      repeat (first | exact B0.out | exact Below.refl _ _ | refine Below.alloc ?_ (by simp) _ | refine Below.setCell ?_ (by simp) _)
    · have bz3 : (KZ == 3) = false := by rw [beq_eq_false_iff_ne]; exact kz
      have HV : Hid (B = SB ∧ F = SF) := H4.out (by unfold zti; rw [bx3, bx0, by3, by0]; decide) (by omega) kz
      clear c4 c0 c1 c2 c3 kz H1 H2 H3 H4
      go_enter Tryz.func23, Tryz.ntmps23
      go_wp2_with (first | (go_at_call_of 40 (Value.int .u64 (x : Int)); refine (HKX.out _).mono ?_; rintro e w' ⟨rfl, rfl⟩) | (go_at_call_of 40 (Value.int .u64 (y : Int)); refine (HKY.out _).mono ?_; rintro e w' ⟨rfl, rfl⟩) | (go_at_call_of 40 (Value.int .u64 (z : Int)); refine (HKZ.out _).mono ?_; rintro e w' ⟨rfl, rfl⟩))
      refine (HEX.out _).mono ?_
      rintro e w1 ⟨a1, l1, c1, rfl, hv1, hb1⟩
      have V1 : Hid (IsNat w1 (.slice a1 l1 c1) (mant x) ∧ Below w.heap.size w w1 ∧ EmptyR w1 w.heap.size) := ⟨hv1, B0.out.trans (hb1.mono B0.out.size), E0.out.later hb1⟩
      clear hv1 hb1
      go_wp2_with fail
      refine (HEY.out _).mono ?_
      rintro e w2 ⟨a2, l2, c2, rfl, hv2, hb2⟩
      have V2 : Hid (IsNat w2 (.slice a1 l1 c1) (mant x) ∧ IsNat w2 (.slice a2 l2 c2) (mant y) ∧ Below w.heap.size w w2 ∧ EmptyR w2 w.heap.size) := ⟨V1.out.1.later hb2, hv2, V1.out.2.1.trans (hb2.mono V1.out.2.1.size), V1.out.2.2.later hb2⟩
      clear hv2 hb2 V1
      go_wp2_with fail
      refine (HPD.out _ a1 l1 c1 a2 l2 c2 V2.out.1 V2.out.2.1).mono ?_
      rintro e w3 ⟨a3, l3, c3, rfl, hv3, hb3⟩
      have N3 : Hid (NumAt (w3.alloc (.cells #[.bool (decide (xs x y = 1)), .slice a3 l3 c3, .int .i64 (pow x + pow y)] 63)) w3.heap.size (decide (xs x y = 1)) (.slice a3 l3 c3) (mant x * mant y) (pow x + pow y)) := numIn hv3 rfl _
      have V3 : Hid (Below w.heap.size w w3 ∧ EmptyR w3 w.heap.size) := ⟨V2.out.2.2.1.trans (hb3.mono V2.out.2.2.1.size), V2.out.2.2.2.later hb3⟩
      clear hv3 hb3 V2
      have z3 := V3.out.2.lt
      generalize decide (xs x y = 1) = nb at *
      go_wp2_with fail
      have V4 : Hid (Below w.heap.size w (w3.alloc (.cells #[.bool nb, .slice a3 l3 c3, .int .i64 (pow x + pow y)] 63)) ∧ EmptyR (w3.alloc (.cells #[.bool nb, .slice a3 l3 c3, .int .i64 (pow x + pow y)] 63)) w.heap.size) := ⟨V3.out.1.alloc V3.out.1.size _, V3.out.2.later ((Below.refl _ _).alloc (Nat.le_refl _) _)⟩
      clear V3
      generalize w3.alloc (.cells #[.bool nb, .slice a3 l3 c3, .int .i64 (pow x + pow y)] 63) = w4 at *
      generalize pow x + pow y = PP at *
      generalize mant x * mant y = MM at *
      generalize w3.heap.size = g3 at *
      have t0 := N3.out.c0
      have t1 := N3.out.c1
      have t2 := N3.out.c2
      have tl := N3.out.lt
      go_region_held3 (fun w' => w'.cell? ⟨g3, 0, none⟩ = some (.bool nb) ∧ w'.cell? ⟨g3, 1, none⟩ = some (.slice a3 l3 c3) ∧ w'.cell? ⟨g3, 2, none⟩ = some (.int .i64 PP))
        (first | (go_keep; done) | (rw [cellSet3 _ _ _ _ _ _ (by simp; omega), cellSet3 _ _ _ _ _ _ (by simp; omega), cellSet3 _ _ _ _ _ _ (by simp; omega)]; exact ⟨N3.out.c0, N3.out.c1, N3.out.c2⟩) | exact ⟨N3.out.c0, N3.out.c1, N3.out.c2⟩)
        (first | (go_at_call 42; refine (HEZ.out _).mono ?_; rintro e w' ⟨a4, l4, c4, rfl, hv, hb⟩; have N3 : Hid (NumAt w' g3 nb (.slice a3 l3 c3) MM PP) := N3.out.later ⟨hb.os, hb.tape, hb.output, hb.size, hb.block⟩; have HV4 : Hid (IsNat w' (.slice a4 l4 c4) (mant z)) := hv; have V4 : Hid (Below w.heap.size w w' ∧ EmptyR w' w.heap.size) := ⟨V4.out.1.trans (Below.mono (B := w4.heap.size) ⟨hb.os, hb.tape, hb.output, hb.size, hb.block⟩ V4.out.1.size), V4.out.2.later ⟨hb.os, hb.tape, hb.output, hb.size, hb.block⟩⟩; clear hv hb) | (go_at_call 41; refine (HSM.out _ a3 l3 c3 a4 l4 c4 (N3.out.nat.later ⟨rfl, rfl, rfl, Nat.le_refl _, fun _ _ => rfl⟩) (HV4.out.later ⟨rfl, rfl, rfl, Nat.le_refl _, fun _ _ => rfl⟩)).mono ?_; rintro e w5 ⟨rfl, hb5⟩; have N3 : Hid (NumAt w5 g3 nb (.slice a3 l3 c3) MM PP) := N3.out.later ⟨hb5.os, hb5.tape, hb5.output, hb5.size, hb5.block⟩; have V5 : Hid (Below w.heap.size w w5) := V4.out.1.trans (Below.mono (B := w'.heap.size) ⟨hb5.os, hb5.tape, hb5.output, hb5.size, hb5.block⟩ V4.out.1.size); obtain ⟨k0, k1, k2, k3, k4, k5, k6⟩ := V4.out.2.later ⟨hb5.os, hb5.tape, hb5.output, hb5.size, hb5.block⟩; clear hb5))
      all_goals (try go_wp2_with fail)
      all_goals
        refine bodyPost_ret (v := .agg #[.int .u64 SB, .int .i64 SF, .bool false]) (by simp [results, Tryz.results23, go_sem, k1, k2, k3]) rfl ⟨by rw [HV.out.1, HV.out.2], ?_⟩
        repeat (first | exact V5.out | refine Below.setCell ?_ (by simp) _)
  by_cases c5 : (KX = 0) ∧ (KY ≠ 3 ∧ KY ≠ 0)
  · have bx3 : (KX == 3) = false := by rw [beq_eq_false_iff_ne]; omega
    have bx0 : (KX == 0) = true := by rw [beq_iff_eq]; omega
    have by3 : (KY == 3) = false := by rw [beq_eq_false_iff_ne]; omega
    have by0 : (KY == 0) = false := by rw [beq_eq_false_iff_ne]; omega
    by_cases kz : KZ = 3
    · have bz3 : (KZ == 3) = true := by rw [beq_iff_eq]; exact kz
      have HV : Hid (B = z ∧ F = 0) := H3.out (by unfold zti; rw [bx3, bx0, by3, by0]; decide) (by omega) kz
      clear c5 c0 c1 c2 c3 c4 kz H1 H2 H3 H4
      go_enter Tryz.func23, Tryz.ntmps23
      go_wp2_with (first | (go_at_call_of 40 (Value.int .u64 (x : Int)); refine (HKX.out _).mono ?_; rintro e w' ⟨rfl, rfl⟩) | (go_at_call_of 40 (Value.int .u64 (y : Int)); refine (HKY.out _).mono ?_; rintro e w' ⟨rfl, rfl⟩) | (go_at_call_of 40 (Value.int .u64 (z : Int)); refine (HKZ.out _).mono ?_; rintro e w' ⟨rfl, rfl⟩))
      refine bodyPost_ret (v := .agg #[.int .u64 z, .int .i64 0, .bool false]) (by simp [results, Tryz.results23, go_sem]) rfl ⟨by rw [HV.out.1, HV.out.2], ?_⟩
      repeat (first | exact B0.out | exact Below.refl _ _ | refine Below.alloc ?_ (by simp) _ | refine Below.setCell ?_ (by simp) _)
    · have bz3 : (KZ == 3) = false := by rw [beq_eq_false_iff_ne]; exact kz
      have HV : Hid (B = SB ∧ F = SF) := H4.out (by unfold zti; rw [bx3, bx0, by3, by0]; decide) (by omega) kz
      clear c5 c0 c1 c2 c3 c4 kz H1 H2 H3 H4
      go_enter Tryz.func23, Tryz.ntmps23
      go_wp2_with (first | (go_at_call_of 40 (Value.int .u64 (x : Int)); refine (HKX.out _).mono ?_; rintro e w' ⟨rfl, rfl⟩) | (go_at_call_of 40 (Value.int .u64 (y : Int)); refine (HKY.out _).mono ?_; rintro e w' ⟨rfl, rfl⟩) | (go_at_call_of 40 (Value.int .u64 (z : Int)); refine (HKZ.out _).mono ?_; rintro e w' ⟨rfl, rfl⟩))
      refine (HEX.out _).mono ?_
      rintro e w1 ⟨a1, l1, c1, rfl, hv1, hb1⟩
      have V1 : Hid (IsNat w1 (.slice a1 l1 c1) (mant x) ∧ Below w.heap.size w w1 ∧ EmptyR w1 w.heap.size) := ⟨hv1, B0.out.trans (hb1.mono B0.out.size), E0.out.later hb1⟩
      clear hv1 hb1
      go_wp2_with fail
      refine (HEY.out _).mono ?_
      rintro e w2 ⟨a2, l2, c2, rfl, hv2, hb2⟩
      have V2 : Hid (IsNat w2 (.slice a1 l1 c1) (mant x) ∧ IsNat w2 (.slice a2 l2 c2) (mant y) ∧ Below w.heap.size w w2 ∧ EmptyR w2 w.heap.size) := ⟨V1.out.1.later hb2, hv2, V1.out.2.1.trans (hb2.mono V1.out.2.1.size), V1.out.2.2.later hb2⟩
      clear hv2 hb2 V1
      go_wp2_with fail
      refine (HPD.out _ a1 l1 c1 a2 l2 c2 V2.out.1 V2.out.2.1).mono ?_
      rintro e w3 ⟨a3, l3, c3, rfl, hv3, hb3⟩
      have N3 : Hid (NumAt (w3.alloc (.cells #[.bool (decide (xs x y = 1)), .slice a3 l3 c3, .int .i64 (pow x + pow y)] 63)) w3.heap.size (decide (xs x y = 1)) (.slice a3 l3 c3) (mant x * mant y) (pow x + pow y)) := numIn hv3 rfl _
      have V3 : Hid (Below w.heap.size w w3 ∧ EmptyR w3 w.heap.size) := ⟨V2.out.2.2.1.trans (hb3.mono V2.out.2.2.1.size), V2.out.2.2.2.later hb3⟩
      clear hv3 hb3 V2
      have z3 := V3.out.2.lt
      generalize decide (xs x y = 1) = nb at *
      go_wp2_with fail
      have V4 : Hid (Below w.heap.size w (w3.alloc (.cells #[.bool nb, .slice a3 l3 c3, .int .i64 (pow x + pow y)] 63)) ∧ EmptyR (w3.alloc (.cells #[.bool nb, .slice a3 l3 c3, .int .i64 (pow x + pow y)] 63)) w.heap.size) := ⟨V3.out.1.alloc V3.out.1.size _, V3.out.2.later ((Below.refl _ _).alloc (Nat.le_refl _) _)⟩
      clear V3
      generalize w3.alloc (.cells #[.bool nb, .slice a3 l3 c3, .int .i64 (pow x + pow y)] 63) = w4 at *
      generalize pow x + pow y = PP at *
      generalize mant x * mant y = MM at *
      generalize w3.heap.size = g3 at *
      have t0 := N3.out.c0
      have t1 := N3.out.c1
      have t2 := N3.out.c2
      have tl := N3.out.lt
      go_region_held3 (fun w' => w'.cell? ⟨g3, 0, none⟩ = some (.bool nb) ∧ w'.cell? ⟨g3, 1, none⟩ = some (.slice a3 l3 c3) ∧ w'.cell? ⟨g3, 2, none⟩ = some (.int .i64 PP))
        (first | (go_keep; done) | (rw [cellSet3 _ _ _ _ _ _ (by simp; omega), cellSet3 _ _ _ _ _ _ (by simp; omega), cellSet3 _ _ _ _ _ _ (by simp; omega)]; exact ⟨N3.out.c0, N3.out.c1, N3.out.c2⟩) | exact ⟨N3.out.c0, N3.out.c1, N3.out.c2⟩)
        (first | (go_at_call 42; refine (HEZ.out _).mono ?_; rintro e w' ⟨a4, l4, c4, rfl, hv, hb⟩; have N3 : Hid (NumAt w' g3 nb (.slice a3 l3 c3) MM PP) := N3.out.later ⟨hb.os, hb.tape, hb.output, hb.size, hb.block⟩; have HV4 : Hid (IsNat w' (.slice a4 l4 c4) (mant z)) := hv; have V4 : Hid (Below w.heap.size w w' ∧ EmptyR w' w.heap.size) := ⟨V4.out.1.trans (Below.mono (B := w4.heap.size) ⟨hb.os, hb.tape, hb.output, hb.size, hb.block⟩ V4.out.1.size), V4.out.2.later ⟨hb.os, hb.tape, hb.output, hb.size, hb.block⟩⟩; clear hv hb) | (go_at_call 41; refine (HSM.out _ a3 l3 c3 a4 l4 c4 (N3.out.nat.later ⟨rfl, rfl, rfl, Nat.le_refl _, fun _ _ => rfl⟩) (HV4.out.later ⟨rfl, rfl, rfl, Nat.le_refl _, fun _ _ => rfl⟩)).mono ?_; rintro e w5 ⟨rfl, hb5⟩; have N3 : Hid (NumAt w5 g3 nb (.slice a3 l3 c3) MM PP) := N3.out.later ⟨hb5.os, hb5.tape, hb5.output, hb5.size, hb5.block⟩; have V5 : Hid (Below w.heap.size w w5) := V4.out.1.trans (Below.mono (B := w'.heap.size) ⟨hb5.os, hb5.tape, hb5.output, hb5.size, hb5.block⟩ V4.out.1.size); obtain ⟨k0, k1, k2, k3, k4, k5, k6⟩ := V4.out.2.later ⟨hb5.os, hb5.tape, hb5.output, hb5.size, hb5.block⟩; clear hb5))
      all_goals (try go_wp2_with fail)
      all_goals
        refine bodyPost_ret (v := .agg #[.int .u64 SB, .int .i64 SF, .bool false]) (by simp [results, Tryz.results23, go_sem, k1, k2, k3]) rfl ⟨by rw [HV.out.1, HV.out.2], ?_⟩
        repeat (first | exact V5.out | refine Below.setCell ?_ (by simp) _)
  by_cases c6 : (KX ≠ 3 ∧ KX ≠ 0) ∧ (KY = 3)
  · have bx3 : (KX == 3) = false := by rw [beq_eq_false_iff_ne]; omega
    have bx0 : (KX == 0) = false := by rw [beq_eq_false_iff_ne]; omega
    have by3 : (KY == 3) = true := by rw [beq_iff_eq]; omega
    have by0 : (KY == 0) = false := by rw [beq_eq_false_iff_ne]; omega
    have HV : Hid (B = AB ∧ F = AF) := H2.out (by unfold zti; rw [bx3, bx0, by3, by0]; decide) (by omega)
    clear c6 c0 c1 c2 c3 c4 c5 H1 H2 H3 H4
    go_enter Tryz.func23, Tryz.ntmps23
    go_wp2_with (first | (go_at_call_of 40 (Value.int .u64 (x : Int)); refine (HKX.out _).mono ?_; rintro e w' ⟨rfl, rfl⟩) | (go_at_call_of 40 (Value.int .u64 (y : Int)); refine (HKY.out _).mono ?_; rintro e w' ⟨rfl, rfl⟩) | (go_at_call_of 40 (Value.int .u64 (z : Int)); refine (HKZ.out _).mono ?_; rintro e w' ⟨rfl, rfl⟩))
    refine (HAD.out _).mono ?_
    rintro e w1 ⟨rfl, hb1⟩
    have V1 : Hid (Below w.heap.size w w1) := B0.out.trans (hb1.mono B0.out.size)
    obtain ⟨k0, k1, k2, k3, k4, k5, k6⟩ := E0.out.later hb1
    clear hb1
    go_wp2_with fail
    refine bodyPost_ret (v := .agg #[.int .u64 AB, .int .i64 AF, .bool false]) (by simp [results, Tryz.results23, go_sem, k1, k2, k3]) rfl ⟨by rw [HV.out.1, HV.out.2], ?_⟩
    repeat (first | exact V1.out | refine Below.setCell ?_ (by simp) _)
  by_cases c7 : (KX ≠ 3 ∧ KX ≠ 0) ∧ (KY = 0)
  · have bx3 : (KX == 3) = false := by rw [beq_eq_false_iff_ne]; omega
    have bx0 : (KX == 0) = false := by rw [beq_eq_false_iff_ne]; omega
    have by3 : (KY == 3) = false := by rw [beq_eq_false_iff_ne]; omega
    have by0 : (KY == 0) = true := by rw [beq_iff_eq]; omega
    by_cases kz : KZ = 3
    · have bz3 : (KZ == 3) = true := by rw [beq_iff_eq]; exact kz
      have HV : Hid (B = z ∧ F = 0) := H3.out (by unfold zti; rw [bx3, bx0, by3, by0]; decide) (by omega) kz
      clear c7 c0 c1 c2 c3 c4 c5 c6 kz H1 H2 H3 H4
      go_enter Tryz.func23, Tryz.ntmps23
      go_wp2_with (first | (go_at_call_of 40 (Value.int .u64 (x : Int)); refine (HKX.out _).mono ?_; rintro e w' ⟨rfl, rfl⟩) | (go_at_call_of 40 (Value.int .u64 (y : Int)); refine (HKY.out _).mono ?_; rintro e w' ⟨rfl, rfl⟩) | (go_at_call_of 40 (Value.int .u64 (z : Int)); refine (HKZ.out _).mono ?_; rintro e w' ⟨rfl, rfl⟩))
      refine bodyPost_ret (v := .agg #[.int .u64 z, .int .i64 0, .bool false]) (by simp [results, Tryz.results23, go_sem]) rfl ⟨by rw [HV.out.1, HV.out.2], ?_⟩
      repeat (first | exact B0.out | exact Below.refl _ _ | refine Below.alloc ?_ (by simp) _ | refine Below.setCell ?_ (by simp) _)
    · have bz3 : (KZ == 3) = false := by rw [beq_eq_false_iff_ne]; exact kz
      have HV : Hid (B = SB ∧ F = SF) := H4.out (by unfold zti; rw [bx3, bx0, by3, by0]; decide) (by omega) kz
      clear c7 c0 c1 c2 c3 c4 c5 c6 kz H1 H2 H3 H4
      go_enter Tryz.func23, Tryz.ntmps23
      go_wp2_with (first | (go_at_call_of 40 (Value.int .u64 (x : Int)); refine (HKX.out _).mono ?_; rintro e w' ⟨rfl, rfl⟩) | (go_at_call_of 40 (Value.int .u64 (y : Int)); refine (HKY.out _).mono ?_; rintro e w' ⟨rfl, rfl⟩) | (go_at_call_of 40 (Value.int .u64 (z : Int)); refine (HKZ.out _).mono ?_; rintro e w' ⟨rfl, rfl⟩))
      refine (HEX.out _).mono ?_
      rintro e w1 ⟨a1, l1, c1, rfl, hv1, hb1⟩
      have V1 : Hid (IsNat w1 (.slice a1 l1 c1) (mant x) ∧ Below w.heap.size w w1 ∧ EmptyR w1 w.heap.size) := ⟨hv1, B0.out.trans (hb1.mono B0.out.size), E0.out.later hb1⟩
      clear hv1 hb1
      go_wp2_with fail
      refine (HEY.out _).mono ?_
      rintro e w2 ⟨a2, l2, c2, rfl, hv2, hb2⟩
      have V2 : Hid (IsNat w2 (.slice a1 l1 c1) (mant x) ∧ IsNat w2 (.slice a2 l2 c2) (mant y) ∧ Below w.heap.size w w2 ∧ EmptyR w2 w.heap.size) := ⟨V1.out.1.later hb2, hv2, V1.out.2.1.trans (hb2.mono V1.out.2.1.size), V1.out.2.2.later hb2⟩
      clear hv2 hb2 V1
      go_wp2_with fail
      refine (HPD.out _ a1 l1 c1 a2 l2 c2 V2.out.1 V2.out.2.1).mono ?_
      rintro e w3 ⟨a3, l3, c3, rfl, hv3, hb3⟩
      have N3 : Hid (NumAt (w3.alloc (.cells #[.bool (decide (xs x y = 1)), .slice a3 l3 c3, .int .i64 (pow x + pow y)] 63)) w3.heap.size (decide (xs x y = 1)) (.slice a3 l3 c3) (mant x * mant y) (pow x + pow y)) := numIn hv3 rfl _
      have V3 : Hid (Below w.heap.size w w3 ∧ EmptyR w3 w.heap.size) := ⟨V2.out.2.2.1.trans (hb3.mono V2.out.2.2.1.size), V2.out.2.2.2.later hb3⟩
      clear hv3 hb3 V2
      have z3 := V3.out.2.lt
      generalize decide (xs x y = 1) = nb at *
      go_wp2_with fail
      have V4 : Hid (Below w.heap.size w (w3.alloc (.cells #[.bool nb, .slice a3 l3 c3, .int .i64 (pow x + pow y)] 63)) ∧ EmptyR (w3.alloc (.cells #[.bool nb, .slice a3 l3 c3, .int .i64 (pow x + pow y)] 63)) w.heap.size) := ⟨V3.out.1.alloc V3.out.1.size _, V3.out.2.later ((Below.refl _ _).alloc (Nat.le_refl _) _)⟩
      clear V3
      generalize w3.alloc (.cells #[.bool nb, .slice a3 l3 c3, .int .i64 (pow x + pow y)] 63) = w4 at *
      generalize pow x + pow y = PP at *
      generalize mant x * mant y = MM at *
      generalize w3.heap.size = g3 at *
      have t0 := N3.out.c0
      have t1 := N3.out.c1
      have t2 := N3.out.c2
      have tl := N3.out.lt
      go_region_held3 (fun w' => w'.cell? ⟨g3, 0, none⟩ = some (.bool nb) ∧ w'.cell? ⟨g3, 1, none⟩ = some (.slice a3 l3 c3) ∧ w'.cell? ⟨g3, 2, none⟩ = some (.int .i64 PP))
        (first | (go_keep; done) | (rw [cellSet3 _ _ _ _ _ _ (by simp; omega), cellSet3 _ _ _ _ _ _ (by simp; omega), cellSet3 _ _ _ _ _ _ (by simp; omega)]; exact ⟨N3.out.c0, N3.out.c1, N3.out.c2⟩) | exact ⟨N3.out.c0, N3.out.c1, N3.out.c2⟩)
        (first | (go_at_call 42; refine (HEZ.out _).mono ?_; rintro e w' ⟨a4, l4, c4, rfl, hv, hb⟩; have N3 : Hid (NumAt w' g3 nb (.slice a3 l3 c3) MM PP) := N3.out.later ⟨hb.os, hb.tape, hb.output, hb.size, hb.block⟩; have HV4 : Hid (IsNat w' (.slice a4 l4 c4) (mant z)) := hv; have V4 : Hid (Below w.heap.size w w' ∧ EmptyR w' w.heap.size) := ⟨V4.out.1.trans (Below.mono (B := w4.heap.size) ⟨hb.os, hb.tape, hb.output, hb.size, hb.block⟩ V4.out.1.size), V4.out.2.later ⟨hb.os, hb.tape, hb.output, hb.size, hb.block⟩⟩; clear hv hb) | (go_at_call 41; refine (HSM.out _ a3 l3 c3 a4 l4 c4 (N3.out.nat.later ⟨rfl, rfl, rfl, Nat.le_refl _, fun _ _ => rfl⟩) (HV4.out.later ⟨rfl, rfl, rfl, Nat.le_refl _, fun _ _ => rfl⟩)).mono ?_; rintro e w5 ⟨rfl, hb5⟩; have N3 : Hid (NumAt w5 g3 nb (.slice a3 l3 c3) MM PP) := N3.out.later ⟨hb5.os, hb5.tape, hb5.output, hb5.size, hb5.block⟩; have V5 : Hid (Below w.heap.size w w5) := V4.out.1.trans (Below.mono (B := w'.heap.size) ⟨hb5.os, hb5.tape, hb5.output, hb5.size, hb5.block⟩ V4.out.1.size); obtain ⟨k0, k1, k2, k3, k4, k5, k6⟩ := V4.out.2.later ⟨hb5.os, hb5.tape, hb5.output, hb5.size, hb5.block⟩; clear hb5))
      all_goals (try go_wp2_with fail)
      all_goals
        refine bodyPost_ret (v := .agg #[.int .u64 SB, .int .i64 SF, .bool false]) (by simp [results, Tryz.results23, go_sem, k1, k2, k3]) rfl ⟨by rw [HV.out.1, HV.out.2], ?_⟩
        repeat (first | exact V5.out | refine Below.setCell ?_ (by simp) _)
  by_cases c8 : (KX ≠ 3 ∧ KX ≠ 0) ∧ (KY ≠ 3 ∧ KY ≠ 0)
  · have bx3 : (KX == 3) = false := by rw [beq_eq_false_iff_ne]; omega
    have bx0 : (KX == 0) = false := by rw [beq_eq_false_iff_ne]; omega
    have by3 : (KY == 3) = false := by rw [beq_eq_false_iff_ne]; omega
    have by0 : (KY == 0) = false := by rw [beq_eq_false_iff_ne]; omega
    by_cases kz : KZ = 3
    · have bz3 : (KZ == 3) = true := by rw [beq_iff_eq]; exact kz
      have HV : Hid (B = z ∧ F = 0) := H3.out (by unfold zti; rw [bx3, bx0, by3, by0]; decide) (by omega) kz
      clear c8 c0 c1 c2 c3 c4 c5 c6 c7 kz H1 H2 H3 H4
      go_enter Tryz.func23, Tryz.ntmps23
      go_wp2_with (first | (go_at_call_of 40 (Value.int .u64 (x : Int)); refine (HKX.out _).mono ?_; rintro e w' ⟨rfl, rfl⟩) | (go_at_call_of 40 (Value.int .u64 (y : Int)); refine (HKY.out _).mono ?_; rintro e w' ⟨rfl, rfl⟩) | (go_at_call_of 40 (Value.int .u64 (z : Int)); refine (HKZ.out _).mono ?_; rintro e w' ⟨rfl, rfl⟩))
      refine bodyPost_ret (v := .agg #[.int .u64 z, .int .i64 0, .bool false]) (by simp [results, Tryz.results23, go_sem]) rfl ⟨by rw [HV.out.1, HV.out.2], ?_⟩
      repeat (first | exact B0.out | exact Below.refl _ _ | refine Below.alloc ?_ (by simp) _ | refine Below.setCell ?_ (by simp) _)
    · have bz3 : (KZ == 3) = false := by rw [beq_eq_false_iff_ne]; exact kz
      have HV : Hid (B = SB ∧ F = SF) := H4.out (by unfold zti; rw [bx3, bx0, by3, by0]; decide) (by omega) kz
      clear c8 c0 c1 c2 c3 c4 c5 c6 c7 kz H1 H2 H3 H4
      go_enter Tryz.func23, Tryz.ntmps23
      go_wp2_with (first | (go_at_call_of 40 (Value.int .u64 (x : Int)); refine (HKX.out _).mono ?_; rintro e w' ⟨rfl, rfl⟩) | (go_at_call_of 40 (Value.int .u64 (y : Int)); refine (HKY.out _).mono ?_; rintro e w' ⟨rfl, rfl⟩) | (go_at_call_of 40 (Value.int .u64 (z : Int)); refine (HKZ.out _).mono ?_; rintro e w' ⟨rfl, rfl⟩))
      refine (HEX.out _).mono ?_
      rintro e w1 ⟨a1, l1, c1, rfl, hv1, hb1⟩
      have V1 : Hid (IsNat w1 (.slice a1 l1 c1) (mant x) ∧ Below w.heap.size w w1 ∧ EmptyR w1 w.heap.size) := ⟨hv1, B0.out.trans (hb1.mono B0.out.size), E0.out.later hb1⟩
      clear hv1 hb1
      go_wp2_with fail
      refine (HEY.out _).mono ?_
      rintro e w2 ⟨a2, l2, c2, rfl, hv2, hb2⟩
      have V2 : Hid (IsNat w2 (.slice a1 l1 c1) (mant x) ∧ IsNat w2 (.slice a2 l2 c2) (mant y) ∧ Below w.heap.size w w2 ∧ EmptyR w2 w.heap.size) := ⟨V1.out.1.later hb2, hv2, V1.out.2.1.trans (hb2.mono V1.out.2.1.size), V1.out.2.2.later hb2⟩
      clear hv2 hb2 V1
      go_wp2_with fail
      refine (HPD.out _ a1 l1 c1 a2 l2 c2 V2.out.1 V2.out.2.1).mono ?_
      rintro e w3 ⟨a3, l3, c3, rfl, hv3, hb3⟩
      have N3 : Hid (NumAt (w3.alloc (.cells #[.bool (decide (xs x y = 1)), .slice a3 l3 c3, .int .i64 (pow x + pow y)] 63)) w3.heap.size (decide (xs x y = 1)) (.slice a3 l3 c3) (mant x * mant y) (pow x + pow y)) := numIn hv3 rfl _
      have V3 : Hid (Below w.heap.size w w3 ∧ EmptyR w3 w.heap.size) := ⟨V2.out.2.2.1.trans (hb3.mono V2.out.2.2.1.size), V2.out.2.2.2.later hb3⟩
      clear hv3 hb3 V2
      have z3 := V3.out.2.lt
      generalize decide (xs x y = 1) = nb at *
      go_wp2_with fail
      have V4 : Hid (Below w.heap.size w (w3.alloc (.cells #[.bool nb, .slice a3 l3 c3, .int .i64 (pow x + pow y)] 63)) ∧ EmptyR (w3.alloc (.cells #[.bool nb, .slice a3 l3 c3, .int .i64 (pow x + pow y)] 63)) w.heap.size) := ⟨V3.out.1.alloc V3.out.1.size _, V3.out.2.later ((Below.refl _ _).alloc (Nat.le_refl _) _)⟩
      clear V3
      generalize w3.alloc (.cells #[.bool nb, .slice a3 l3 c3, .int .i64 (pow x + pow y)] 63) = w4 at *
      generalize pow x + pow y = PP at *
      generalize mant x * mant y = MM at *
      generalize w3.heap.size = g3 at *
      have t0 := N3.out.c0
      have t1 := N3.out.c1
      have t2 := N3.out.c2
      have tl := N3.out.lt
      go_region_held3 (fun w' => w'.cell? ⟨g3, 0, none⟩ = some (.bool nb) ∧ w'.cell? ⟨g3, 1, none⟩ = some (.slice a3 l3 c3) ∧ w'.cell? ⟨g3, 2, none⟩ = some (.int .i64 PP))
        (first | (go_keep; done) | (rw [cellSet3 _ _ _ _ _ _ (by simp; omega), cellSet3 _ _ _ _ _ _ (by simp; omega), cellSet3 _ _ _ _ _ _ (by simp; omega)]; exact ⟨N3.out.c0, N3.out.c1, N3.out.c2⟩) | exact ⟨N3.out.c0, N3.out.c1, N3.out.c2⟩)
        (first | (go_at_call 42; refine (HEZ.out _).mono ?_; rintro e w' ⟨a4, l4, c4, rfl, hv, hb⟩; have N3 : Hid (NumAt w' g3 nb (.slice a3 l3 c3) MM PP) := N3.out.later ⟨hb.os, hb.tape, hb.output, hb.size, hb.block⟩; have HV4 : Hid (IsNat w' (.slice a4 l4 c4) (mant z)) := hv; have V4 : Hid (Below w.heap.size w w' ∧ EmptyR w' w.heap.size) := ⟨V4.out.1.trans (Below.mono (B := w4.heap.size) ⟨hb.os, hb.tape, hb.output, hb.size, hb.block⟩ V4.out.1.size), V4.out.2.later ⟨hb.os, hb.tape, hb.output, hb.size, hb.block⟩⟩; clear hv hb) | (go_at_call 41; refine (HSM.out _ a3 l3 c3 a4 l4 c4 (N3.out.nat.later ⟨rfl, rfl, rfl, Nat.le_refl _, fun _ _ => rfl⟩) (HV4.out.later ⟨rfl, rfl, rfl, Nat.le_refl _, fun _ _ => rfl⟩)).mono ?_; rintro e w5 ⟨rfl, hb5⟩; have N3 : Hid (NumAt w5 g3 nb (.slice a3 l3 c3) MM PP) := N3.out.later ⟨hb5.os, hb5.tape, hb5.output, hb5.size, hb5.block⟩; have V5 : Hid (Below w.heap.size w w5) := V4.out.1.trans (Below.mono (B := w'.heap.size) ⟨hb5.os, hb5.tape, hb5.output, hb5.size, hb5.block⟩ V4.out.1.size); obtain ⟨k0, k1, k2, k3, k4, k5, k6⟩ := V4.out.2.later ⟨hb5.os, hb5.tape, hb5.output, hb5.size, hb5.block⟩; clear hb5))
      all_goals (try go_wp2_with fail)
      all_goals
        refine bodyPost_ret (v := .agg #[.int .u64 SB, .int .i64 SF, .bool false]) (by simp [results, Tryz.results23, go_sem, k1, k2, k3]) rfl ⟨by rw [HV.out.1, HV.out.2], ?_⟩
        repeat (first | exact V5.out | refine Below.setCell ?_ (by simp) _)
  exfalso
  omega
end Go.Proofs.YtcjihaafohnbeaaGreatDoor
