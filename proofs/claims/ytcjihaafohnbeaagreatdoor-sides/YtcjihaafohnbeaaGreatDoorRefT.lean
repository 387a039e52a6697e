import Derived.Test.YtcjihaafohnbeaaGreatDoorRefQ
namespace Go.Proofs.YtcjihaafohnbeaaGreatDoor
open Go.RowKit

/-- The document's sum of two finite numbers: sign, amount, exponent. -/
def rsG (x y : Nat) : Bool := snG (negOf x) (alN (mant x) (pow x) (pow y)) (negOf y) (alN (mant y) (pow y) (pow x))
def rsD (x y : Nat) : Nat := snD (negOf x) (alN (mant x) (pow x) (pow y)) (negOf y) (alN (mant y) (pow y) (pow x))
def rsP (x y : Nat) : Int := snP (negOf x) (alN (mant x) (pow x) (pow y)) (negOf y) (alN (mant y) (pow y) (pow x)) (min (pow x) (pow y))
/-- The document's sum, rounded. -/
def addB (x y : Nat) (m : Int) : Int :=
  if kind x = 3 ∧ kind y = 3 ∧ x ≠ y then 9221120237041090560
  else if kind x = 3 then x
  else if kind y = 3 then y
  else if rsD x y ≠ 0 then roundB (sOf (rsG x y)) (rsD x y) (rsP x y) m
  else sOf (if mant x = 0 ∧ mant y = 0 ∧ negOf x = negOf y then negOf x else (m == 4)) * 9223372036854775808
def addF (x y : Nat) (m : Int) : Int :=
  if kind x = 3 ∧ kind y = 3 ∧ x ≠ y then 16
  else if kind x = 3 then 0
  else if kind y = 3 then 0
  else if rsD x y ≠ 0 then roundF (sOf (rsG x y)) (rsD x y) (rsP x y) m
  else 0
theorem nd_alN {D : Nat} {p q : Int} (h : nd D ≤ 3) (hp : -1074 ≤ p ∧ p ≤ 972) (hq : -1074 ≤ q ∧ q ≤ 972) : nd (alN D p q) ≤ 3 + 90 := by
  unfold alN
  refine Nat.le_trans (nd_mul_le _ _) ?_
  have : nd (2 ^ (p - min p q).toNat) ≤ 90 := by
    apply nd_of_lt
    apply Nat.pow_lt_pow_right (by decide)
    omega
  omega
theorem snD_le (n1 n2 : Bool) (X Y : Nat) : snD n1 X n2 Y ≤ X + Y := by unfold snD; (repeat' split) <;> omega
theorem nd_add_le (a b : Nat) : nd (a + b) ≤ max (nd a) (nd b) + 1 := by
  apply nd_of_lt
  have h1 := nd_lt a
  have h2 := nd_lt b
  have e1 : (2 : Nat) ^ (24 * nd a) ≤ 2 ^ (24 * max (nd a) (nd b)) := Nat.pow_le_pow_right (by decide) (by omega)
  have e2 : (2 : Nat) ^ (24 * nd b) ≤ 2 ^ (24 * max (nd a) (nd b)) := Nat.pow_le_pow_right (by decide) (by omega)
  rw [pow24]
  omega
theorem nd_rsD (x y : Nat) : nd (rsD x y) ≤ 1000 := by
  have h1 := nd_alN (nd_mant x) (pow_range x) (pow_range y)
  have h2 := nd_alN (nd_mant y) (pow_range y) (pow_range x)
  have := nd_mono (snD_le (negOf x) (negOf y) (alN (mant x) (pow x) (pow y)) (alN (mant y) (pow y) (pow x)))
  have := nd_add_le (alN (mant x) (pow x) (pow y)) (alN (mant y) (pow y) (pow x))
  unfold rsD
  omega
theorem rsP_range (x y : Nat) : -10000 ≤ rsP x y ∧ rsP x y ≤ 10000 := by
  have := pow_range x
  have := pow_range y
  unfold rsP snP
  (repeat' split) <;> omega
theorem len_zero {w : World} {a : Option Addr} {len cap D : Nat} (h : IsNat w (.slice a len cap) D) : len = 0 ↔ D = 0 := by
  obtain ⟨a', len', cap', g', he, hl, -, -⟩ := h.slice
  cases he
  constructor
  · intro h0
    exact nd_none (by rw [← hl, h0])
  · intro h0
    rw [hl, h0, nd_zero]

set_option maxRecDepth 10000 in
set_option maxHeartbeats 4000000 in
theorem addition_ref (x y : Nat) (m : Int) (hx : x < 18446744073709551616) (hy : y < 18446744073709551616) (hm : 0 ≤ m ∧ m ≤ 4) (w : World) :
    Calls Tryz.prog 20 #[.int .u64 (x : Nat), .int .u64 (y : Nat), .int .i64 m] w fun e w' =>
      e = .returned (.agg #[.int .u64 (addB x y m), .int .i64 (addF x y m), .bool false]) ∧ Below w.heap.size w w' := by
  have HKX : Hid (∀ w, Calls Tryz.prog 40 #[.int .u64 (x : Int)] w fun e w' => e = .returned (.int .i64 (kind x)) ∧ w' = w) := fun w => refKind_any (x : Int) (by omega) (by omega) w
  have HKY : Hid (∀ w, Calls Tryz.prog 40 #[.int .u64 (y : Int)] w fun e w' => e = .returned (.int .i64 (kind y)) ∧ w' = w) := fun w => refKind_any (y : Int) (by omega) (by omega) w
  have E0 : Hid (EmptyR (w.alloc (.cells #[.int .u64 0, .int .i64 0, .bool false] 39)) w.heap.size) := ⟨by simp, by go_simp, by go_simp, by go_simp, by go_simp, by go_simp, by go_simp⟩
  have B0 : Hid (Below w.heap.size w (w.alloc (.cells #[.int .u64 0, .int .i64 0, .bool false] 39))) := (Below.refl _ _).alloc (Nat.le_refl _) _
  have HPB : Hid (addB x y m = (if kind x = 3 ∧ kind y = 3 ∧ x ≠ y then 9221120237041090560 else if kind x = 3 then (x : Int) else if kind y = 3 then (y : Int) else if rsD x y ≠ 0 then roundB (sOf (rsG x y)) (rsD x y) (rsP x y) m else sOf (if mant x = 0 ∧ mant y = 0 ∧ negOf x = negOf y then negOf x else (m == 4)) * 9223372036854775808)) := rfl
  have HPF : Hid (addF x y m = (if kind x = 3 ∧ kind y = 3 ∧ x ≠ y then 16 else if kind x = 3 then 0 else if kind y = 3 then 0 else if rsD x y ≠ 0 then roundF (sOf (rsG x y)) (rsD x y) (rsP x y) m else 0)) := rfl
  have HEX : Hid (∀ w, Calls Tryz.prog 42 #[.int .u64 (x : Int)] w fun e w' => ∃ a len cap, e = .returned (.agg #[.bool (negOf x), .slice a len cap, .int .i64 (pow x)]) ∧ IsNat w' (.slice a len cap) (mant x) ∧ Below w.heap.size w w') := fun w => (exact_ref x hx w).mono fun e w' ⟨v, he, hv, hb⟩ => by
    obtain ⟨a, len, cap, g, rfl, -, -, -⟩ := hv.slice
    exact ⟨a, len, cap, he, hv, hb⟩
  have HEY : Hid (∀ w, Calls Tryz.prog 42 #[.int .u64 (y : Int)] w fun e w' => ∃ a len cap, e = .returned (.agg #[.bool (negOf y), .slice a len cap, .int .i64 (pow y)]) ∧ IsNat w' (.slice a len cap) (mant y) ∧ Below w.heap.size w w') := fun w => (exact_ref y hy w).mono fun e w' ⟨v, he, hv, hb⟩ => by
    obtain ⟨a, len, cap, g, rfl, -, -, -⟩ := hv.slice
    exact ⟨a, len, cap, he, hv, hb⟩
  have HM : Hid (0 ≤ m ∧ m ≤ 4) := hm
  have kx := kind_range (x : Int)
  have ky := kind_range (y : Int)
  clear hx hy hm
  generalize kind (x : Int) = KX at *
  generalize kind (y : Int) = KY at *
  by_cases x3 : KX = 3
  · have bx3 : (KX == 3) = true := by rw [beq_iff_eq]; exact x3
    by_cases y3 : KY = 3
    · have by3 : (KY == 3) = true := by rw [beq_iff_eq]; exact y3
      by_cases hxy : x = y
      · have bxy : ((x : Int) != (y : Int)) = false := by rw [bne_eq_false_iff_eq]; omega
        have hB : addB x y m = (x : Int) ∧ addF x y m = 0 := by
          rw [HPB.out, HPF.out]
          rw [if_neg (fun h => h.2.2 hxy), if_pos x3, if_neg (fun h => h.2.2 hxy), if_pos x3]
          exact ⟨rfl, rfl⟩
        have HB : Hid (addB x y m = (x : Int) ∧ addF x y m = 0) := hB
        clear hB kx ky hxy
        go_enter Tryz.func20, Tryz.ntmps20
        go_wp2_with (first | (go_at_call_of 40 (Value.int .u64 (x : Int)); refine (HKX.out _).mono ?_; rintro e w' ⟨rfl, rfl⟩) | (go_at_call_of 40 (Value.int .u64 (y : Int)); refine (HKY.out _).mono ?_; rintro e w' ⟨rfl, rfl⟩))
        refine bodyPost_ret (v := .agg #[.int .u64 (x : Int), .int .i64 0, .bool false]) (by simp [results, Tryz.results20, go_sem]) rfl ⟨by rw [HB.out.1, HB.out.2], ?_⟩
        repeat (first | exact B0.out | exact Below.refl _ _ | refine Below.alloc ?_ (by simp) _ | refine Below.setCell ?_ (by simp) _)
      · have bxy : ((x : Int) != (y : Int)) = true := by rw [bne_iff_ne]; omega
        have hB : addB x y m = 9221120237041090560 ∧ addF x y m = 16 := by
          rw [HPB.out, HPF.out]
          rw [if_pos ⟨x3, y3, hxy⟩, if_pos ⟨x3, y3, hxy⟩]
          exact ⟨rfl, rfl⟩
        have HB : Hid (addB x y m = 9221120237041090560 ∧ addF x y m = 16) := hB
        clear hB kx ky
        go_enter Tryz.func20, Tryz.ntmps20
        go_wp2_with (first | (go_at_call_of 40 (Value.int .u64 (x : Int)); refine (HKX.out _).mono ?_; rintro e w' ⟨rfl, rfl⟩) | (go_at_call_of 40 (Value.int .u64 (y : Int)); refine (HKY.out _).mono ?_; rintro e w' ⟨rfl, rfl⟩))
        refine bodyPost_ret (v := .agg #[.int .u64 9221120237041090560, .int .i64 16, .bool false]) (by simp [results, Tryz.results20, go_sem]) rfl ⟨by rw [HB.out.1, HB.out.2], ?_⟩
        repeat (first | exact B0.out | exact Below.refl _ _ | refine Below.alloc ?_ (by simp) _ | refine Below.setCell ?_ (by simp) _)
    · have by3 : (KY == 3) = false := by rw [beq_eq_false_iff_ne]; exact y3
      have hB : addB x y m = (x : Int) ∧ addF x y m = 0 := by
        rw [HPB.out, HPF.out]
        rw [if_neg (fun h => y3 h.2.1), if_pos x3, if_neg (fun h => y3 h.2.1), if_pos x3]
        exact ⟨rfl, rfl⟩
      have HB : Hid (addB x y m = (x : Int) ∧ addF x y m = 0) := hB
      clear hB kx ky
      go_enter Tryz.func20, Tryz.ntmps20
      go_wp2_with (first | (go_at_call_of 40 (Value.int .u64 (x : Int)); refine (HKX.out _).mono ?_; rintro e w' ⟨rfl, rfl⟩) | (go_at_call_of 40 (Value.int .u64 (y : Int)); refine (HKY.out _).mono ?_; rintro e w' ⟨rfl, rfl⟩))
      refine bodyPost_ret (v := .agg #[.int .u64 (x : Int), .int .i64 0, .bool false]) (by simp [results, Tryz.results20, go_sem]) rfl ⟨by rw [HB.out.1, HB.out.2], ?_⟩
      repeat (first | exact B0.out | exact Below.refl _ _ | refine Below.alloc ?_ (by simp) _ | refine Below.setCell ?_ (by simp) _)
  · have bx3 : (KX == 3) = false := by rw [beq_eq_false_iff_ne]; exact x3
    by_cases y3 : KY = 3
    · have by3 : (KY == 3) = true := by rw [beq_iff_eq]; exact y3
      have hB : addB x y m = (y : Int) ∧ addF x y m = 0 := by
        rw [HPB.out, HPF.out]
        rw [if_neg (fun h => x3 h.1), if_neg x3, if_pos y3, if_neg (fun h => x3 h.1), if_neg x3, if_pos y3]
        exact ⟨rfl, rfl⟩
      have HB : Hid (addB x y m = (y : Int) ∧ addF x y m = 0) := hB
      clear hB kx ky
      go_enter Tryz.func20, Tryz.ntmps20
      go_wp2_with (first | (go_at_call_of 40 (Value.int .u64 (x : Int)); refine (HKX.out _).mono ?_; rintro e w' ⟨rfl, rfl⟩) | (go_at_call_of 40 (Value.int .u64 (y : Int)); refine (HKY.out _).mono ?_; rintro e w' ⟨rfl, rfl⟩))
      refine bodyPost_ret (v := .agg #[.int .u64 (y : Int), .int .i64 0, .bool false]) (by simp [results, Tryz.results20, go_sem]) rfl ⟨by rw [HB.out.1, HB.out.2], ?_⟩
      repeat (first | exact B0.out | exact Below.refl _ _ | refine Below.alloc ?_ (by simp) _ | refine Below.setCell ?_ (by simp) _)
    · have by3 : (KY == 3) = false := by rw [beq_eq_false_iff_ne]; exact y3
      have HAD : Hid (∀ w1 a1 l1 c1 a2 l2 c2, IsNat w1 (.slice a1 l1 c1) (mant x) → IsNat w1 (.slice a2 l2 c2) (mant y) → Calls Tryz.prog 41 #[.agg #[.bool (negOf x), .slice a1 l1 c1, .int .i64 (pow x)], .agg #[.bool (negOf y), .slice a2 l2 c2, .int .i64 (pow y)], .int .i64 m] w1 fun e w' => e = .returned (.agg #[.int .u64 (addB x y m), .int .i64 (addF x y m), .bool false]) ∧ Below w1.heap.size w1 w') := by
        intro w1 a1 l1 c1 a2 l2 c2 k1 k2
        have hs : ∀ w2, Below w1.heap.size w1 w2 → _ := fun w2 hb2 => sum_ref (negOf x) (negOf y) a1 a2 l1 c1 l2 c2 (mant x) (mant y) (pow x) (pow y) w2 (k1.later hb2) (k2.later hb2) (Nat.le_trans (nd_mant x) (by decide)) (Nat.le_trans (nd_mant y) (by decide)) (by have := pow_range x; omega) (by have := pow_range y; omega)
        by_cases hD : rsD x y = 0
        · have e1 : addB x y m = sOf (if mant x = 0 ∧ mant y = 0 ∧ negOf x = negOf y then negOf x else (m == 4)) * 9223372036854775808 ∧ addF x y m = 0 := by
            exact ⟨by rw [HPB.out, if_neg (fun h => x3 h.1), if_neg x3, if_neg y3, if_neg (fun h => h hD)], by rw [HPF.out, if_neg (fun h => x3 h.1), if_neg x3, if_neg y3, if_neg (fun h => h hD)]⟩
          have hl1 : l1 = 0 ↔ mant x = 0 := len_zero k1
          have hl2 : l2 = 0 ↔ mant y = 0 := len_zero k2
          have := added_none (negOf x) (negOf y) (rsG x y) a1 a2 l1 c1 l2 c2 (pow x) (pow y) (rsP x y) m w1 (fun w2 hb2 => by rw [← hD]; exact hs w2 hb2)
          simp only [hl1, hl2] at this
          rw [e1.1, e1.2]
          exact this
        · have e1 : addB x y m = roundB (sOf (rsG x y)) (rsD x y) (rsP x y) m ∧ addF x y m = roundF (sOf (rsG x y)) (rsD x y) (rsP x y) m := by
            rw [HPB.out, HPF.out]
            rw [if_neg (fun h => x3 h.1), if_neg x3, if_neg y3, if_pos hD, if_neg (fun h => x3 h.1), if_neg x3, if_neg y3, if_pos hD]
            exact ⟨rfl, rfl⟩
          rw [e1.1, e1.2]
          exact added_some (negOf x) (negOf y) (rsG x y) a1 a2 l1 c1 l2 c2 (rsD x y) (pow x) (pow y) (rsP x y) m w1 hD (nd_rsD x y) (rsP_range x y) HM.out (fun w2 hb2 => hs w2 hb2)
      clear kx ky HPB HPF
      generalize addB x y m = RB at *
      generalize addF x y m = RF at *
      go_enter Tryz.func20, Tryz.ntmps20
      go_wp2_with (first | (go_at_call_of 40 (Value.int .u64 (x : Int)); refine (HKX.out _).mono ?_; rintro e w' ⟨rfl, rfl⟩) | (go_at_call_of 40 (Value.int .u64 (y : Int)); refine (HKY.out _).mono ?_; rintro e w' ⟨rfl, rfl⟩))
      refine (HEX.out _).mono ?_
      rintro e w1 ⟨a1, l1, c1, rfl, hv1, hb1⟩
      have V1 : Hid (IsNat w1 (.slice a1 l1 c1) (mant x) ∧ Below w.heap.size w w1 ∧ EmptyR w1 w.heap.size) := ⟨hv1, B0.out.trans (hb1.mono B0.out.size), E0.out.later hb1⟩
      clear hv1 hb1
      go_wp2_with fail
      refine (HEY.out _).mono ?_
      rintro e w2 ⟨a2, l2, c2, rfl, hv2, hb2⟩
      have V2 : Hid (IsNat w2 (.slice a1 l1 c1) (mant x) ∧ IsNat w2 (.slice a2 l2 c2) (mant y) ∧ Below w.heap.size w w2 ∧ EmptyR w2 w.heap.size) := ⟨V1.out.1.later hb2, hv2, V1.out.2.1.trans (hb2.mono V1.out.2.1.size), V1.out.2.2.later hb2⟩
      clear hv2 hb2 V1
      go_wp2_with fail
      refine (HAD.out _ a1 l1 c1 a2 l2 c2 V2.out.1 V2.out.2.1).mono ?_
      rintro e w5 ⟨rfl, hb5⟩
      have V5 : Hid (Below w.heap.size w w5) := V2.out.2.2.1.trans (hb5.mono V2.out.2.2.1.size)
      obtain ⟨k0, k1, k2, k3, k4, k5, k6⟩ := V2.out.2.2.2.later hb5
      clear hb5 V2
      go_wp2_with fail
      refine bodyPost_ret (v := .agg #[.int .u64 RB, .int .i64 RF, .bool false]) (by simp [results, Tryz.results20, go_sem, k1, k2, k3]) rfl ⟨rfl, ?_⟩
      repeat (first | exact V5.out | refine Below.setCell ?_ (by simp) _)
end Go.Proofs.YtcjihaafohnbeaaGreatDoor

