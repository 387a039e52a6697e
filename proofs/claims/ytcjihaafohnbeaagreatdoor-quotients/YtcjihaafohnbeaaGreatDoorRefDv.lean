import Derived.Test.YtcjihaafohnbeaaGreatDoorRefZ
namespace Go.Proofs.YtcjihaafohnbeaaGreatDoor
open Go.RowKit

/-- The document's quotient, where neither is a NaN. -/
def divB (x y : Nat) (m : Int) : Int :=
  if (kind x = 3 ∧ kind y = 3) ∨ (kind x = 0 ∧ kind y = 0) then 9221120237041090560
  else if kind x = 3 then xs x y * 9223372036854775808 + 9218868437227405312
  else if kind y = 3 ∨ kind x = 0 then xs x y * 9223372036854775808
  else if kind y = 0 then xs x y * 9223372036854775808 + 9218868437227405312
  else roundB (xs x y) (quD (mant x) (mant y)) (pow x - 120 - pow y - 1) m
def divF (x y : Nat) (m : Int) : Int :=
  if (kind x = 3 ∧ kind y = 3) ∨ (kind x = 0 ∧ kind y = 0) then 16
  else if kind x = 3 then 0
  else if kind y = 3 ∨ kind x = 0 then 0
  else if kind y = 0 then 8
  else roundF (xs x y) (quD (mant x) (mant y)) (pow x - 120 - pow y - 1) m
theorem mkQ_le (q : Nat) (b : Bool) : mkQ q b ≤ 2 * q + 1 := by unfold mkQ; split <;> omega
theorem mkQ_zero {q : Nat} {b : Bool} (h : mkQ q b = 0) : q = 0 ∧ b = true := by
  unfold mkQ at h
  cases b with
  | false => exact absurd h (Nat.succ_ne_zero _)
  | true => exact ⟨by rw [if_pos rfl] at h; omega, rfl⟩
theorem quD_some {D1 D2 : Nat} (h1 : D1 ≠ 0) : quD D1 D2 ≠ 0 := by
  have hN : D1 * 2 ^ 120 ≠ 0 := Nat.mul_ne_zero h1 (Nat.pos_iff_ne_zero.1 (Nat.two_pow_pos 120))
  unfold quD
  generalize D1 * 2 ^ 120 = N at *
  intro e
  obtain ⟨hz, hd⟩ := mkQ_zero e
  have h : N % D2 = 0 := of_decide_eq_true hd
  have := Nat.div_add_mod N D2
  rw [h, hz, Nat.mul_zero] at this
  exact hN this.symm
theorem nd_quD {D1 D2 : Nat} (h : nd D1 ≤ 500) : nd (quD D1 D2) ≤ 1000 := by
  have h6 : nd (2 ^ 120) ≤ 6 := nd_of_lt (by decide)
  have hA : nd (D1 * 2 ^ 120) ≤ 506 := Nat.le_trans (nd_mul_le _ _) (by omega)
  have hle : quD D1 D2 ≤ 2 * (D1 * 2 ^ 120) + 1 := by
    unfold quD
    refine Nat.le_trans (mkQ_le _ _) ?_
    have := Nat.div_le_self (D1 * 2 ^ 120) D2
    omega
  refine Nat.le_trans (nd_mono hle) (Nat.le_trans (nd_add_le _ _) ?_)
  have h2 : nd 2 = 1 := (by decide)
  have h1 : nd 1 = 1 := (by decide)
  have := nd_mul_le 2 (D1 * 2 ^ 120)
  omega

set_option maxRecDepth 10000 in
set_option maxHeartbeats 8000000 in
theorem division_ref (x y : Nat) (m : Int) (hx : x < 18446744073709551616) (hy : y < 18446744073709551616) (hm : 0 ≤ m ∧ m ≤ 4) (w : World) :
    Calls Tryz.prog 22 #[.int .u64 (x : Nat), .int .u64 (y : Nat), .int .i64 m] w fun e w' =>
      e = .returned (.agg #[.int .u64 (divB x y m), .int .i64 (divF x y m), .bool false]) ∧ Below w.heap.size w w' := by
  have HKX : Hid (∀ w, Calls Tryz.prog 40 #[.int .u64 (x : Int)] w fun e w' => e = .returned (.int .i64 (kind x)) ∧ w' = w) := fun w => refKind_any (x : Int) (by omega) (by omega) w
  have HEX : Hid (∀ w, Calls Tryz.prog 42 #[.int .u64 (x : Int)] w fun e w' => ∃ a len cap, e = .returned (.agg #[.bool (negOf x), .slice a len cap, .int .i64 (pow x)]) ∧ IsNat w' (.slice a len cap) (mant x) ∧ Below w.heap.size w w') := fun w => (exact_ref x hx w).mono fun e w' ⟨v, he, hv, hb⟩ => by
    obtain ⟨a, len, cap, g, rfl, -, -, -⟩ := hv.slice
    exact ⟨a, len, cap, he, hv, hb⟩
  have nx := nd_mant x
  have qx := pow_range x
  have Mx : Hid (¬ kind x = 0 → mant x ≠ 0) := mant_some hx
  have HKY : Hid (∀ w, Calls Tryz.prog 40 #[.int .u64 (y : Int)] w fun e w' => e = .returned (.int .i64 (kind y)) ∧ w' = w) := fun w => refKind_any (y : Int) (by omega) (by omega) w
  have HEY : Hid (∀ w, Calls Tryz.prog 42 #[.int .u64 (y : Int)] w fun e w' => ∃ a len cap, e = .returned (.agg #[.bool (negOf y), .slice a len cap, .int .i64 (pow y)]) ∧ IsNat w' (.slice a len cap) (mant y) ∧ Below w.heap.size w w') := fun w => (exact_ref y hy w).mono fun e w' ⟨v, he, hv, hb⟩ => by
    obtain ⟨a, len, cap, g, rfl, -, -, -⟩ := hv.slice
    exact ⟨a, len, cap, he, hv, hb⟩
  have ny := nd_mant y
  have qy := pow_range y
  have My : Hid (¬ kind y = 0 → mant y ≠ 0) := mant_some hy
  have hxor := top_xor x y hx hy
  have hxs := xs_lt x y
  have E0 : Hid (EmptyR (w.alloc (.cells #[.int .u64 0, .int .i64 0, .bool false] 39)) w.heap.size) := ⟨by simp, by go_simp, by go_simp, by go_simp, by go_simp, by go_simp, by go_simp⟩
  have B0 : Hid (Below w.heap.size w (w.alloc (.cells #[.int .u64 0, .int .i64 0, .bool false] 39))) := (Below.refl _ _).alloc (Nat.le_refl _) _
  have HQT : Hid (mant y ≠ 0 → ∀ w1 a1 l1 c1 a2 l2 c2, IsNat w1 (.slice a1 l1 c1) (mant x) → IsNat w1 (.slice a2 l2 c2) (mant y) → Calls Tryz.prog 45 #[.agg #[.bool (negOf x), .slice a1 l1 c1, .int .i64 (pow x)], .agg #[.bool (negOf y), .slice a2 l2 c2, .int .i64 (pow y)]] w1 fun e w' => ∃ a len cap, e = .returned (.agg #[.bool (negOf x != negOf y), .slice a len cap, .int .i64 (pow x - 120 - pow y - 1)]) ∧ IsNat w' (.slice a len cap) (quD (mant x) (mant y)) ∧ Below w1.heap.size w1 w') := fun h0 w1 a1 l1 c1 a2 l2 c2 k1 k2 =>
    quotient_ref (negOf x) (negOf y) a1 a2 l1 c1 l2 c2 (mant x) (mant y) (pow x) (pow y) w1 k1 k2 h0 (by omega) (by omega) (by omega) (by omega)
  have HFN : Hid (mant x ≠ 0 → ∀ w1 a3 l3 c3, IsNat w1 (.slice a3 l3 c3) (quD (mant x) (mant y)) → Calls Tryz.prog 43 #[.agg #[.bool (negOf x != negOf y), .slice a3 l3 c3, .int .i64 (pow x - 120 - pow y - 1)], .int .i64 m] w1 fun e w' => e = .returned (.agg #[.int .u64 (roundB (xs x y) (quD (mant x) (mant y)) (pow x - 120 - pow y - 1) m), .int .i64 (roundF (xs x y) (quD (mant x) (mant y)) (pow x - 120 - pow y - 1) m), .bool false]) ∧ Below w1.heap.size w1 w') := fun h0 w1 a3 l3 c3 k => by
    refine finite_of (negOf x != negOf y) a3 l3 c3 (pow x - 120 - pow y - 1) m _ _ w1 (fun w4 hb4 => ?_)
    have := round_ref (negOf x != negOf y) (quD (mant x) (mant y)) (pow x - 120 - pow y - 1) m a3 l3 c3 w4 (k.later hb4) (quD_some h0) (nd_quD (by omega)) (by omega) hm
    rw [sOf_xs hx hy] at this
    exact this
  have HPB : Hid (divB x y m = (if (kind x = 3 ∧ kind y = 3) ∨ (kind x = 0 ∧ kind y = 0) then 9221120237041090560 else if kind x = 3 then (xs x y : Int) * 9223372036854775808 + 9218868437227405312 else if kind y = 3 ∨ kind x = 0 then (xs x y : Int) * 9223372036854775808 else if kind y = 0 then (xs x y : Int) * 9223372036854775808 + 9218868437227405312 else roundB (xs x y) (quD (mant x) (mant y)) (pow x - 120 - pow y - 1) m)) := rfl
  have HPF : Hid (divF x y m = (if (kind x = 3 ∧ kind y = 3) ∨ (kind x = 0 ∧ kind y = 0) then 16 else if kind x = 3 then 0 else if kind y = 3 ∨ kind x = 0 then 0 else if kind y = 0 then 8 else roundF (xs x y) (quD (mant x) (mant y)) (pow x - 120 - pow y - 1) m)) := rfl
  clear hx hy hm nx ny qx qy
  generalize divB x y m = B at *
  generalize divF x y m = F at *
  generalize roundB (xs x y) (quD (mant x) (mant y)) (pow x - 120 - pow y - 1) m = RB at *
  generalize roundF (xs x y) (quD (mant x) (mant y)) (pow x - 120 - pow y - 1) m = RF at *
  generalize kind (x : Int) = KX at *
  generalize kind (y : Int) = KY at *
  by_cases c0 : (KX = 3) ∧ (KY = 3)
  · have bx3 : (KX == 3) = true := by rw [beq_iff_eq]; omega
    have bx0 : (KX == 0) = false := by rw [beq_eq_false_iff_ne]; omega
    have by3 : (KY == 3) = true := by rw [beq_iff_eq]; omega
    have by0 : (KY == 0) = false := by rw [beq_eq_false_iff_ne]; omega
    have HV : Hid (B = 9221120237041090560 ∧ F = 16) := ⟨by rw [HPB.out, if_pos (by omega)], by rw [HPF.out, if_pos (by omega)]⟩
    clear c0 HPB HPF Mx My
    go_enter Tryz.func22, Tryz.ntmps22
    go_wp2_with (first | (go_at_call_of 40 (Value.int .u64 (x : Int)); refine (HKX.out _).mono ?_; rintro e w' ⟨rfl, rfl⟩) | (go_at_call_of 40 (Value.int .u64 (y : Int)); refine (HKY.out _).mono ?_; rintro e w' ⟨rfl, rfl⟩))
    refine bodyPost_ret (v := .agg #[.int .u64 (9221120237041090560), .int .i64 16, .bool false]) (by simp [results, Tryz.results22, go_sem]) rfl ⟨by rw [HV.out.1, HV.out.2], ?_⟩
    repeat (first | exact B0.out | exact Below.refl _ _ | refine Below.alloc ?_ (by simp) _ | refine Below.setCell ?_ (by simp) _)
  by_cases c1 : (KX = 3) ∧ (KY = 0)
  · have bx3 : (KX == 3) = true := by rw [beq_iff_eq]; omega
    have bx0 : (KX == 0) = false := by rw [beq_eq_false_iff_ne]; omega
    have by3 : (KY == 3) = false := by rw [beq_eq_false_iff_ne]; omega
    have by0 : (KY == 0) = true := by rw [beq_iff_eq]; omega
    have HV : Hid (B = (xs x y : Int) * 9223372036854775808 + 9218868437227405312 ∧ F = 0) := ⟨by rw [HPB.out, if_neg (by omega), if_pos (by omega)], by rw [HPF.out, if_neg (by omega), if_pos (by omega)]⟩
    clear c1 c0 HPB HPF Mx My
    go_enter Tryz.func22, Tryz.ntmps22
    go_wp2_with (first | (go_at_call_of 40 (Value.int .u64 (x : Int)); refine (HKX.out _).mono ?_; rintro e w' ⟨rfl, rfl⟩) | (go_at_call_of 40 (Value.int .u64 (y : Int)); refine (HKY.out _).mono ?_; rintro e w' ⟨rfl, rfl⟩))
    refine bodyPost_ret (v := .agg #[.int .u64 ((xs x y : Int) * 9223372036854775808 + 9218868437227405312), .int .i64 0, .bool false]) (by simp [results, Tryz.results22, go_sem]) rfl ⟨by rw [HV.out.1, HV.out.2], ?_⟩
    repeat (first | exact B0.out | exact Below.refl _ _ | refine Below.alloc ?_ (by simp) _ | refine Below.setCell ?_ (by simp) _)
  by_cases c2 : (KX = 3) ∧ (KY ≠ 3 ∧ KY ≠ 0)
  · have bx3 : (KX == 3) = true := by rw [beq_iff_eq]; omega
    have bx0 : (KX == 0) = false := by rw [beq_eq_false_iff_ne]; omega
    have by3 : (KY == 3) = false := by rw [beq_eq_false_iff_ne]; omega
    have by0 : (KY == 0) = false := by rw [beq_eq_false_iff_ne]; omega
    have HV : Hid (B = (xs x y : Int) * 9223372036854775808 + 9218868437227405312 ∧ F = 0) := ⟨by rw [HPB.out, if_neg (by omega), if_pos (by omega)], by rw [HPF.out, if_neg (by omega), if_pos (by omega)]⟩
    clear c2 c0 c1 HPB HPF Mx My
    go_enter Tryz.func22, Tryz.ntmps22
    go_wp2_with (first | (go_at_call_of 40 (Value.int .u64 (x : Int)); refine (HKX.out _).mono ?_; rintro e w' ⟨rfl, rfl⟩) | (go_at_call_of 40 (Value.int .u64 (y : Int)); refine (HKY.out _).mono ?_; rintro e w' ⟨rfl, rfl⟩))
    refine bodyPost_ret (v := .agg #[.int .u64 ((xs x y : Int) * 9223372036854775808 + 9218868437227405312), .int .i64 0, .bool false]) (by simp [results, Tryz.results22, go_sem]) rfl ⟨by rw [HV.out.1, HV.out.2], ?_⟩
    repeat (first | exact B0.out | exact Below.refl _ _ | refine Below.alloc ?_ (by simp) _ | refine Below.setCell ?_ (by simp) _)
  by_cases c3 : (KX = 0) ∧ (KY = 3)
  · have bx3 : (KX == 3) = false := by rw [beq_eq_false_iff_ne]; omega
    have bx0 : (KX == 0) = true := by rw [beq_iff_eq]; omega
    have by3 : (KY == 3) = true := by rw [beq_iff_eq]; omega
    have by0 : (KY == 0) = false := by rw [beq_eq_false_iff_ne]; omega
    have HV : Hid (B = (xs x y : Int) * 9223372036854775808 ∧ F = 0) := ⟨by rw [HPB.out, if_neg (by omega), if_neg (by omega), if_pos (by omega)], by rw [HPF.out, if_neg (by omega), if_neg (by omega), if_pos (by omega)]⟩
    clear c3 c0 c1 c2 HPB HPF Mx My
    go_enter Tryz.func22, Tryz.ntmps22
    go_wp2_with (first | (go_at_call_of 40 (Value.int .u64 (x : Int)); refine (HKX.out _).mono ?_; rintro e w' ⟨rfl, rfl⟩) | (go_at_call_of 40 (Value.int .u64 (y : Int)); refine (HKY.out _).mono ?_; rintro e w' ⟨rfl, rfl⟩))
    refine bodyPost_ret (v := .agg #[.int .u64 ((xs x y : Int) * 9223372036854775808), .int .i64 0, .bool false]) (by simp [results, Tryz.results22, go_sem]) rfl ⟨by rw [HV.out.1, HV.out.2], ?_⟩
    repeat (first | exact B0.out | exact Below.refl _ _ | refine Below.alloc ?_ (by simp) _ | refine Below.setCell ?_ (by simp) _)
  by_cases c4 : (KX = 0) ∧ (KY = 0)
  · have bx3 : (KX == 3) = false := by rw [beq_eq_false_iff_ne]; omega
    have bx0 : (KX == 0) = true := by rw [beq_iff_eq]; omega
    have by3 : (KY == 3) = false := by rw [beq_eq_false_iff_ne]; omega
    have by0 : (KY == 0) = true := by rw [beq_iff_eq]; omega
    have HV : Hid (B = 9221120237041090560 ∧ F = 16) := ⟨by rw [HPB.out, if_pos (by omega)], by rw [HPF.out, if_pos (by omega)]⟩
    clear c4 c0 c1 c2 c3 HPB HPF Mx My
    go_enter Tryz.func22, Tryz.ntmps22
    go_wp2_with (first | (go_at_call_of 40 (Value.int .u64 (x : Int)); refine (HKX.out _).mono ?_; rintro e w' ⟨rfl, rfl⟩) | (go_at_call_of 40 (Value.int .u64 (y : Int)); refine (HKY.out _).mono ?_; rintro e w' ⟨rfl, rfl⟩))
    refine bodyPost_ret (v := .agg #[.int .u64 (9221120237041090560), .int .i64 16, .bool false]) (by simp [results, Tryz.results22, go_sem]) rfl ⟨by rw [HV.out.1, HV.out.2], ?_⟩
    repeat (first | exact B0.out | exact Below.refl _ _ | refine Below.alloc ?_ (by simp) _ | refine Below.setCell ?_ (by simp) _)
  by_cases c5 : (KX = 0) ∧ (KY ≠ 3 ∧ KY ≠ 0)
  · have bx3 : (KX == 3) = false := by rw [beq_eq_false_iff_ne]; omega
    have bx0 : (KX == 0) = true := by rw [beq_iff_eq]; omega
    have by3 : (KY == 3) = false := by rw [beq_eq_false_iff_ne]; omega
    have by0 : (KY == 0) = false := by rw [beq_eq_false_iff_ne]; omega
    have HV : Hid (B = (xs x y : Int) * 9223372036854775808 ∧ F = 0) := ⟨by rw [HPB.out, if_neg (by omega), if_neg (by omega), if_pos (by omega)], by rw [HPF.out, if_neg (by omega), if_neg (by omega), if_pos (by omega)]⟩
    clear c5 c0 c1 c2 c3 c4 HPB HPF Mx My
    go_enter Tryz.func22, Tryz.ntmps22
    go_wp2_with (first | (go_at_call_of 40 (Value.int .u64 (x : Int)); refine (HKX.out _).mono ?_; rintro e w' ⟨rfl, rfl⟩) | (go_at_call_of 40 (Value.int .u64 (y : Int)); refine (HKY.out _).mono ?_; rintro e w' ⟨rfl, rfl⟩))
    refine bodyPost_ret (v := .agg #[.int .u64 ((xs x y : Int) * 9223372036854775808), .int .i64 0, .bool false]) (by simp [results, Tryz.results22, go_sem]) rfl ⟨by rw [HV.out.1, HV.out.2], ?_⟩
    repeat (first | exact B0.out | exact Below.refl _ _ | refine Below.alloc ?_ (by simp) _ | refine Below.setCell ?_ (by simp) _)
  by_cases c6 : (KX ≠ 3 ∧ KX ≠ 0) ∧ (KY = 3)
  · have bx3 : (KX == 3) = false := by rw [beq_eq_false_iff_ne]; omega
    have bx0 : (KX == 0) = false := by rw [beq_eq_false_iff_ne]; omega
    have by3 : (KY == 3) = true := by rw [beq_iff_eq]; omega
    have by0 : (KY == 0) = false := by rw [beq_eq_false_iff_ne]; omega
    have HV : Hid (B = (xs x y : Int) * 9223372036854775808 ∧ F = 0) := ⟨by rw [HPB.out, if_neg (by omega), if_neg (by omega), if_pos (by omega)], by rw [HPF.out, if_neg (by omega), if_neg (by omega), if_pos (by omega)]⟩
    clear c6 c0 c1 c2 c3 c4 c5 HPB HPF Mx My
    go_enter Tryz.func22, Tryz.ntmps22
    go_wp2_with (first | (go_at_call_of 40 (Value.int .u64 (x : Int)); refine (HKX.out _).mono ?_; rintro e w' ⟨rfl, rfl⟩) | (go_at_call_of 40 (Value.int .u64 (y : Int)); refine (HKY.out _).mono ?_; rintro e w' ⟨rfl, rfl⟩))
    refine bodyPost_ret (v := .agg #[.int .u64 ((xs x y : Int) * 9223372036854775808), .int .i64 0, .bool false]) (by simp [results, Tryz.results22, go_sem]) rfl ⟨by rw [HV.out.1, HV.out.2], ?_⟩
    repeat (first | exact B0.out | exact Below.refl _ _ | refine Below.alloc ?_ (by simp) _ | refine Below.setCell ?_ (by simp) _)
  by_cases c7 : (KX ≠ 3 ∧ KX ≠ 0) ∧ (KY = 0)
  · have bx3 : (KX == 3) = false := by rw [beq_eq_false_iff_ne]; omega
    have bx0 : (KX == 0) = false := by rw [beq_eq_false_iff_ne]; omega
    have by3 : (KY == 3) = false := by rw [beq_eq_false_iff_ne]; omega
    have by0 : (KY == 0) = true := by rw [beq_iff_eq]; omega
    have HV : Hid (B = (xs x y : Int) * 9223372036854775808 + 9218868437227405312 ∧ F = 8) := ⟨by rw [HPB.out, if_neg (by omega), if_neg (by omega), if_neg (by omega), if_pos (by omega)], by rw [HPF.out, if_neg (by omega), if_neg (by omega), if_neg (by omega), if_pos (by omega)]⟩
    clear c7 c0 c1 c2 c3 c4 c5 c6 HPB HPF Mx My
    go_enter Tryz.func22, Tryz.ntmps22
    go_wp2_with (first | (go_at_call_of 40 (Value.int .u64 (x : Int)); refine (HKX.out _).mono ?_; rintro e w' ⟨rfl, rfl⟩) | (go_at_call_of 40 (Value.int .u64 (y : Int)); refine (HKY.out _).mono ?_; rintro e w' ⟨rfl, rfl⟩))
    refine bodyPost_ret (v := .agg #[.int .u64 ((xs x y : Int) * 9223372036854775808 + 9218868437227405312), .int .i64 8, .bool false]) (by simp [results, Tryz.results22, go_sem]) rfl ⟨by rw [HV.out.1, HV.out.2], ?_⟩
    repeat (first | exact B0.out | exact Below.refl _ _ | refine Below.alloc ?_ (by simp) _ | refine Below.setCell ?_ (by simp) _)
  by_cases c8 : (KX ≠ 3 ∧ KX ≠ 0) ∧ (KY ≠ 3 ∧ KY ≠ 0)
  · have bx3 : (KX == 3) = false := by rw [beq_eq_false_iff_ne]; omega
    have bx0 : (KX == 0) = false := by rw [beq_eq_false_iff_ne]; omega
    have by3 : (KY == 3) = false := by rw [beq_eq_false_iff_ne]; omega
    have by0 : (KY == 0) = false := by rw [beq_eq_false_iff_ne]; omega
    have HV : Hid (B = RB ∧ F = RF) := ⟨by rw [HPB.out, if_neg (by omega), if_neg (by omega), if_neg (by omega), if_neg (by omega)], by rw [HPF.out, if_neg (by omega), if_neg (by omega), if_neg (by omega), if_neg (by omega)]⟩
    have HMX : Hid (mant x ≠ 0) := Mx.out (by omega)
    have HMY : Hid (mant y ≠ 0) := My.out (by omega)
    clear c8 c0 c1 c2 c3 c4 c5 c6 c7 HPB HPF Mx My
    go_enter Tryz.func22, Tryz.ntmps22
    go_wp2_with (first | (go_at_call_of 40 (Value.int .u64 (x : Int)); refine (HKX.out _).mono ?_; rintro e w' ⟨rfl, rfl⟩) | (go_at_call_of 40 (Value.int .u64 (y : Int)); refine (HKY.out _).mono ?_; rintro e w' ⟨rfl, rfl⟩))
    refine (HEX.out _).mono ?_
    rintro e w1 ⟨a1, l1, c1, rfl, hv1, hb1⟩
    have V1 : Hid (IsNat w1 (.slice a1 l1 c1) (mant x) ∧ Below w.heap.size w w1 ∧ EmptyR w1 w.heap.size) := ⟨hv1, B0.out.trans (hb1.mono B0.out.size), E0.out.later hb1⟩
    clear hv1 hb1
    go_wp2_with fail
    refine (HEY.out _).mono ?_
    rintro e w2 ⟨a2, l2, c2, rfl, hv2, hb2⟩
    have V2 : Hid (IsNat w2 (.slice a1 l1 c1) (mant x) ∧ IsNat w2 (.slice a2 l2 c2) (mant y) ∧ Below w.heap.size w w2 ∧ EmptyR w2 w.heap.size) := ⟨V1.out.1.later hb2, hv2, V1.out.2.1.trans (hb2.mono V1.out.2.1.size), V1.out.2.2.later hb2⟩
    clear hv2 hb2 V1
    go_wp2_with fail
    refine (HQT.out HMY.out _ a1 l1 c1 a2 l2 c2 V2.out.1 V2.out.2.1).mono ?_
    rintro e w3 ⟨a3, l3, c3, rfl, hv3, hb3⟩
    have V3 : Hid (IsNat w3 (.slice a3 l3 c3) (quD (mant x) (mant y)) ∧ Below w.heap.size w w3 ∧ EmptyR w3 w.heap.size) := ⟨hv3, V2.out.2.2.1.trans (hb3.mono V2.out.2.2.1.size), V2.out.2.2.2.later hb3⟩
    clear hv3 hb3 V2
    go_wp2_with fail
    refine (HFN.out HMX.out _ a3 l3 c3 V3.out.1).mono ?_
    rintro e w5 ⟨rfl, hb5⟩
    have V5 : Hid (Below w.heap.size w w5) := V3.out.2.1.trans (hb5.mono V3.out.2.1.size)
    obtain ⟨k0, k1, k2, k3, k4, k5, k6⟩ := V3.out.2.2.later hb5
    clear hb5 V3
    go_wp2_with fail
    refine bodyPost_ret (v := .agg #[.int .u64 RB, .int .i64 RF, .bool false]) (by simp [results, Tryz.results22, go_sem, k1, k2, k3]) rfl ⟨by rw [HV.out.1, HV.out.2], ?_⟩
    repeat (first | exact V5.out | refine Below.setCell ?_ (by simp) _)
  exfalso
  omega
end Go.Proofs.YtcjihaafohnbeaaGreatDoor
