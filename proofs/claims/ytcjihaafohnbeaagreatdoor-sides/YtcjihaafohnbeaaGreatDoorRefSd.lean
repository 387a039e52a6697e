import Derived.Test.YtcjihaafohnbeaaGreatDoorRefRo
import Derived.Test.YtcjihaafohnbeaaGreatDoorDo9
import Derived.Test.YtcjihaafohnbeaaGreatDoorRefN1
import Derived.Test.YtcjihaafohnbeaaGreatDoorRefPn
import Derived.Test.YtcjihaafohnbeaaGreatDoorOf
namespace Go.Proofs.YtcjihaafohnbeaaGreatDoor
open Go.RowKit

theorem nd_al2 {x y : Nat} : nd (alN (mant x * mant x) (pow x + pow x) (pow y + pow y)) ≤ 200 := by
  have h1 := pow_range x
  have h2 := pow_range y
  have h3 := nd_mant x
  unfold alN
  refine Nat.le_trans (nd_mul_le _ _) ?_
  have h4 := nd_mul_le (mant x) (mant x)
  have h5 : nd (2 ^ (pow x + pow x - min (pow x + pow x) (pow y + pow y)).toNat) ≤ 180 := nd_pow (n := 179) (by omega)
  omega
theorem nd_ssD (x y : Nat) : nd (ssD x y) ≤ 500 := by
  refine Nat.le_trans (nd_add_le _ _) ?_
  have h1 := nd_al2 (x := x) (y := y)
  have h2 := nd_al2 (x := y) (y := x)
  omega
set_option maxRecDepth 10000 in
set_option maxHeartbeats 8000000 in
theorem sides_ref (x y : Nat) (m : Int) (hx : x < 18446744073709551616) (hy : y < 18446744073709551616) (hm : 0 ≤ m ∧ m ≤ 4) (w : World) :
    Calls Tryz.prog 24 #[.int .u64 (x : Nat), .int .u64 (y : Nat), .int .i64 m] w fun e w' =>
      e = .returned (.agg #[.int .u64 (sdB x y m), .int .i64 (sdF x y m), .bool false]) ∧ Below w.heap.size w w' := by
  have HKX : Hid (∀ w, Calls Tryz.prog 40 #[.int .u64 (x : Int)] w fun e w' => e = .returned (.int .i64 (kind x)) ∧ w' = w) := fun w => refKind_any (x : Int) (by omega) (by omega) w
  have HEX : Hid (∀ w, Calls Tryz.prog 42 #[.int .u64 (x : Int)] w fun e w' => ∃ a len cap, e = .returned (.agg #[.bool (negOf x), .slice a len cap, .int .i64 (pow x)]) ∧ IsNat w' (.slice a len cap) (mant x) ∧ Below w.heap.size w w') := fun w => (exact_ref x hx w).mono fun e w' ⟨v, he, hv, hb⟩ => by
    obtain ⟨a, len, cap, g, rfl, -, -, -⟩ := hv.slice
    exact ⟨a, len, cap, he, hv, hb⟩
  have nx := nd_mant x
  have qx := pow_range x
  have Mx : Hid (¬ kind x = 0 → mant x ≠ 0) := mant_some hx
  have HPX : Hid (∀ w1 a1 l1 c1 a2 l2 c2, IsNat w1 (.slice a1 l1 c1) (mant x) → IsNat w1 (.slice a2 l2 c2) (mant x) → Calls Tryz.prog 44 #[.agg #[.bool (negOf x), .slice a1 l1 c1, .int .i64 (pow x)], .agg #[.bool (negOf x), .slice a2 l2 c2, .int .i64 (pow x)]] w1 fun e w' => ∃ a len cap, e = .returned (.agg #[.bool false, .slice a len cap, .int .i64 (pow x + pow x)]) ∧ IsNat w' (.slice a len cap) (mant x * mant x) ∧ Below w1.heap.size w1 w') := fun w1 a1 l1 c1 a2 l2 c2 k1 k2 => by
    have := product_ref (negOf x) (negOf x) a1 a2 l1 c1 l2 c2 (mant x) (mant x) (pow x) (pow x) w1 k1 k2 (by omega) (by omega) (by omega)
    rw [bne_self_eq_false] at this
    exact this
  have HKY : Hid (∀ w, Calls Tryz.prog 40 #[.int .u64 (y : Int)] w fun e w' => e = .returned (.int .i64 (kind y)) ∧ w' = w) := fun w => refKind_any (y : Int) (by omega) (by omega) w
  have HEY : Hid (∀ w, Calls Tryz.prog 42 #[.int .u64 (y : Int)] w fun e w' => ∃ a len cap, e = .returned (.agg #[.bool (negOf y), .slice a len cap, .int .i64 (pow y)]) ∧ IsNat w' (.slice a len cap) (mant y) ∧ Below w.heap.size w w') := fun w => (exact_ref y hy w).mono fun e w' ⟨v, he, hv, hb⟩ => by
    obtain ⟨a, len, cap, g, rfl, -, -, -⟩ := hv.slice
    exact ⟨a, len, cap, he, hv, hb⟩
  have ny := nd_mant y
  have qy := pow_range y
  have My : Hid (¬ kind y = 0 → mant y ≠ 0) := mant_some hy
  have HPY : Hid (∀ w1 a1 l1 c1 a2 l2 c2, IsNat w1 (.slice a1 l1 c1) (mant y) → IsNat w1 (.slice a2 l2 c2) (mant y) → Calls Tryz.prog 44 #[.agg #[.bool (negOf y), .slice a1 l1 c1, .int .i64 (pow y)], .agg #[.bool (negOf y), .slice a2 l2 c2, .int .i64 (pow y)]] w1 fun e w' => ∃ a len cap, e = .returned (.agg #[.bool false, .slice a len cap, .int .i64 (pow y + pow y)]) ∧ IsNat w' (.slice a len cap) (mant y * mant y) ∧ Below w1.heap.size w1 w') := fun w1 a1 l1 c1 a2 l2 c2 k1 k2 => by
    have := product_ref (negOf y) (negOf y) a1 a2 l1 c1 l2 c2 (mant y) (mant y) (pow y) (pow y) w1 k1 k2 (by omega) (by omega) (by omega)
    rw [bne_self_eq_false] at this
    exact this
  have HSU : Hid (∀ w1 a1 l1 c1 a2 l2 c2, IsNat w1 (.slice a1 l1 c1) (mant x * mant x) → IsNat w1 (.slice a2 l2 c2) (mant y * mant y) → Calls Tryz.prog 47 #[.agg #[.bool false, .slice a1 l1 c1, .int .i64 (pow x + pow x)], .agg #[.bool false, .slice a2 l2 c2, .int .i64 (pow y + pow y)]] w1 fun e w' => ∃ a len cap, e = .returned (.agg #[.bool false, .slice a len cap, .int .i64 (ssP x y)]) ∧ IsNat w' (.slice a len cap) (ssD x y) ∧ Below w1.heap.size w1 w') := fun w1 a1 l1 c1 a2 l2 c2 k1 k2 => by
    have h1 := nd_mul_le (mant x) (mant x)
    have h2 := nd_mul_le (mant y) (mant y)
    have := sum_ref false false a1 a2 l1 c1 l2 c2 (mant x * mant x) (mant y * mant y) (pow x + pow x) (pow y + pow y) w1 k1 k2 (by omega) (by omega) (by omega) (by omega)
    rw [(sn_same (p := min (pow x + pow x) (pow y + pow y))).1, (sn_same (p := min (pow x + pow x) (pow y + pow y))).2.1, sn_same.2.2] at this
    exact this
  have E0 : Hid (EmptyR (w.alloc (.cells #[.int .u64 0, .int .i64 0, .bool false] 39)) w.heap.size) := ⟨by simp, by go_simp, by go_simp, by go_simp, by go_simp, by go_simp, by go_simp⟩
  have B0 : Hid (Below w.heap.size w (w.alloc (.cells #[.int .u64 0, .int .i64 0, .bool false] 39))) := (Below.refl _ _).alloc (Nat.le_refl _) _
  have HSQ : Hid (∀ w1 a1 l1 c1, IsNat w1 (.slice a1 l1 c1) (ssD x y) → Calls Tryz.prog 46 #[.agg #[.bool false, .slice a1 l1 c1, .int .i64 (ssP x y)]] w1 fun e w' => ∃ a len cap, e = .returned (.agg #[.bool false, .slice a len cap, .int .i64 (sqP (ssP x y))]) ∧ IsNat w' (.slice a len cap) (sqD (ssD x y) (ssP x y)) ∧ Below w1.heap.size w1 w') := fun w1 a1 l1 c1 k1 =>
    squareRoot_is false a1 l1 c1 (ssD x y) (ssP x y) w1 k1 (nd_ssD x y) (by have := ssP_range x y; omega)
  have HFN : Hid ((mant x ≠ 0 ∨ mant y ≠ 0) → ∀ w1 a3 l3 c3, IsNat w1 (.slice a3 l3 c3) (sqD (ssD x y) (ssP x y)) → Calls Tryz.prog 43 #[.agg #[.bool false, .slice a3 l3 c3, .int .i64 (sqP (ssP x y))], .int .i64 m] w1 fun e w' => e = .returned (.agg #[.int .u64 (roundB 0 (sqD (ssD x y) (ssP x y)) (sqP (ssP x y)) m), .int .i64 (roundF 0 (sqD (ssD x y) (ssP x y)) (sqP (ssP x y)) m), .bool false]) ∧ Below w1.heap.size w1 w') := fun h0 w1 a3 l3 c3 k => by
    refine finite_of false a3 l3 c3 (sqP (ssP x y)) m _ _ w1 (fun w4 hb4 => ?_)
    have hr := sqP_range (p := ssP x y) (by have := ssP_range x y; omega)
    exact round_ref false (sqD (ssD x y) (ssP x y)) (sqP (ssP x y)) m a3 l3 c3 w4 (k.later hb4) (sqD_some _ (ssD_some h0)) (nd_sqD _ (nd_ssD x y)) (by omega) hm
  have HPB : Hid (sdB x y m = (if kind x = 3 ∨ kind y = 3 then 9218868437227405312 else if kind x = 0 ∧ kind y = 0 then 0 else roundB 0 (sqD (ssD x y) (ssP x y)) (sqP (ssP x y)) m)) := rfl
  have HPF : Hid (sdF x y m = (if kind x = 3 ∨ kind y = 3 then 0 else if kind x = 0 ∧ kind y = 0 then 0 else roundF 0 (sqD (ssD x y) (ssP x y)) (sqP (ssP x y)) m)) := rfl
  clear hx hy hm nx ny qx qy
  generalize sdB x y m = B at *
  generalize sdF x y m = F at *
  generalize roundB 0 (sqD (ssD x y) (ssP x y)) (sqP (ssP x y)) m = RB at *
  generalize roundF 0 (sqD (ssD x y) (ssP x y)) (sqP (ssP x y)) m = RF at *
  generalize sqP (ssP x y) = SQP at *
  generalize sqD (ssD x y) (ssP x y) = SQD at *
  generalize ssP x y = SSP at *
  generalize ssD x y = SSD at *
  generalize kind (x : Int) = KX at *
  generalize kind (y : Int) = KY at *
  by_cases c0 : (KX = 3) ∧ (KY = 3)
  · have bx3 : (KX == 3) = true := by rw [beq_iff_eq]; omega
    have bx0 : (KX == 0) = false := by rw [beq_eq_false_iff_ne]; omega
    have by3 : (KY == 3) = true := by rw [beq_iff_eq]; omega
    have by0 : (KY == 0) = false := by rw [beq_eq_false_iff_ne]; omega
    have HV : Hid (B = 9218868437227405312 ∧ F = 0) := ⟨by rw [HPB.out, if_pos (by omega)], by rw [HPF.out, if_pos (by omega)]⟩
    clear c0 HPB HPF Mx My
    go_enter Tryz.func24, Tryz.ntmps24
    go_wp2_with (first | (go_at_call_of 40 (Value.int .u64 (x : Int)); refine (HKX.out _).mono ?_; rintro e w' ⟨rfl, rfl⟩) | (go_at_call_of 40 (Value.int .u64 (y : Int)); refine (HKY.out _).mono ?_; rintro e w' ⟨rfl, rfl⟩))
    refine bodyPost_ret (v := .agg #[.int .u64 (9218868437227405312), .int .i64 0, .bool false]) (by simp [results, Tryz.results24, go_sem]) rfl ⟨by rw [HV.out.1, HV.out.2], ?_⟩
    repeat (first | exact B0.out | exact Below.refl _ _ | refine Below.alloc ?_ (by simp) _ | refine Below.setCell ?_ (by simp) _)
  by_cases c1 : (KX = 3) ∧ (KY = 0)
  · have bx3 : (KX == 3) = true := by rw [beq_iff_eq]; omega
    have bx0 : (KX == 0) = false := by rw [beq_eq_false_iff_ne]; omega
    have by3 : (KY == 3) = false := by rw [beq_eq_false_iff_ne]; omega
    have by0 : (KY == 0) = true := by rw [beq_iff_eq]; omega
    have HV : Hid (B = 9218868437227405312 ∧ F = 0) := ⟨by rw [HPB.out, if_pos (by omega)], by rw [HPF.out, if_pos (by omega)]⟩
    clear c1 c0 HPB HPF Mx My
    go_enter Tryz.func24, Tryz.ntmps24
    go_wp2_with (first | (go_at_call_of 40 (Value.int .u64 (x : Int)); refine (HKX.out _).mono ?_; rintro e w' ⟨rfl, rfl⟩) | (go_at_call_of 40 (Value.int .u64 (y : Int)); refine (HKY.out _).mono ?_; rintro e w' ⟨rfl, rfl⟩))
    refine bodyPost_ret (v := .agg #[.int .u64 (9218868437227405312), .int .i64 0, .bool false]) (by simp [results, Tryz.results24, go_sem]) rfl ⟨by rw [HV.out.1, HV.out.2], ?_⟩
    repeat (first | exact B0.out | exact Below.refl _ _ | refine Below.alloc ?_ (by simp) _ | refine Below.setCell ?_ (by simp) _)
  by_cases c2 : (KX = 3) ∧ (KY ≠ 3 ∧ KY ≠ 0)
  · have bx3 : (KX == 3) = true := by rw [beq_iff_eq]; omega
    have bx0 : (KX == 0) = false := by rw [beq_eq_false_iff_ne]; omega
    have by3 : (KY == 3) = false := by rw [beq_eq_false_iff_ne]; omega
    have by0 : (KY == 0) = false := by rw [beq_eq_false_iff_ne]; omega
    have HV : Hid (B = 9218868437227405312 ∧ F = 0) := ⟨by rw [HPB.out, if_pos (by omega)], by rw [HPF.out, if_pos (by omega)]⟩
    clear c2 c0 c1 HPB HPF Mx My
    go_enter Tryz.func24, Tryz.ntmps24
    go_wp2_with (first | (go_at_call_of 40 (Value.int .u64 (x : Int)); refine (HKX.out _).mono ?_; rintro e w' ⟨rfl, rfl⟩) | (go_at_call_of 40 (Value.int .u64 (y : Int)); refine (HKY.out _).mono ?_; rintro e w' ⟨rfl, rfl⟩))
    refine bodyPost_ret (v := .agg #[.int .u64 (9218868437227405312), .int .i64 0, .bool false]) (by simp [results, Tryz.results24, go_sem]) rfl ⟨by rw [HV.out.1, HV.out.2], ?_⟩
    repeat (first | exact B0.out | exact Below.refl _ _ | refine Below.alloc ?_ (by simp) _ | refine Below.setCell ?_ (by simp) _)
  by_cases c3 : (KX = 0) ∧ (KY = 3)
  · have bx3 : (KX == 3) = false := by rw [beq_eq_false_iff_ne]; omega
    have bx0 : (KX == 0) = true := by rw [beq_iff_eq]; omega
    have by3 : (KY == 3) = true := by rw [beq_iff_eq]; omega
    have by0 : (KY == 0) = false := by rw [beq_eq_false_iff_ne]; omega
    have HV : Hid (B = 9218868437227405312 ∧ F = 0) := ⟨by rw [HPB.out, if_pos (by omega)], by rw [HPF.out, if_pos (by omega)]⟩
    clear c3 c0 c1 c2 HPB HPF Mx My
    go_enter Tryz.func24, Tryz.ntmps24
    go_wp2_with (first | (go_at_call_of 40 (Value.int .u64 (x : Int)); refine (HKX.out _).mono ?_; rintro e w' ⟨rfl, rfl⟩) | (go_at_call_of 40 (Value.int .u64 (y : Int)); refine (HKY.out _).mono ?_; rintro e w' ⟨rfl, rfl⟩))
    refine bodyPost_ret (v := .agg #[.int .u64 (9218868437227405312), .int .i64 0, .bool false]) (by simp [results, Tryz.results24, go_sem]) rfl ⟨by rw [HV.out.1, HV.out.2], ?_⟩
    repeat (first | exact B0.out | exact Below.refl _ _ | refine Below.alloc ?_ (by simp) _ | refine Below.setCell ?_ (by simp) _)
  by_cases c4 : (KX = 0) ∧ (KY = 0)
  · have bx3 : (KX == 3) = false := by rw [beq_eq_false_iff_ne]; omega
    have bx0 : (KX == 0) = true := by rw [beq_iff_eq]; omega
    have by3 : (KY == 3) = false := by rw [beq_eq_false_iff_ne]; omega
    have by0 : (KY == 0) = true := by rw [beq_iff_eq]; omega
    have HV : Hid (B = 0 ∧ F = 0) := ⟨by rw [HPB.out, if_neg (by omega), if_pos (by omega)], by rw [HPF.out, if_neg (by omega), if_pos (by omega)]⟩
    clear c4 c0 c1 c2 c3 HPB HPF Mx My
    go_enter Tryz.func24, Tryz.ntmps24
    go_wp2_with (first | (go_at_call_of 40 (Value.int .u64 (x : Int)); refine (HKX.out _).mono ?_; rintro e w' ⟨rfl, rfl⟩) | (go_at_call_of 40 (Value.int .u64 (y : Int)); refine (HKY.out _).mono ?_; rintro e w' ⟨rfl, rfl⟩))
    refine bodyPost_ret (v := .agg #[.int .u64 (0), .int .i64 0, .bool false]) (by simp [results, Tryz.results24, go_sem]) rfl ⟨by rw [HV.out.1, HV.out.2], ?_⟩
    repeat (first | exact B0.out | exact Below.refl _ _ | refine Below.alloc ?_ (by simp) _ | refine Below.setCell ?_ (by simp) _)
  by_cases c5 : (KX = 0) ∧ (KY ≠ 3 ∧ KY ≠ 0)
  · have bx3 : (KX == 3) = false := by rw [beq_eq_false_iff_ne]; omega
    have bx0 : (KX == 0) = true := by rw [beq_iff_eq]; omega
    have by3 : (KY == 3) = false := by rw [beq_eq_false_iff_ne]; omega
    have by0 : (KY == 0) = false := by rw [beq_eq_false_iff_ne]; omega
    have HV : Hid (B = RB ∧ F = RF) := ⟨by rw [HPB.out, if_neg (by omega), if_neg (by omega)], by rw [HPF.out, if_neg (by omega), if_neg (by omega)]⟩
    have HM : Hid (mant x ≠ 0 ∨ mant y ≠ 0) := .inr (My.out (by omega))
    clear c5 c0 c1 c2 c3 c4 HPB HPF Mx My
    go_enter Tryz.func24, Tryz.ntmps24
    go_wp2_with (first | (go_at_call_of 40 (Value.int .u64 (x : Int)); refine (HKX.out _).mono ?_; rintro e w' ⟨rfl, rfl⟩) | (go_at_call_of 40 (Value.int .u64 (y : Int)); refine (HKY.out _).mono ?_; rintro e w' ⟨rfl, rfl⟩))
    refine (HEX.out _).mono ?_
    rintro e w1 ⟨a1, l1, c1, rfl, hv1, hb1⟩
    have V1 : Hid (IsNat w1 (.slice a1 l1 c1) (mant x) ∧ Below w.heap.size w w1 ∧ EmptyR w1 w.heap.size) := ⟨hv1, B0.out.trans (hb1.mono B0.out.size), E0.out.later hb1⟩
    clear hv1 hb1
    go_wp2_with fail
    refine (HEX.out _).mono ?_
    rintro e w2 ⟨a2, l2, c2, rfl, hv2, hb2⟩
    have V2 : Hid (IsNat w2 (.slice a1 l1 c1) (mant x) ∧ IsNat w2 (.slice a2 l2 c2) (mant x) ∧ Below w.heap.size w w2 ∧ EmptyR w2 w.heap.size) := ⟨V1.out.1.later hb2, hv2, V1.out.2.1.trans (hb2.mono V1.out.2.1.size), V1.out.2.2.later hb2⟩
    clear hv2 hb2 V1
    go_wp2_with fail
    refine (HPX.out _ a1 l1 c1 a2 l2 c2 V2.out.1 V2.out.2.1).mono ?_
    rintro e w3 ⟨a3, l3, c3, rfl, hv3, hb3⟩
    have V3 : Hid (IsNat w3 (.slice a3 l3 c3) (mant x * mant x) ∧ Below w.heap.size w w3 ∧ EmptyR w3 w.heap.size) := ⟨hv3, V2.out.2.2.1.trans (hb3.mono V2.out.2.2.1.size), V2.out.2.2.2.later hb3⟩
    clear hv3 hb3 V2
    go_wp2_with fail
    refine (HEY.out _).mono ?_
    rintro e w4 ⟨a4, l4, c4, rfl, hv4, hb4⟩
    have hc4 : Below w3.heap.size w3 w4 := ((Below.refl _ _).alloc (Nat.le_refl _) _).trans (hb4.mono (by simp))
    have P4 : Hid (Blk w4 w3.heap.size [.bool false, .slice a3 l3 c3, .int .i64 (pow x + pow x)]) := (Blk.new _ _ _ (by simp)).later hb4
    have V4 : Hid (IsNat w4 (.slice a3 l3 c3) (mant x * mant x) ∧ IsNat w4 (.slice a4 l4 c4) (mant y) ∧ Below w.heap.size w w4 ∧ EmptyR w4 w.heap.size) := ⟨V3.out.1.later hc4, hv4, V3.out.2.1.trans (hc4.mono V3.out.2.1.size), V3.out.2.2.later hc4⟩
    clear hv4 hb4 hc4 V3
    go_wp2_with fail
    refine (HEY.out _).mono ?_
    rintro e w5 ⟨a5, l5, c5, rfl, hv5, hb5⟩
    have P5 : Hid (Blk w5 w3.heap.size [.bool false, .slice a3 l3 c3, .int .i64 (pow x + pow x)]) := P4.out.later hb5
    have V5 : Hid (IsNat w5 (.slice a3 l3 c3) (mant x * mant x) ∧ IsNat w5 (.slice a4 l4 c4) (mant y) ∧ IsNat w5 (.slice a5 l5 c5) (mant y) ∧ Below w.heap.size w w5 ∧ EmptyR w5 w.heap.size) := ⟨V4.out.1.later hb5, V4.out.2.1.later hb5, hv5, V4.out.2.2.1.trans (hb5.mono V4.out.2.2.1.size), V4.out.2.2.2.later hb5⟩
    clear hv5 hb5 V4 P4
    go_wp2_with fail
    refine (HPY.out _ a4 l4 c4 a5 l5 c5 V5.out.2.1 V5.out.2.2.1).mono ?_
    rintro e w6 ⟨a6, l6, c6, rfl, hv6, hb6⟩
    have P6 : Hid (Blk w6 w3.heap.size [.bool false, .slice a3 l3 c3, .int .i64 (pow x + pow x)]) := P5.out.later hb6
    have V6 : Hid (IsNat w6 (.slice a3 l3 c3) (mant x * mant x) ∧ IsNat w6 (.slice a6 l6 c6) (mant y * mant y) ∧ Below w.heap.size w w6 ∧ EmptyR w6 w.heap.size) := ⟨V5.out.1.later hb6, hv6, V5.out.2.2.2.1.trans (hb6.mono V5.out.2.2.2.1.size), V5.out.2.2.2.2.later hb6⟩
    clear hv6 hb6 V5 P5
    have p0 := P6.out.cells 0 _ rfl
    have p1 := P6.out.cells 1 _ rfl
    have p2 := P6.out.cells 2 _ rfl
    have plt := P6.out.lt
    go_wp2_with fail
    have hc6 : Below w6.heap.size w6 (w6.alloc (.cells #[.bool false, .slice a6 l6 c6, .int .i64 (pow y + pow y)] 63)) := (Below.refl _ _).alloc (Nat.le_refl _) _
    refine (HSU.out _ a3 l3 c3 a6 l6 c6 (V6.out.1.later hc6) (V6.out.2.1.later hc6)).mono ?_
    rintro e w7 ⟨a7, l7, c7, rfl, hv7, hb7⟩
    have hc7 : Below w6.heap.size w6 w7 := hc6.trans (hb7.mono (by simp))
    have V7 : Hid (IsNat w7 (.slice a7 l7 c7) SSD ∧ Below w.heap.size w w7 ∧ EmptyR w7 w.heap.size) := ⟨hv7, V6.out.2.2.1.trans (hc7.mono V6.out.2.2.1.size), V6.out.2.2.2.later hc7⟩
    clear hv7 hb7 hc6 hc7 V6 P6 p0 p1 p2 plt
    go_wp2_with fail
    refine (HSQ.out _ a7 l7 c7 V7.out.1).mono ?_
    rintro e w8 ⟨a8, l8, c8, rfl, hv8, hb8⟩
    have V8 : Hid (IsNat w8 (.slice a8 l8 c8) SQD ∧ Below w.heap.size w w8 ∧ EmptyR w8 w.heap.size) := ⟨hv8, V7.out.2.1.trans (hb8.mono V7.out.2.1.size), V7.out.2.2.later hb8⟩
    clear hv8 hb8 V7
    go_wp2_with fail
    refine (HFN.out HM.out _ a8 l8 c8 V8.out.1).mono ?_
    rintro e w9 ⟨rfl, hb9⟩
    have V9 : Hid (Below w.heap.size w w9) := V8.out.2.1.trans (hb9.mono V8.out.2.1.size)
    obtain ⟨k0, k1, k2, k3, k4, k5, k6⟩ := V8.out.2.2.later hb9
    clear hb9 V8
    go_wp2_with fail
    refine bodyPost_ret (v := .agg #[.int .u64 RB, .int .i64 RF, .bool false]) (by simp [results, Tryz.results24, go_sem, k1, k2, k3]) rfl ⟨by rw [HV.out.1, HV.out.2], ?_⟩
    repeat (first | exact V9.out | refine Below.setCell ?_ (by simp) _)
  by_cases c6 : (KX ≠ 3 ∧ KX ≠ 0) ∧ (KY = 3)
  · have bx3 : (KX == 3) = false := by rw [beq_eq_false_iff_ne]; omega
    have bx0 : (KX == 0) = false := by rw [beq_eq_false_iff_ne]; omega
    have by3 : (KY == 3) = true := by rw [beq_iff_eq]; omega
    have by0 : (KY == 0) = false := by rw [beq_eq_false_iff_ne]; omega
    have HV : Hid (B = 9218868437227405312 ∧ F = 0) := ⟨by rw [HPB.out, if_pos (by omega)], by rw [HPF.out, if_pos (by omega)]⟩
    clear c6 c0 c1 c2 c3 c4 c5 HPB HPF Mx My
    go_enter Tryz.func24, Tryz.ntmps24
    go_wp2_with (first | (go_at_call_of 40 (Value.int .u64 (x : Int)); refine (HKX.out _).mono ?_; rintro e w' ⟨rfl, rfl⟩) | (go_at_call_of 40 (Value.int .u64 (y : Int)); refine (HKY.out _).mono ?_; rintro e w' ⟨rfl, rfl⟩))
    refine bodyPost_ret (v := .agg #[.int .u64 (9218868437227405312), .int .i64 0, .bool false]) (by simp [results, Tryz.results24, go_sem]) rfl ⟨by rw [HV.out.1, HV.out.2], ?_⟩
    repeat (first | exact B0.out | exact Below.refl _ _ | refine Below.alloc ?_ (by simp) _ | refine Below.setCell ?_ (by simp) _)
  by_cases c7 : (KX ≠ 3 ∧ KX ≠ 0) ∧ (KY = 0)
  · have bx3 : (KX == 3) = false := by rw [beq_eq_false_iff_ne]; omega
    have bx0 : (KX == 0) = false := by rw [beq_eq_false_iff_ne]; omega
    have by3 : (KY == 3) = false := by rw [beq_eq_false_iff_ne]; omega
    have by0 : (KY == 0) = true := by rw [beq_iff_eq]; omega
    have HV : Hid (B = RB ∧ F = RF) := ⟨by rw [HPB.out, if_neg (by omega), if_neg (by omega)], by rw [HPF.out, if_neg (by omega), if_neg (by omega)]⟩
    have HM : Hid (mant x ≠ 0 ∨ mant y ≠ 0) := .inl (Mx.out (by omega))
    clear c7 c0 c1 c2 c3 c4 c5 c6 HPB HPF Mx My
    go_enter Tryz.func24, Tryz.ntmps24
    go_wp2_with (first | (go_at_call_of 40 (Value.int .u64 (x : Int)); refine (HKX.out _).mono ?_; rintro e w' ⟨rfl, rfl⟩) | (go_at_call_of 40 (Value.int .u64 (y : Int)); refine (HKY.out _).mono ?_; rintro e w' ⟨rfl, rfl⟩))
    refine (HEX.out _).mono ?_
    rintro e w1 ⟨a1, l1, c1, rfl, hv1, hb1⟩
    have V1 : Hid (IsNat w1 (.slice a1 l1 c1) (mant x) ∧ Below w.heap.size w w1 ∧ EmptyR w1 w.heap.size) := ⟨hv1, B0.out.trans (hb1.mono B0.out.size), E0.out.later hb1⟩
    clear hv1 hb1
    go_wp2_with fail
    refine (HEX.out _).mono ?_
    rintro e w2 ⟨a2, l2, c2, rfl, hv2, hb2⟩
    have V2 : Hid (IsNat w2 (.slice a1 l1 c1) (mant x) ∧ IsNat w2 (.slice a2 l2 c2) (mant x) ∧ Below w.heap.size w w2 ∧ EmptyR w2 w.heap.size) := ⟨V1.out.1.later hb2, hv2, V1.out.2.1.trans (hb2.mono V1.out.2.1.size), V1.out.2.2.later hb2⟩
    clear hv2 hb2 V1
    go_wp2_with fail
    refine (HPX.out _ a1 l1 c1 a2 l2 c2 V2.out.1 V2.out.2.1).mono ?_
    rintro e w3 ⟨a3, l3, c3, rfl, hv3, hb3⟩
    have V3 : Hid (IsNat w3 (.slice a3 l3 c3) (mant x * mant x) ∧ Below w.heap.size w w3 ∧ EmptyR w3 w.heap.size) := ⟨hv3, V2.out.2.2.1.trans (hb3.mono V2.out.2.2.1.size), V2.out.2.2.2.later hb3⟩
    clear hv3 hb3 V2
    go_wp2_with fail
    refine (HEY.out _).mono ?_
    rintro e w4 ⟨a4, l4, c4, rfl, hv4, hb4⟩
    have hc4 : Below w3.heap.size w3 w4 := ((Below.refl _ _).alloc (Nat.le_refl _) _).trans (hb4.mono (by simp))
    have P4 : Hid (Blk w4 w3.heap.size [.bool false, .slice a3 l3 c3, .int .i64 (pow x + pow x)]) := (Blk.new _ _ _ (by simp)).later hb4
    have V4 : Hid (IsNat w4 (.slice a3 l3 c3) (mant x * mant x) ∧ IsNat w4 (.slice a4 l4 c4) (mant y) ∧ Below w.heap.size w w4 ∧ EmptyR w4 w.heap.size) := ⟨V3.out.1.later hc4, hv4, V3.out.2.1.trans (hc4.mono V3.out.2.1.size), V3.out.2.2.later hc4⟩
    clear hv4 hb4 hc4 V3
    go_wp2_with fail
    refine (HEY.out _).mono ?_
    rintro e w5 ⟨a5, l5, c5, rfl, hv5, hb5⟩
    have P5 : Hid (Blk w5 w3.heap.size [.bool false, .slice a3 l3 c3, .int .i64 (pow x + pow x)]) := P4.out.later hb5
    have V5 : Hid (IsNat w5 (.slice a3 l3 c3) (mant x * mant x) ∧ IsNat w5 (.slice a4 l4 c4) (mant y) ∧ IsNat w5 (.slice a5 l5 c5) (mant y) ∧ Below w.heap.size w w5 ∧ EmptyR w5 w.heap.size) := ⟨V4.out.1.later hb5, V4.out.2.1.later hb5, hv5, V4.out.2.2.1.trans (hb5.mono V4.out.2.2.1.size), V4.out.2.2.2.later hb5⟩
    clear hv5 hb5 V4 P4
    go_wp2_with fail
    refine (HPY.out _ a4 l4 c4 a5 l5 c5 V5.out.2.1 V5.out.2.2.1).mono ?_
    rintro e w6 ⟨a6, l6, c6, rfl, hv6, hb6⟩
    have P6 : Hid (Blk w6 w3.heap.size [.bool false, .slice a3 l3 c3, .int .i64 (pow x + pow x)]) := P5.out.later hb6
    have V6 : Hid (IsNat w6 (.slice a3 l3 c3) (mant x * mant x) ∧ IsNat w6 (.slice a6 l6 c6) (mant y * mant y) ∧ Below w.heap.size w w6 ∧ EmptyR w6 w.heap.size) := ⟨V5.out.1.later hb6, hv6, V5.out.2.2.2.1.trans (hb6.mono V5.out.2.2.2.1.size), V5.out.2.2.2.2.later hb6⟩
    clear hv6 hb6 V5 P5
    have p0 := P6.out.cells 0 _ rfl
    have p1 := P6.out.cells 1 _ rfl
    have p2 := P6.out.cells 2 _ rfl
    have plt := P6.out.lt
    go_wp2_with fail
    have hc6 : Below w6.heap.size w6 (w6.alloc (.cells #[.bool false, .slice a6 l6 c6, .int .i64 (pow y + pow y)] 63)) := (Below.refl _ _).alloc (Nat.le_refl _) _
    refine (HSU.out _ a3 l3 c3 a6 l6 c6 (V6.out.1.later hc6) (V6.out.2.1.later hc6)).mono ?_
    rintro e w7 ⟨a7, l7, c7, rfl, hv7, hb7⟩
    have hc7 : Below w6.heap.size w6 w7 := hc6.trans (hb7.mono (by simp))
    have V7 : Hid (IsNat w7 (.slice a7 l7 c7) SSD ∧ Below w.heap.size w w7 ∧ EmptyR w7 w.heap.size) := ⟨hv7, V6.out.2.2.1.trans (hc7.mono V6.out.2.2.1.size), V6.out.2.2.2.later hc7⟩
    clear hv7 hb7 hc6 hc7 V6 P6 p0 p1 p2 plt
    go_wp2_with fail
    refine (HSQ.out _ a7 l7 c7 V7.out.1).mono ?_
    rintro e w8 ⟨a8, l8, c8, rfl, hv8, hb8⟩
    have V8 : Hid (IsNat w8 (.slice a8 l8 c8) SQD ∧ Below w.heap.size w w8 ∧ EmptyR w8 w.heap.size) := ⟨hv8, V7.out.2.1.trans (hb8.mono V7.out.2.1.size), V7.out.2.2.later hb8⟩
    clear hv8 hb8 V7
    go_wp2_with fail
    refine (HFN.out HM.out _ a8 l8 c8 V8.out.1).mono ?_
    rintro e w9 ⟨rfl, hb9⟩
    have V9 : Hid (Below w.heap.size w w9) := V8.out.2.1.trans (hb9.mono V8.out.2.1.size)
    obtain ⟨k0, k1, k2, k3, k4, k5, k6⟩ := V8.out.2.2.later hb9
    clear hb9 V8
    go_wp2_with fail
    refine bodyPost_ret (v := .agg #[.int .u64 RB, .int .i64 RF, .bool false]) (by simp [results, Tryz.results24, go_sem, k1, k2, k3]) rfl ⟨by rw [HV.out.1, HV.out.2], ?_⟩
    repeat (first | exact V9.out | refine Below.setCell ?_ (by simp) _)
  by_cases c8 : (KX ≠ 3 ∧ KX ≠ 0) ∧ (KY ≠ 3 ∧ KY ≠ 0)
  · have bx3 : (KX == 3) = false := by rw [beq_eq_false_iff_ne]; omega
    have bx0 : (KX == 0) = false := by rw [beq_eq_false_iff_ne]; omega
    have by3 : (KY == 3) = false := by rw [beq_eq_false_iff_ne]; omega
    have by0 : (KY == 0) = false := by rw [beq_eq_false_iff_ne]; omega
    have HV : Hid (B = RB ∧ F = RF) := ⟨by rw [HPB.out, if_neg (by omega), if_neg (by omega)], by rw [HPF.out, if_neg (by omega), if_neg (by omega)]⟩
    have HM : Hid (mant x ≠ 0 ∨ mant y ≠ 0) := .inl (Mx.out (by omega))
    clear c8 c0 c1 c2 c3 c4 c5 c6 c7 HPB HPF Mx My
    go_enter Tryz.func24, Tryz.ntmps24
    go_wp2_with (first | (go_at_call_of 40 (Value.int .u64 (x : Int)); refine (HKX.out _).mono ?_; rintro e w' ⟨rfl, rfl⟩) | (go_at_call_of 40 (Value.int .u64 (y : Int)); refine (HKY.out _).mono ?_; rintro e w' ⟨rfl, rfl⟩))
    refine (HEX.out _).mono ?_
    rintro e w1 ⟨a1, l1, c1, rfl, hv1, hb1⟩
    have V1 : Hid (IsNat w1 (.slice a1 l1 c1) (mant x) ∧ Below w.heap.size w w1 ∧ EmptyR w1 w.heap.size) := ⟨hv1, B0.out.trans (hb1.mono B0.out.size), E0.out.later hb1⟩
    clear hv1 hb1
    go_wp2_with fail
    refine (HEX.out _).mono ?_
    rintro e w2 ⟨a2, l2, c2, rfl, hv2, hb2⟩
    have V2 : Hid (IsNat w2 (.slice a1 l1 c1) (mant x) ∧ IsNat w2 (.slice a2 l2 c2) (mant x) ∧ Below w.heap.size w w2 ∧ EmptyR w2 w.heap.size) := ⟨V1.out.1.later hb2, hv2, V1.out.2.1.trans (hb2.mono V1.out.2.1.size), V1.out.2.2.later hb2⟩
    clear hv2 hb2 V1
    go_wp2_with fail
    refine (HPX.out _ a1 l1 c1 a2 l2 c2 V2.out.1 V2.out.2.1).mono ?_
    rintro e w3 ⟨a3, l3, c3, rfl, hv3, hb3⟩
    have V3 : Hid (IsNat w3 (.slice a3 l3 c3) (mant x * mant x) ∧ Below w.heap.size w w3 ∧ EmptyR w3 w.heap.size) := ⟨hv3, V2.out.2.2.1.trans (hb3.mono V2.out.2.2.1.size), V2.out.2.2.2.later hb3⟩
    clear hv3 hb3 V2
    go_wp2_with fail
    refine (HEY.out _).mono ?_
    rintro e w4 ⟨a4, l4, c4, rfl, hv4, hb4⟩
    have hc4 : Below w3.heap.size w3 w4 := ((Below.refl _ _).alloc (Nat.le_refl _) _).trans (hb4.mono (by simp))
    have P4 : Hid (Blk w4 w3.heap.size [.bool false, .slice a3 l3 c3, .int .i64 (pow x + pow x)]) := (Blk.new _ _ _ (by simp)).later hb4
    have V4 : Hid (IsNat w4 (.slice a3 l3 c3) (mant x * mant x) ∧ IsNat w4 (.slice a4 l4 c4) (mant y) ∧ Below w.heap.size w w4 ∧ EmptyR w4 w.heap.size) := ⟨V3.out.1.later hc4, hv4, V3.out.2.1.trans (hc4.mono V3.out.2.1.size), V3.out.2.2.later hc4⟩
    clear hv4 hb4 hc4 V3
    go_wp2_with fail
    refine (HEY.out _).mono ?_
    rintro e w5 ⟨a5, l5, c5, rfl, hv5, hb5⟩
    have P5 : Hid (Blk w5 w3.heap.size [.bool false, .slice a3 l3 c3, .int .i64 (pow x + pow x)]) := P4.out.later hb5
    have V5 : Hid (IsNat w5 (.slice a3 l3 c3) (mant x * mant x) ∧ IsNat w5 (.slice a4 l4 c4) (mant y) ∧ IsNat w5 (.slice a5 l5 c5) (mant y) ∧ Below w.heap.size w w5 ∧ EmptyR w5 w.heap.size) := ⟨V4.out.1.later hb5, V4.out.2.1.later hb5, hv5, V4.out.2.2.1.trans (hb5.mono V4.out.2.2.1.size), V4.out.2.2.2.later hb5⟩
    clear hv5 hb5 V4 P4
    go_wp2_with fail
    refine (HPY.out _ a4 l4 c4 a5 l5 c5 V5.out.2.1 V5.out.2.2.1).mono ?_
    rintro e w6 ⟨a6, l6, c6, rfl, hv6, hb6⟩
    have P6 : Hid (Blk w6 w3.heap.size [.bool false, .slice a3 l3 c3, .int .i64 (pow x + pow x)]) := P5.out.later hb6
    have V6 : Hid (IsNat w6 (.slice a3 l3 c3) (mant x * mant x) ∧ IsNat w6 (.slice a6 l6 c6) (mant y * mant y) ∧ Below w.heap.size w w6 ∧ EmptyR w6 w.heap.size) := ⟨V5.out.1.later hb6, hv6, V5.out.2.2.2.1.trans (hb6.mono V5.out.2.2.2.1.size), V5.out.2.2.2.2.later hb6⟩
    clear hv6 hb6 V5 P5
    have p0 := P6.out.cells 0 _ rfl
    have p1 := P6.out.cells 1 _ rfl
    have p2 := P6.out.cells 2 _ rfl
    have plt := P6.out.lt
    go_wp2_with fail
    have hc6 : Below w6.heap.size w6 (w6.alloc (.cells #[.bool false, .slice a6 l6 c6, .int .i64 (pow y + pow y)] 63)) := (Below.refl _ _).alloc (Nat.le_refl _) _
    refine (HSU.out _ a3 l3 c3 a6 l6 c6 (V6.out.1.later hc6) (V6.out.2.1.later hc6)).mono ?_
    rintro e w7 ⟨a7, l7, c7, rfl, hv7, hb7⟩
    have hc7 : Below w6.heap.size w6 w7 := hc6.trans (hb7.mono (by simp))
    have V7 : Hid (IsNat w7 (.slice a7 l7 c7) SSD ∧ Below w.heap.size w w7 ∧ EmptyR w7 w.heap.size) := ⟨hv7, V6.out.2.2.1.trans (hc7.mono V6.out.2.2.1.size), V6.out.2.2.2.later hc7⟩
    clear hv7 hb7 hc6 hc7 V6 P6 p0 p1 p2 plt
    go_wp2_with fail
    refine (HSQ.out _ a7 l7 c7 V7.out.1).mono ?_
    rintro e w8 ⟨a8, l8, c8, rfl, hv8, hb8⟩
    have V8 : Hid (IsNat w8 (.slice a8 l8 c8) SQD ∧ Below w.heap.size w w8 ∧ EmptyR w8 w.heap.size) := ⟨hv8, V7.out.2.1.trans (hb8.mono V7.out.2.1.size), V7.out.2.2.later hb8⟩
    clear hv8 hb8 V7
    go_wp2_with fail
    refine (HFN.out HM.out _ a8 l8 c8 V8.out.1).mono ?_
    rintro e w9 ⟨rfl, hb9⟩
    have V9 : Hid (Below w.heap.size w w9) := V8.out.2.1.trans (hb9.mono V8.out.2.1.size)
    obtain ⟨k0, k1, k2, k3, k4, k5, k6⟩ := V8.out.2.2.later hb9
    clear hb9 V8
    go_wp2_with fail
    refine bodyPost_ret (v := .agg #[.int .u64 RB, .int .i64 RF, .bool false]) (by simp [results, Tryz.results24, go_sem, k1, k2, k3]) rfl ⟨by rw [HV.out.1, HV.out.2], ?_⟩
    repeat (first | exact V9.out | refine Below.setCell ?_ (by simp) _)
  exfalso
  omega


set_option maxHeartbeats 400000 in
theorem operands9_any (m x y z : Int) (w : World) :
    Calls Tryz.prog 39 #[.agg #[.int .i64 9, .int .i64 m, .int .u64 x, .int .u64 y, .int .u64 z]] w fun e w' =>
      e = .returned (.slice (some ⟨w.heap.size + 1, 0, none⟩) 2 2) ∧ w' = (w.alloc (.cells #[.int .i64 9, .int .i64 m, .int .u64 x, .int .u64 y, .int .u64 z] 41)).alloc (.cells #[.int .u64 x, .int .u64 y] 25) := by
  go_enter Tryz.func39, Tryz.ntmps39
  go_wp2
  go_ret
  exact ⟨rfl, rfl⟩

set_option maxHeartbeats 1000000 in
theorem nans9_any (m x y z : Int) (hx : 0 ≤ x ∧ x < 18446744073709551616) (hy : 0 ≤ y ∧ y < 18446744073709551616) (hz : 0 ≤ z ∧ z < 18446744073709551616) (w : World) :
    Calls Tryz.prog 19 #[.agg #[.int .i64 9, .int .i64 m, .int .u64 x, .int .u64 y, .int .u64 z]] w fun e w' =>
      e = .returned (.tuple #[.agg #[.int .u64 (n9B x y), .int .i64 (nanFlag [x, y]), .bool false], .bool (anyN [x, y])]) ∧ Below w.heap.size w w' := by
  go_enter Tryz.func19, Tryz.ntmps19
  go_wp2_with (go_at_call 39; refine (operands9_any m x y z _).mono ?_; rintro e w' ⟨rfl, rfl⟩)
  go_loop [5, 6, 7, 8] (fun fs ld i _ => ∃ k : Nat, k ≤ 2 ∧ i = .int .i64 k ∧ fs = .int .i64 (fi x ([x, y].take k)) ∧ ld = .int .i64 (nanFlag ([x, y].take k))) (fun _ _ i _ => 2 - (intOf i).toNat)
  case atStart => exact ⟨0, by omega, rfl, rfl, rfl⟩
  case round =>
    obtain ⟨k, hk, rfl, rfl, rfl⟩ := hrel
    have kx := kind_range x
    have ky := kind_range y
    match k, hk with
    | 0, _ =>
      go_wp2_with (go_at_call 40; refine (refKind_any x hx.1 hx.2 _).mono ?_; rintro e w' ⟨rfl, rfl⟩)
      all_goals
        go_round
        case rel =>
          go_light
          simp only [beq_iff_eq, beq_eq_false_iff_ne, ne_eq] at *
          refine ⟨1, by omega, by go_num, ?_, ?_⟩
          · congr 1; simp [fi, isN, *] <;> (intros; omega)
          · congr 1; simp [nanFlag, isS, *] <;> (intros; omega)
        case measure => simp [intOf]
    | 1, _ =>
      by_cases hx4 : 4 ≤ kind x
      · have hfi : fi x [x] = 0 := by simp [fi, isN, hx4]
        go_wp2_with (go_at_call 40; refine (refKind_any y hy.1 hy.2 _).mono ?_; rintro e w' ⟨rfl, rfl⟩)
        all_goals
          go_round
          case rel =>
            go_light
            simp only [beq_iff_eq, beq_eq_false_iff_ne, ne_eq] at *
            refine ⟨2, by omega, by go_num, ?_, ?_⟩
            · congr 1; simp [fi, isN, *] <;> (intros; omega)
            · congr 1; simp [nanFlag, isS, *] <;> (intros; omega)
          case measure => simp [intOf]
      · have hfi : fi x [x] = -1 := by simp [fi, isN, hx4]
        go_wp2_with (go_at_call 40; refine (refKind_any y hy.1 hy.2 _).mono ?_; rintro e w' ⟨rfl, rfl⟩)
        all_goals
          go_round
          case rel =>
            go_light
            simp only [beq_iff_eq, beq_eq_false_iff_ne, ne_eq] at *
            refine ⟨2, by omega, by go_num, ?_, ?_⟩
            · congr 1; simp [fi, isN, *] <;> (intros; omega)
            · congr 1; simp [nanFlag, isS, *] <;> (intros; omega)
          case measure => simp [intOf]
    | 2, _ =>
      have e2 : ((2 : Nat) : Int) = 2 := rfl
      by_cases hx4 : 4 ≤ kind x
      · have hfi : fi x [x, y] = 0 := by simp [fi, isN, hx4]
        have HN : Hid (anyN [x, y] = true ∧ nanBits [x, y] = bits .or .u64 x 2251799813685248) := ⟨by simp [anyN, isN, hx4], by simp [nanBits, isN, hx4]⟩
        have bx : (kind x == 3) = false := by rw [beq_eq_false_iff_ne]; omega
        by_cases hf : nanFlag [x, y] = 0
        · have bf : (nanFlag [x, y] == 0) = true := by rw [beq_iff_eq]; exact hf
          have HF : Hid (nanFlag [x, y] = 0) := hf
          by_cases h3 : kind y = 3
          · have b3 : (kind y == 3) = true := by rw [beq_iff_eq]; exact h3
            have HV : Hid (n9B x y = 9218868437227405312) := (by unfold n9B; rw [if_pos ⟨HN.out.1, hf, .inr h3⟩] : n9B x y = 9218868437227405312)
            clear hf h3
            go_wp2_with fail
            refine (refKind_any x hx.1 hx.2 _).mono ?_; rintro e w' ⟨rfl, rfl⟩
            go_wp2_with fail
            refine (refKind_any y hy.1 hy.2 _).mono ?_; rintro e w' ⟨rfl, rfl⟩
            go_wp2_with fail
            refine (refKind_any z hz.1 hz.2 _).mono ?_; rintro e w' ⟨rfl, rfl⟩
            generalize kind x = KX at *
            generalize kind y = KY at *
            generalize kind z = KZ at *
            go_wp2_with fail
            refine bodyPost_ret (v := .tuple #[.agg #[.int .u64 9218868437227405312, .int .i64 0, .bool false], .bool true]) (by simp [results, Tryz.results19, go_sem]) rfl ⟨by rw [HN.out.1, HV.out, HF.out], ?_⟩
            exact ((((Below.refl _ _).alloc (Nat.le_refl _) _).alloc (by simp) _).alloc (by simp; omega) _).alloc (by simp; omega) _
          · have b3 : (kind y == 3) = false := by rw [beq_eq_false_iff_ne]; exact h3
            have HV : Hid (n9B x y = bits .or .u64 x 2251799813685248) := (by unfold n9B; rw [if_neg (fun g => by have := g.2.2; omega), HN.out.2] : n9B x y = bits .or .u64 x 2251799813685248)
            clear hf h3 hx4 kx ky
            go_wp2_with fail
            refine (refKind_any x hx.1 hx.2 _).mono ?_; rintro e w' ⟨rfl, rfl⟩
            go_wp2_with fail
            refine (refKind_any y hy.1 hy.2 _).mono ?_; rintro e w' ⟨rfl, rfl⟩
            go_wp2_with fail
            refine (refKind_any z hz.1 hz.2 _).mono ?_; rintro e w' ⟨rfl, rfl⟩
            generalize kind x = KX at *
            generalize kind y = KY at *
            generalize kind z = KZ at *
            go_wp2_with fail
            refine bodyPost_ret (v := .tuple #[.agg #[.int .u64 (bits .or .u64 x 2251799813685248), .int .i64 (nanFlag [x, y]), .bool false], .bool true]) (by simp [results, Tryz.results19, go_sem]) rfl ⟨by rw [HN.out.1, HV.out], ?_⟩
            exact ((((Below.refl _ _).alloc (Nat.le_refl _) _).alloc (by simp) _).alloc (by simp; omega) _).alloc (by simp; omega) _
        · have bf : (nanFlag [x, y] == 0) = false := by rw [beq_eq_false_iff_ne]; exact hf
          have HV : Hid (n9B x y = bits .or .u64 x 2251799813685248) := (by unfold n9B; rw [if_neg (fun g => hf g.2.1), HN.out.2] : n9B x y = bits .or .u64 x 2251799813685248)
          clear hf hx4 kx ky
          go_wp2_with fail
          refine (refKind_any x hx.1 hx.2 _).mono ?_; rintro e w' ⟨rfl, rfl⟩
          go_wp2_with fail
          refine (refKind_any y hy.1 hy.2 _).mono ?_; rintro e w' ⟨rfl, rfl⟩
          go_wp2_with fail
          refine (refKind_any z hz.1 hz.2 _).mono ?_; rintro e w' ⟨rfl, rfl⟩
          generalize kind x = KX at *
          generalize kind y = KY at *
          generalize kind z = KZ at *
          go_wp2_with fail
          refine bodyPost_ret (v := .tuple #[.agg #[.int .u64 (bits .or .u64 x 2251799813685248), .int .i64 (nanFlag [x, y]), .bool false], .bool true]) (by simp [results, Tryz.results19, go_sem]) rfl ⟨by rw [HN.out.1, HV.out], ?_⟩
          exact ((((Below.refl _ _).alloc (Nat.le_refl _) _).alloc (by simp) _).alloc (by simp; omega) _).alloc (by simp; omega) _
      · by_cases hy4 : 4 ≤ kind y
        · have hfi : fi x [x, y] = 1 := by simp [fi, isN, hx4, hy4]
          have HN : Hid (anyN [x, y] = true ∧ nanBits [x, y] = bits .or .u64 y 2251799813685248) := ⟨by simp [anyN, isN, hy4], by simp [nanBits, isN, hx4, hy4]⟩
          have bx : (kind y == 3) = false := by rw [beq_eq_false_iff_ne]; omega
          clear hx4
          by_cases hf : nanFlag [x, y] = 0
          · have bf : (nanFlag [x, y] == 0) = true := by rw [beq_iff_eq]; exact hf
            have HF : Hid (nanFlag [x, y] = 0) := hf
            by_cases h3 : kind x = 3
            · have b3 : (kind x == 3) = true := by rw [beq_iff_eq]; exact h3
              have HV : Hid (n9B x y = 9218868437227405312) := (by unfold n9B; rw [if_pos ⟨HN.out.1, hf, .inl h3⟩] : n9B x y = 9218868437227405312)
              clear hf h3
              go_wp2_with fail
              refine (refKind_any x hx.1 hx.2 _).mono ?_; rintro e w' ⟨rfl, rfl⟩
              go_wp2_with fail
              refine (refKind_any y hy.1 hy.2 _).mono ?_; rintro e w' ⟨rfl, rfl⟩
              go_wp2_with fail
              refine (refKind_any z hz.1 hz.2 _).mono ?_; rintro e w' ⟨rfl, rfl⟩
              generalize kind x = KX at *
              generalize kind y = KY at *
              generalize kind z = KZ at *
              go_wp2_with fail
              refine bodyPost_ret (v := .tuple #[.agg #[.int .u64 9218868437227405312, .int .i64 0, .bool false], .bool true]) (by simp [results, Tryz.results19, go_sem]) rfl ⟨by rw [HN.out.1, HV.out, HF.out], ?_⟩
              exact ((((Below.refl _ _).alloc (Nat.le_refl _) _).alloc (by simp) _).alloc (by simp; omega) _).alloc (by simp; omega) _
            · have b3 : (kind x == 3) = false := by rw [beq_eq_false_iff_ne]; exact h3
              have HV : Hid (n9B x y = bits .or .u64 y 2251799813685248) := (by unfold n9B; rw [if_neg (fun g => by have := g.2.2; omega), HN.out.2] : n9B x y = bits .or .u64 y 2251799813685248)
              clear hf h3 hy4 kx ky
              go_wp2_with fail
              refine (refKind_any x hx.1 hx.2 _).mono ?_; rintro e w' ⟨rfl, rfl⟩
              go_wp2_with fail
              refine (refKind_any y hy.1 hy.2 _).mono ?_; rintro e w' ⟨rfl, rfl⟩
              go_wp2_with fail
              refine (refKind_any z hz.1 hz.2 _).mono ?_; rintro e w' ⟨rfl, rfl⟩
              generalize kind x = KX at *
              generalize kind y = KY at *
              generalize kind z = KZ at *
              go_wp2_with fail
              refine bodyPost_ret (v := .tuple #[.agg #[.int .u64 (bits .or .u64 y 2251799813685248), .int .i64 (nanFlag [x, y]), .bool false], .bool true]) (by simp [results, Tryz.results19, go_sem]) rfl ⟨by rw [HN.out.1, HV.out], ?_⟩
              exact ((((Below.refl _ _).alloc (Nat.le_refl _) _).alloc (by simp) _).alloc (by simp; omega) _).alloc (by simp; omega) _
          · have bf : (nanFlag [x, y] == 0) = false := by rw [beq_eq_false_iff_ne]; exact hf
            have HV : Hid (n9B x y = bits .or .u64 y 2251799813685248) := (by unfold n9B; rw [if_neg (fun g => hf g.2.1), HN.out.2] : n9B x y = bits .or .u64 y 2251799813685248)
            clear hf hy4 kx ky
            go_wp2_with fail
            refine (refKind_any x hx.1 hx.2 _).mono ?_; rintro e w' ⟨rfl, rfl⟩
            go_wp2_with fail
            refine (refKind_any y hy.1 hy.2 _).mono ?_; rintro e w' ⟨rfl, rfl⟩
            go_wp2_with fail
            refine (refKind_any z hz.1 hz.2 _).mono ?_; rintro e w' ⟨rfl, rfl⟩
            generalize kind x = KX at *
            generalize kind y = KY at *
            generalize kind z = KZ at *
            go_wp2_with fail
            refine bodyPost_ret (v := .tuple #[.agg #[.int .u64 (bits .or .u64 y 2251799813685248), .int .i64 (nanFlag [x, y]), .bool false], .bool true]) (by simp [results, Tryz.results19, go_sem]) rfl ⟨by rw [HN.out.1, HV.out], ?_⟩
            exact ((((Below.refl _ _).alloc (Nat.le_refl _) _).alloc (by simp) _).alloc (by simp; omega) _).alloc (by simp; omega) _
        · have hfi : fi x [x, y] = -1 := by simp [fi, isN, hx4, hy4]
          have hna : anyN [x, y] = false := by simp [anyN, isN]; omega
          have HN : Hid (anyN [x, y] = false ∧ n9B x y = 0 ∧ nanFlag [x, y] = 0) := ⟨hna, by unfold n9B; rw [if_neg (fun g => by rw [hna] at g; exact absurd g.1 (by decide))]; simp [nanBits, isN, hx4, hy4], nanFlag_none hna⟩
          clear hna
          go_wp2_with fail
          refine bodyPost_ret (v := .tuple #[.agg #[.int .u64 0, .int .i64 0, .bool false], .bool false]) (by simp [results, Tryz.results19, go_sem]) rfl ⟨by rw [HN.out.1, HN.out.2.1, HN.out.2.2], ?_⟩
          exact ((((Below.refl _ _).alloc (Nat.le_refl _) _).alloc (by simp) _).alloc (by simp; omega) _).alloc (by simp; omega) _


theorem sdF_range (x y : Nat) (m : Int) : 0 ≤ sdF x y m ∧ sdF x y m < 256 := by
  have := roundF_range 0 (sqD (ssD x y) (ssP x y)) (sqP (ssP x y)) m
  unfold sdF
  (repeat' split) <;> omega

set_option maxRecDepth 10000 in
set_option maxHeartbeats 2000000 in
theorem ref_nan9 (m x y z : Int) (hm : m ≤ 4) (hx : 0 ≤ x ∧ x < 18446744073709551616) (hy : 0 ≤ y ∧ y < 18446744073709551616) (hz : 0 ≤ z ∧ z < 18446744073709551616) (hn : anyN [x, y] = true) (w : World) :
    Calls Tryz.prog 14 #[.agg #[.int .i64 9, .int .i64 m, .int .u64 x, .int .u64 y, .int .u64 z]] w fun e w' => e = .returned (.agg #[.int .u64 (n9B x y), .int .i64 (nanFlag [x, y]), .bool false]) ∧ Below w.heap.size w w' := by
  have HN : Hid (∀ w, Calls Tryz.prog 19 #[.agg #[.int .i64 9, .int .i64 m, .int .u64 x, .int .u64 y, .int .u64 z]] w fun e w' => e = .returned (.tuple #[.agg #[.int .u64 (n9B x y), .int .i64 (nanFlag [x, y]), .bool false], .bool true]) ∧ Below w.heap.size w w') := fun w => by
    have := nans9_any m x y z hx hy hz w
    rw [hn] at this
    exact this
  clear hn hx hy hz
  generalize n9B x y = NB at *
  generalize nanFlag [x, y] = NF at *
  have E0 : Hid (EmptyR ((w.alloc (.cells #[.int .i64 9, .int .i64 m, .int .u64 x, .int .u64 y, .int .u64 z] 41)).alloc (.cells #[.int .u64 0, .int .i64 0, .bool false] 39)) (w.heap.size + 1)) := ⟨by simp, by go_simp, by go_simp, by go_simp, by go_simp, by go_simp, by go_simp⟩
  have B0 : Hid (Below w.heap.size w ((w.alloc (.cells #[.int .i64 9, .int .i64 m, .int .u64 x, .int .u64 y, .int .u64 z] 41)).alloc (.cells #[.int .u64 0, .int .i64 0, .bool false] 39))) := ((Below.refl _ _).alloc (Nat.le_refl _) _).alloc (by simp) _
  go_enter Tryz.func14, Tryz.ntmps14
  go_wp2_with fail
  refine (HN.out _).mono ?_
  rintro e w1 ⟨rfl, hb1⟩
  have V1 : Hid (Below w.heap.size w w1) := B0.out.trans (hb1.mono B0.out.size)
  obtain ⟨k0, k1, k2, k3, k4, k5, k6⟩ := E0.out.later hb1
  clear hb1
  go_wp2_with fail
  refine bodyPost_ret (v := .agg #[.int .u64 NB, .int .i64 NF, .bool false]) (by simp [results, Tryz.results14, go_sem, k1, k2, k3, World.cell?_alloc_lt, k0]) rfl ⟨rfl, ?_⟩
  repeat (first | exact V1.out | refine Below.setCell ?_ (by simp) _ | (refine Below.alloc ?_ (by have := V1.out.size; simp; omega) _))

set_option maxRecDepth 10000 in
set_option maxHeartbeats 2000000 in
theorem ref_sd (x y : Nat) (m z : Int) (hm : 0 ≤ m ∧ m ≤ 4) (hx : x < 18446744073709551616) (hy : y < 18446744073709551616) (hz : 0 ≤ z ∧ z < 18446744073709551616) (hn : anyN [(x : Int), (y : Int)] = false) (w : World) :
    Calls Tryz.prog 14 #[.agg #[.int .i64 9, .int .i64 m, .int .u64 (x : Int), .int .u64 (y : Int), .int .u64 z]] w fun e w' => e = .returned (.agg #[.int .u64 (sdB x y m), .int .i64 (sdF x y m), .bool false]) ∧ Below w.heap.size w w' := by
  have HN : Hid (∀ w, Calls Tryz.prog 19 #[.agg #[.int .i64 9, .int .i64 m, .int .u64 (x : Int), .int .u64 (y : Int), .int .u64 z]] w fun e w' => e = .returned (.tuple #[.agg #[.int .u64 (n9B x y), .int .i64 (nanFlag [(x : Int), (y : Int)]), .bool false], .bool false]) ∧ Below w.heap.size w w') := fun w => by
    have := nans9_any m x y z (by omega) (by omega) hz w
    rw [hn] at this
    exact this
  have HMU : Hid (∀ w, Calls Tryz.prog 24 #[.int .u64 (x : Int), .int .u64 (y : Int), .int .i64 m] w fun e w' => e = .returned (.agg #[.int .u64 (sdB x y m), .int .i64 (sdF x y m), .bool false]) ∧ Below w.heap.size w w') := fun w => sides_ref x y m hx hy hm w
  obtain ⟨hm1, hm2⟩ := hm
  clear hn hx hy hz
  generalize n9B (x : Int) (y : Int) = NB at *
  generalize nanFlag [(x : Int), (y : Int)] = NF at *
  generalize sdB x y m = PB at *
  generalize sdF x y m = PF at *
  have E0 : Hid (EmptyR ((w.alloc (.cells #[.int .i64 9, .int .i64 m, .int .u64 (x : Int), .int .u64 (y : Int), .int .u64 z] 41)).alloc (.cells #[.int .u64 0, .int .i64 0, .bool false] 39)) (w.heap.size + 1)) := ⟨by simp, by go_simp, by go_simp, by go_simp, by go_simp, by go_simp, by go_simp⟩
  have R0 : Hid (RecR ((w.alloc (.cells #[.int .i64 9, .int .i64 m, .int .u64 (x : Int), .int .u64 (y : Int), .int .u64 z] 41)).alloc (.cells #[.int .u64 0, .int .i64 0, .bool false] 39)) w.heap.size 9 m x y z) := ⟨by simp; omega, by go_simp, by go_simp, by go_simp, by go_simp, by go_simp⟩
  have B0 : Hid (Below w.heap.size w ((w.alloc (.cells #[.int .i64 9, .int .i64 m, .int .u64 (x : Int), .int .u64 (y : Int), .int .u64 z] 41)).alloc (.cells #[.int .u64 0, .int .i64 0, .bool false] 39))) := ((Below.refl _ _).alloc (Nat.le_refl _) _).alloc (by simp) _
  go_enter Tryz.func14, Tryz.ntmps14
  go_wp2_with fail
  refine (HN.out _).mono ?_
  rintro e w1 ⟨rfl, hb1⟩
  have V1 : Hid (Below w.heap.size w w1) := B0.out.trans (hb1.mono B0.out.size)
  have E1 : Hid (EmptyR w1 (w.heap.size + 1)) := E0.out.later hb1
  obtain ⟨r0, r1, r2, r3, r4, r5⟩ := R0.out.later hb1
  have hsz := E1.out.lt
  clear hb1
  go_wp2_with fail
  refine (HMU.out _).mono ?_
  rintro e w2 ⟨rfl, hb2⟩
  have V1a := V1.out.alloc V1.out.size (.cells #[.int .u64 NB, .int .i64 NF, .bool false] 39)
  have V2 : Hid (Below w.heap.size w w2) := V1a.trans (hb2.mono V1a.size)
  obtain ⟨k0, k1, k2, k3, k4, k5, k6⟩ := (E1.out.later ((Below.refl _ _).alloc (Nat.le_refl _) _)).later hb2
  clear hb2 V1a V1 E1
  go_wp2_with fail
  refine bodyPost_ret (v := .agg #[.int .u64 PB, .int .i64 PF, .bool false]) (by simp [results, Tryz.results14, go_sem, k1, k2, k3]) rfl ⟨rfl, ?_⟩
  repeat (first | exact V2.out | refine Below.setCell ?_ (by simp) _)

/-- hypot: the program and the document's answer say the same. -/
theorem done_sd (op m x y z : Int) (h : op % 256 = 9) (hx : 0 ≤ x ∧ x < 18446744073709551616) (hy : 0 ≤ y ∧ y < 18446744073709551616) (hz : 0 ≤ z ∧ z < 18446744073709551616) (w : World) (hT : Tab w) :
    Calls Tryz.prog 11 #[.agg #[.int .i64 op, .int .i64 m, .int .u64 x, .int .u64 y, .int .u64 z]] w fun e w' => e = .returned (.bool true) ∧ Below w.heap.size w w' := by
  by_cases hbad : 4 < m % 256
  · exact done_any op m x y z 0 0 true (by omega) w (fun w1 _ => soft_bad _ _ x y z (by omega) (by omega) (.inr (.inr hbad)) w1) (fun w1 _ => ref_bad _ _ x y z (.inr (.inr hbad)) w1)
  have hm : 0 ≤ m % 256 ∧ m % 256 ≤ 4 := by omega
  obtain ⟨X, rfl⟩ : ∃ X : Nat, x = X := ⟨x.toNat, by omega⟩
  obtain ⟨Y, rfl⟩ : ∃ Y : Nat, y = Y := ⟨y.toNat, by omega⟩
  have hX : X < 18446744073709551616 := by omega
  have hY : Y < 18446744073709551616 := by omega
  by_cases hn : anyN [(X : Int), (Y : Int)] = true
  · have hr := nanFlag_range [(X : Int), (Y : Int)]
    refine done_any op m X Y z (n9B X Y) (nanFlag [(X : Int), (Y : Int)]) false (by omega) w (fun w1 hb => ?_) (fun w1 _ => ?_)
    · rw [h]; exact soft_nanHy X Y (m % 256) z hX hY hz hm hn w1 (hT.later hb)
    · rw [h]; exact ref_nan9 (m % 256) X Y z (by omega) hx hy hz hn w1
  · have hn' : anyN [(X : Int), (Y : Int)] = false := by simpa using hn
    have hr := sdF_range X Y (m % 256)
    refine done_any op m X Y z (sdB X Y (m % 256)) (sdF X Y (m % 256)) false (by omega) w (fun w1 hb => ?_) (fun w1 _ => ?_)
    · rw [h]; exact soft_hyDo X Y (m % 256) z hX hY hz hm hn' w1 (hT.later hb)
    · rw [h]; exact ref_sd X Y (m % 256) z hm hX hY hz hn' w1

set_option maxHeartbeats 400000 in
theorem sides_walk (a0 : Option Addr) (b off len cap : Nat) (w : World) (hT : Tab w) (ha : 0 < len → a0 = some ⟨b, off, none⟩) (hb : 0 < len → b < w.heap.size)
    (hstep : ∀ i, i < len → ∃ k a op m x y z la ln lc, StepAt w b (off + i * 8) k a op m x y z la ln lc) :
    Calls Tryz.prog 8 #[.slice a0 len cap] w fun e w' => e = .returned (.bool true) ∧ Below w.heap.size w w' := by
  have HSt : Hid (∀ i, i < len → ∃ k a op m x y z la ln lc, StepAt w b (off + i * 8) k a op m x y z la ln lc) := hstep
  have HT : Hid (Tab w) := hT
  clear hstep hT
  go_enter Tryz.func8, Tryz.ntmps8
  go_wp2_with fail
  refine (of_any a0 b off len cap 9 9 w ha hb HSt.out (fun op m x y z h1 h2 hx hy hz w1 hb1 => done_sd op m x y z (by omega) hx hy hz w1 (HT.out.later hb1))).mono ?_
  rintro e w1 ⟨rfl, hb1⟩
  have HB1 : Hid (Below w.heap.size w w1) := hb1
  clear hb1
  go_wp2_with fail
  go_ret
  exact ⟨rfl, HB1.out⟩

end Go.Proofs.YtcjihaafohnbeaaGreatDoor
