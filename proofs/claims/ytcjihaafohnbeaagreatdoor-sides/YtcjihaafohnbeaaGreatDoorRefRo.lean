import Derived.Test.YtcjihaafohnbeaaGreatDoorRtB
import Derived.Test.YtcjihaafohnbeaaGreatDoorRefO
import Derived.Test.YtcjihaafohnbeaaGreatDoorRefZ
namespace Go.Proofs.YtcjihaafohnbeaaGreatDoor
open Go.RowKit

theorem sqR_nd (a : Nat) : nd (sqR a) ≤ nd a := root_nd (sqR_spec a).1
theorem sqR_some {a : Nat} (h : a ≠ 0) : sqR a ≠ 0 := fun e => by have := (sqR_spec a).2; rw [e] at this; omega
theorem cbR_some {a : Nat} (h : a ≠ 0) : cbR a ≠ 0 := fun e => by have := (cbR_spec a).2; rw [e] at this; omega
theorem mkQ_some {q : Nat} (b : Bool) (h : q ≠ 0) : mkQ q b ≠ 0 := by unfold mkQ; split <;> omega
theorem mkQ_up (q : Nat) (b : Bool) : mkQ q b ≤ 2 * q + 1 := by unfold mkQ; split <;> omega
theorem nd_mkQ {q n : Nat} (b : Bool) (h : nd q ≤ n) : nd (mkQ q b) ≤ n + 3 := by
  refine Nat.le_trans (nd_mono (mkQ_up q b)) (Nat.le_trans (nd_add_le _ _) ?_)
  have h2 : nd 2 = 1 := (by decide)
  have h1 : nd 1 = 1 := (by decide)
  have := nd_mul_le 2 q
  omega

theorem squareRoot_is (n : Bool) (a1 : Option Addr) (l1 c1 D : Nat) (p : Int) (w : World) (h1 : IsNat w (.slice a1 l1 c1) D) (s1 : nd D ≤ 500) (hp : -8000 ≤ p ∧ p ≤ 8000) :
    Calls Tryz.prog 46 #[.agg #[.bool n, .slice a1 l1 c1, .int .i64 p]] w fun e w' =>
      ∃ a len cap, e = .returned (.agg #[.bool false, .slice a len cap, .int .i64 (sqP p)]) ∧ IsNat w' (.slice a len cap) (sqD D p) ∧ Below w.heap.size w w' := by
  refine (squareRoot_ref n a1 l1 c1 D p w h1 s1 hp).mono ?_
  rintro e w' ⟨a, len, cap, R, rfl, hR, hs, hb⟩
  have e1 : R = sqR (sqA D p) := root_one hs.1 hs.2 (sqR_spec _).1 (sqR_spec _).2
  subst e1
  exact ⟨a, len, cap, rfl, hR, hb⟩
theorem reciprocal_is (n : Bool) (a1 : Option Addr) (l1 c1 D : Nat) (p : Int) (w : World) (h1 : IsNat w (.slice a1 l1 c1) D) (h0 : D ≠ 0) (s1 : nd D ≤ 100) (hp : -4000 ≤ p ∧ p ≤ 4000) :
    Calls Tryz.prog 49 #[.agg #[.bool n, .slice a1 l1 c1, .int .i64 p]] w fun e w' =>
      ∃ a len cap, e = .returned (.agg #[.bool false, .slice a len cap, .int .i64 (rqP D p)]) ∧ IsNat w' (.slice a len cap) (rqD D p) ∧ Below w.heap.size w w' := by
  refine (reciprocal_ref n a1 l1 c1 D p w h1 h0 s1 hp).mono ?_
  rintro e w' ⟨a, len, cap, R, rfl, hR, hs, hb⟩
  have e1 : R = sqR (rqA D p / D) := root_one hs.1 hs.2 (sqR_spec _).1 (sqR_spec _).2
  subst e1
  exact ⟨a, len, cap, rfl, hR, hb⟩
theorem cubeRoot_is (n : Bool) (a1 : Option Addr) (l1 c1 D : Nat) (p : Int) (w : World) (h1 : IsNat w (.slice a1 l1 c1) D) (s1 : nd D ≤ 100) (hp : -4000 ≤ p ∧ p ≤ 4000) :
    Calls Tryz.prog 48 #[.agg #[.bool n, .slice a1 l1 c1, .int .i64 p]] w fun e w' =>
      ∃ a len cap, e = .returned (.agg #[.bool n, .slice a len cap, .int .i64 (cbP p)]) ∧ IsNat w' (.slice a len cap) (cbD D p) ∧ Below w.heap.size w w' := by
  refine (cubeRoot_ref n a1 l1 c1 D p w h1 s1 hp).mono ?_
  rintro e w' ⟨a, len, cap, R, rfl, hR, hs, hb⟩
  have e1 : R = cbR (cbA D p) := cube_one hs.1 hs.2 (cbR_spec _).1 (cbR_spec _).2
  subst e1
  exact ⟨a, len, cap, rfl, hR, hb⟩

theorem shift_some {D : Nat} (k : Nat) (h : D ≠ 0) : D * 2 ^ k ≠ 0 := fun e => by
  have := Nat.two_pow_pos k
  rcases Nat.mul_eq_zero.1 e with g | g
  · exact h g
  · omega
theorem sqD_some {D : Nat} (p : Int) (h : D ≠ 0) : sqD D p ≠ 0 := mkQ_some _ (sqR_some (shift_some _ h))
theorem cbD_some {D : Nat} (p : Int) (h : D ≠ 0) : cbD D p ≠ 0 := mkQ_some _ (cbR_some (shift_some _ h))
theorem rqA_ge (D : Nat) (p : Int) : D < rqA D p := by
  refine Nat.lt_of_lt_of_le (Go.bitLen_spec D).1 (Nat.pow_le_pow_right (by decide) ?_)
  unfold rqK; split <;> omega
theorem rqD_some {D : Nat} (p : Int) (h : D ≠ 0) : rqD D p ≠ 0 := mkQ_some _ (sqR_some fun e => by
  have := rqA_ge D p
  rcases Nat.div_eq_zero_iff.1 e with g | g
  · exact h g
  · omega)
theorem sqK_le (p : Int) : sqK p ≤ 131 := by unfold sqK; split <;> omega
theorem rqK_le (D : Nat) (p : Int) : rqK D p ≤ 241 + Go.bitLen D := by unfold rqK; split <;> omega
theorem cbK_le (p : Int) : cbK p ≤ 192 := by have := cbJ_lt p; unfold cbK; omega
theorem nd_pow {k n : Nat} (h : k ≤ 24 * n) : nd (2 ^ k) ≤ n + 1 := nd_of_lt (Nat.pow_lt_pow_right (by decide) (by omega))
theorem nd_sqD {D : Nat} (p : Int) (h : nd D ≤ 500) : nd (sqD D p) ≤ 1000 := by
  have h2 := sqK_le p
  have h1 : nd (sqA D p) ≤ 507 := Nat.le_trans (nd_mul_le _ _) (by have := nd_pow (k := sqK p) (n := 6) (by omega); omega)
  exact Nat.le_trans (nd_mkQ (n := 507) _ (Nat.le_trans (sqR_nd _) h1)) (by omega)
theorem nd_cbD {D : Nat} (p : Int) (h : nd D ≤ 100) : nd (cbD D p) ≤ 1000 := by
  have h2 := cbK_le p
  have h1 : nd (cbA D p) ≤ 109 := Nat.le_trans (nd_mul_le _ _) (by have := nd_pow (k := cbK p) (n := 8) (by omega); omega)
  exact Nat.le_trans (nd_mkQ (n := 109) _ (Nat.le_trans (cube_nd (cbR_spec _).1) h1)) (by omega)
theorem nd_rqD {D : Nat} (p : Int) (h : nd D ≤ 100) : nd (rqD D p) ≤ 1000 := by
  have h2 := rqK_le D p
  have hbl : Go.bitLen D ≤ 2400 := by unfold nd at h; omega
  have h1 : nd (rqA D p / D) ≤ 121 := Nat.le_trans (nd_mono (Nat.div_le_self _ _)) (nd_pow (k := rqK D p) (n := 120) (by omega))
  exact Nat.le_trans (nd_mkQ (n := 121) _ (Nat.le_trans (sqR_nd _) h1)) (by omega)
theorem sqP_range {p : Int} (h : -8000 ≤ p ∧ p ≤ 8000) : -4100 ≤ sqP p ∧ sqP p ≤ 4100 := by have := sqK_le p; unfold sqP; omega
theorem cbP_range {p : Int} (h : -4000 ≤ p ∧ p ≤ 4000) : -4100 ≤ cbP p ∧ cbP p ≤ 4100 := by have := cbK_le p; unfold cbP; omega
theorem rqP_range {D : Nat} {p : Int} (hb : Go.bitLen D ≤ 100) (h : -4000 ≤ p ∧ p ≤ 4000) : -4100 ≤ rqP D p ∧ rqP D p ≤ 4100 := by have := rqK_le D p; unfold rqP; omega

theorem kind_zero {x : Nat} (hx : x < 18446744073709551616) (h : kind x = 0) : x = 0 ∨ x = 9223372036854775808 := by
  have : (x : Int) % 9223372036854775808 = 0 := by
    unfold kind kindB at h
    by_cases c : (x : Int) / 4503599627370496 % 2048 = 0 ∧ (x : Int) % 4503599627370496 = 0
    · omega
    · rw [if_neg c] at h
      exfalso
      revert h
      (repeat' split) <;> decide
  omega
theorem or_inf {x : Nat} (hx : x < 18446744073709551616) (h : kind x = 0) : bits .or .u64 (x : Int) 9218868437227405312 = (x : Int) + 9218868437227405312 := by
  rcases kind_zero hx h with rfl | rfl
  · decide
  · decide

set_option maxRecDepth 10000 in
set_option maxHeartbeats 8000000 in
theorem sq_roots (x : Nat) (m : Int) (hx : x < 18446744073709551616) (hm : 0 ≤ m ∧ m ≤ 4) (w : World) :
    Calls Tryz.prog 25 #[.int .i64 6, .int .u64 (x : Nat), .int .i64 m] w fun e w' =>
      e = .returned (.agg #[.int .u64 (sqB x m), .int .i64 (sqF x m), .bool false]) ∧ Below w.heap.size w w' := by
  have HKX : Hid (∀ w, Calls Tryz.prog 40 #[.int .u64 (x : Int)] w fun e w' => e = .returned (.int .i64 (kind x)) ∧ w' = w) := fun w => refKind_any (x : Int) (by omega) (by omega) w
  have HEX : Hid (∀ w, Calls Tryz.prog 42 #[.int .u64 (x : Int)] w fun e w' => ∃ a len cap, e = .returned (.agg #[.bool (negOf x), .slice a len cap, .int .i64 (pow x)]) ∧ IsNat w' (.slice a len cap) (mant x) ∧ Below w.heap.size w w') := fun w => (exact_ref x hx w).mono fun e w' ⟨v, he, hv, hb⟩ => by
    obtain ⟨a, len, cap, g, rfl, -, -, -⟩ := hv.slice
    exact ⟨a, len, cap, he, hv, hb⟩
  have nx := nd_mant x
  have qx := pow_range x
  have bx : Go.bitLen (mant x) ≤ 53 := bitLen_le (n := 53) (mant_lt x)
  have MX : Hid (¬ kind x = 0 → mant x ≠ 0) := mant_some hx
  have HOR : Hid (kind x = 0 → bits .or .u64 (x : Int) 9218868437227405312 = (x : Int) + 9218868437227405312) := or_inf hx
  have HSG : Hid ((x : Int) / 9223372036854775808 = (sgn x : Nat)) := (by unfold sgn; omega : (x : Int) / 9223372036854775808 = (sgn x : Nat))
  have E0 : Hid (EmptyR (w.alloc (.cells #[.int .u64 0, .int .i64 0, .bool false] 39)) w.heap.size) := ⟨by simp, by go_simp, by go_simp, by go_simp, by go_simp, by go_simp, by go_simp⟩
  have B0 : Hid (Below w.heap.size w (w.alloc (.cells #[.int .u64 0, .int .i64 0, .bool false] 39))) := (Below.refl _ _).alloc (Nat.le_refl _) _
  have HQT : Hid (mant x ≠ 0 → ∀ w1 a1 l1 c1, IsNat w1 (.slice a1 l1 c1) (mant x) → Calls Tryz.prog 46 #[.agg #[.bool (negOf x), .slice a1 l1 c1, .int .i64 (pow x)]] w1 fun e w' => ∃ a len cap, e = .returned (.agg #[.bool false, .slice a len cap, .int .i64 (sqP (pow x))]) ∧ IsNat w' (.slice a len cap) (sqD (mant x) (pow x)) ∧ Below w1.heap.size w1 w') := fun h0 w1 a1 l1 c1 k1 =>
    squareRoot_is (negOf x) a1 l1 c1 (mant x) (pow x) w1 k1 (by omega) (by omega)
  have HFN : Hid (mant x ≠ 0 → ∀ w1 a3 l3 c3, IsNat w1 (.slice a3 l3 c3) (sqD (mant x) (pow x)) → Calls Tryz.prog 43 #[.agg #[.bool false, .slice a3 l3 c3, .int .i64 (sqP (pow x))], .int .i64 m] w1 fun e w' => e = .returned (.agg #[.int .u64 (roundB 0 (sqD (mant x) (pow x)) (sqP (pow x)) m), .int .i64 (roundF 0 (sqD (mant x) (pow x)) (sqP (pow x)) m), .bool false]) ∧ Below w1.heap.size w1 w') := fun h0 w1 a3 l3 c3 k => by
    refine finite_of false a3 l3 c3 (sqP (pow x)) m _ _ w1 (fun w4 hb4 => ?_)
    have hr := sqP_range (p := pow x) (by omega)
    have := round_ref false (sqD (mant x) (pow x)) (sqP (pow x)) m a3 l3 c3 w4 (k.later hb4) (sqD_some _ h0) (nd_sqD _ (by omega)) (by omega) hm
    exact this
  have HPB : Hid (sqB x m = (if kind x = 0 then (x : Int) else if sgn x = 1 then 9221120237041090560 else if kind x = 3 then (x : Int) else roundB 0 (sqD (mant x) (pow x)) (sqP (pow x)) m)) := rfl
  have HPF : Hid (sqF x m = (if kind x = 0 then 0 else if sgn x = 1 then 16 else if kind x = 3 then 0 else roundF 0 (sqD (mant x) (pow x)) (sqP (pow x)) m)) := rfl
  have hs := sgn_lt hx
  clear hx hm nx qx bx
  generalize sqB x m = B at *
  generalize sqF x m = F at *
  generalize roundB 0 (sqD (mant x) (pow x)) (sqP (pow x)) m = RB at *
  generalize roundF 0 (sqD (mant x) (pow x)) (sqP (pow x)) m = RF at *
  generalize kind (x : Int) = KX at *
  have hsg := HSG.out
  generalize sgn x = sx at *
  clear HSG
  by_cases c0 : KX = 0
  · have HV : Hid (B = (x : Int) ∧ F = 0) := ⟨by rw [HPB.out, if_pos c0], by rw [HPF.out, if_pos c0]⟩
    have k3 : (KX == 3) = false := by rw [beq_eq_false_iff_ne]; omega
    have k0 : (KX == 0) = true := by rw [beq_iff_eq]; omega
    clear c0 HPB HPF MX HOR hs hsg
    go_enter Tryz.func25, Tryz.ntmps25
    go_wp2_with (go_at_call 40; refine (HKX.out _).mono ?_; rintro e w' ⟨rfl, rfl⟩)
    refine bodyPost_ret (v := .agg #[.int .u64 ((x : Int)), .int .i64 0, .bool false]) (by simp [results, Tryz.results25, go_sem]) rfl ⟨by rw [HV.out.1, HV.out.2], ?_⟩
    repeat (first | exact B0.out | exact Below.refl _ _ | refine Below.alloc ?_ (by simp) _ | refine Below.setCell ?_ (by simp) _)
  by_cases c1 : KX ≠ 0 ∧ sx = 1
  · have HV : Hid (B = 9221120237041090560 ∧ F = 16) := ⟨by rw [HPB.out, if_neg c1.1, if_pos c1.2], by rw [HPF.out, if_neg c1.1, if_pos c1.2]⟩
    have k0 : (KX == 0) = false := by rw [beq_eq_false_iff_ne]; omega
    have k1 : ((x : Int) / 9223372036854775808 == 1) = true := by rw [hsg]; exact (by rw [beq_iff_eq]; omega)
    clear c0 c1 HPB HPF MX HOR hs hsg
    go_enter Tryz.func25, Tryz.ntmps25
    go_wp2_with (go_at_call 40; refine (HKX.out _).mono ?_; rintro e w' ⟨rfl, rfl⟩)
    refine bodyPost_ret (v := .agg #[.int .u64 (9221120237041090560), .int .i64 16, .bool false]) (by simp [results, Tryz.results25, go_sem]) rfl ⟨by rw [HV.out.1, HV.out.2], ?_⟩
    repeat (first | exact B0.out | exact Below.refl _ _ | refine Below.alloc ?_ (by simp) _ | refine Below.setCell ?_ (by simp) _)
  by_cases c2 : KX = 3 ∧ sx ≠ 1
  · have HV : Hid (B = (x : Int) ∧ F = 0) := ⟨by rw [HPB.out, if_neg (by omega), if_neg c2.2, if_pos c2.1], by rw [HPF.out, if_neg (by omega), if_neg c2.2, if_pos c2.1]⟩
    have k3 : (KX == 3) = true := by rw [beq_iff_eq]; omega
    have k0 : (KX == 0) = false := by rw [beq_eq_false_iff_ne]; omega
    have k1 : ((x : Int) / 9223372036854775808 == 1) = false := by rw [hsg]; exact (by rw [beq_eq_false_iff_ne]; omega)
    clear c0 c1 c2 HPB HPF MX HOR hs hsg
    go_enter Tryz.func25, Tryz.ntmps25
    go_wp2_with (go_at_call 40; refine (HKX.out _).mono ?_; rintro e w' ⟨rfl, rfl⟩)
    refine bodyPost_ret (v := .agg #[.int .u64 ((x : Int)), .int .i64 0, .bool false]) (by simp [results, Tryz.results25, go_sem]) rfl ⟨by rw [HV.out.1, HV.out.2], ?_⟩
    repeat (first | exact B0.out | exact Below.refl _ _ | refine Below.alloc ?_ (by simp) _ | refine Below.setCell ?_ (by simp) _)
  by_cases c3 : KX ≠ 0 ∧ KX ≠ 3 ∧ sx ≠ 1
  · have HV : Hid (B = RB ∧ F = RF) := ⟨by rw [HPB.out, if_neg c3.1, if_neg c3.2.2, if_neg c3.2.1], by rw [HPF.out, if_neg c3.1, if_neg c3.2.2, if_neg c3.2.1]⟩
    have k3 : (KX == 3) = false := by rw [beq_eq_false_iff_ne]; omega
    have k0 : (KX == 0) = false := by rw [beq_eq_false_iff_ne]; omega
    have k1 : ((x : Int) / 9223372036854775808 == 1) = false := by rw [hsg]; exact (by rw [beq_eq_false_iff_ne]; omega)
    have HMX : Hid (mant x ≠ 0) := MX.out (by omega)
    clear c0 c1 c2 c3 HPB HPF MX HOR hs hsg
    go_enter Tryz.func25, Tryz.ntmps25
    go_wp2_with (go_at_call 40; refine (HKX.out _).mono ?_; rintro e w' ⟨rfl, rfl⟩)
    refine (HEX.out _).mono ?_
    rintro e w1 ⟨a1, l1, c1, rfl, hv1, hb1⟩
    have V1 : Hid (IsNat w1 (.slice a1 l1 c1) (mant x) ∧ Below w.heap.size w w1 ∧ EmptyR w1 w.heap.size) := ⟨hv1, B0.out.trans (hb1.mono B0.out.size), E0.out.later hb1⟩
    clear hv1 hb1
    go_wp2_with fail
    refine (HQT.out HMX.out _ a1 l1 c1 V1.out.1).mono ?_
    rintro e w3 ⟨a3, l3, c3, rfl, hv3, hb3⟩
    have V3 : Hid (IsNat w3 (.slice a3 l3 c3) (sqD (mant x) (pow x)) ∧ Below w.heap.size w w3 ∧ EmptyR w3 w.heap.size) := ⟨hv3, V1.out.2.1.trans (hb3.mono V1.out.2.1.size), V1.out.2.2.later hb3⟩
    clear hv3 hb3 V1
    go_wp2_with fail
    refine (HFN.out HMX.out _ a3 l3 c3 V3.out.1).mono ?_
    rintro e w5 ⟨rfl, hb5⟩
    have V5 : Hid (Below w.heap.size w w5) := V3.out.2.1.trans (hb5.mono V3.out.2.1.size)
    obtain ⟨k0, k1, k2, k3, k4, k5, k6⟩ := V3.out.2.2.later hb5
    clear hb5 V3
    go_wp2_with fail
    refine bodyPost_ret (v := .agg #[.int .u64 RB, .int .i64 RF, .bool false]) (by simp [results, Tryz.results25, go_sem, k1, k2, k3]) rfl ⟨by rw [HV.out.1, HV.out.2], ?_⟩
    repeat (first | exact V5.out | refine Below.setCell ?_ (by simp) _)
  exfalso
  omega

set_option maxRecDepth 10000 in
set_option maxHeartbeats 8000000 in
theorem rq_roots (x : Nat) (m : Int) (hx : x < 18446744073709551616) (hm : 0 ≤ m ∧ m ≤ 4) (w : World) :
    Calls Tryz.prog 25 #[.int .i64 7, .int .u64 (x : Nat), .int .i64 m] w fun e w' =>
      e = .returned (.agg #[.int .u64 (rqB x m), .int .i64 (rqF x m), .bool false]) ∧ Below w.heap.size w w' := by
  have HKX : Hid (∀ w, Calls Tryz.prog 40 #[.int .u64 (x : Int)] w fun e w' => e = .returned (.int .i64 (kind x)) ∧ w' = w) := fun w => refKind_any (x : Int) (by omega) (by omega) w
  have HEX : Hid (∀ w, Calls Tryz.prog 42 #[.int .u64 (x : Int)] w fun e w' => ∃ a len cap, e = .returned (.agg #[.bool (negOf x), .slice a len cap, .int .i64 (pow x)]) ∧ IsNat w' (.slice a len cap) (mant x) ∧ Below w.heap.size w w') := fun w => (exact_ref x hx w).mono fun e w' ⟨v, he, hv, hb⟩ => by
    obtain ⟨a, len, cap, g, rfl, -, -, -⟩ := hv.slice
    exact ⟨a, len, cap, he, hv, hb⟩
  have nx := nd_mant x
  have qx := pow_range x
  have bx : Go.bitLen (mant x) ≤ 53 := bitLen_le (n := 53) (mant_lt x)
  have MX : Hid (¬ kind x = 0 → mant x ≠ 0) := mant_some hx
  have HOR : Hid (kind x = 0 → bits .or .u64 (x : Int) 9218868437227405312 = (x : Int) + 9218868437227405312) := or_inf hx
  have HSG : Hid ((x : Int) / 9223372036854775808 = (sgn x : Nat)) := (by unfold sgn; omega : (x : Int) / 9223372036854775808 = (sgn x : Nat))
  have E0 : Hid (EmptyR (w.alloc (.cells #[.int .u64 0, .int .i64 0, .bool false] 39)) w.heap.size) := ⟨by simp, by go_simp, by go_simp, by go_simp, by go_simp, by go_simp, by go_simp⟩
  have B0 : Hid (Below w.heap.size w (w.alloc (.cells #[.int .u64 0, .int .i64 0, .bool false] 39))) := (Below.refl _ _).alloc (Nat.le_refl _) _
  have HQT : Hid (mant x ≠ 0 → ∀ w1 a1 l1 c1, IsNat w1 (.slice a1 l1 c1) (mant x) → Calls Tryz.prog 49 #[.agg #[.bool (negOf x), .slice a1 l1 c1, .int .i64 (pow x)]] w1 fun e w' => ∃ a len cap, e = .returned (.agg #[.bool false, .slice a len cap, .int .i64 (rqP (mant x) (pow x))]) ∧ IsNat w' (.slice a len cap) (rqD (mant x) (pow x)) ∧ Below w1.heap.size w1 w') := fun h0 w1 a1 l1 c1 k1 =>
    reciprocal_is (negOf x) a1 l1 c1 (mant x) (pow x) w1 k1 h0 (by omega) (by omega)
  have HFN : Hid (mant x ≠ 0 → ∀ w1 a3 l3 c3, IsNat w1 (.slice a3 l3 c3) (rqD (mant x) (pow x)) → Calls Tryz.prog 43 #[.agg #[.bool false, .slice a3 l3 c3, .int .i64 (rqP (mant x) (pow x))], .int .i64 m] w1 fun e w' => e = .returned (.agg #[.int .u64 (roundB 0 (rqD (mant x) (pow x)) (rqP (mant x) (pow x)) m), .int .i64 (roundF 0 (rqD (mant x) (pow x)) (rqP (mant x) (pow x)) m), .bool false]) ∧ Below w1.heap.size w1 w') := fun h0 w1 a3 l3 c3 k => by
    refine finite_of false a3 l3 c3 (rqP (mant x) (pow x)) m _ _ w1 (fun w4 hb4 => ?_)
    have hr := rqP_range (D := mant x) (p := pow x) (by omega) (by omega)
    have := round_ref false (rqD (mant x) (pow x)) (rqP (mant x) (pow x)) m a3 l3 c3 w4 (k.later hb4) (rqD_some _ h0) (nd_rqD _ (by omega)) (by omega) hm
    exact this
  have HPB : Hid (rqB x m = (if kind x = 0 then (x : Int) + 9218868437227405312 else if sgn x = 1 then 9221120237041090560 else if kind x = 3 then 0 else roundB 0 (rqD (mant x) (pow x)) (rqP (mant x) (pow x)) m)) := rfl
  have HPF : Hid (rqF x m = (if kind x = 0 then 8 else if sgn x = 1 then 16 else if kind x = 3 then 0 else roundF 0 (rqD (mant x) (pow x)) (rqP (mant x) (pow x)) m)) := rfl
  have hs := sgn_lt hx
  clear hx hm nx qx bx
  generalize rqB x m = B at *
  generalize rqF x m = F at *
  generalize roundB 0 (rqD (mant x) (pow x)) (rqP (mant x) (pow x)) m = RB at *
  generalize roundF 0 (rqD (mant x) (pow x)) (rqP (mant x) (pow x)) m = RF at *
  generalize kind (x : Int) = KX at *
  have hsg := HSG.out
  generalize sgn x = sx at *
  clear HSG
  by_cases c0 : KX = 0
  · have HV : Hid (B = (x : Int) + 9218868437227405312 ∧ F = 8) := ⟨by rw [HPB.out, if_pos c0], by rw [HPF.out, if_pos c0]⟩
    have k3 : (KX == 3) = false := by rw [beq_eq_false_iff_ne]; omega
    have k0 : (KX == 0) = true := by rw [beq_iff_eq]; omega
    have hor := HOR.out c0
    clear c0 HPB HPF MX HOR hs hsg
    go_enter Tryz.func25, Tryz.ntmps25
    go_wp2_with (go_at_call 40; refine (HKX.out _).mono ?_; rintro e w' ⟨rfl, rfl⟩)
    refine bodyPost_ret (v := .agg #[.int .u64 ((x : Int) + 9218868437227405312), .int .i64 8, .bool false]) (by simp [results, Tryz.results25, go_sem]) rfl ⟨by rw [HV.out.1, HV.out.2], ?_⟩
    repeat (first | exact B0.out | exact Below.refl _ _ | refine Below.alloc ?_ (by simp) _ | refine Below.setCell ?_ (by simp) _)
  by_cases c1 : KX ≠ 0 ∧ sx = 1
  · have HV : Hid (B = 9221120237041090560 ∧ F = 16) := ⟨by rw [HPB.out, if_neg c1.1, if_pos c1.2], by rw [HPF.out, if_neg c1.1, if_pos c1.2]⟩
    have k0 : (KX == 0) = false := by rw [beq_eq_false_iff_ne]; omega
    have k1 : ((x : Int) / 9223372036854775808 == 1) = true := by rw [hsg]; exact (by rw [beq_iff_eq]; omega)
    clear c0 c1 HPB HPF MX HOR hs hsg
    go_enter Tryz.func25, Tryz.ntmps25
    go_wp2_with (go_at_call 40; refine (HKX.out _).mono ?_; rintro e w' ⟨rfl, rfl⟩)
    refine bodyPost_ret (v := .agg #[.int .u64 (9221120237041090560), .int .i64 16, .bool false]) (by simp [results, Tryz.results25, go_sem]) rfl ⟨by rw [HV.out.1, HV.out.2], ?_⟩
    repeat (first | exact B0.out | exact Below.refl _ _ | refine Below.alloc ?_ (by simp) _ | refine Below.setCell ?_ (by simp) _)
  by_cases c2 : KX = 3 ∧ sx ≠ 1
  · have HV : Hid (B = 0 ∧ F = 0) := ⟨by rw [HPB.out, if_neg (by omega), if_neg c2.2, if_pos c2.1], by rw [HPF.out, if_neg (by omega), if_neg c2.2, if_pos c2.1]⟩
    have k3 : (KX == 3) = true := by rw [beq_iff_eq]; omega
    have k0 : (KX == 0) = false := by rw [beq_eq_false_iff_ne]; omega
    have k1 : ((x : Int) / 9223372036854775808 == 1) = false := by rw [hsg]; exact (by rw [beq_eq_false_iff_ne]; omega)
    clear c0 c1 c2 HPB HPF MX HOR hs hsg
    go_enter Tryz.func25, Tryz.ntmps25
    go_wp2_with (go_at_call 40; refine (HKX.out _).mono ?_; rintro e w' ⟨rfl, rfl⟩)
    refine bodyPost_ret (v := .agg #[.int .u64 (0), .int .i64 0, .bool false]) (by simp [results, Tryz.results25, go_sem]) rfl ⟨by rw [HV.out.1, HV.out.2], ?_⟩
    repeat (first | exact B0.out | exact Below.refl _ _ | refine Below.alloc ?_ (by simp) _ | refine Below.setCell ?_ (by simp) _)
  by_cases c3 : KX ≠ 0 ∧ KX ≠ 3 ∧ sx ≠ 1
  · have HV : Hid (B = RB ∧ F = RF) := ⟨by rw [HPB.out, if_neg c3.1, if_neg c3.2.2, if_neg c3.2.1], by rw [HPF.out, if_neg c3.1, if_neg c3.2.2, if_neg c3.2.1]⟩
    have k3 : (KX == 3) = false := by rw [beq_eq_false_iff_ne]; omega
    have k0 : (KX == 0) = false := by rw [beq_eq_false_iff_ne]; omega
    have k1 : ((x : Int) / 9223372036854775808 == 1) = false := by rw [hsg]; exact (by rw [beq_eq_false_iff_ne]; omega)
    have HMX : Hid (mant x ≠ 0) := MX.out (by omega)
    clear c0 c1 c2 c3 HPB HPF MX HOR hs hsg
    go_enter Tryz.func25, Tryz.ntmps25
    go_wp2_with (go_at_call 40; refine (HKX.out _).mono ?_; rintro e w' ⟨rfl, rfl⟩)
    refine (HEX.out _).mono ?_
    rintro e w1 ⟨a1, l1, c1, rfl, hv1, hb1⟩
    have V1 : Hid (IsNat w1 (.slice a1 l1 c1) (mant x) ∧ Below w.heap.size w w1 ∧ EmptyR w1 w.heap.size) := ⟨hv1, B0.out.trans (hb1.mono B0.out.size), E0.out.later hb1⟩
    clear hv1 hb1
    go_wp2_with fail
    refine (HQT.out HMX.out _ a1 l1 c1 V1.out.1).mono ?_
    rintro e w3 ⟨a3, l3, c3, rfl, hv3, hb3⟩
    have V3 : Hid (IsNat w3 (.slice a3 l3 c3) (rqD (mant x) (pow x)) ∧ Below w.heap.size w w3 ∧ EmptyR w3 w.heap.size) := ⟨hv3, V1.out.2.1.trans (hb3.mono V1.out.2.1.size), V1.out.2.2.later hb3⟩
    clear hv3 hb3 V1
    go_wp2_with fail
    refine (HFN.out HMX.out _ a3 l3 c3 V3.out.1).mono ?_
    rintro e w5 ⟨rfl, hb5⟩
    have V5 : Hid (Below w.heap.size w w5) := V3.out.2.1.trans (hb5.mono V3.out.2.1.size)
    obtain ⟨k0, k1, k2, k3, k4, k5, k6⟩ := V3.out.2.2.later hb5
    clear hb5 V3
    go_wp2_with fail
    refine bodyPost_ret (v := .agg #[.int .u64 RB, .int .i64 RF, .bool false]) (by simp [results, Tryz.results25, go_sem, k1, k2, k3]) rfl ⟨by rw [HV.out.1, HV.out.2], ?_⟩
    repeat (first | exact V5.out | refine Below.setCell ?_ (by simp) _)
  exfalso
  omega

set_option maxRecDepth 10000 in
set_option maxHeartbeats 8000000 in
theorem cb_roots (x : Nat) (m : Int) (hx : x < 18446744073709551616) (hm : 0 ≤ m ∧ m ≤ 4) (w : World) :
    Calls Tryz.prog 25 #[.int .i64 8, .int .u64 (x : Nat), .int .i64 m] w fun e w' =>
      e = .returned (.agg #[.int .u64 (cbB x m), .int .i64 (cbF x m), .bool false]) ∧ Below w.heap.size w w' := by
  have HKX : Hid (∀ w, Calls Tryz.prog 40 #[.int .u64 (x : Int)] w fun e w' => e = .returned (.int .i64 (kind x)) ∧ w' = w) := fun w => refKind_any (x : Int) (by omega) (by omega) w
  have HEX : Hid (∀ w, Calls Tryz.prog 42 #[.int .u64 (x : Int)] w fun e w' => ∃ a len cap, e = .returned (.agg #[.bool (negOf x), .slice a len cap, .int .i64 (pow x)]) ∧ IsNat w' (.slice a len cap) (mant x) ∧ Below w.heap.size w w') := fun w => (exact_ref x hx w).mono fun e w' ⟨v, he, hv, hb⟩ => by
    obtain ⟨a, len, cap, g, rfl, -, -, -⟩ := hv.slice
    exact ⟨a, len, cap, he, hv, hb⟩
  have nx := nd_mant x
  have qx := pow_range x
  have bx : Go.bitLen (mant x) ≤ 53 := bitLen_le (n := 53) (mant_lt x)
  have MX : Hid (¬ kind x = 0 → mant x ≠ 0) := mant_some hx
  have HOR : Hid (kind x = 0 → bits .or .u64 (x : Int) 9218868437227405312 = (x : Int) + 9218868437227405312) := or_inf hx
  have HSG : Hid ((x : Int) / 9223372036854775808 = (sgn x : Nat)) := (by unfold sgn; omega : (x : Int) / 9223372036854775808 = (sgn x : Nat))
  have E0 : Hid (EmptyR (w.alloc (.cells #[.int .u64 0, .int .i64 0, .bool false] 39)) w.heap.size) := ⟨by simp, by go_simp, by go_simp, by go_simp, by go_simp, by go_simp, by go_simp⟩
  have B0 : Hid (Below w.heap.size w (w.alloc (.cells #[.int .u64 0, .int .i64 0, .bool false] 39))) := (Below.refl _ _).alloc (Nat.le_refl _) _
  have HQT : Hid (mant x ≠ 0 → ∀ w1 a1 l1 c1, IsNat w1 (.slice a1 l1 c1) (mant x) → Calls Tryz.prog 48 #[.agg #[.bool (negOf x), .slice a1 l1 c1, .int .i64 (pow x)]] w1 fun e w' => ∃ a len cap, e = .returned (.agg #[.bool (negOf x), .slice a len cap, .int .i64 (cbP (pow x))]) ∧ IsNat w' (.slice a len cap) (cbD (mant x) (pow x)) ∧ Below w1.heap.size w1 w') := fun h0 w1 a1 l1 c1 k1 =>
    cubeRoot_is (negOf x) a1 l1 c1 (mant x) (pow x) w1 k1 (by omega) (by omega)
  have HFN : Hid (mant x ≠ 0 → ∀ w1 a3 l3 c3, IsNat w1 (.slice a3 l3 c3) (cbD (mant x) (pow x)) → Calls Tryz.prog 43 #[.agg #[.bool (negOf x), .slice a3 l3 c3, .int .i64 (cbP (pow x))], .int .i64 m] w1 fun e w' => e = .returned (.agg #[.int .u64 (roundB (sgn x) (cbD (mant x) (pow x)) (cbP (pow x)) m), .int .i64 (roundF (sgn x) (cbD (mant x) (pow x)) (cbP (pow x)) m), .bool false]) ∧ Below w1.heap.size w1 w') := fun h0 w1 a3 l3 c3 k => by
    refine finite_of (negOf x) a3 l3 c3 (cbP (pow x)) m _ _ w1 (fun w4 hb4 => ?_)
    have hr := cbP_range (p := pow x) (by omega)
    have := round_ref (negOf x) (cbD (mant x) (pow x)) (cbP (pow x)) m a3 l3 c3 w4 (k.later hb4) (cbD_some _ h0) (nd_cbD _ (by omega)) (by omega) hm
    rw [sOf_neg hx] at this
    exact this
  have HPB : Hid (cbB x m = (if kind x = 3 ∨ kind x = 0 then (x : Int) else roundB (sgn x) (cbD (mant x) (pow x)) (cbP (pow x)) m)) := rfl
  have HPF : Hid (cbF x m = (if kind x = 3 ∨ kind x = 0 then 0 else roundF (sgn x) (cbD (mant x) (pow x)) (cbP (pow x)) m)) := rfl
  have hs := sgn_lt hx
  clear hx hm nx qx bx
  generalize cbB x m = B at *
  generalize cbF x m = F at *
  generalize roundB (sgn x) (cbD (mant x) (pow x)) (cbP (pow x)) m = RB at *
  generalize roundF (sgn x) (cbD (mant x) (pow x)) (cbP (pow x)) m = RF at *
  generalize kind (x : Int) = KX at *
  have hsg := HSG.out
  generalize sgn x = sx at *
  clear HSG
  by_cases c0 : KX = 0
  · have HV : Hid (B = (x : Int) ∧ F = 0) := ⟨by rw [HPB.out, if_pos (Or.inr c0)], by rw [HPF.out, if_pos (Or.inr c0)]⟩
    have k3 : (KX == 3) = false := by rw [beq_eq_false_iff_ne]; omega
    have k0 : (KX == 0) = true := by rw [beq_iff_eq]; omega
    clear c0 HPB HPF MX HOR hs hsg
    go_enter Tryz.func25, Tryz.ntmps25
    go_wp2_with (go_at_call 40; refine (HKX.out _).mono ?_; rintro e w' ⟨rfl, rfl⟩)
    refine bodyPost_ret (v := .agg #[.int .u64 ((x : Int)), .int .i64 0, .bool false]) (by simp [results, Tryz.results25, go_sem]) rfl ⟨by rw [HV.out.1, HV.out.2], ?_⟩
    repeat (first | exact B0.out | exact Below.refl _ _ | refine Below.alloc ?_ (by simp) _ | refine Below.setCell ?_ (by simp) _)
  by_cases c1 : KX = 3
  · have HV : Hid (B = (x : Int) ∧ F = 0) := ⟨by rw [HPB.out, if_pos (Or.inl c1)], by rw [HPF.out, if_pos (Or.inl c1)]⟩
    have k3 : (KX == 3) = true := by rw [beq_iff_eq]; omega
    have k0 : (KX == 0) = false := by rw [beq_eq_false_iff_ne]; omega
    clear c0 c1 HPB HPF MX HOR hs hsg
    go_enter Tryz.func25, Tryz.ntmps25
    go_wp2_with (go_at_call 40; refine (HKX.out _).mono ?_; rintro e w' ⟨rfl, rfl⟩)
    refine bodyPost_ret (v := .agg #[.int .u64 ((x : Int)), .int .i64 0, .bool false]) (by simp [results, Tryz.results25, go_sem]) rfl ⟨by rw [HV.out.1, HV.out.2], ?_⟩
    repeat (first | exact B0.out | exact Below.refl _ _ | refine Below.alloc ?_ (by simp) _ | refine Below.setCell ?_ (by simp) _)
  by_cases c2 : KX ≠ 0 ∧ KX ≠ 3
  · have HV : Hid (B = RB ∧ F = RF) := ⟨by rw [HPB.out, if_neg (by omega)], by rw [HPF.out, if_neg (by omega)]⟩
    have k3 : (KX == 3) = false := by rw [beq_eq_false_iff_ne]; omega
    have k0 : (KX == 0) = false := by rw [beq_eq_false_iff_ne]; omega
    have HMX : Hid (mant x ≠ 0) := MX.out (by omega)
    clear c0 c1 c2 HPB HPF MX HOR hs hsg
    go_enter Tryz.func25, Tryz.ntmps25
    go_wp2_with (go_at_call 40; refine (HKX.out _).mono ?_; rintro e w' ⟨rfl, rfl⟩)
    refine (HEX.out _).mono ?_
    rintro e w1 ⟨a1, l1, c1, rfl, hv1, hb1⟩
    have V1 : Hid (IsNat w1 (.slice a1 l1 c1) (mant x) ∧ Below w.heap.size w w1 ∧ EmptyR w1 w.heap.size) := ⟨hv1, B0.out.trans (hb1.mono B0.out.size), E0.out.later hb1⟩
    clear hv1 hb1
    go_wp2_with fail
    refine (HQT.out HMX.out _ a1 l1 c1 V1.out.1).mono ?_
    rintro e w3 ⟨a3, l3, c3, rfl, hv3, hb3⟩
    have V3 : Hid (IsNat w3 (.slice a3 l3 c3) (cbD (mant x) (pow x)) ∧ Below w.heap.size w w3 ∧ EmptyR w3 w.heap.size) := ⟨hv3, V1.out.2.1.trans (hb3.mono V1.out.2.1.size), V1.out.2.2.later hb3⟩
    clear hv3 hb3 V1
    go_wp2_with fail
    refine (HFN.out HMX.out _ a3 l3 c3 V3.out.1).mono ?_
    rintro e w5 ⟨rfl, hb5⟩
    have V5 : Hid (Below w.heap.size w w5) := V3.out.2.1.trans (hb5.mono V3.out.2.1.size)
    obtain ⟨k0, k1, k2, k3, k4, k5, k6⟩ := V3.out.2.2.later hb5
    clear hb5 V3
    go_wp2_with fail
    refine bodyPost_ret (v := .agg #[.int .u64 RB, .int .i64 RF, .bool false]) (by simp [results, Tryz.results25, go_sem, k1, k2, k3]) rfl ⟨by rw [HV.out.1, HV.out.2], ?_⟩
    repeat (first | exact V5.out | refine Below.setCell ?_ (by simp) _)
  exfalso
  omega
end Go.Proofs.YtcjihaafohnbeaaGreatDoor
