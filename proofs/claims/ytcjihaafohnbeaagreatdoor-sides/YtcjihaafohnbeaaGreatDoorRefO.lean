import Derived.Test.YtcjihaafohnbeaaGreatDoorRefN
import Derived.Test.YtcjihaafohnbeaaGreatDoorRefK
import Derived.Test.YtcjihaafohnbeaaGreatDoorPB
namespace Go.Proofs.YtcjihaafohnbeaaGreatDoor
open Go.RowKit

theorem mant_some {x : Nat} (_hx : x < 18446744073709551616) (h : ¬ kind x = 0) : mant x ≠ 0 := by
  intro h0
  apply h
  unfold mant at h0
  unfold kind kindB
  by_cases he : x / 4503599627370496 % 2048 = 0
  · rw [if_pos he] at h0
    rw [if_pos (by omega)]
  · rw [if_neg he] at h0
    omega
theorem top_xor (x y : Nat) (hx : x < 18446744073709551616) (hy : y < 18446744073709551616) : bits .and .u64 (bits .xor .u64 (x : Int) (y : Int)) 9223372036854775808 = (xs x y : Int) * 9223372036854775808 := by
  have h1 := u64_xor_nat x y hx hy
  rw [h1]
  have hlt : x ^^^ y < 18446744073709551616 := Nat.xor_lt_two_pow (n := 64) hx hy
  have h2 := u64_and_nat (x ^^^ y) (2 ^ 63) hlt (by decide)
  rw [show ((2 ^ 63 : Nat) : Int) = 9223372036854775808 by decide] at h2
  rw [h2, nat_and_pow, ← Nat.shiftRight_eq_div_pow, Nat.shiftRight_xor_distrib, Nat.shiftRight_eq_div_pow, Nat.shiftRight_eq_div_pow]
  unfold xs sgn
  have e1 : x / 2 ^ 63 = 0 ∨ x / 2 ^ 63 = 1 := by omega
  have e2 : y / 2 ^ 63 = 0 ∨ y / 2 ^ 63 = 1 := by omega
  rw [show (9223372036854775808 : Nat) = 2 ^ 63 by decide]
  rcases e1 with e1 | e1 <;> rcases e2 with e2 | e2 <;> rw [e1, e2] <;> decide
theorem sOf_xs {x y : Nat} (hx : x < 18446744073709551616) (hy : y < 18446744073709551616) : sOf (negOf x != negOf y) = (xs x y : Int) := by
  have h1 := sgn_lt hx
  have h2 := sgn_lt hy
  unfold negOf xs
  have e1 : sgn x = 0 ∨ sgn x = 1 := by omega
  have e2 : sgn y = 0 ∨ sgn y = 1 := by omega
  rcases e1 with e1 | e1 <;> rcases e2 with e2 | e2 <;> rw [e1, e2] <;> decide

/-- The result's own block, yet empty. -/
structure EmptyR (w : World) (g : Nat) : Prop where
  lt : g < w.heap.size
  c0 : w.cell? ⟨g, 0, none⟩ = some (.int .u64 0)
  c1 : w.cell? ⟨g, 1, none⟩ = some (.int .i64 0)
  c2 : w.cell? ⟨g, 2, none⟩ = some (.bool false)
  f0 : w.frozen? ⟨g, 0, none⟩ = false
  f1 : w.frozen? ⟨g, 1, none⟩ = false
  f2 : w.frozen? ⟨g, 2, none⟩ = false
theorem EmptyR.later {w w' : World} {g : Nat} (h : EmptyR w g) (hb : Below w.heap.size w w') : EmptyR w' g :=
  ⟨Nat.lt_of_lt_of_le h.lt hb.size, (hb.cell (p := ⟨g, 0, none⟩) h.lt).trans h.c0, (hb.cell (p := ⟨g, 1, none⟩) h.lt).trans h.c1, (hb.cell (p := ⟨g, 2, none⟩) h.lt).trans h.c2, (hb.frozen (p := ⟨g, 0, none⟩) h.lt).trans h.f0, (hb.frozen (p := ⟨g, 1, none⟩) h.lt).trans h.f1, (hb.frozen (p := ⟨g, 2, none⟩) h.lt).trans h.f2⟩
theorem nd_mant (x : Nat) : nd (mant x) ≤ 3 := nd_of_lt (Nat.lt_trans (mant_lt x) (by decide))

set_option maxRecDepth 10000 in
set_option maxHeartbeats 4000000 in
theorem mult_ref (x y : Nat) (m : Int) (hx : x < 18446744073709551616) (hy : y < 18446744073709551616) (hm : 0 ≤ m ∧ m ≤ 4) (w : World) :
    Calls Tryz.prog 21 #[.int .u64 (x : Nat), .int .u64 (y : Nat), .int .i64 m] w fun e w' =>
      e = .returned (.agg #[.int .u64 (prodB x y m), .int .i64 (prodF x y m), .bool false]) ∧ Below w.heap.size w w' := by
  have HKX : Hid (∀ w, Calls Tryz.prog 40 #[.int .u64 (x : Int)] w fun e w' => e = .returned (.int .i64 (kind x)) ∧ w' = w) := fun w => refKind_any (x : Int) (by omega) (by omega) w
  have HKY : Hid (∀ w, Calls Tryz.prog 40 #[.int .u64 (y : Int)] w fun e w' => e = .returned (.int .i64 (kind y)) ∧ w' = w) := fun w => refKind_any (y : Int) (by omega) (by omega) w
  have hxor := top_xor x y hx hy
  have hxs := xs_lt x y
  have E0 : Hid (EmptyR (w.alloc (.cells #[.int .u64 0, .int .i64 0, .bool false] 39)) w.heap.size) := ⟨by simp, by go_simp, by go_simp, by go_simp, by go_simp, by go_simp, by go_simp⟩
  have B0 : Hid (Below w.heap.size w (w.alloc (.cells #[.int .u64 0, .int .i64 0, .bool false] 39))) := (Below.refl _ _).alloc (Nat.le_refl _) _
  have HPB : Hid (prodB x y m = (if (kind x = 3 ∨ kind y = 3) ∧ (kind x = 0 ∨ kind y = 0) then 9221120237041090560 else if kind x = 3 ∨ kind y = 3 then (xs x y : Int) * 9223372036854775808 + 9218868437227405312 else if kind x = 0 ∨ kind y = 0 then (xs x y : Int) * 9223372036854775808 else roundB (xs x y) (mant x * mant y) (pow x + pow y) m)) := rfl
  have HPF : Hid (prodF x y m = (if (kind x = 3 ∨ kind y = 3) ∧ (kind x = 0 ∨ kind y = 0) then 16 else if kind x = 3 ∨ kind y = 3 then 0 else if kind x = 0 ∨ kind y = 0 then 0 else roundF (xs x y) (mant x * mant y) (pow x + pow y) m)) := rfl
  have HMX : Hid (¬ kind x = 0 → mant x ≠ 0) := mant_some hx
  have HMY : Hid (¬ kind y = 0 → mant y ≠ 0) := mant_some hy
  have HEX : Hid (∀ w, Calls Tryz.prog 42 #[.int .u64 (x : Int)] w fun e w' => ∃ a len cap, e = .returned (.agg #[.bool (negOf x), .slice a len cap, .int .i64 (pow x)]) ∧ IsNat w' (.slice a len cap) (mant x) ∧ Below w.heap.size w w') := fun w => (exact_ref x hx w).mono fun e w' ⟨v, he, hv, hb⟩ => by
    obtain ⟨a, len, cap, g, rfl, -, -, -⟩ := hv.slice
    exact ⟨a, len, cap, he, hv, hb⟩
  have HEY : Hid (∀ w, Calls Tryz.prog 42 #[.int .u64 (y : Int)] w fun e w' => ∃ a len cap, e = .returned (.agg #[.bool (negOf y), .slice a len cap, .int .i64 (pow y)]) ∧ IsNat w' (.slice a len cap) (mant y) ∧ Below w.heap.size w w') := fun w => (exact_ref y hy w).mono fun e w' ⟨v, he, hv, hb⟩ => by
    obtain ⟨a, len, cap, g, rfl, -, -, -⟩ := hv.slice
    exact ⟨a, len, cap, he, hv, hb⟩
  have HSX : Hid (sOf (negOf x != negOf y) = (xs x y : Int)) := sOf_xs hx hy
  have HM : Hid (0 ≤ m ∧ m ≤ 4) := hm
  have HPR : Hid ((-1074 ≤ pow x ∧ pow x ≤ 972) ∧ (-1074 ≤ pow y ∧ pow y ≤ 972)) := ⟨pow_range x, pow_range y⟩
  have kx := kind_range (x : Int)
  have ky := kind_range (y : Int)
  clear hx hy hm
  generalize kind (x : Int) = KX at *
  generalize kind (y : Int) = KY at *
  have hu : IntKind.u64.wrap ((xs x y : Int) * 9223372036854775808 + 9218868437227405312) = (xs x y : Int) * 9223372036854775808 + 9218868437227405312 := Go.IntWalk.u64_in _ (by omega)
  by_cases x3 : KX = 3
  · by_cases y3 : KY = 3
    · skip
      have bx3 : (KX == 3) = true := by rw [beq_iff_eq]; omega
      have bx0 : (KX == 0) = false := by rw [beq_eq_false_iff_ne]; omega
      have by3 : (KY == 3) = true := by rw [beq_iff_eq]; omega
      have by0 : (KY == 0) = false := by rw [beq_eq_false_iff_ne]; omega
      have hB : prodB x y m = ((xs x y : Int) * 9223372036854775808 + 9218868437227405312) ∧ prodF x y m = 0 := by
        rw [HPB.out, HPF.out]
        rw [if_neg (by omega), if_pos (by omega), if_neg (by omega), if_pos (by omega)]
        exact ⟨rfl, rfl⟩
      have HB : Hid (prodB x y m = ((xs x y : Int) * 9223372036854775808 + 9218868437227405312) ∧ prodF x y m = 0) := hB
      clear hB kx ky
      go_enter Tryz.func21, Tryz.ntmps21
      go_wp2_with (first | (go_at_call_of 40 (Value.int .u64 (x : Int)); refine (HKX.out _).mono ?_; rintro e w' ⟨rfl, rfl⟩) | (go_at_call_of 40 (Value.int .u64 (y : Int)); refine (HKY.out _).mono ?_; rintro e w' ⟨rfl, rfl⟩))
      refine bodyPost_ret (v := .agg #[.int .u64 ((xs x y : Int) * 9223372036854775808 + 9218868437227405312), .int .i64 0, .bool false]) (by simp [results, Tryz.results21, go_sem]) rfl ⟨by rw [HB.out.1, HB.out.2], ?_⟩
      repeat (first | exact B0.out | exact Below.refl _ _ | refine Below.alloc ?_ (by simp) _ | refine Below.setCell ?_ (by simp) _)
    · by_cases y0 : KY = 0
      · skip
        have bx3 : (KX == 3) = true := by rw [beq_iff_eq]; omega
        have bx0 : (KX == 0) = false := by rw [beq_eq_false_iff_ne]; omega
        have by3 : (KY == 3) = false := by rw [beq_eq_false_iff_ne]; omega
        have by0 : (KY == 0) = true := by rw [beq_iff_eq]; omega
        have hB : prodB x y m = 9221120237041090560 ∧ prodF x y m = 16 := by
          rw [HPB.out, HPF.out]
          rw [if_pos (by omega), if_pos (by omega)]
          exact ⟨rfl, rfl⟩
        have HB : Hid (prodB x y m = 9221120237041090560 ∧ prodF x y m = 16) := hB
        clear hB kx ky
        go_enter Tryz.func21, Tryz.ntmps21
        go_wp2_with (first | (go_at_call_of 40 (Value.int .u64 (x : Int)); refine (HKX.out _).mono ?_; rintro e w' ⟨rfl, rfl⟩) | (go_at_call_of 40 (Value.int .u64 (y : Int)); refine (HKY.out _).mono ?_; rintro e w' ⟨rfl, rfl⟩))
        refine bodyPost_ret (v := .agg #[.int .u64 9221120237041090560, .int .i64 16, .bool false]) (by simp [results, Tryz.results21, go_sem]) rfl ⟨by rw [HB.out.1, HB.out.2], ?_⟩
        repeat (first | exact B0.out | exact Below.refl _ _ | refine Below.alloc ?_ (by simp) _ | refine Below.setCell ?_ (by simp) _)
      · skip
        have bx3 : (KX == 3) = true := by rw [beq_iff_eq]; omega
        have bx0 : (KX == 0) = false := by rw [beq_eq_false_iff_ne]; omega
        have by3 : (KY == 3) = false := by rw [beq_eq_false_iff_ne]; omega
        have by0 : (KY == 0) = false := by rw [beq_eq_false_iff_ne]; omega
        have hB : prodB x y m = ((xs x y : Int) * 9223372036854775808 + 9218868437227405312) ∧ prodF x y m = 0 := by
          rw [HPB.out, HPF.out]
          rw [if_neg (by omega), if_pos (by omega), if_neg (by omega), if_pos (by omega)]
          exact ⟨rfl, rfl⟩
        have HB : Hid (prodB x y m = ((xs x y : Int) * 9223372036854775808 + 9218868437227405312) ∧ prodF x y m = 0) := hB
        clear hB kx ky
        go_enter Tryz.func21, Tryz.ntmps21
        go_wp2_with (first | (go_at_call_of 40 (Value.int .u64 (x : Int)); refine (HKX.out _).mono ?_; rintro e w' ⟨rfl, rfl⟩) | (go_at_call_of 40 (Value.int .u64 (y : Int)); refine (HKY.out _).mono ?_; rintro e w' ⟨rfl, rfl⟩))
        refine bodyPost_ret (v := .agg #[.int .u64 ((xs x y : Int) * 9223372036854775808 + 9218868437227405312), .int .i64 0, .bool false]) (by simp [results, Tryz.results21, go_sem]) rfl ⟨by rw [HB.out.1, HB.out.2], ?_⟩
        repeat (first | exact B0.out | exact Below.refl _ _ | refine Below.alloc ?_ (by simp) _ | refine Below.setCell ?_ (by simp) _)
  · by_cases x0 : KX = 0
    · by_cases y3 : KY = 3
      · skip
        have bx3 : (KX == 3) = false := by rw [beq_eq_false_iff_ne]; omega
        have bx0 : (KX == 0) = true := by rw [beq_iff_eq]; omega
        have by3 : (KY == 3) = true := by rw [beq_iff_eq]; omega
        have by0 : (KY == 0) = false := by rw [beq_eq_false_iff_ne]; omega
        have hB : prodB x y m = 9221120237041090560 ∧ prodF x y m = 16 := by
          rw [HPB.out, HPF.out]
          rw [if_pos (by omega), if_pos (by omega)]
          exact ⟨rfl, rfl⟩
        have HB : Hid (prodB x y m = 9221120237041090560 ∧ prodF x y m = 16) := hB
        clear hB kx ky
        go_enter Tryz.func21, Tryz.ntmps21
        go_wp2_with (first | (go_at_call_of 40 (Value.int .u64 (x : Int)); refine (HKX.out _).mono ?_; rintro e w' ⟨rfl, rfl⟩) | (go_at_call_of 40 (Value.int .u64 (y : Int)); refine (HKY.out _).mono ?_; rintro e w' ⟨rfl, rfl⟩))
        refine bodyPost_ret (v := .agg #[.int .u64 9221120237041090560, .int .i64 16, .bool false]) (by simp [results, Tryz.results21, go_sem]) rfl ⟨by rw [HB.out.1, HB.out.2], ?_⟩
        repeat (first | exact B0.out | exact Below.refl _ _ | refine Below.alloc ?_ (by simp) _ | refine Below.setCell ?_ (by simp) _)
      · by_cases y0 : KY = 0
        · skip
          have bx3 : (KX == 3) = false := by rw [beq_eq_false_iff_ne]; omega
          have bx0 : (KX == 0) = true := by rw [beq_iff_eq]; omega
          have by3 : (KY == 3) = false := by rw [beq_eq_false_iff_ne]; omega
          have by0 : (KY == 0) = true := by rw [beq_iff_eq]; omega
          have hB : prodB x y m = ((xs x y : Int) * 9223372036854775808) ∧ prodF x y m = 0 := by
            rw [HPB.out, HPF.out]
            rw [if_neg (by omega), if_neg (by omega), if_pos (by omega), if_neg (by omega), if_neg (by omega), if_pos (by omega)]
            exact ⟨rfl, rfl⟩
          have HB : Hid (prodB x y m = ((xs x y : Int) * 9223372036854775808) ∧ prodF x y m = 0) := hB
          clear hB kx ky
          go_enter Tryz.func21, Tryz.ntmps21
          go_wp2_with (first | (go_at_call_of 40 (Value.int .u64 (x : Int)); refine (HKX.out _).mono ?_; rintro e w' ⟨rfl, rfl⟩) | (go_at_call_of 40 (Value.int .u64 (y : Int)); refine (HKY.out _).mono ?_; rintro e w' ⟨rfl, rfl⟩))
          refine bodyPost_ret (v := .agg #[.int .u64 ((xs x y : Int) * 9223372036854775808), .int .i64 0, .bool false]) (by simp [results, Tryz.results21, go_sem]) rfl ⟨by rw [HB.out.1, HB.out.2], ?_⟩
          repeat (first | exact B0.out | exact Below.refl _ _ | refine Below.alloc ?_ (by simp) _ | refine Below.setCell ?_ (by simp) _)
        · skip
          have bx3 : (KX == 3) = false := by rw [beq_eq_false_iff_ne]; omega
          have bx0 : (KX == 0) = true := by rw [beq_iff_eq]; omega
          have by3 : (KY == 3) = false := by rw [beq_eq_false_iff_ne]; omega
          have by0 : (KY == 0) = false := by rw [beq_eq_false_iff_ne]; omega
          have hB : prodB x y m = ((xs x y : Int) * 9223372036854775808) ∧ prodF x y m = 0 := by
            rw [HPB.out, HPF.out]
            rw [if_neg (by omega), if_neg (by omega), if_pos (by omega), if_neg (by omega), if_neg (by omega), if_pos (by omega)]
            exact ⟨rfl, rfl⟩
          have HB : Hid (prodB x y m = ((xs x y : Int) * 9223372036854775808) ∧ prodF x y m = 0) := hB
          clear hB kx ky
          go_enter Tryz.func21, Tryz.ntmps21
          go_wp2_with (first | (go_at_call_of 40 (Value.int .u64 (x : Int)); refine (HKX.out _).mono ?_; rintro e w' ⟨rfl, rfl⟩) | (go_at_call_of 40 (Value.int .u64 (y : Int)); refine (HKY.out _).mono ?_; rintro e w' ⟨rfl, rfl⟩))
          refine bodyPost_ret (v := .agg #[.int .u64 ((xs x y : Int) * 9223372036854775808), .int .i64 0, .bool false]) (by simp [results, Tryz.results21, go_sem]) rfl ⟨by rw [HB.out.1, HB.out.2], ?_⟩
          repeat (first | exact B0.out | exact Below.refl _ _ | refine Below.alloc ?_ (by simp) _ | refine Below.setCell ?_ (by simp) _)
    · by_cases y3 : KY = 3
      · skip
        have bx3 : (KX == 3) = false := by rw [beq_eq_false_iff_ne]; omega
        have bx0 : (KX == 0) = false := by rw [beq_eq_false_iff_ne]; omega
        have by3 : (KY == 3) = true := by rw [beq_iff_eq]; omega
        have by0 : (KY == 0) = false := by rw [beq_eq_false_iff_ne]; omega
        have hB : prodB x y m = ((xs x y : Int) * 9223372036854775808 + 9218868437227405312) ∧ prodF x y m = 0 := by
          rw [HPB.out, HPF.out]
          rw [if_neg (by omega), if_pos (by omega), if_neg (by omega), if_pos (by omega)]
          exact ⟨rfl, rfl⟩
        have HB : Hid (prodB x y m = ((xs x y : Int) * 9223372036854775808 + 9218868437227405312) ∧ prodF x y m = 0) := hB
        clear hB kx ky
        go_enter Tryz.func21, Tryz.ntmps21
        go_wp2_with (first | (go_at_call_of 40 (Value.int .u64 (x : Int)); refine (HKX.out _).mono ?_; rintro e w' ⟨rfl, rfl⟩) | (go_at_call_of 40 (Value.int .u64 (y : Int)); refine (HKY.out _).mono ?_; rintro e w' ⟨rfl, rfl⟩))
        refine bodyPost_ret (v := .agg #[.int .u64 ((xs x y : Int) * 9223372036854775808 + 9218868437227405312), .int .i64 0, .bool false]) (by simp [results, Tryz.results21, go_sem]) rfl ⟨by rw [HB.out.1, HB.out.2], ?_⟩
        repeat (first | exact B0.out | exact Below.refl _ _ | refine Below.alloc ?_ (by simp) _ | refine Below.setCell ?_ (by simp) _)
      · by_cases y0 : KY = 0
        · skip
          have bx3 : (KX == 3) = false := by rw [beq_eq_false_iff_ne]; omega
          have bx0 : (KX == 0) = false := by rw [beq_eq_false_iff_ne]; omega
          have by3 : (KY == 3) = false := by rw [beq_eq_false_iff_ne]; omega
          have by0 : (KY == 0) = true := by rw [beq_iff_eq]; omega
          have hB : prodB x y m = ((xs x y : Int) * 9223372036854775808) ∧ prodF x y m = 0 := by
            rw [HPB.out, HPF.out]
            rw [if_neg (by omega), if_neg (by omega), if_pos (by omega), if_neg (by omega), if_neg (by omega), if_pos (by omega)]
            exact ⟨rfl, rfl⟩
          have HB : Hid (prodB x y m = ((xs x y : Int) * 9223372036854775808) ∧ prodF x y m = 0) := hB
          clear hB kx ky
          go_enter Tryz.func21, Tryz.ntmps21
          go_wp2_with (first | (go_at_call_of 40 (Value.int .u64 (x : Int)); refine (HKX.out _).mono ?_; rintro e w' ⟨rfl, rfl⟩) | (go_at_call_of 40 (Value.int .u64 (y : Int)); refine (HKY.out _).mono ?_; rintro e w' ⟨rfl, rfl⟩))
          refine bodyPost_ret (v := .agg #[.int .u64 ((xs x y : Int) * 9223372036854775808), .int .i64 0, .bool false]) (by simp [results, Tryz.results21, go_sem]) rfl ⟨by rw [HB.out.1, HB.out.2], ?_⟩
          repeat (first | exact B0.out | exact Below.refl _ _ | refine Below.alloc ?_ (by simp) _ | refine Below.setCell ?_ (by simp) _)
        · skip
          have bx3 : (KX == 3) = false := by rw [beq_eq_false_iff_ne]; omega
          have bx0 : (KX == 0) = false := by rw [beq_eq_false_iff_ne]; omega
          have by3 : (KY == 3) = false := by rw [beq_eq_false_iff_ne]; omega
          have by0 : (KY == 0) = false := by rw [beq_eq_false_iff_ne]; omega
          have hB : prodB x y m = roundB (xs x y) (mant x * mant y) (pow x + pow y) m ∧ prodF x y m = roundF (xs x y) (mant x * mant y) (pow x + pow y) m := by
            rw [HPB.out, HPF.out]
            rw [if_neg (by omega), if_neg (by omega), if_neg (by omega), if_neg (by omega), if_neg (by omega), if_neg (by omega)]
            exact ⟨rfl, rfl⟩
          have HB : Hid (prodB x y m = roundB (xs x y) (mant x * mant y) (pow x + pow y) m ∧ prodF x y m = roundF (xs x y) (mant x * mant y) (pow x + pow y) m) := hB
          have HNZ : Hid (mant x * mant y ≠ 0) := Nat.mul_ne_zero (HMX.out x0) (HMY.out y0)
          clear hB kx ky HPB HPF HMX HMY
          go_enter Tryz.func21, Tryz.ntmps21
          go_wp2_with (first | (go_at_call_of 40 (Value.int .u64 (x : Int)); refine (HKX.out _).mono ?_; rintro e w' ⟨rfl, rfl⟩) | (go_at_call_of 40 (Value.int .u64 (y : Int)); refine (HKY.out _).mono ?_; rintro e w' ⟨rfl, rfl⟩))
          refine (HEX.out _).mono ?_
          rintro e w1 ⟨a1, l1, c1, rfl, hv1, hb1⟩
          have V1 : Hid (IsNat w1 (.slice a1 l1 c1) (mant x) ∧ Below w.heap.size w w1 ∧ EmptyR w1 w.heap.size) := ⟨hv1, B0.out.trans (hb1.mono B0.out.size), E0.out.later hb1⟩
          clear hv1 hb1
          go_wp2_with fail
          refine (HEY.out _).mono ?_
          rintro e w2 ⟨a2, l2, c2, rfl, hv2, hb2⟩
          have V2 : Hid (IsNat w2 (.slice a1 l1 c1) (mant x) ∧ IsNat w2 (.slice a2 l2 c2) (mant y) ∧ Below w.heap.size w w2 ∧ EmptyR w2 w.heap.size) := ⟨V1.out.1.later hb2, hv2, V1.out.2.1.trans (hb2.mono V1.out.2.1.size), V1.out.2.2.later hb2⟩
          clear hv2 hb2 V1
          go_wp2_with fail
          refine (product_ref (negOf x) (negOf y) a1 a2 l1 c1 l2 c2 (mant x) (mant y) (pow x) (pow y) _ V2.out.1 V2.out.2.1 (Nat.le_trans (nd_mant x) (by decide)) (Nat.le_trans (nd_mant y) (by decide)) (by have := HPR.out; omega)).mono ?_
          rintro e w3 ⟨a3, l3, c3, rfl, hv3, hb3⟩
          have V3 : Hid (IsNat w3 (.slice a3 l3 c3) (mant x * mant y) ∧ Below w.heap.size w w3 ∧ EmptyR w3 w.heap.size) := ⟨hv3, V2.out.2.2.1.trans (hb3.mono V2.out.2.2.1.size), V2.out.2.2.2.later hb3⟩
          clear hv3 hb3 V2
          go_wp2_with fail
          refine (finite_of (negOf x != negOf y) a3 l3 c3 (pow x + pow y) m (roundB (xs x y) (mant x * mant y) (pow x + pow y) m) (roundF (xs x y) (mant x * mant y) (pow x + pow y) m) _ (fun w4 hb4 => ?fin)).mono ?_
          case fin =>
            have := round_ref (negOf x != negOf y) (mant x * mant y) (pow x + pow y) m a3 l3 c3 w4 (V3.out.1.later hb4) HNZ.out (Nat.le_trans (nd_mul_le _ _) (by have := nd_mant x; have := nd_mant y; omega)) (by have := HPR.out; omega) HM.out
            rw [HSX.out] at this
            exact this
          rintro e w5 ⟨rfl, hb5⟩
          have V5 : Hid (Below w.heap.size w w5) := V3.out.2.1.trans (hb5.mono V3.out.2.1.size)
          obtain ⟨k0, k1, k2, k3, k4, k5, k6⟩ := V3.out.2.2.later hb5
          clear hb5 V3
          generalize roundB (xs x y) (mant x * mant y) (pow x + pow y) m = RB at *
          generalize roundF (xs x y) (mant x * mant y) (pow x + pow y) m = RF at *
          go_wp2_with fail
          refine bodyPost_ret (v := .agg #[.int .u64 RB, .int .i64 RF, .bool false]) (by simp [results, Tryz.results21, go_sem, k1, k2, k3]) rfl ⟨by rw [HB.out.1, HB.out.2], ?_⟩
          repeat (first | exact V5.out | refine Below.setCell ?_ (by simp) _)
end Go.Proofs.YtcjihaafohnbeaaGreatDoor
