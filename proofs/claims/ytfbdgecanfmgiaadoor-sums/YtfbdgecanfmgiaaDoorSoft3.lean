import Derived.Test.YtfbdgecanfmgiaaDoorSoft2
namespace Go.Proofs.YtfbdgecanfmgiaaDoor
open Go.RowKit

set_option maxHeartbeats 8000000 in
theorem product_inf (x y : Nat) (op m z : Int) (hx : x < 18446744073709551616) (hy : y < 18446744073709551616) (a3 b3 a0 b0 : Bool)
    (h1 : (kind x == 3) = a3) (h2 : (kind y == 3) = b3) (h3 : (kind x == 0) = a0) (h4 : (kind y == 0) = b0) (hi : (a3 || b3) = true) (hz : (a0 || b0) = false) (w : World) :
    Calls Tryd.prog 33 #[.agg #[.int .u8 op, .int .u8 m, .int .u64 x, .int .u64 y, .int .u64 z]] w fun e w' =>
      e = .returned (.agg #[.int .u64 (xs x y * 9223372036854775808 + 9218868437227405312), .int .u8 0, .bool false]) ∧ Below w.heap.size w w' := by
  have hxor := xor_sgn x y hx hy
  have HX : Hid (x < 18446744073709551616) := hx
  have HY : Hid (y < 18446744073709551616) := hy
  have HS : Hid ((xs x y : Int) = 0 ∨ (xs x y : Int) = 1) := (by have := xs_lt x y; omega : (xs x y : Int) = 0 ∨ (xs x y : Int) = 1)
  clear hx hy
  cases a3 <;> cases b3 <;> cases a0 <;> cases b0
  all_goals first | (exfalso; revert hi hz; decide) | skip
  all_goals clear hi hz
  all_goals
    go_enter Tryd.func33, Tryd.ntmps33
    go_wp2_with fail
    go_quiet (first | (go_at_call_of 52 (Value.int .u64 (x : Int)); exact Calls.quiet_of_same (signOf_any (x : Int) (by omega) (by have := HX.out; omega) _)) | (go_at_call_of 52 (Value.int .u64 (y : Int)); exact Calls.quiet_of_same (signOf_any (y : Int) (by omega) (by have := HY.out; omega) _)))
    go_wp2_with (first | (go_at_call_of 35 (Value.int .u64 (x : Int)); refine (kindOf_any (x : Int) (by omega) (by have := HX.out; omega) _).mono ?_; rintro e w' ⟨rfl, rfl⟩) | (go_at_call_of 35 (Value.int .u64 (y : Int)); refine (kindOf_any (y : Int) (by omega) (by have := HY.out; omega) _).mono ?_; rintro e w' ⟨rfl, rfl⟩) | (go_at_call 50; refine (signed_any _ _ HS.out (by omega) _).mono ?_; rintro e w' ⟨rfl, rfl⟩))
  all_goals exact bodyPost_ret (v := .agg #[.int .u64 (xs x y * 9223372036854775808 + 9218868437227405312), .int .u8 0, .bool false]) (by simp [results, Tryd.results33, go_sem]) rfl ⟨rfl, (((below_drewN (((Below.refl _ _).alloc (Nat.le_refl _) _).alloc (by simp) _) _).setCell (by simp) _).setCell (by simp) _).setCell (by simp) _⟩

set_option maxHeartbeats 8000000 in
theorem product_zero (x y : Nat) (op m z : Int) (hx : x < 18446744073709551616) (hy : y < 18446744073709551616) (a3 b3 a0 b0 : Bool)
    (h1 : (kind x == 3) = a3) (h2 : (kind y == 3) = b3) (h3 : (kind x == 0) = a0) (h4 : (kind y == 0) = b0) (hi : (a3 || b3) = false) (hz : (a0 || b0) = true) (w : World) :
    Calls Tryd.prog 33 #[.agg #[.int .u8 op, .int .u8 m, .int .u64 x, .int .u64 y, .int .u64 z]] w fun e w' =>
      e = .returned (.agg #[.int .u64 (xs x y * 9223372036854775808 + 0), .int .u8 0, .bool false]) ∧ Below w.heap.size w w' := by
  have hxor := xor_sgn x y hx hy
  have HX : Hid (x < 18446744073709551616) := hx
  have HY : Hid (y < 18446744073709551616) := hy
  have HS : Hid ((xs x y : Int) = 0 ∨ (xs x y : Int) = 1) := (by have := xs_lt x y; omega : (xs x y : Int) = 0 ∨ (xs x y : Int) = 1)
  clear hx hy
  cases a3 <;> cases b3 <;> cases a0 <;> cases b0
  all_goals first | (exfalso; revert hi hz; decide) | skip
  all_goals clear hi hz
  all_goals
    go_enter Tryd.func33, Tryd.ntmps33
    go_wp2_with fail
    go_quiet (first | (go_at_call_of 52 (Value.int .u64 (x : Int)); exact Calls.quiet_of_same (signOf_any (x : Int) (by omega) (by have := HX.out; omega) _)) | (go_at_call_of 52 (Value.int .u64 (y : Int)); exact Calls.quiet_of_same (signOf_any (y : Int) (by omega) (by have := HY.out; omega) _)))
    go_wp2_with (first | (go_at_call_of 35 (Value.int .u64 (x : Int)); refine (kindOf_any (x : Int) (by omega) (by have := HX.out; omega) _).mono ?_; rintro e w' ⟨rfl, rfl⟩) | (go_at_call_of 35 (Value.int .u64 (y : Int)); refine (kindOf_any (y : Int) (by omega) (by have := HY.out; omega) _).mono ?_; rintro e w' ⟨rfl, rfl⟩) | (go_at_call 50; refine (signed_any _ _ HS.out (by omega) _).mono ?_; rintro e w' ⟨rfl, rfl⟩))
  all_goals exact bodyPost_ret (v := .agg #[.int .u64 (xs x y * 9223372036854775808 + 0), .int .u8 0, .bool false]) (by simp [results, Tryd.results33, go_sem]) rfl ⟨rfl, (((below_drewN (((Below.refl _ _).alloc (Nat.le_refl _) _).alloc (by simp) _) _).setCell (by simp) _).setCell (by simp) _).setCell (by simp) _⟩

set_option maxHeartbeats 8000000 in
theorem product_wrong (x y : Nat) (op m z : Int) (hx : x < 18446744073709551616) (hy : y < 18446744073709551616) (a3 b3 a0 b0 : Bool)
    (h1 : (kind x == 3) = a3) (h2 : (kind y == 3) = b3) (h3 : (kind x == 0) = a0) (h4 : (kind y == 0) = b0) (hi : (a3 || b3) = true) (hz : (a0 || b0) = true) (w : World) :
    Calls Tryd.prog 33 #[.agg #[.int .u8 op, .int .u8 m, .int .u64 x, .int .u64 y, .int .u64 z]] w fun e w' =>
      e = .returned (.agg #[.int .u64 9221120237041090560, .int .u8 16, .bool false]) ∧ Below w.heap.size w w' := by
  have hxor := xor_sgn x y hx hy
  have HX : Hid (x < 18446744073709551616) := hx
  have HY : Hid (y < 18446744073709551616) := hy
  have HS : Hid ((xs x y : Int) = 0 ∨ (xs x y : Int) = 1) := (by have := xs_lt x y; omega : (xs x y : Int) = 0 ∨ (xs x y : Int) = 1)
  clear hx hy
  cases a3 <;> cases b3 <;> cases a0 <;> cases b0
  all_goals first | (exfalso; revert hi hz; decide) | skip
  all_goals clear hi hz
  all_goals
    go_enter Tryd.func33, Tryd.ntmps33
    go_wp2_with fail
    go_quiet (first | (go_at_call_of 52 (Value.int .u64 (x : Int)); exact Calls.quiet_of_same (signOf_any (x : Int) (by omega) (by have := HX.out; omega) _)) | (go_at_call_of 52 (Value.int .u64 (y : Int)); exact Calls.quiet_of_same (signOf_any (y : Int) (by omega) (by have := HY.out; omega) _)))
    go_wp2_with (first | (go_at_call_of 35 (Value.int .u64 (x : Int)); refine (kindOf_any (x : Int) (by omega) (by have := HX.out; omega) _).mono ?_; rintro e w' ⟨rfl, rfl⟩) | (go_at_call_of 35 (Value.int .u64 (y : Int)); refine (kindOf_any (y : Int) (by omega) (by have := HY.out; omega) _).mono ?_; rintro e w' ⟨rfl, rfl⟩))
  all_goals
    refine (wrong_any _).mono ?_
    rintro e w1 ⟨rfl, hb1⟩
    have KR : Hid (Rec5 w w1 (.int .u8 op) (.int .u8 m) (.int .u64 x) (.int .u64 y) (.int .u64 z)) := (Rec5.start w _ _ _ _ _ _ _).later ((below_drewN (Below.refl _ _) _).trans (hb1.mono (Nat.le_refl _))) (by simp)
    have r0 := KR.out.r0
    have r1 := KR.out.r1
    have r2 := KR.out.r2
    have f0 := KR.out.f0
    have f1 := KR.out.f1
    have f2 := KR.out.f2
    clear hb1
    go_wp2_with fail
    refine bodyPost_ret (v := .agg #[.int .u64 9221120237041090560, .int .u8 16, .bool false]) (by simp [results, Tryd.results33, go_sem, *]) rfl ⟨rfl, ?_⟩
    exact ((KR.out.below.setCell (by simp) _).setCell (by simp) _).setCell (by simp) _

theorem soft_product (x y : Nat) (op m z : Int) (hx : x < 18446744073709551616) (hy : y < 18446744073709551616) (hm : 0 ≤ m ∧ m ≤ 4) (w : World) (hT : Tab w) :
    Calls Tryd.prog 33 #[.agg #[.int .u8 op, .int .u8 m, .int .u64 x, .int .u64 y, .int .u64 z]] w fun e w' =>
      e = .returned (.agg #[.int .u64 (prodB x y m), .int .u8 (prodF x y m), .bool false]) ∧ Below w.heap.size w w' := by
  by_cases hi : kind x = 3 ∨ kind y = 3
  · have hi' : (kind x == 3 || kind y == 3) = true := by simpa using hi
    by_cases hz : kind x = 0 ∨ kind y = 0
    · have hz' : (kind x == 0 || kind y == 0) = true := by simpa using hz
      have := product_wrong x y op m z hx hy _ _ _ _ rfl rfl rfl rfl hi' hz' w
      unfold prodB prodF
      rw [if_pos ⟨hi, hz⟩, if_pos ⟨hi, hz⟩]
      exact this
    · have hz' : (kind x == 0 || kind y == 0) = false := by simpa using hz
      have := product_inf x y op m z hx hy _ _ _ _ rfl rfl rfl rfl hi' hz' w
      unfold prodB prodF
      have hn : ¬ ((kind x = 3 ∨ kind y = 3) ∧ (kind x = 0 ∨ kind y = 0)) := fun h => hz h.2
      rw [if_neg hn, if_neg hn, if_pos hi, if_pos hi]
      exact this
  · have hi' : (kind x == 3 || kind y == 3) = false := by simpa using hi
    by_cases hz : kind x = 0 ∨ kind y = 0
    · have hz' : (kind x == 0 || kind y == 0) = true := by simpa using hz
      have := product_zero x y op m z hx hy _ _ _ _ rfl rfl rfl rfl hi' hz' w
      unfold prodB prodF
      have hn : ¬ ((kind x = 3 ∨ kind y = 3) ∧ (kind x = 0 ∨ kind y = 0)) := fun h => hi h.1
      rw [if_neg hn, if_neg hn, if_neg hi, if_neg hi, if_pos hz, if_pos hz]
      rw [Int.add_zero] at this
      exact this
    · have := product_fin x y op m z hx hy hm (by omega) (by omega) (by omega) (by omega) w hT
      unfold prodB prodF
      have hn : ¬ ((kind x = 3 ∨ kind y = 3) ∧ (kind x = 0 ∨ kind y = 0)) := fun h => hi h.1
      rw [if_neg hn, if_neg hn, if_neg hi, if_neg hi, if_neg hz, if_neg hz]
      exact this
end Go.Proofs.YtfbdgecanfmgiaaDoor
