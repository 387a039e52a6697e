import Derived.Test.YtfbdgecanfmgiaaDoorSoft7
namespace Go.Proofs.YtfbdgecanfmgiaaDoor
open Go.RowKit

/-- The sum of two numbers, the first of the greater power (or of the same). -/
def esS (s1 d1 : Nat) (p1 : Int) (s2 d2 : Nat) (p2 m : Int) : Nat :=
  if s1 = s2 then s1 else if alX d1 (p1 - p2) = alY d2 (p1 - p2) then (if m = 4 then 1 else 0) else if alY d2 (p1 - p2) < alX d1 (p1 - p2) then s1 else s2
def esD (s1 d1 : Nat) (p1 : Int) (s2 d2 : Nat) (p2 : Int) : Nat :=
  if s1 = s2 then alX d1 (p1 - p2) + alY d2 (p1 - p2) else if alY d2 (p1 - p2) < alX d1 (p1 - p2) then alX d1 (p1 - p2) - alY d2 (p1 - p2) else alY d2 (p1 - p2) - alX d1 (p1 - p2)
def esP (s1 d1 : Nat) (p1 : Int) (s2 d2 : Nat) (p2 : Int) : Int :=
  if s1 ≠ s2 ∧ alX d1 (p1 - p2) = alY d2 (p1 - p2) then 0 else p1 - min (p1 - p2) 70
theorem esD_lt {s1 d1 s2 d2 : Nat} {p1 p2 : Int} (h1 : d1 < 9007199254740992) (h2 : d2 < 9007199254740992) : esD s1 d1 p1 s2 d2 p2 < 170141183460469231731687303715884105728 := by
  have := alX_lt (a := p1 - p2) h1
  have := alY_lt (a := p1 - p2) h2
  unfold esD
  (repeat' split) <;> omega
theorem esS_lt {s1 d1 s2 d2 : Nat} {p1 p2 m : Int} (h1 : s1 < 2) (h2 : s2 < 2) : esS s1 d1 p1 s2 d2 p2 m < 2 := by
  unfold esS
  (repeat' split) <;> omega
theorem esP_range {s1 d1 s2 d2 : Nat} {p1 p2 : Int} (h1 : -1074 ≤ p1 ∧ p1 ≤ 972) (h2 : -1074 ≤ p2 ∧ p2 ≤ 972) (hge : p2 ≤ p1) : -1074 ≤ esP s1 d1 p1 s2 d2 p2 ∧ esP s1 d1 p1 s2 d2 p2 ≤ 972 := by
  unfold esP
  split <;> omega

theorem exactSum_of (a0 a1 b0 b1 : Nat) (a3 b3 m : Int) (s1 d1 s2 d2 : Nat) (p1 p2 : Int) (h1 : d1 < 9007199254740992) (h2 : d2 < 9007199254740992) (w : World)
    (hal : ∀ w1, Calls Tryd.prog 68 #[.agg #[.int .u64 a0, .int .u64 a1, .int .u64 ((0 : Nat) : Int), .int .i64 a3], .agg #[.int .u64 b0, .int .u64 b1, .int .u64 ((0 : Nat) : Int), .int .i64 b3]] w1 fun e w' =>
      e = .returned (.tuple #[.agg #[.int .u64 s1, .int .u64 (alX d1 (p1 - p2) % 18446744073709551616 : Nat), .int .u64 (alX d1 (p1 - p2) / 18446744073709551616 : Nat), .int .i64 (p1 - min (p1 - p2) 70)], .agg #[.int .u64 s2, .int .u64 (alY d2 (p1 - p2)), .int .u64 0, .int .i64 (p1 - min (p1 - p2) 70)]]) ∧ Below w1.heap.size w1 w') :
    Calls Tryd.prog 48 #[.agg #[.int .u64 a0, .int .u64 a1, .int .u64 ((0 : Nat) : Int), .int .i64 a3], .agg #[.int .u64 b0, .int .u64 b1, .int .u64 ((0 : Nat) : Int), .int .i64 b3], .int .u8 m] w fun e w' =>
      e = .returned (.agg #[.int .u64 (esS s1 d1 p1 s2 d2 p2 m), .int .u64 (esD s1 d1 p1 s2 d2 p2 % 18446744073709551616 : Nat), .int .u64 (esD s1 d1 p1 s2 d2 p2 / 18446744073709551616 : Nat), .int .i64 (esP s1 d1 p1 s2 d2 p2)]) ∧ Below w.heap.size w w' := by
  have bx := alX_lt (a := p1 - p2) h1
  have bY := alY_lt (a := p1 - p2) h2
  have hsplit : alX d1 (p1 - p2) % 18446744073709551616 + alX d1 (p1 - p2) / 18446744073709551616 * 18446744073709551616 = alX d1 (p1 - p2) := by omega
  by_cases hs : s1 = s2
  · have := exactSum_add a0 a1 0 b0 b1 0 a3 b3 m _ s1 s2 _ _ _ hs (by omega) (Nat.mod_lt _ (by decide)) (by omega) (by omega) w hal
    rw [hsplit] at this
    unfold esS esD esP
    have hn : ¬ (s1 ≠ s2 ∧ alX d1 (p1 - p2) = alY d2 (p1 - p2)) := fun h => h.1 hs
    rw [if_pos hs, if_pos hs, if_neg hn]
    exact this
  · by_cases he : alX d1 (p1 - p2) = alY d2 (p1 - p2)
    · have := exactSum_none a0 a1 0 b0 b1 0 a3 b3 m _ s1 s2 _ _ _ hs (hsplit.trans he) (Nat.mod_lt _ (by decide)) (by omega) (by omega) w hal
      unfold esS esD esP
      have hl : ¬ alY d2 (p1 - p2) < alX d1 (p1 - p2) := by omega
      have hp : s1 ≠ s2 ∧ alX d1 (p1 - p2) = alY d2 (p1 - p2) := ⟨hs, he⟩
      rw [if_neg hs, if_pos he, if_neg hs, if_neg hl, if_pos hp, show alY d2 (p1 - p2) - alX d1 (p1 - p2) = 0 by omega]
      by_cases hm : m = 4
      · rw [if_pos hm] at this ⊢; exact this
      · rw [if_neg hm] at this ⊢; exact this
    · by_cases hl : alY d2 (p1 - p2) < alX d1 (p1 - p2)
      · have := exactSum_sub a0 a1 0 b0 b1 0 a3 b3 m _ s1 s2 _ _ _ hs (by omega) (Nat.mod_lt _ (by decide)) (by omega) (by omega) w hal
        rw [hsplit] at this
        unfold esS esD esP
        have hn : ¬ (s1 ≠ s2 ∧ alX d1 (p1 - p2) = alY d2 (p1 - p2)) := fun h => he h.2
        rw [if_neg hs, if_neg he, if_pos hl, if_neg hs, if_pos hl, if_neg hn]
        exact this
      · have := exactSum_bus a0 a1 0 b0 b1 0 a3 b3 m _ s1 s2 _ _ _ hs (by omega) (Nat.mod_lt _ (by decide)) (by omega) (by omega) w hal
        rw [hsplit] at this
        unfold esS esD esP
        have hn : ¬ (s1 ≠ s2 ∧ alX d1 (p1 - p2) = alY d2 (p1 - p2)) := fun h => he h.2
        rw [if_neg hs, if_neg he, if_neg hl, if_neg hs, if_neg hl, if_neg hn]
        exact this

/-- Sums of finite numbers, whatever their order: the sign, the digits, the power. -/
def fsS (x y : Nat) (m : Int) : Nat := if pow y ≤ pow x then esS (sgn x) (mant x) (pow x) (sgn y) (mant y) (pow y) m else esS (sgn y) (mant y) (pow y) (sgn x) (mant x) (pow x) m
def fsD (x y : Nat) : Nat := if pow y ≤ pow x then esD (sgn x) (mant x) (pow x) (sgn y) (mant y) (pow y) else esD (sgn y) (mant y) (pow y) (sgn x) (mant x) (pow x)
def fsP (x y : Nat) : Int := if pow y ≤ pow x then esP (sgn x) (mant x) (pow x) (sgn y) (mant y) (pow y) else esP (sgn y) (mant y) (pow y) (sgn x) (mant x) (pow x)
theorem exactSum_any (x y : Nat) (m : Int) (w : World) :
    Calls Tryd.prog 48 #[.agg #[.int .u64 (sgn x), .int .u64 (mant x), .int .u64 0, .int .i64 (pow x)], .agg #[.int .u64 (sgn y), .int .u64 (mant y), .int .u64 0, .int .i64 (pow y)], .int .u8 m] w fun e w' =>
      e = .returned (.agg #[.int .u64 (fsS x y m), .int .u64 (fsD x y % 18446744073709551616 : Nat), .int .u64 (fsD x y / 18446744073709551616 : Nat), .int .i64 (fsP x y)]) ∧ Below w.heap.size w w' := by
  unfold fsS fsD fsP
  by_cases h : pow y ≤ pow x
  · rw [if_pos h, if_pos h, if_pos h]
    exact exactSum_of _ _ _ _ _ _ m (sgn x) (mant x) (sgn y) (mant y) (pow x) (pow y) (mant_lt x) (mant_lt y) w (fun w1 => aligned_ge _ _ _ _ _ _ (mant_lt x) (mant_lt y) (pow_range x) (pow_range y) h w1)
  · rw [if_neg h, if_neg h, if_neg h]
    exact exactSum_of _ _ _ _ _ _ m (sgn y) (mant y) (sgn x) (mant x) (pow y) (pow x) (mant_lt y) (mant_lt x) w (fun w1 => aligned_lt _ _ _ _ _ _ (mant_lt y) (mant_lt x) (pow_range y) (pow_range x) (by omega) w1)
theorem fsD_lt (x y : Nat) : fsD x y < 170141183460469231731687303715884105728 := by unfold fsD; split <;> exact esD_lt (mant_lt _) (mant_lt _)
theorem fsS_lt {x y : Nat} {m : Int} (hx : x < 18446744073709551616) (hy : y < 18446744073709551616) : fsS x y m < 2 := by unfold fsS; split; exact esS_lt (sgn_lt hx) (sgn_lt hy); exact esS_lt (sgn_lt hy) (sgn_lt hx)
theorem fsP_range (x y : Nat) : -1074 ≤ fsP x y ∧ fsP x y ≤ 972 := by
  unfold fsP
  split
  · exact esP_range (pow_range x) (pow_range y) ‹_›
  · exact esP_range (pow_range y) (pow_range x) (by omega)

/-- A sum's bits and flags, where neither is a NaN. -/
def sumB (x y : Nat) (m : Int) : Int :=
  if kind x = 3 ∧ kind y = 3 ∧ x ≠ y then 9221120237041090560
  else if kind x = 3 then x else if kind y = 3 then y
  else if fsD x y = 0 then fsS x y m * 9223372036854775808 else roundB (fsS x y m) (fsD x y) (fsP x y) m
def sumF (x y : Nat) (m : Int) : Int :=
  if kind x = 3 ∧ kind y = 3 ∧ x ≠ y then 16
  else if kind x = 3 then 0 else if kind y = 3 then 0
  else if fsD x y = 0 then 0 else roundF (fsS x y m) (fsD x y) (fsP x y) m

theorem sum_wrong {x y : Nat} {m : Int} (h1 : kind x = 3) (h2 : kind y = 3) (h : x ≠ y) : sumB x y m = 9221120237041090560 ∧ sumF x y m = 16 := by
  unfold sumB sumF; rw [if_pos ⟨h1, h2, h⟩, if_pos ⟨h1, h2, h⟩]; exact ⟨rfl, rfl⟩
theorem sum_first {x y : Nat} {m : Int} (h1 : kind x = 3) (h : ¬ (kind y = 3 ∧ x ≠ y)) : sumB x y m = x ∧ sumF x y m = 0 := by
  have hn : ¬ (kind x = 3 ∧ kind y = 3 ∧ x ≠ y) := fun g => h g.2
  unfold sumB sumF; rw [if_neg hn, if_neg hn, if_pos h1, if_pos h1]; exact ⟨rfl, rfl⟩
theorem sum_second {x y : Nat} {m : Int} (h1 : ¬ kind x = 3) (h2 : kind y = 3) : sumB x y m = y ∧ sumF x y m = 0 := by
  have hn : ¬ (kind x = 3 ∧ kind y = 3 ∧ x ≠ y) := fun g => h1 g.1
  unfold sumB sumF; rw [if_neg hn, if_neg hn, if_neg h1, if_neg h1, if_pos h2, if_pos h2]; exact ⟨rfl, rfl⟩
theorem sum_none {x y : Nat} {m : Int} (h1 : ¬ kind x = 3) (h2 : ¬ kind y = 3) (h : fsD x y = 0) : sumB x y m = fsS x y m * 9223372036854775808 ∧ sumF x y m = 0 := by
  have hn : ¬ (kind x = 3 ∧ kind y = 3 ∧ x ≠ y) := fun g => h1 g.1
  unfold sumB sumF; rw [if_neg hn, if_neg hn, if_neg h1, if_neg h1, if_neg h2, if_neg h2, if_pos h, if_pos h]; exact ⟨rfl, rfl⟩
theorem sum_some {x y : Nat} {m : Int} (h1 : ¬ kind x = 3) (h2 : ¬ kind y = 3) (h : ¬ fsD x y = 0) : sumB x y m = roundB (fsS x y m) (fsD x y) (fsP x y) m ∧ sumF x y m = roundF (fsS x y m) (fsD x y) (fsP x y) m := by
  have hn : ¬ (kind x = 3 ∧ kind y = 3 ∧ x ≠ y) := fun g => h1 g.1
  unfold sumB sumF; rw [if_neg hn, if_neg hn, if_neg h1, if_neg h1, if_neg h2, if_neg h2, if_neg h, if_neg h]; exact ⟨rfl, rfl⟩

set_option maxHeartbeats 2000000 in
theorem sum_i1 (x y : Nat) (op m z : Int) (hx : x < 18446744073709551616) (hy : y < 18446744073709551616) (k1 : kind x = 3) (k2 : kind y = 3) (hne : x ≠ y) (w : World) :
    Calls Tryd.prog 31 #[.agg #[.int .u8 op, .int .u8 m, .int .u64 x, .int .u64 y, .int .u64 z]] w fun e w' =>
      e = .returned (.agg #[.int .u64 (sumB x y m), .int .u8 (sumF x y m), .bool false]) ∧ Below w.heap.size w w' := by
  have HX : Hid (x < 18446744073709551616) := hx
  have HY : Hid (y < 18446744073709551616) := hy
  have HB : Hid (sumB x y m = 9221120237041090560 ∧ sumF x y m = 16) := sum_wrong k1 k2 hne
  have b1 : (kind x == 3) = true := by simp [k1]
  have b2 : (kind y == 3) = true := by simp [k2]
  have b3 : ((x : Int) != (y : Int)) = true := by simp; omega
  clear hne
  clear hx hy k1 k2
  go_enter Tryd.func31, Tryd.ntmps31
  go_wp2_with fail
  go_quiet (first | (go_at_call_of 35 (Value.int .u64 (x : Int)); exact Calls.quiet_of_same (kindOf_any (x : Int) (by omega) (by have := HX.out; omega) _)) | (go_at_call_of 35 (Value.int .u64 (y : Int)); exact Calls.quiet_of_same (kindOf_any (y : Int) (by omega) (by have := HY.out; omega) _)))
  go_wp2_with fail
  refine (wrong_any _).mono ?_
  rintro e w1 ⟨rfl, hb1⟩
  have KR : Hid (Rec5 w w1 (.int .u8 op) (.int .u8 m) (.int .u64 x) (.int .u64 y) (.int .u64 z)) := (Rec5.start w _ _ _ _ _ _ _).later ((below_drewN (Below.refl _ _) _).trans (hb1.mono (Nat.le_refl _))) (by simp)
  have r0 := KR.out.r0
  have r1 := KR.out.r1
  have r2 := KR.out.r2
  have f0 := KR.out.f0
  have f1 := KR.out.f1
  have f2 := KR.out.f2
  clear hb1
  go_wp2_with fail
  refine bodyPost_ret (v := .agg #[.int .u64 9221120237041090560, .int .u8 16, .bool false]) (by simp [results, Tryd.results31, go_sem, *]) rfl ⟨by rw [HB.out.1, HB.out.2], ?_⟩
  exact ((KR.out.below.setCell (by simp) _).setCell (by simp) _).setCell (by simp) _

set_option maxHeartbeats 2000000 in
theorem sum_i2 (x y : Nat) (op m z : Int) (hx : x < 18446744073709551616) (hy : y < 18446744073709551616) (k1 : kind x = 3) (k2 : kind y = 3) (hne : x = y) (w : World) :
    Calls Tryd.prog 31 #[.agg #[.int .u8 op, .int .u8 m, .int .u64 x, .int .u64 y, .int .u64 z]] w fun e w' =>
      e = .returned (.agg #[.int .u64 (sumB x y m), .int .u8 (sumF x y m), .bool false]) ∧ Below w.heap.size w w' := by
  have HX : Hid (x < 18446744073709551616) := hx
  have HY : Hid (y < 18446744073709551616) := hy
  have HB : Hid (sumB x y m = x ∧ sumF x y m = 0) := sum_first k1 (fun h => h.2 hne)
  have b1 : (kind x == 3) = true := by simp [k1]
  have b2 : (kind y == 3) = true := by simp [k2]
  have b3 : ((x : Int) != (y : Int)) = false := by simp; omega
  clear hne
  clear hx hy k1 k2
  go_enter Tryd.func31, Tryd.ntmps31
  go_wp2_with fail
  go_quiet (first | (go_at_call_of 35 (Value.int .u64 (x : Int)); exact Calls.quiet_of_same (kindOf_any (x : Int) (by omega) (by have := HX.out; omega) _)) | (go_at_call_of 35 (Value.int .u64 (y : Int)); exact Calls.quiet_of_same (kindOf_any (y : Int) (by omega) (by have := HY.out; omega) _)))
  go_wp2_with fail
  refine bodyPost_ret (v := .agg #[.int .u64 x, .int .u8 0, .bool false]) (by simp [results, Tryd.results31, go_sem]) rfl ⟨by rw [HB.out.1, HB.out.2], ?_⟩
  exact ((((below_drewN (((Below.refl _ _).alloc (Nat.le_refl _) _).alloc (by simp) _) _).setCell (by simp) _).setCell (by simp) _).setCell (by simp) _)

set_option maxHeartbeats 2000000 in
theorem sum_i3 (x y : Nat) (op m z : Int) (hx : x < 18446744073709551616) (hy : y < 18446744073709551616) (k1 : kind x = 3) (k2 : ¬ kind y = 3) (w : World) :
    Calls Tryd.prog 31 #[.agg #[.int .u8 op, .int .u8 m, .int .u64 x, .int .u64 y, .int .u64 z]] w fun e w' =>
      e = .returned (.agg #[.int .u64 (sumB x y m), .int .u8 (sumF x y m), .bool false]) ∧ Below w.heap.size w w' := by
  have HX : Hid (x < 18446744073709551616) := hx
  have HY : Hid (y < 18446744073709551616) := hy
  have HB : Hid (sumB x y m = x ∧ sumF x y m = 0) := sum_first k1 (fun h => k2 h.1)
  have b1 : (kind x == 3) = true := by simp [k1]
  have b2 : (kind y == 3) = false := by simp [k2]
  clear hx hy k1 k2
  go_enter Tryd.func31, Tryd.ntmps31
  go_wp2_with fail
  go_quiet (first | (go_at_call_of 35 (Value.int .u64 (x : Int)); exact Calls.quiet_of_same (kindOf_any (x : Int) (by omega) (by have := HX.out; omega) _)) | (go_at_call_of 35 (Value.int .u64 (y : Int)); exact Calls.quiet_of_same (kindOf_any (y : Int) (by omega) (by have := HY.out; omega) _)))
  go_wp2_with fail
  refine bodyPost_ret (v := .agg #[.int .u64 x, .int .u8 0, .bool false]) (by simp [results, Tryd.results31, go_sem]) rfl ⟨by rw [HB.out.1, HB.out.2], ?_⟩
  exact ((((below_drewN (((Below.refl _ _).alloc (Nat.le_refl _) _).alloc (by simp) _) _).setCell (by simp) _).setCell (by simp) _).setCell (by simp) _)

set_option maxHeartbeats 2000000 in
theorem sum_i4 (x y : Nat) (op m z : Int) (hx : x < 18446744073709551616) (hy : y < 18446744073709551616) (k1 : ¬ kind x = 3) (k2 : kind y = 3) (w : World) :
    Calls Tryd.prog 31 #[.agg #[.int .u8 op, .int .u8 m, .int .u64 x, .int .u64 y, .int .u64 z]] w fun e w' =>
      e = .returned (.agg #[.int .u64 (sumB x y m), .int .u8 (sumF x y m), .bool false]) ∧ Below w.heap.size w w' := by
  have HX : Hid (x < 18446744073709551616) := hx
  have HY : Hid (y < 18446744073709551616) := hy
  have HB : Hid (sumB x y m = y ∧ sumF x y m = 0) := sum_second k1 k2
  have b1 : (kind x == 3) = false := by simp [k1]
  have b2 : (kind y == 3) = true := by simp [k2]
  clear hx hy k1 k2
  go_enter Tryd.func31, Tryd.ntmps31
  go_wp2_with fail
  go_quiet (first | (go_at_call_of 35 (Value.int .u64 (x : Int)); exact Calls.quiet_of_same (kindOf_any (x : Int) (by omega) (by have := HX.out; omega) _)) | (go_at_call_of 35 (Value.int .u64 (y : Int)); exact Calls.quiet_of_same (kindOf_any (y : Int) (by omega) (by have := HY.out; omega) _)))
  go_wp2_with fail
  refine bodyPost_ret (v := .agg #[.int .u64 y, .int .u8 0, .bool false]) (by simp [results, Tryd.results31, go_sem]) rfl ⟨by rw [HB.out.1, HB.out.2], ?_⟩
  exact ((((below_drewN (((Below.refl _ _).alloc (Nat.le_refl _) _).alloc (by simp) _) _).setCell (by simp) _).setCell (by simp) _).setCell (by simp) _)

end Go.Proofs.YtfbdgecanfmgiaaDoor
