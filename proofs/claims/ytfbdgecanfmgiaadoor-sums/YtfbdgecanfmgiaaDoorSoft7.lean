import Derived.Test.YtfbdgecanfmgiaaDoorSoft6
namespace Go.Proofs.YtfbdgecanfmgiaaDoor
open Go.RowKit
theorem dig_sub (X0 X1 Y0 Y1 : Nat) (hX0 : X0 < 18446744073709551616) (hX1 : X1 < 18446744073709551616) (hY : Y0 < 18446744073709551616) (hY1 : Y1 < 18446744073709551616) (hlt : Y0 + Y1 * 18446744073709551616 ≤ X0 + X1 * 18446744073709551616) :
    subW0 X0 Y0 = ((X0 + X1 * 18446744073709551616 - (Y0 + Y1 * 18446744073709551616)) % 18446744073709551616 : Nat) ∧ subW1 X0 X1 Y0 Y1 = ((X0 + X1 * 18446744073709551616 - (Y0 + Y1 * 18446744073709551616)) / 18446744073709551616 : Nat) ∧ borrow X1 Y1 (borrow X0 Y0 0) = 0 := by
  unfold subW0 subW1 borrow
  by_cases h : (X0 : Int) < Y0 + 0
  · rw [if_pos h]
    refine ⟨by omega, by omega, ?_⟩
    rw [if_neg (by omega)]
  · rw [if_neg h]
    refine ⟨by omega, by omega, ?_⟩
    rw [if_neg (by omega)]

set_option maxHeartbeats 4000000 in
theorem exactSum_sub (a0 a1 a2 b0 b1 b2 : Nat) (a3 b3 m P : Int) (s1 s2 X0 X1 Y : Nat) (hs : s1 ≠ s2) (hlt : Y < X0 + X1 * 18446744073709551616)
    (hX0 : X0 < 18446744073709551616) (hX1 : X1 < 18446744073709551616) (hY : Y < 18446744073709551616) (w : World)
    (hal : ∀ w1, Calls Tryd.prog 68 #[.agg #[.int .u64 a0, .int .u64 a1, .int .u64 a2, .int .i64 a3], .agg #[.int .u64 b0, .int .u64 b1, .int .u64 b2, .int .i64 b3]] w1 fun e w' =>
      e = .returned (.tuple #[.agg #[.int .u64 s1, .int .u64 X0, .int .u64 X1, .int .i64 P], .agg #[.int .u64 s2, .int .u64 Y, .int .u64 0, .int .i64 P]]) ∧ Below w1.heap.size w1 w') :
    Calls Tryd.prog 48 #[.agg #[.int .u64 a0, .int .u64 a1, .int .u64 a2, .int .i64 a3], .agg #[.int .u64 b0, .int .u64 b1, .int .u64 b2, .int .i64 b3], .int .u8 m] w fun e w' =>
      e = .returned (.agg #[.int .u64 s1, .int .u64 ((X0 + X1 * 18446744073709551616 - Y) % 18446744073709551616 : Nat), .int .u64 ((X0 + X1 * 18446744073709551616 - Y) / 18446744073709551616 : Nat), .int .i64 P]) ∧ Below w.heap.size w w' := by
  have hsb : ((s1 : Int) == (s2 : Int)) = false := by simp; omega
  have hcmp := eq_two X0 X1 Y 0
  have hcb : ((X0 : Int) == (Y : Int) && (X1 : Int) == 0) = false := by simp; omega
  have hd := dig_sub X0 X1 Y 0 hX0 hX1 hY (by omega) (by omega)
  rw [Nat.zero_mul, Nat.add_zero] at hd
  have HSUB : Hid (∀ w, Calls Tryd.prog 71 #[.agg #[.int .u64 X0, .int .u64 X1], .agg #[.int .u64 Y, .int .u64 0]] w fun e w' => e = .returned (.tuple #[.agg #[.int .u64 ((X0 + X1 * 18446744073709551616 - Y) % 18446744073709551616 : Nat), .int .u64 ((X0 + X1 * 18446744073709551616 - Y) / 18446744073709551616 : Nat)], .bool false]) ∧ Below w.heap.size w w') := fun w => by
    have := sub_any X0 X1 Y 0 (by omega) (by omega) (by omega) (by omega) w
    rw [show (0 : Int) = ((0 : Nat) : Int) from rfl, hd.1, hd.2.1] at this
    rw [show borrow (X1 : Int) ((0 : Nat) : Int) (borrow X0 Y ((0 : Nat) : Int)) = 0 from hd.2.2] at this
    exact this
  generalize (X0 + X1 * 18446744073709551616 - Y) % 18446744073709551616 = E0 at *
  generalize (X0 + X1 * 18446744073709551616 - Y) / 18446744073709551616 = E1 at *
  clear hs hX0 hX1 hY hlt hd
  have HAL : Hid (∀ w1, Calls Tryd.prog 68 #[.agg #[.int .u64 a0, .int .u64 a1, .int .u64 a2, .int .i64 a3], .agg #[.int .u64 b0, .int .u64 b1, .int .u64 b2, .int .i64 b3]] w1 fun e w' =>
      e = .returned (.tuple #[.agg #[.int .u64 s1, .int .u64 X0, .int .u64 X1, .int .i64 P], .agg #[.int .u64 s2, .int .u64 Y, .int .u64 0, .int .i64 P]]) ∧ Below w1.heap.size w1 w') := hal
  clear hal
  go_enter Tryd.func48, Tryd.ntmps48
  go_upto_region 1 with fail
  go_cut [] from 9 to 57 (fun wx => Tri w wx (.int .u64 s1) (.int .u64 X0) (.int .u64 X1) (.int .i64 P) (.int .u64 s2) (.int .u64 Y) (.int .u64 0) (.int .i64 P))
  case first =>
    go_wp2_with fail
    refine (HAL.out _).mono ?_
    rintro e w1 ⟨rfl, hb1⟩
    have H1 : Hid (Tri w w1 (.int .u64 a0) (.int .u64 a1) (.int .u64 a2) (.int .i64 a3) (.int .u64 b0) (.int .u64 b1) (.int .u64 b2) (.int .i64 b3)) := (Tri.start w _ _ _ _ _ _ _ _ _).later hb1
    clear hb1
    have x0_1 := H1.out.x.c0
    have xf0_1 := H1.out.x.f0
    have x1_1 := H1.out.x.c1
    have xf1_1 := H1.out.x.f1
    have x2_1 := H1.out.x.c2
    have xf2_1 := H1.out.x.f2
    have x3_1 := H1.out.x.c3
    have xf3_1 := H1.out.x.f3
    have y0_1 := H1.out.y.c0
    have yf0_1 := H1.out.y.f0
    have y1_1 := H1.out.y.c1
    have yf1_1 := H1.out.y.f1
    have y2_1 := H1.out.y.c2
    have yf2_1 := H1.out.y.f2
    have y3_1 := H1.out.y.c3
    have yf3_1 := H1.out.y.f3
    have r0_1 := H1.out.r.c0
    have rf0_1 := H1.out.r.f0
    have r1_1 := H1.out.r.c1
    have rf1_1 := H1.out.r.f1
    have r2_1 := H1.out.r.c2
    have rf2_1 := H1.out.r.f2
    have r3_1 := H1.out.r.c3
    have rf3_1 := H1.out.r.f3
    have z1 := H1.out.size
    go_wp2_with fail
    go_meet
    go_light
    exact H1.out.setAll _ _ _ _ _ _ _ _
  case rest =>
    have H2 : Hid (Tri w wc (.int .u64 s1) (.int .u64 X0) (.int .u64 X1) (.int .i64 P) (.int .u64 s2) (.int .u64 Y) (.int .u64 0) (.int .i64 P)) := hcut
    clear hcut
    have x0_2 := H2.out.x.c0
    have xf0_2 := H2.out.x.f0
    have x1_2 := H2.out.x.c1
    have xf1_2 := H2.out.x.f1
    have x2_2 := H2.out.x.c2
    have xf2_2 := H2.out.x.f2
    have x3_2 := H2.out.x.c3
    have xf3_2 := H2.out.x.f3
    have y0_2 := H2.out.y.c0
    have yf0_2 := H2.out.y.f0
    have y1_2 := H2.out.y.c1
    have yf1_2 := H2.out.y.f1
    have y2_2 := H2.out.y.c2
    have yf2_2 := H2.out.y.f2
    have y3_2 := H2.out.y.c3
    have yf3_2 := H2.out.y.f3
    have r0_2 := H2.out.r.c0
    have rf0_2 := H2.out.r.f0
    have r1_2 := H2.out.r.c1
    have rf1_2 := H2.out.r.f1
    have r2_2 := H2.out.r.c2
    have rf2_2 := H2.out.r.f2
    have r3_2 := H2.out.r.c3
    have rf3_2 := H2.out.r.f3
    have z2 := H2.out.size
    go_wp2_with fail
    refine (HSUB.out _).mono ?_
    rintro e w2 ⟨rfl, hb2⟩
    have H3 : Hid (Tri w w2 (.int .u64 s1) (.int .u64 X0) (.int .u64 X1) (.int .i64 P) (.int .u64 s2) (.int .u64 Y) (.int .u64 0) (.int .i64 P)) := H2.out.later hb2
    clear hb2 z2 x0_2 xf0_2 x1_2 xf1_2 x2_2 xf2_2 x3_2 xf3_2 y0_2 yf0_2 y1_2 yf1_2 y2_2 yf2_2 y3_2 yf3_2 r0_2 rf0_2 r1_2 rf1_2 r2_2 rf2_2 r3_2 rf3_2
    have x0_3 := H3.out.x.c0
    have xf0_3 := H3.out.x.f0
    have x1_3 := H3.out.x.c1
    have xf1_3 := H3.out.x.f1
    have x2_3 := H3.out.x.c2
    have xf2_3 := H3.out.x.f2
    have x3_3 := H3.out.x.c3
    have xf3_3 := H3.out.x.f3
    have y0_3 := H3.out.y.c0
    have yf0_3 := H3.out.y.f0
    have y1_3 := H3.out.y.c1
    have yf1_3 := H3.out.y.f1
    have y2_3 := H3.out.y.c2
    have yf2_3 := H3.out.y.f2
    have y3_3 := H3.out.y.c3
    have yf3_3 := H3.out.y.f3
    have r0_3 := H3.out.r.c0
    have rf0_3 := H3.out.r.f0
    have r1_3 := H3.out.r.c1
    have rf1_3 := H3.out.r.f1
    have r2_3 := H3.out.r.c2
    have rf2_3 := H3.out.r.f2
    have r3_3 := H3.out.r.c3
    have rf3_3 := H3.out.r.f3
    have z3 := H3.out.size
    have l1 : w.heap.size < w2.heap.size := by omega
    have l2 : w.heap.size + 1 < w2.heap.size := by omega
    go_wp2_with fail
    go_light
    refine bodyPost_ret (v := .agg #[.int .u64 s1, .int .u64 E0, .int .u64 E1, .int .i64 P]) (results_quad rfl (((((((H3.out.r.other _ _ (by simp)).other _ _ (by simp)).set0 _).set1 _).set2 _).set3 _).alloc _)) rfl ⟨rfl, ?_⟩
    exact ((((((H3.out.below.setCell (by simp) _).setCell (by simp) _).setCell (by simp <;> omega) _).setCell (by simp <;> omega) _).setCell (by simp <;> omega) _).setCell (by simp <;> omega) _).alloc (by simp; omega) _

set_option maxHeartbeats 4000000 in
theorem exactSum_bus (a0 a1 a2 b0 b1 b2 : Nat) (a3 b3 m P : Int) (s1 s2 X0 X1 Y : Nat) (hs : s1 ≠ s2) (hlt : X0 + X1 * 18446744073709551616 < Y)
    (hX0 : X0 < 18446744073709551616) (hX1 : X1 < 18446744073709551616) (hY : Y < 18446744073709551616) (w : World)
    (hal : ∀ w1, Calls Tryd.prog 68 #[.agg #[.int .u64 a0, .int .u64 a1, .int .u64 a2, .int .i64 a3], .agg #[.int .u64 b0, .int .u64 b1, .int .u64 b2, .int .i64 b3]] w1 fun e w' =>
      e = .returned (.tuple #[.agg #[.int .u64 s1, .int .u64 X0, .int .u64 X1, .int .i64 P], .agg #[.int .u64 s2, .int .u64 Y, .int .u64 0, .int .i64 P]]) ∧ Below w1.heap.size w1 w') :
    Calls Tryd.prog 48 #[.agg #[.int .u64 a0, .int .u64 a1, .int .u64 a2, .int .i64 a3], .agg #[.int .u64 b0, .int .u64 b1, .int .u64 b2, .int .i64 b3], .int .u8 m] w fun e w' =>
      e = .returned (.agg #[.int .u64 s2, .int .u64 ((Y - (X0 + X1 * 18446744073709551616)) % 18446744073709551616 : Nat), .int .u64 ((Y - (X0 + X1 * 18446744073709551616)) / 18446744073709551616 : Nat), .int .i64 P]) ∧ Below w.heap.size w w' := by
  have hsb : ((s1 : Int) == (s2 : Int)) = false := by simp; omega
  have hcmp := eq_two X0 X1 Y 0
  have hcb : ((X0 : Int) == (Y : Int) && (X1 : Int) == 0) = false := by simp; omega
  have hd := dig_sub Y 0 X0 X1 hY (by omega) hX0 hX1 (by omega)
  rw [Nat.zero_mul, Nat.add_zero] at hd
  have hbr : borrow X1 ((0 : Nat) : Int) (borrow X0 Y ((0 : Nat) : Int)) = 1 := by
    unfold borrow
    rw [if_pos (show (X0 : Int) < (Y : Int) + ((0 : Nat) : Int) by omega), if_pos (by omega)]
  have HS1 : Hid (∀ w, Calls Tryd.prog 71 #[.agg #[.int .u64 X0, .int .u64 X1], .agg #[.int .u64 Y, .int .u64 0]] w fun e w' => e = .returned (.tuple #[.agg #[.int .u64 (subW0 X0 Y), .int .u64 (subW1 X0 X1 Y 0)], .bool true]) ∧ Below w.heap.size w w') := fun w => by
    have := sub_any X0 X1 Y 0 (by omega) (by omega) (by omega) (by omega) w
    rw [show borrow (X1 : Int) 0 (borrow X0 Y 0) = 1 from hbr] at this
    exact this
  have HS2 : Hid (∀ w, Calls Tryd.prog 71 #[.agg #[.int .u64 Y, .int .u64 0], .agg #[.int .u64 X0, .int .u64 X1]] w fun e w' => ∃ v : Bool, e = .returned (.tuple #[.agg #[.int .u64 ((Y - (X0 + X1 * 18446744073709551616)) % 18446744073709551616 : Nat), .int .u64 ((Y - (X0 + X1 * 18446744073709551616)) / 18446744073709551616 : Nat)], .bool v]) ∧ Below w.heap.size w w') := fun w => by
    have := sub_any Y 0 X0 X1 (by omega) (by omega) (by omega) (by omega) w
    rw [show (0 : Int) = ((0 : Nat) : Int) from rfl, hd.1, hd.2.1] at this
    exact this.mono fun e w' h => ⟨_, h⟩
  generalize (Y - (X0 + X1 * 18446744073709551616)) % 18446744073709551616 = E0 at *
  generalize (Y - (X0 + X1 * 18446744073709551616)) / 18446744073709551616 = E1 at *
  generalize subW0 X0 Y = G0 at *
  generalize subW1 X0 X1 Y 0 = G1 at *
  clear hs hX0 hX1 hY hlt hd hbr
  have HAL : Hid (∀ w1, Calls Tryd.prog 68 #[.agg #[.int .u64 a0, .int .u64 a1, .int .u64 a2, .int .i64 a3], .agg #[.int .u64 b0, .int .u64 b1, .int .u64 b2, .int .i64 b3]] w1 fun e w' =>
      e = .returned (.tuple #[.agg #[.int .u64 s1, .int .u64 X0, .int .u64 X1, .int .i64 P], .agg #[.int .u64 s2, .int .u64 Y, .int .u64 0, .int .i64 P]]) ∧ Below w1.heap.size w1 w') := hal
  clear hal
  go_enter Tryd.func48, Tryd.ntmps48
  go_upto_region 1 with fail
  go_cut [] from 9 to 57 (fun wx => Tri w wx (.int .u64 s1) (.int .u64 X0) (.int .u64 X1) (.int .i64 P) (.int .u64 s2) (.int .u64 Y) (.int .u64 0) (.int .i64 P))
  case first =>
    go_wp2_with fail
    refine (HAL.out _).mono ?_
    rintro e w1 ⟨rfl, hb1⟩
    have H1 : Hid (Tri w w1 (.int .u64 a0) (.int .u64 a1) (.int .u64 a2) (.int .i64 a3) (.int .u64 b0) (.int .u64 b1) (.int .u64 b2) (.int .i64 b3)) := (Tri.start w _ _ _ _ _ _ _ _ _).later hb1
    clear hb1
    have x0_1 := H1.out.x.c0
    have xf0_1 := H1.out.x.f0
    have x1_1 := H1.out.x.c1
    have xf1_1 := H1.out.x.f1
    have x2_1 := H1.out.x.c2
    have xf2_1 := H1.out.x.f2
    have x3_1 := H1.out.x.c3
    have xf3_1 := H1.out.x.f3
    have y0_1 := H1.out.y.c0
    have yf0_1 := H1.out.y.f0
    have y1_1 := H1.out.y.c1
    have yf1_1 := H1.out.y.f1
    have y2_1 := H1.out.y.c2
    have yf2_1 := H1.out.y.f2
    have y3_1 := H1.out.y.c3
    have yf3_1 := H1.out.y.f3
    have r0_1 := H1.out.r.c0
    have rf0_1 := H1.out.r.f0
    have r1_1 := H1.out.r.c1
    have rf1_1 := H1.out.r.f1
    have r2_1 := H1.out.r.c2
    have rf2_1 := H1.out.r.f2
    have r3_1 := H1.out.r.c3
    have rf3_1 := H1.out.r.f3
    have z1 := H1.out.size
    go_wp2_with fail
    go_meet
    go_light
    exact H1.out.setAll _ _ _ _ _ _ _ _
  case rest =>
    have H2 : Hid (Tri w wc (.int .u64 s1) (.int .u64 X0) (.int .u64 X1) (.int .i64 P) (.int .u64 s2) (.int .u64 Y) (.int .u64 0) (.int .i64 P)) := hcut
    clear hcut
    have x0_2 := H2.out.x.c0
    have xf0_2 := H2.out.x.f0
    have x1_2 := H2.out.x.c1
    have xf1_2 := H2.out.x.f1
    have x2_2 := H2.out.x.c2
    have xf2_2 := H2.out.x.f2
    have x3_2 := H2.out.x.c3
    have xf3_2 := H2.out.x.f3
    have y0_2 := H2.out.y.c0
    have yf0_2 := H2.out.y.f0
    have y1_2 := H2.out.y.c1
    have yf1_2 := H2.out.y.f1
    have y2_2 := H2.out.y.c2
    have yf2_2 := H2.out.y.f2
    have y3_2 := H2.out.y.c3
    have yf3_2 := H2.out.y.f3
    have r0_2 := H2.out.r.c0
    have rf0_2 := H2.out.r.f0
    have r1_2 := H2.out.r.c1
    have rf1_2 := H2.out.r.f1
    have r2_2 := H2.out.r.c2
    have rf2_2 := H2.out.r.f2
    have r3_2 := H2.out.r.c3
    have rf3_2 := H2.out.r.f3
    have z2 := H2.out.size
    go_wp2_with fail
    refine (HS1.out _).mono ?_
    rintro e w2 ⟨rfl, hb2⟩
    have H3 : Hid (Tri w w2 (.int .u64 s1) (.int .u64 X0) (.int .u64 X1) (.int .i64 P) (.int .u64 s2) (.int .u64 Y) (.int .u64 0) (.int .i64 P)) := H2.out.later hb2
    clear hb2 z2 x0_2 xf0_2 x1_2 xf1_2 x2_2 xf2_2 x3_2 xf3_2 y0_2 yf0_2 y1_2 yf1_2 y2_2 yf2_2 y3_2 yf3_2 r0_2 rf0_2 r1_2 rf1_2 r2_2 rf2_2 r3_2 rf3_2
    have x0_3 := H3.out.x.c0
    have xf0_3 := H3.out.x.f0
    have x1_3 := H3.out.x.c1
    have xf1_3 := H3.out.x.f1
    have x2_3 := H3.out.x.c2
    have xf2_3 := H3.out.x.f2
    have x3_3 := H3.out.x.c3
    have xf3_3 := H3.out.x.f3
    have y0_3 := H3.out.y.c0
    have yf0_3 := H3.out.y.f0
    have y1_3 := H3.out.y.c1
    have yf1_3 := H3.out.y.f1
    have y2_3 := H3.out.y.c2
    have yf2_3 := H3.out.y.f2
    have y3_3 := H3.out.y.c3
    have yf3_3 := H3.out.y.f3
    have r0_3 := H3.out.r.c0
    have rf0_3 := H3.out.r.f0
    have r1_3 := H3.out.r.c1
    have rf1_3 := H3.out.r.f1
    have r2_3 := H3.out.r.c2
    have rf2_3 := H3.out.r.f2
    have r3_3 := H3.out.r.c3
    have rf3_3 := H3.out.r.f3
    have z3 := H3.out.size
    have l1 : w.heap.size < w2.heap.size := by omega
    have l2 : w.heap.size + 1 < w2.heap.size := by omega
    go_wp2_with fail
    refine (HS2.out _).mono ?_
    rintro e w3 ⟨v, rfl, hb3⟩
    have H4 : Hid (Tri w w3 (.int .u64 s1) (.int .u64 X0) (.int .u64 X1) (.int .i64 P) (.int .u64 s2) (.int .u64 Y) (.int .u64 0) (.int .i64 P)) := (H3.out.alloc _).later hb3
    have T4 : Hid (Two w3 w2.heap.size (.int .u64 G0) (.int .u64 G1)) := (Two.new _ _ _ _).below hb3 (by simp)
    clear hb3 z3 l1 l2 x0_3 xf0_3 x1_3 xf1_3 x2_3 xf2_3 x3_3 xf3_3 y0_3 yf0_3 y1_3 yf1_3 y2_3 yf2_3 y3_3 yf3_3 r0_3 rf0_3 r1_3 rf1_3 r2_3 rf2_3 r3_3 rf3_3
    have x0_4 := H4.out.x.c0
    have xf0_4 := H4.out.x.f0
    have x1_4 := H4.out.x.c1
    have xf1_4 := H4.out.x.f1
    have x2_4 := H4.out.x.c2
    have xf2_4 := H4.out.x.f2
    have x3_4 := H4.out.x.c3
    have xf3_4 := H4.out.x.f3
    have y0_4 := H4.out.y.c0
    have yf0_4 := H4.out.y.f0
    have y1_4 := H4.out.y.c1
    have yf1_4 := H4.out.y.f1
    have y2_4 := H4.out.y.c2
    have yf2_4 := H4.out.y.f2
    have y3_4 := H4.out.y.c3
    have yf3_4 := H4.out.y.f3
    have r0_4 := H4.out.r.c0
    have rf0_4 := H4.out.r.f0
    have r1_4 := H4.out.r.c1
    have rf1_4 := H4.out.r.f1
    have r2_4 := H4.out.r.c2
    have rf2_4 := H4.out.r.f2
    have r3_4 := H4.out.r.c3
    have rf3_4 := H4.out.r.f3
    have t0 := T4.out.c0
    have t1 := T4.out.c1
    have tf0 := T4.out.f0
    have tf1 := T4.out.f1
    have z4 := H4.out.size
    have l3 := H3.out.size
    have l1 : w.heap.size ≠ w2.heap.size := by omega
    have l2 : w.heap.size + 1 ≠ w2.heap.size := by omega
    have l5 : w.heap.size + 2 ≠ w2.heap.size := by omega
    go_wp2_with fail
    go_light
    refine bodyPost_ret (v := .agg #[.int .u64 s2, .int .u64 E0, .int .u64 E1, .int .i64 P]) (results_quad rfl (((((((((H4.out.r.other _ _ (by simpa using l5)).other _ _ (by simpa using l5)).other _ _ (by simp)).other _ _ (by simp)).other _ _ (by simp)).set0 _).set1 _).set2 _).set3 _)) rfl ⟨rfl, ?_⟩
    exact ((((((((H4.out.below.setCell (by simp; omega) _).setCell (by simp; omega) _).setCell (by simp) _).setCell (by simp) _).setCell (by simp) _).setCell (by simp <;> omega) _).setCell (by simp <;> omega) _).setCell (by simp <;> omega) _).setCell (by simp <;> omega) _
end Go.Proofs.YtfbdgecanfmgiaaDoor
