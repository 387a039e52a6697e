import Derived.Test.YtfbdgecanfmgiaaDoorSoft5
import Derived.Test.YtfbdgecanfmgiaaDoorWide3
namespace Go.Proofs.YtfbdgecanfmgiaaDoor
open Go.RowKit

/-- What 'exactSum' does behind 'aligned': numbers of one sign. -/
theorem dig_add (X0 X1 Y : Nat) (hX0 : X0 < 18446744073709551616) (hY : Y < 18446744073709551616) (hs : X1 < 9223372036854775808) : addW0 X0 Y = ((X0 + X1 * 18446744073709551616 + Y) % 18446744073709551616 : Nat) ∧ addW1 X0 X1 Y 0 = ((X0 + X1 * 18446744073709551616 + Y) / 18446744073709551616 : Nat) := by
  unfold addW0 addW1
  constructor <;> omega

set_option maxHeartbeats 4000000 in
theorem exactSum_add (a0 a1 a2 b0 b1 b2 : Nat) (a3 b3 m P : Int) (s1 s2 X0 X1 Y : Nat) (hs : s1 = s2) (hsm : X1 < 9223372036854775808)
    (hX0 : X0 < 18446744073709551616) (_hX1 : X1 < 18446744073709551616) (hY : Y < 18446744073709551616) (w : World)
    (hal : ∀ w1, Calls Tryd.prog 68 #[.agg #[.int .u64 a0, .int .u64 a1, .int .u64 a2, .int .i64 a3], .agg #[.int .u64 b0, .int .u64 b1, .int .u64 b2, .int .i64 b3]] w1 fun e w' =>
      e = .returned (.tuple #[.agg #[.int .u64 s1, .int .u64 X0, .int .u64 X1, .int .i64 P], .agg #[.int .u64 s2, .int .u64 Y, .int .u64 0, .int .i64 P]]) ∧ Below w1.heap.size w1 w') :
    Calls Tryd.prog 48 #[.agg #[.int .u64 a0, .int .u64 a1, .int .u64 a2, .int .i64 a3], .agg #[.int .u64 b0, .int .u64 b1, .int .u64 b2, .int .i64 b3], .int .u8 m] w fun e w' =>
      e = .returned (.agg #[.int .u64 s1, .int .u64 ((X0 + X1 * 18446744073709551616 + Y) % 18446744073709551616 : Nat), .int .u64 ((X0 + X1 * 18446744073709551616 + Y) / 18446744073709551616 : Nat), .int .i64 P]) ∧ Below w.heap.size w w' := by
  have HD : Hid (addW0 X0 Y = ((X0 + X1 * 18446744073709551616 + Y) % 18446744073709551616 : Nat) ∧ addW1 X0 X1 Y 0 = ((X0 + X1 * 18446744073709551616 + Y) / 18446744073709551616 : Nat)) := dig_add X0 X1 Y hX0 hY hsm
  have HADD : Hid (∀ w, Calls Tryd.prog 69 #[.agg #[.int .u64 X0, .int .u64 X1], .agg #[.int .u64 Y, .int .u64 0]] w fun e w' => e = .returned (.agg #[.int .u64 (addW0 X0 Y), .int .u64 (addW1 X0 X1 Y 0)]) ∧ Below w.heap.size w w') := fun w => add_any X0 X1 Y 0 (by omega) (by omega) (by omega) (by omega) w
  have hsb : ((s1 : Int) == (s2 : Int)) = true := by simp [hs]
  clear hs hX0 hY hsm
  have HAL : Hid (∀ w1, Calls Tryd.prog 68 #[.agg #[.int .u64 a0, .int .u64 a1, .int .u64 a2, .int .i64 a3], .agg #[.int .u64 b0, .int .u64 b1, .int .u64 b2, .int .i64 b3]] w1 fun e w' =>
      e = .returned (.tuple #[.agg #[.int .u64 s1, .int .u64 X0, .int .u64 X1, .int .i64 P], .agg #[.int .u64 s2, .int .u64 Y, .int .u64 0, .int .i64 P]]) ∧ Below w1.heap.size w1 w') := hal
  clear hal
  go_enter Tryd.func48, Tryd.ntmps48
  go_upto_region 1 with fail
  go_cut [] from 9 to 57 (fun wx => Tri w wx (.int .u64 s1) (.int .u64 X0) (.int .u64 X1) (.int .i64 P) (.int .u64 s2) (.int .u64 Y) (.int .u64 0) (.int .i64 P))
  case first =>
    go_wp2_with fail
    refine (HAL.out _).mono ?_
    rintro e w1 ⟨rfl, hb1⟩
    have H1 : Hid (Tri w w1 (.int .u64 a0) (.int .u64 a1) (.int .u64 a2) (.int .i64 a3) (.int .u64 b0) (.int .u64 b1) (.int .u64 b2) (.int .i64 b3)) := (Tri.start w _ _ _ _ _ _ _ _ _).later hb1
    clear hb1
    have x0_1 := H1.out.x.c0
    have xf0_1 := H1.out.x.f0
    have x1_1 := H1.out.x.c1
    have xf1_1 := H1.out.x.f1
    have x2_1 := H1.out.x.c2
    have xf2_1 := H1.out.x.f2
    have x3_1 := H1.out.x.c3
    have xf3_1 := H1.out.x.f3
    have y0_1 := H1.out.y.c0
    have yf0_1 := H1.out.y.f0
    have y1_1 := H1.out.y.c1
    have yf1_1 := H1.out.y.f1
    have y2_1 := H1.out.y.c2
    have yf2_1 := H1.out.y.f2
    have y3_1 := H1.out.y.c3
    have yf3_1 := H1.out.y.f3
    have r0_1 := H1.out.r.c0
    have rf0_1 := H1.out.r.f0
    have r1_1 := H1.out.r.c1
    have rf1_1 := H1.out.r.f1
    have r2_1 := H1.out.r.c2
    have rf2_1 := H1.out.r.f2
    have r3_1 := H1.out.r.c3
    have rf3_1 := H1.out.r.f3
    have z1 := H1.out.size
    go_wp2_with fail
    go_meet
    go_light
    exact H1.out.setAll _ _ _ _ _ _ _ _
  case rest =>
    have H2 : Hid (Tri w wc (.int .u64 s1) (.int .u64 X0) (.int .u64 X1) (.int .i64 P) (.int .u64 s2) (.int .u64 Y) (.int .u64 0) (.int .i64 P)) := hcut
    clear hcut
    have x0_2 := H2.out.x.c0
    have xf0_2 := H2.out.x.f0
    have x1_2 := H2.out.x.c1
    have xf1_2 := H2.out.x.f1
    have x2_2 := H2.out.x.c2
    have xf2_2 := H2.out.x.f2
    have x3_2 := H2.out.x.c3
    have xf3_2 := H2.out.x.f3
    have y0_2 := H2.out.y.c0
    have yf0_2 := H2.out.y.f0
    have y1_2 := H2.out.y.c1
    have yf1_2 := H2.out.y.f1
    have y2_2 := H2.out.y.c2
    have yf2_2 := H2.out.y.f2
    have y3_2 := H2.out.y.c3
    have yf3_2 := H2.out.y.f3
    have r0_2 := H2.out.r.c0
    have rf0_2 := H2.out.r.f0
    have r1_2 := H2.out.r.c1
    have rf1_2 := H2.out.r.f1
    have r2_2 := H2.out.r.c2
    have rf2_2 := H2.out.r.f2
    have r3_2 := H2.out.r.c3
    have rf3_2 := H2.out.r.f3
    have z2 := H2.out.size
    go_wp2_with fail
    refine (HADD.out _).mono ?_
    rintro e w2 ⟨rfl, hb2⟩
    rw [HD.out.1, HD.out.2]
    have H3 : Hid (Tri w w2 (.int .u64 s1) (.int .u64 X0) (.int .u64 X1) (.int .i64 P) (.int .u64 s2) (.int .u64 Y) (.int .u64 0) (.int .i64 P)) := H2.out.later hb2
    clear hb2 z2 x0_2 xf0_2 x1_2 xf1_2 x2_2 xf2_2 x3_2 xf3_2 y0_2 yf0_2 y1_2 yf1_2 y2_2 yf2_2 y3_2 yf3_2 r0_2 rf0_2 r1_2 rf1_2 r2_2 rf2_2 r3_2 rf3_2
    have x0_3 := H3.out.x.c0
    have xf0_3 := H3.out.x.f0
    have x1_3 := H3.out.x.c1
    have xf1_3 := H3.out.x.f1
    have x2_3 := H3.out.x.c2
    have xf2_3 := H3.out.x.f2
    have x3_3 := H3.out.x.c3
    have xf3_3 := H3.out.x.f3
    have y0_3 := H3.out.y.c0
    have yf0_3 := H3.out.y.f0
    have y1_3 := H3.out.y.c1
    have yf1_3 := H3.out.y.f1
    have y2_3 := H3.out.y.c2
    have yf2_3 := H3.out.y.f2
    have y3_3 := H3.out.y.c3
    have yf3_3 := H3.out.y.f3
    have r0_3 := H3.out.r.c0
    have rf0_3 := H3.out.r.f0
    have r1_3 := H3.out.r.c1
    have rf1_3 := H3.out.r.f1
    have r2_3 := H3.out.r.c2
    have rf2_3 := H3.out.r.f2
    have r3_3 := H3.out.r.c3
    have rf3_3 := H3.out.r.f3
    have z3 := H3.out.size
    go_wp2_with fail
    go_light
    refine bodyPost_ret (v := .agg #[.int .u64 s1, .int .u64 ((X0 + X1 * 18446744073709551616 + Y) % 18446744073709551616 : Nat), .int .u64 ((X0 + X1 * 18446744073709551616 + Y) / 18446744073709551616 : Nat), .int .i64 P]) (results_quad rfl ((((((H3.out.r.other _ _ (by simp)).other _ _ (by simp)).set0 _).set1 _).set2 _).set3 _)) rfl ⟨rfl, ?_⟩
    exact (((((H3.out.below.setCell (by simp) _).setCell (by simp) _).setCell (by simp <;> omega) _).setCell (by simp <;> omega) _).setCell (by simp <;> omega) _).setCell (by simp <;> omega) _

set_option maxHeartbeats 4000000 in
theorem exactSum_none (a0 a1 a2 b0 b1 b2 : Nat) (a3 b3 m P : Int) (s1 s2 X0 X1 Y : Nat) (hs : s1 ≠ s2) (he : X0 + X1 * 18446744073709551616 = Y)
    (hX0 : X0 < 18446744073709551616) (hX1 : X1 < 18446744073709551616) (hY : Y < 18446744073709551616) (w : World)
    (hal : ∀ w1, Calls Tryd.prog 68 #[.agg #[.int .u64 a0, .int .u64 a1, .int .u64 a2, .int .i64 a3], .agg #[.int .u64 b0, .int .u64 b1, .int .u64 b2, .int .i64 b3]] w1 fun e w' =>
      e = .returned (.tuple #[.agg #[.int .u64 s1, .int .u64 X0, .int .u64 X1, .int .i64 P], .agg #[.int .u64 s2, .int .u64 Y, .int .u64 0, .int .i64 P]]) ∧ Below w1.heap.size w1 w') :
    Calls Tryd.prog 48 #[.agg #[.int .u64 a0, .int .u64 a1, .int .u64 a2, .int .i64 a3], .agg #[.int .u64 b0, .int .u64 b1, .int .u64 b2, .int .i64 b3], .int .u8 m] w fun e w' =>
      e = .returned (.agg #[.int .u64 (if m = 4 then 1 else 0), .int .u64 0, .int .u64 0, .int .i64 0]) ∧ Below w.heap.size w w' := by
  have hsb : ((s1 : Int) == (s2 : Int)) = false := by simp; omega
  have hcmp := eq_two X0 X1 Y 0
  have hcb : ((X0 : Int) == (Y : Int) && (X1 : Int) == 0) = true := by
    have h1 : X1 = 0 := by omega
    have h2 : X0 = Y := by omega
    simp [h1, h2]
  clear hs hX0 hX1 hY he
  generalize hZ : (if m = 4 then 1 else 0 : Int) = Z
  have HZ : Hid (∀ w, Calls Tryd.prog 70 #[.int .u8 m] w fun e w' => e = .returned (.int .u64 Z) ∧ w' = w) := fun w => by rw [← hZ]; exact zeroSign_any m w
  clear hZ
  have HAL : Hid (∀ w1, Calls Tryd.prog 68 #[.agg #[.int .u64 a0, .int .u64 a1, .int .u64 a2, .int .i64 a3], .agg #[.int .u64 b0, .int .u64 b1, .int .u64 b2, .int .i64 b3]] w1 fun e w' =>
      e = .returned (.tuple #[.agg #[.int .u64 s1, .int .u64 X0, .int .u64 X1, .int .i64 P], .agg #[.int .u64 s2, .int .u64 Y, .int .u64 0, .int .i64 P]]) ∧ Below w1.heap.size w1 w') := hal
  clear hal
  go_enter Tryd.func48, Tryd.ntmps48
  go_upto_region 1 with fail
  go_cut [] from 9 to 57 (fun wx => Tri w wx (.int .u64 s1) (.int .u64 X0) (.int .u64 X1) (.int .i64 P) (.int .u64 s2) (.int .u64 Y) (.int .u64 0) (.int .i64 P))
  case first =>
    go_wp2_with fail
    refine (HAL.out _).mono ?_
    rintro e w1 ⟨rfl, hb1⟩
    have H1 : Hid (Tri w w1 (.int .u64 a0) (.int .u64 a1) (.int .u64 a2) (.int .i64 a3) (.int .u64 b0) (.int .u64 b1) (.int .u64 b2) (.int .i64 b3)) := (Tri.start w _ _ _ _ _ _ _ _ _).later hb1
    clear hb1
    have x0_1 := H1.out.x.c0
    have xf0_1 := H1.out.x.f0
    have x1_1 := H1.out.x.c1
    have xf1_1 := H1.out.x.f1
    have x2_1 := H1.out.x.c2
    have xf2_1 := H1.out.x.f2
    have x3_1 := H1.out.x.c3
    have xf3_1 := H1.out.x.f3
    have y0_1 := H1.out.y.c0
    have yf0_1 := H1.out.y.f0
    have y1_1 := H1.out.y.c1
    have yf1_1 := H1.out.y.f1
    have y2_1 := H1.out.y.c2
    have yf2_1 := H1.out.y.f2
    have y3_1 := H1.out.y.c3
    have yf3_1 := H1.out.y.f3
    have r0_1 := H1.out.r.c0
    have rf0_1 := H1.out.r.f0
    have r1_1 := H1.out.r.c1
    have rf1_1 := H1.out.r.f1
    have r2_1 := H1.out.r.c2
    have rf2_1 := H1.out.r.f2
    have r3_1 := H1.out.r.c3
    have rf3_1 := H1.out.r.f3
    have z1 := H1.out.size
    go_wp2_with fail
    go_meet
    go_light
    exact H1.out.setAll _ _ _ _ _ _ _ _
  case rest =>
    have H2 : Hid (Tri w wc (.int .u64 s1) (.int .u64 X0) (.int .u64 X1) (.int .i64 P) (.int .u64 s2) (.int .u64 Y) (.int .u64 0) (.int .i64 P)) := hcut
    clear hcut
    have x0_2 := H2.out.x.c0
    have xf0_2 := H2.out.x.f0
    have x1_2 := H2.out.x.c1
    have xf1_2 := H2.out.x.f1
    have x2_2 := H2.out.x.c2
    have xf2_2 := H2.out.x.f2
    have x3_2 := H2.out.x.c3
    have xf3_2 := H2.out.x.f3
    have y0_2 := H2.out.y.c0
    have yf0_2 := H2.out.y.f0
    have y1_2 := H2.out.y.c1
    have yf1_2 := H2.out.y.f1
    have y2_2 := H2.out.y.c2
    have yf2_2 := H2.out.y.f2
    have y3_2 := H2.out.y.c3
    have yf3_2 := H2.out.y.f3
    have r0_2 := H2.out.r.c0
    have rf0_2 := H2.out.r.f0
    have r1_2 := H2.out.r.c1
    have rf1_2 := H2.out.r.f1
    have r2_2 := H2.out.r.c2
    have rf2_2 := H2.out.r.f2
    have r3_2 := H2.out.r.c3
    have rf3_2 := H2.out.r.f3
    have z2 := H2.out.size
    go_wp2_with (go_at_call 70; refine (HZ.out _).mono ?_; rintro e w' ⟨rfl, rfl⟩)
    go_light
    refine bodyPost_ret (v := .agg #[.int .u64 Z, .int .u64 0, .int .u64 0, .int .i64 0]) (results_quad rfl ((((H2.out.r.set0 _).set1 _).set2 _).set3 _)) rfl ⟨rfl, ?_⟩
    exact (((H2.out.below.setCell (by simp <;> omega) _).setCell (by simp <;> omega) _).setCell (by simp <;> omega) _).setCell (by simp <;> omega) _

end Go.Proofs.YtfbdgecanfmgiaaDoor
