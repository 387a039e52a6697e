import Derived.Test.YtcjihaafohnbeaaGreatDoorRtH
import Derived.Test.YtcjihaafohnbeaaGreatDoorRefRo
import Derived.Test.YtcjihaafohnbeaaGreatDoorRefN1
import Derived.Test.YtcjihaafohnbeaaGreatDoorRefPn
import Derived.Test.YtcjihaafohnbeaaGreatDoorOf
namespace Go.Proofs.YtcjihaafohnbeaaGreatDoor
open Go.RowKit

set_option maxRecDepth 10000 in
set_option maxHeartbeats 2000000 in
theorem ref_nan1 (op m x y z : Int) (h : 6 ≤ op ∧ op ≤ 8) (hm : m ≤ 4) (hx : 0 ≤ x ∧ x < 18446744073709551616) (hy : 0 ≤ y ∧ y < 18446744073709551616) (hz : 0 ≤ z ∧ z < 18446744073709551616) (hn : anyN [x] = true) (w : World) :
    Calls Tryz.prog 14 #[.agg #[.int .i64 op, .int .i64 m, .int .u64 x, .int .u64 y, .int .u64 z]] w fun e w' => e = .returned (.agg #[.int .u64 (nanBits [x]), .int .i64 (nanFlag [x]), .bool false]) ∧ Below w.heap.size w w' := by
  have HN : Hid (∀ w, Calls Tryz.prog 19 #[.agg #[.int .i64 op, .int .i64 m, .int .u64 x, .int .u64 y, .int .u64 z]] w fun e w' => e = .returned (.tuple #[.agg #[.int .u64 (nanBits [x]), .int .i64 (nanFlag [x]), .bool false], .bool true]) ∧ Below w.heap.size w w') := fun w => by
    have := nans1_any op m x y z h hx hy hz w
    rw [hn] at this
    exact this
  clear hn hx hy hz
  obtain ⟨h1, h2⟩ := h
  have b10 : (op == 10) = false := by rw [beq_eq_false_iff_ne]; omega
  generalize nanBits [x] = NB at *
  generalize nanFlag [x] = NF at *
  have E0 : Hid (EmptyR ((w.alloc (.cells #[.int .i64 op, .int .i64 m, .int .u64 x, .int .u64 y, .int .u64 z] 41)).alloc (.cells #[.int .u64 0, .int .i64 0, .bool false] 39)) (w.heap.size + 1)) := ⟨by simp, by go_simp, by go_simp, by go_simp, by go_simp, by go_simp, by go_simp⟩
  have B0 : Hid (Below w.heap.size w ((w.alloc (.cells #[.int .i64 op, .int .i64 m, .int .u64 x, .int .u64 y, .int .u64 z] 41)).alloc (.cells #[.int .u64 0, .int .i64 0, .bool false] 39))) := ((Below.refl _ _).alloc (Nat.le_refl _) _).alloc (by simp) _
  go_enter Tryz.func14, Tryz.ntmps14
  go_wp2_with fail
  refine (HN.out _).mono ?_
  rintro e w1 ⟨rfl, hb1⟩
  have V1 : Hid (Below w.heap.size w w1) := B0.out.trans (hb1.mono B0.out.size)
  obtain ⟨k0, k1, k2, k3, k4, k5, k6⟩ := E0.out.later hb1
  clear hb1
  go_wp2_with fail
  refine bodyPost_ret (v := .agg #[.int .u64 NB, .int .i64 NF, .bool false]) (by simp [results, Tryz.results14, go_sem, k1, k2, k3, World.cell?_alloc_lt, k0]) rfl ⟨rfl, ?_⟩
  repeat (first | exact V1.out | refine Below.setCell ?_ (by simp) _ | (refine Below.alloc ?_ (by have := V1.out.size; simp; omega) _))
theorem sqF_range (x : Nat) (m : Int) : 0 ≤ sqF x m ∧ sqF x m < 256 := by
  have := roundF_range 0 (sqD (mant x) (pow x)) (sqP (pow x)) m
  unfold sqF
  (repeat' split) <;> omega

set_option maxRecDepth 10000 in
set_option maxHeartbeats 2000000 in
theorem ref_sq (x : Nat) (m y z : Int) (hm : 0 ≤ m ∧ m ≤ 4) (hx : x < 18446744073709551616) (hy : 0 ≤ y ∧ y < 18446744073709551616) (hz : 0 ≤ z ∧ z < 18446744073709551616) (hn : anyN [(x : Int)] = false) (w : World) :
    Calls Tryz.prog 14 #[.agg #[.int .i64 6, .int .i64 m, .int .u64 (x : Int), .int .u64 y, .int .u64 z]] w fun e w' => e = .returned (.agg #[.int .u64 (sqB x m), .int .i64 (sqF x m), .bool false]) ∧ Below w.heap.size w w' := by
  have HN : Hid (∀ w, Calls Tryz.prog 19 #[.agg #[.int .i64 6, .int .i64 m, .int .u64 (x : Int), .int .u64 y, .int .u64 z]] w fun e w' => e = .returned (.tuple #[.agg #[.int .u64 (nanBits [(x : Int)]), .int .i64 (nanFlag [(x : Int)]), .bool false], .bool false]) ∧ Below w.heap.size w w') := fun w => by
    have := nans1_any 6 m x y z (by omega) (by omega) hy hz w
    rw [hn] at this
    exact this
  have HMU : Hid (∀ w, Calls Tryz.prog 25 #[.int .i64 6, .int .u64 (x : Int), .int .i64 m] w fun e w' => e = .returned (.agg #[.int .u64 (sqB x m), .int .i64 (sqF x m), .bool false]) ∧ Below w.heap.size w w') := fun w => sq_roots x m hx hm w
  obtain ⟨hm1, hm2⟩ := hm
  clear hn hx hy hz
  generalize nanBits [(x : Int)] = NB at *
  generalize nanFlag [(x : Int)] = NF at *
  generalize sqB x m = PB at *
  generalize sqF x m = PF at *
  have E0 : Hid (EmptyR ((w.alloc (.cells #[.int .i64 6, .int .i64 m, .int .u64 (x : Int), .int .u64 y, .int .u64 z] 41)).alloc (.cells #[.int .u64 0, .int .i64 0, .bool false] 39)) (w.heap.size + 1)) := ⟨by simp, by go_simp, by go_simp, by go_simp, by go_simp, by go_simp, by go_simp⟩
  have R0 : Hid (RecR ((w.alloc (.cells #[.int .i64 6, .int .i64 m, .int .u64 (x : Int), .int .u64 y, .int .u64 z] 41)).alloc (.cells #[.int .u64 0, .int .i64 0, .bool false] 39)) w.heap.size 6 m x y z) := ⟨by simp; omega, by go_simp, by go_simp, by go_simp, by go_simp, by go_simp⟩
  have B0 : Hid (Below w.heap.size w ((w.alloc (.cells #[.int .i64 6, .int .i64 m, .int .u64 (x : Int), .int .u64 y, .int .u64 z] 41)).alloc (.cells #[.int .u64 0, .int .i64 0, .bool false] 39))) := ((Below.refl _ _).alloc (Nat.le_refl _) _).alloc (by simp) _
  go_enter Tryz.func14, Tryz.ntmps14
  go_wp2_with fail
  refine (HN.out _).mono ?_
  rintro e w1 ⟨rfl, hb1⟩
  have V1 : Hid (Below w.heap.size w w1) := B0.out.trans (hb1.mono B0.out.size)
  have E1 : Hid (EmptyR w1 (w.heap.size + 1)) := E0.out.later hb1
  obtain ⟨r0, r1, r2, r3, r4, r5⟩ := R0.out.later hb1
  have hsz := E1.out.lt
  clear hb1
  go_wp2_with fail
  refine (HMU.out _).mono ?_
  rintro e w2 ⟨rfl, hb2⟩
  have V1a := V1.out.alloc V1.out.size (.cells #[.int .u64 NB, .int .i64 NF, .bool false] 39)
  have V2 : Hid (Below w.heap.size w w2) := V1a.trans (hb2.mono V1a.size)
  obtain ⟨k0, k1, k2, k3, k4, k5, k6⟩ := (E1.out.later ((Below.refl _ _).alloc (Nat.le_refl _) _)).later hb2
  clear hb2 V1a V1 E1
  go_wp2_with fail
  refine bodyPost_ret (v := .agg #[.int .u64 PB, .int .i64 PF, .bool false]) (by simp [results, Tryz.results14, go_sem, k1, k2, k3]) rfl ⟨rfl, ?_⟩
  repeat (first | exact V2.out | refine Below.setCell ?_ (by simp) _)

/-- A root: the program and the document's answer say the same. -/
theorem done_sq (op m x y z : Int) (h : op % 256 = 6) (hx : 0 ≤ x ∧ x < 18446744073709551616) (hy : 0 ≤ y ∧ y < 18446744073709551616) (hz : 0 ≤ z ∧ z < 18446744073709551616) (w : World) (hT : Tab w) :
    Calls Tryz.prog 11 #[.agg #[.int .i64 op, .int .i64 m, .int .u64 x, .int .u64 y, .int .u64 z]] w fun e w' => e = .returned (.bool true) ∧ Below w.heap.size w w' := by
  by_cases hbad : 4 < m % 256
  · exact done_any op m x y z 0 0 true (by omega) w (fun w1 _ => soft_bad _ _ x y z (by omega) (by omega) (.inr (.inr hbad)) w1) (fun w1 _ => ref_bad _ _ x y z (.inr (.inr hbad)) w1)
  have hm : 0 ≤ m % 256 ∧ m % 256 ≤ 4 := by omega
  obtain ⟨X, rfl⟩ : ∃ X : Nat, x = X := ⟨x.toNat, by omega⟩
  have hX : X < 18446744073709551616 := by omega
  by_cases hn : anyN [(X : Int)] = true
  · have hr := nanFlag_range [(X : Int)]
    refine done_any op m X y z (nanBits [(X : Int)]) (nanFlag [(X : Int)]) false (by omega) w (fun w1 _ => ?_) (fun w1 _ => ?_)
    · rw [h]; exact soft_nans 6 (m % 256) X y z 1 _ (by omega) hm hx hy hz (by omega) index6 hn w1
    · rw [h]; exact ref_nan1 6 (m % 256) X y z (by omega) (by omega) hx hy hz hn w1
  · have hn' : anyN [(X : Int)] = false := by simpa using hn
    have hk : kind (X : Int) < 4 := by
      simp [anyN, isN] at hn'
      omega
    have hr := sqF_range X (m % 256)
    refine done_any op m X y z (sqB X (m % 256)) (sqF X (m % 256)) false (by omega) w (fun w1 hb => ?_) (fun w1 _ => ?_)
    · rw [h]; exact soft_sqDo X (m % 256) y z hX hy hz hm hk w1 (hT.later hb)
    · rw [h]; exact ref_sq X (m % 256) y z hm hX hy hz hn' w1
theorem rqF_range (x : Nat) (m : Int) : 0 ≤ rqF x m ∧ rqF x m < 256 := by
  have := roundF_range 0 (rqD (mant x) (pow x)) (rqP (mant x) (pow x)) m
  unfold rqF
  (repeat' split) <;> omega

set_option maxRecDepth 10000 in
set_option maxHeartbeats 2000000 in
theorem ref_rq (x : Nat) (m y z : Int) (hm : 0 ≤ m ∧ m ≤ 4) (hx : x < 18446744073709551616) (hy : 0 ≤ y ∧ y < 18446744073709551616) (hz : 0 ≤ z ∧ z < 18446744073709551616) (hn : anyN [(x : Int)] = false) (w : World) :
    Calls Tryz.prog 14 #[.agg #[.int .i64 7, .int .i64 m, .int .u64 (x : Int), .int .u64 y, .int .u64 z]] w fun e w' => e = .returned (.agg #[.int .u64 (rqB x m), .int .i64 (rqF x m), .bool false]) ∧ Below w.heap.size w w' := by
  have HN : Hid (∀ w, Calls Tryz.prog 19 #[.agg #[.int .i64 7, .int .i64 m, .int .u64 (x : Int), .int .u64 y, .int .u64 z]] w fun e w' => e = .returned (.tuple #[.agg #[.int .u64 (nanBits [(x : Int)]), .int .i64 (nanFlag [(x : Int)]), .bool false], .bool false]) ∧ Below w.heap.size w w') := fun w => by
    have := nans1_any 7 m x y z (by omega) (by omega) hy hz w
    rw [hn] at this
    exact this
  have HMU : Hid (∀ w, Calls Tryz.prog 25 #[.int .i64 7, .int .u64 (x : Int), .int .i64 m] w fun e w' => e = .returned (.agg #[.int .u64 (rqB x m), .int .i64 (rqF x m), .bool false]) ∧ Below w.heap.size w w') := fun w => rq_roots x m hx hm w
  obtain ⟨hm1, hm2⟩ := hm
  clear hn hx hy hz
  generalize nanBits [(x : Int)] = NB at *
  generalize nanFlag [(x : Int)] = NF at *
  generalize rqB x m = PB at *
  generalize rqF x m = PF at *
  have E0 : Hid (EmptyR ((w.alloc (.cells #[.int .i64 7, .int .i64 m, .int .u64 (x : Int), .int .u64 y, .int .u64 z] 41)).alloc (.cells #[.int .u64 0, .int .i64 0, .bool false] 39)) (w.heap.size + 1)) := ⟨by simp, by go_simp, by go_simp, by go_simp, by go_simp, by go_simp, by go_simp⟩
  have R0 : Hid (RecR ((w.alloc (.cells #[.int .i64 7, .int .i64 m, .int .u64 (x : Int), .int .u64 y, .int .u64 z] 41)).alloc (.cells #[.int .u64 0, .int .i64 0, .bool false] 39)) w.heap.size 7 m x y z) := ⟨by simp; omega, by go_simp, by go_simp, by go_simp, by go_simp, by go_simp⟩
  have B0 : Hid (Below w.heap.size w ((w.alloc (.cells #[.int .i64 7, .int .i64 m, .int .u64 (x : Int), .int .u64 y, .int .u64 z] 41)).alloc (.cells #[.int .u64 0, .int .i64 0, .bool false] 39))) := ((Below.refl _ _).alloc (Nat.le_refl _) _).alloc (by simp) _
  go_enter Tryz.func14, Tryz.ntmps14
  go_wp2_with fail
  refine (HN.out _).mono ?_
  rintro e w1 ⟨rfl, hb1⟩
  have V1 : Hid (Below w.heap.size w w1) := B0.out.trans (hb1.mono B0.out.size)
  have E1 : Hid (EmptyR w1 (w.heap.size + 1)) := E0.out.later hb1
  obtain ⟨r0, r1, r2, r3, r4, r5⟩ := R0.out.later hb1
  have hsz := E1.out.lt
  clear hb1
  go_wp2_with fail
  refine (HMU.out _).mono ?_
  rintro e w2 ⟨rfl, hb2⟩
  have V1a := V1.out.alloc V1.out.size (.cells #[.int .u64 NB, .int .i64 NF, .bool false] 39)
  have V2 : Hid (Below w.heap.size w w2) := V1a.trans (hb2.mono V1a.size)
  obtain ⟨k0, k1, k2, k3, k4, k5, k6⟩ := (E1.out.later ((Below.refl _ _).alloc (Nat.le_refl _) _)).later hb2
  clear hb2 V1a V1 E1
  go_wp2_with fail
  refine bodyPost_ret (v := .agg #[.int .u64 PB, .int .i64 PF, .bool false]) (by simp [results, Tryz.results14, go_sem, k1, k2, k3]) rfl ⟨rfl, ?_⟩
  repeat (first | exact V2.out | refine Below.setCell ?_ (by simp) _)

/-- A root: the program and the document's answer say the same. -/
theorem done_rq (op m x y z : Int) (h : op % 256 = 7) (hx : 0 ≤ x ∧ x < 18446744073709551616) (hy : 0 ≤ y ∧ y < 18446744073709551616) (hz : 0 ≤ z ∧ z < 18446744073709551616) (w : World) (hT : Tab w) :
    Calls Tryz.prog 11 #[.agg #[.int .i64 op, .int .i64 m, .int .u64 x, .int .u64 y, .int .u64 z]] w fun e w' => e = .returned (.bool true) ∧ Below w.heap.size w w' := by
  by_cases hbad : 4 < m % 256
  · exact done_any op m x y z 0 0 true (by omega) w (fun w1 _ => soft_bad _ _ x y z (by omega) (by omega) (.inr (.inr hbad)) w1) (fun w1 _ => ref_bad _ _ x y z (.inr (.inr hbad)) w1)
  have hm : 0 ≤ m % 256 ∧ m % 256 ≤ 4 := by omega
  obtain ⟨X, rfl⟩ : ∃ X : Nat, x = X := ⟨x.toNat, by omega⟩
  have hX : X < 18446744073709551616 := by omega
  by_cases hn : anyN [(X : Int)] = true
  · have hr := nanFlag_range [(X : Int)]
    refine done_any op m X y z (nanBits [(X : Int)]) (nanFlag [(X : Int)]) false (by omega) w (fun w1 _ => ?_) (fun w1 _ => ?_)
    · rw [h]; exact soft_nans 7 (m % 256) X y z 1 _ (by omega) hm hx hy hz (by omega) index7 hn w1
    · rw [h]; exact ref_nan1 7 (m % 256) X y z (by omega) (by omega) hx hy hz hn w1
  · have hn' : anyN [(X : Int)] = false := by simpa using hn
    have hk : kind (X : Int) < 4 := by
      simp [anyN, isN] at hn'
      omega
    have hr := rqF_range X (m % 256)
    refine done_any op m X y z (rqB X (m % 256)) (rqF X (m % 256)) false (by omega) w (fun w1 hb => ?_) (fun w1 _ => ?_)
    · rw [h]; exact soft_rqDo X (m % 256) y z hX hy hz hm hk w1 (hT.later hb)
    · rw [h]; exact ref_rq X (m % 256) y z hm hX hy hz hn' w1
theorem cbF_range (x : Nat) (m : Int) : 0 ≤ cbF x m ∧ cbF x m < 256 := by
  have := roundF_range (sgn x) (cbD (mant x) (pow x)) (cbP (pow x)) m
  unfold cbF
  (repeat' split) <;> omega

set_option maxRecDepth 10000 in
set_option maxHeartbeats 2000000 in
theorem ref_cb (x : Nat) (m y z : Int) (hm : 0 ≤ m ∧ m ≤ 4) (hx : x < 18446744073709551616) (hy : 0 ≤ y ∧ y < 18446744073709551616) (hz : 0 ≤ z ∧ z < 18446744073709551616) (hn : anyN [(x : Int)] = false) (w : World) :
    Calls Tryz.prog 14 #[.agg #[.int .i64 8, .int .i64 m, .int .u64 (x : Int), .int .u64 y, .int .u64 z]] w fun e w' => e = .returned (.agg #[.int .u64 (cbB x m), .int .i64 (cbF x m), .bool false]) ∧ Below w.heap.size w w' := by
  have HN : Hid (∀ w, Calls Tryz.prog 19 #[.agg #[.int .i64 8, .int .i64 m, .int .u64 (x : Int), .int .u64 y, .int .u64 z]] w fun e w' => e = .returned (.tuple #[.agg #[.int .u64 (nanBits [(x : Int)]), .int .i64 (nanFlag [(x : Int)]), .bool false], .bool false]) ∧ Below w.heap.size w w') := fun w => by
    have := nans1_any 8 m x y z (by omega) (by omega) hy hz w
    rw [hn] at this
    exact this
  have HMU : Hid (∀ w, Calls Tryz.prog 25 #[.int .i64 8, .int .u64 (x : Int), .int .i64 m] w fun e w' => e = .returned (.agg #[.int .u64 (cbB x m), .int .i64 (cbF x m), .bool false]) ∧ Below w.heap.size w w') := fun w => cb_roots x m hx hm w
  obtain ⟨hm1, hm2⟩ := hm
  clear hn hx hy hz
  generalize nanBits [(x : Int)] = NB at *
  generalize nanFlag [(x : Int)] = NF at *
  generalize cbB x m = PB at *
  generalize cbF x m = PF at *
  have E0 : Hid (EmptyR ((w.alloc (.cells #[.int .i64 8, .int .i64 m, .int .u64 (x : Int), .int .u64 y, .int .u64 z] 41)).alloc (.cells #[.int .u64 0, .int .i64 0, .bool false] 39)) (w.heap.size + 1)) := ⟨by simp, by go_simp, by go_simp, by go_simp, by go_simp, by go_simp, by go_simp⟩
  have R0 : Hid (RecR ((w.alloc (.cells #[.int .i64 8, .int .i64 m, .int .u64 (x : Int), .int .u64 y, .int .u64 z] 41)).alloc (.cells #[.int .u64 0, .int .i64 0, .bool false] 39)) w.heap.size 8 m x y z) := ⟨by simp; omega, by go_simp, by go_simp, by go_simp, by go_simp, by go_simp⟩
  have B0 : Hid (Below w.heap.size w ((w.alloc (.cells #[.int .i64 8, .int .i64 m, .int .u64 (x : Int), .int .u64 y, .int .u64 z] 41)).alloc (.cells #[.int .u64 0, .int .i64 0, .bool false] 39))) := ((Below.refl _ _).alloc (Nat.le_refl _) _).alloc (by simp) _
  go_enter Tryz.func14, Tryz.ntmps14
  go_wp2_with fail
  refine (HN.out _).mono ?_
  rintro e w1 ⟨rfl, hb1⟩
  have V1 : Hid (Below w.heap.size w w1) := B0.out.trans (hb1.mono B0.out.size)
  have E1 : Hid (EmptyR w1 (w.heap.size + 1)) := E0.out.later hb1
  obtain ⟨r0, r1, r2, r3, r4, r5⟩ := R0.out.later hb1
  have hsz := E1.out.lt
  clear hb1
  go_wp2_with fail
  refine (HMU.out _).mono ?_
  rintro e w2 ⟨rfl, hb2⟩
  have V1a := V1.out.alloc V1.out.size (.cells #[.int .u64 NB, .int .i64 NF, .bool false] 39)
  have V2 : Hid (Below w.heap.size w w2) := V1a.trans (hb2.mono V1a.size)
  obtain ⟨k0, k1, k2, k3, k4, k5, k6⟩ := (E1.out.later ((Below.refl _ _).alloc (Nat.le_refl _) _)).later hb2
  clear hb2 V1a V1 E1
  go_wp2_with fail
  refine bodyPost_ret (v := .agg #[.int .u64 PB, .int .i64 PF, .bool false]) (by simp [results, Tryz.results14, go_sem, k1, k2, k3]) rfl ⟨rfl, ?_⟩
  repeat (first | exact V2.out | refine Below.setCell ?_ (by simp) _)

/-- A root: the program and the document's answer say the same. -/
theorem done_cb (op m x y z : Int) (h : op % 256 = 8) (hx : 0 ≤ x ∧ x < 18446744073709551616) (hy : 0 ≤ y ∧ y < 18446744073709551616) (hz : 0 ≤ z ∧ z < 18446744073709551616) (w : World) (hT : Tab w) :
    Calls Tryz.prog 11 #[.agg #[.int .i64 op, .int .i64 m, .int .u64 x, .int .u64 y, .int .u64 z]] w fun e w' => e = .returned (.bool true) ∧ Below w.heap.size w w' := by
  by_cases hbad : 4 < m % 256
  · exact done_any op m x y z 0 0 true (by omega) w (fun w1 _ => soft_bad _ _ x y z (by omega) (by omega) (.inr (.inr hbad)) w1) (fun w1 _ => ref_bad _ _ x y z (.inr (.inr hbad)) w1)
  have hm : 0 ≤ m % 256 ∧ m % 256 ≤ 4 := by omega
  obtain ⟨X, rfl⟩ : ∃ X : Nat, x = X := ⟨x.toNat, by omega⟩
  have hX : X < 18446744073709551616 := by omega
  by_cases hn : anyN [(X : Int)] = true
  · have hr := nanFlag_range [(X : Int)]
    refine done_any op m X y z (nanBits [(X : Int)]) (nanFlag [(X : Int)]) false (by omega) w (fun w1 _ => ?_) (fun w1 _ => ?_)
    · rw [h]; exact soft_nans 8 (m % 256) X y z 1 _ (by omega) hm hx hy hz (by omega) index8 hn w1
    · rw [h]; exact ref_nan1 8 (m % 256) X y z (by omega) (by omega) hx hy hz hn w1
  · have hn' : anyN [(X : Int)] = false := by simpa using hn
    have hk : kind (X : Int) < 4 := by
      simp [anyN, isN] at hn'
      omega
    have hr := cbF_range X (m % 256)
    refine done_any op m X y z (cbB X (m % 256)) (cbF X (m % 256)) false (by omega) w (fun w1 hb => ?_) (fun w1 _ => ?_)
    · rw [h]; exact soft_cbDo X (m % 256) y z hX hy hz hm hk w1 (hT.later hb)
    · rw [h]; exact ref_cb X (m % 256) y z hm hX hy hz hn' w1

set_option maxHeartbeats 400000 in
theorem roots_walk (a0 : Option Addr) (b off len cap : Nat) (w : World) (hT : Tab w) (ha : 0 < len → a0 = some ⟨b, off, none⟩) (hb : 0 < len → b < w.heap.size)
    (hstep : ∀ i, i < len → ∃ k a op m x y z la ln lc, StepAt w b (off + i * 8) k a op m x y z la ln lc) :
    Calls Tryz.prog 7 #[.slice a0 len cap] w fun e w' => e = .returned (.bool true) ∧ Below w.heap.size w w' := by
  have HSt : Hid (∀ i, i < len → ∃ k a op m x y z la ln lc, StepAt w b (off + i * 8) k a op m x y z la ln lc) := hstep
  have HT : Hid (Tab w) := hT
  clear hstep hT
  go_enter Tryz.func7, Tryz.ntmps7
  go_wp2_with fail
  refine (of_any a0 b off len cap 6 8 w ha hb HSt.out (fun op m x y z h1 h2 hx hy hz w1 hb1 => ?_)).mono ?_
  · rcases (by omega : op % 256 = 6 ∨ op % 256 = 7 ∨ op % 256 = 8) with h | h | h
    · exact done_sq op m x y z h hx hy hz w1 (HT.out.later hb1)
    · exact done_rq op m x y z h hx hy hz w1 (HT.out.later hb1)
    · exact done_cb op m x y z h hx hy hz w1 (HT.out.later hb1)
  rintro e w1 ⟨rfl, hb1⟩
  have HB1 : Hid (Below w.heap.size w w1) := hb1
  clear hb1
  go_wp2_with fail
  go_ret
  exact ⟨rfl, HB1.out⟩
end Go.Proofs.YtcjihaafohnbeaaGreatDoor
