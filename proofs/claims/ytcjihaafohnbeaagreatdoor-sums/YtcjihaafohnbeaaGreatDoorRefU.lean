import Derived.Test.YtcjihaafohnbeaaGreatDoorRefT
import Derived.Test.YtcjihaafohnbeaaGreatDoorRefP
import Derived.Test.YtcjihaafohnbeaaGreatDoorOdB
namespace Go.Proofs.YtcjihaafohnbeaaGreatDoor
open Go.RowKit

set_option maxRecDepth 10000 in
set_option maxHeartbeats 2000000 in
theorem ref_add (x y : Nat) (m z : Int) (hm : 0 ≤ m ∧ m ≤ 4) (hx : x < 18446744073709551616) (hy : y < 18446744073709551616) (hz : 0 ≤ z ∧ z < 18446744073709551616) (hn : anyN [(x : Int), (y : Int)] = false) (w : World) :
    Calls Tryz.prog 14 #[.agg #[.int .i64 1, .int .i64 m, .int .u64 (x : Int), .int .u64 (y : Int), .int .u64 z]] w fun e w' => e = .returned (.agg #[.int .u64 (addB x y m), .int .i64 (addF x y m), .bool false]) ∧ Below w.heap.size w w' := by
  have HN : Hid (∀ w, Calls Tryz.prog 19 #[.agg #[.int .i64 1, .int .i64 m, .int .u64 (x : Int), .int .u64 (y : Int), .int .u64 z]] w fun e w' => e = .returned (.tuple #[.agg #[.int .u64 (nanBits [(x : Int), (y : Int)]), .int .i64 (nanFlag [(x : Int), (y : Int)]), .bool false], .bool false]) ∧ Below w.heap.size w w') := fun w => by
    have := nans2_any 1 m x y z (by omega) (by omega) (by omega) hz w
    rw [hn] at this
    exact this
  have HMU : Hid (∀ w, Calls Tryz.prog 20 #[.int .u64 (x : Int), .int .u64 (y : Int), .int .i64 m] w fun e w' => e = .returned (.agg #[.int .u64 (addB x y m), .int .i64 (addF x y m), .bool false]) ∧ Below w.heap.size w w') := fun w => addition_ref x y m hx hy hm w
  obtain ⟨hm1, hm2⟩ := hm
  clear hn hx hy hz
  generalize nanBits [(x : Int), (y : Int)] = NB at *
  generalize nanFlag [(x : Int), (y : Int)] = NF at *
  generalize addB x y m = PB at *
  generalize addF x y m = PF at *
  have E0 : Hid (EmptyR ((w.alloc (.cells #[.int .i64 1, .int .i64 m, .int .u64 (x : Int), .int .u64 (y : Int), .int .u64 z] 41)).alloc (.cells #[.int .u64 0, .int .i64 0, .bool false] 39)) (w.heap.size + 1)) := ⟨by simp, by go_simp, by go_simp, by go_simp, by go_simp, by go_simp, by go_simp⟩
  have R0 : Hid (RecR ((w.alloc (.cells #[.int .i64 1, .int .i64 m, .int .u64 (x : Int), .int .u64 (y : Int), .int .u64 z] 41)).alloc (.cells #[.int .u64 0, .int .i64 0, .bool false] 39)) w.heap.size 1 m x y z) := ⟨by simp; omega, by go_simp, by go_simp, by go_simp, by go_simp, by go_simp⟩
  have B0 : Hid (Below w.heap.size w ((w.alloc (.cells #[.int .i64 1, .int .i64 m, .int .u64 (x : Int), .int .u64 (y : Int), .int .u64 z] 41)).alloc (.cells #[.int .u64 0, .int .i64 0, .bool false] 39))) := ((Below.refl _ _).alloc (Nat.le_refl _) _).alloc (by simp) _
  go_enter Tryz.func14, Tryz.ntmps14
  go_wp2_with fail
  refine (HN.out _).mono ?_
  rintro e w1 ⟨rfl, hb1⟩
  have V1 : Hid (Below w.heap.size w w1) := B0.out.trans (hb1.mono B0.out.size)
  have E1 : Hid (EmptyR w1 (w.heap.size + 1)) := E0.out.later hb1
  obtain ⟨r0, r1, r2, r3, r4, r5⟩ := R0.out.later hb1
  have hsz := E1.out.lt
  clear hb1
  go_wp2_with fail
  refine (HMU.out _).mono ?_
  rintro e w2 ⟨rfl, hb2⟩
  have V1a := V1.out.alloc V1.out.size (.cells #[.int .u64 NB, .int .i64 NF, .bool false] 39)
  have V2 : Hid (Below w.heap.size w w2) := V1a.trans (hb2.mono V1a.size)
  obtain ⟨k0, k1, k2, k3, k4, k5, k6⟩ := (E1.out.later ((Below.refl _ _).alloc (Nat.le_refl _) _)).later hb2
  clear hb2 V1a V1 E1
  go_wp2_with fail
  refine bodyPost_ret (v := .agg #[.int .u64 PB, .int .i64 PF, .bool false]) (by simp [results, Tryz.results14, go_sem, k1, k2, k3]) rfl ⟨rfl, ?_⟩
  repeat (first | exact V2.out | refine Below.setCell ?_ (by simp) _)

set_option maxRecDepth 10000 in
set_option maxHeartbeats 2000000 in
theorem ref_sub (x y : Nat) (m z : Int) (hm : 0 ≤ m ∧ m ≤ 4) (hx : x < 18446744073709551616) (hy : y < 18446744073709551616) (hz : 0 ≤ z ∧ z < 18446744073709551616) (hn : anyN [(x : Int), (y : Int)] = false) (w : World) :
    Calls Tryz.prog 14 #[.agg #[.int .i64 2, .int .i64 m, .int .u64 (x : Int), .int .u64 (y : Int), .int .u64 z]] w fun e w' => e = .returned (.agg #[.int .u64 (addB x (neg y) m), .int .i64 (addF x (neg y) m), .bool false]) ∧ Below w.heap.size w w' := by
  have HN : Hid (∀ w, Calls Tryz.prog 19 #[.agg #[.int .i64 2, .int .i64 m, .int .u64 (x : Int), .int .u64 (y : Int), .int .u64 z]] w fun e w' => e = .returned (.tuple #[.agg #[.int .u64 (nanBits [(x : Int), (y : Int)]), .int .i64 (nanFlag [(x : Int), (y : Int)]), .bool false], .bool false]) ∧ Below w.heap.size w w') := fun w => by
    have := nans2_any 2 m x y z (by omega) (by omega) (by omega) hz w
    rw [hn] at this
    exact this
  have HMU : Hid (∀ w, Calls Tryz.prog 20 #[.int .u64 (x : Int), .int .u64 ((neg y : Nat) : Int), .int .i64 m] w fun e w' => e = .returned (.agg #[.int .u64 (addB x (neg y) m), .int .i64 (addF x (neg y) m), .bool false]) ∧ Below w.heap.size w w') := fun w => addition_ref x (neg y) m hx (neg_lt hy) hm w
  have hxr : bits .xor .u64 (y : Int) 9223372036854775808 = ((neg y : Nat) : Int) := xor_top y hy
  obtain ⟨hm1, hm2⟩ := hm
  clear hn hx hy hz
  generalize nanBits [(x : Int), (y : Int)] = NB at *
  generalize nanFlag [(x : Int), (y : Int)] = NF at *
  generalize addB x (neg y) m = PB at *
  generalize addF x (neg y) m = PF at *
  have E0 : Hid (EmptyR ((w.alloc (.cells #[.int .i64 2, .int .i64 m, .int .u64 (x : Int), .int .u64 (y : Int), .int .u64 z] 41)).alloc (.cells #[.int .u64 0, .int .i64 0, .bool false] 39)) (w.heap.size + 1)) := ⟨by simp, by go_simp, by go_simp, by go_simp, by go_simp, by go_simp, by go_simp⟩
  have R0 : Hid (RecR ((w.alloc (.cells #[.int .i64 2, .int .i64 m, .int .u64 (x : Int), .int .u64 (y : Int), .int .u64 z] 41)).alloc (.cells #[.int .u64 0, .int .i64 0, .bool false] 39)) w.heap.size 2 m x y z) := ⟨by simp; omega, by go_simp, by go_simp, by go_simp, by go_simp, by go_simp⟩
  have B0 : Hid (Below w.heap.size w ((w.alloc (.cells #[.int .i64 2, .int .i64 m, .int .u64 (x : Int), .int .u64 (y : Int), .int .u64 z] 41)).alloc (.cells #[.int .u64 0, .int .i64 0, .bool false] 39))) := ((Below.refl _ _).alloc (Nat.le_refl _) _).alloc (by simp) _
  go_enter Tryz.func14, Tryz.ntmps14
  go_wp2_with fail
  refine (HN.out _).mono ?_
  rintro e w1 ⟨rfl, hb1⟩
  have V1 : Hid (Below w.heap.size w w1) := B0.out.trans (hb1.mono B0.out.size)
  have E1 : Hid (EmptyR w1 (w.heap.size + 1)) := E0.out.later hb1
  obtain ⟨r0, r1, r2, r3, r4, r5⟩ := R0.out.later hb1
  have hsz := E1.out.lt
  clear hb1
  go_wp2_with fail
  refine (HMU.out _).mono ?_
  rintro e w2 ⟨rfl, hb2⟩
  have V1a := V1.out.alloc V1.out.size (.cells #[.int .u64 NB, .int .i64 NF, .bool false] 39)
  have V2 : Hid (Below w.heap.size w w2) := V1a.trans (hb2.mono V1a.size)
  obtain ⟨k0, k1, k2, k3, k4, k5, k6⟩ := (E1.out.later ((Below.refl _ _).alloc (Nat.le_refl _) _)).later hb2
  clear hb2 V1a V1 E1
  go_wp2_with fail
  refine bodyPost_ret (v := .agg #[.int .u64 PB, .int .i64 PF, .bool false]) (by simp [results, Tryz.results14, go_sem, k1, k2, k3]) rfl ⟨rfl, ?_⟩
  repeat (first | exact V2.out | refine Below.setCell ?_ (by simp) _)




theorem psF_range (x y : Nat) (m : Int) : 0 ≤ psF x y m ∧ psF x y m < 256 := by
  have := roundF_range (gsS 128 (sgn x) (mant x) (pow x) (sgn y) (mant y) (pow y) m) (gsD 128 (sgn x) (mant x) (pow x) (sgn y) (mant y) (pow y)) (gsP 128 (sgn x) (mant x) (pow x) (sgn y) (mant y) (pow y)) m
  unfold psF rsF
  (repeat' split) <;> omega
/-- The program's sum is the document's. -/
theorem add_sum (x y : Nat) (m : Int) (hx : x < 18446744073709551616) (hy : y < 18446744073709551616) : addB x y m = psB x y m ∧ addF x y m = psF x y m := by
  have px := pow_range x
  have py := pow_range y
  have e := rs_doc (n := 128) (s1 := sgn x) (s2 := sgn y) (d1 := mant x) (d2 := mant y) (p1 := pow x) (p2 := pow y) (m := m) (sgn_lt hx) (sgn_lt hy) (by decide) (bl_mant x) (bl_mant y)
    (fun h => mant_norm (by have := bl_mant x; omega)) (fun h => mant_norm (by have := bl_mant y; omega))
  unfold addB addF psB psF
  rw [e.1, e.2]
  unfold dsB dsF adB adF
  have hG : rsG x y = dsG (sgn x) (mant x) (pow x) (sgn y) (mant y) (pow y) := rfl
  have hD : rsD x y = dsD (sgn x) (mant x) (pow x) (sgn y) (mant y) (pow y) := rfl
  have hP : rsP x y = dsP (sgn x) (mant x) (pow x) (sgn y) (mant y) (pow y) := rfl
  rw [hG, hD, hP]
  by_cases c1 : kind x = 3 ∧ kind y = 3 ∧ x ≠ y
  · simp only [if_pos c1]; exact ⟨trivial, trivial⟩
  simp only [if_neg c1]
  by_cases c2 : kind x = 3
  · simp only [if_pos c2]; exact ⟨trivial, trivial⟩
  simp only [if_neg c2]
  by_cases c3 : kind y = 3
  · simp only [if_pos c3]; exact ⟨trivial, trivial⟩
  simp only [if_neg c3]
  refine ⟨?_, trivial⟩
  by_cases c4 : dsD (sgn x) (mant x) (pow x) (sgn y) (mant y) (pow y) ≠ 0
  · rw [if_pos c4, if_pos c4]
  · rw [if_neg c4, if_neg c4]
    by_cases c5 : mant x = 0 ∧ mant y = 0 ∧ negOf x = negOf y
    · have c6 : mant x = 0 ∧ mant y = 0 ∧ decide (sgn x = 1) = decide (sgn y = 1) := c5
      rw [if_pos c5, if_pos c6]; rfl
    · have c6 : ¬ (mant x = 0 ∧ mant y = 0 ∧ decide (sgn x = 1) = decide (sgn y = 1)) := c5
      rw [if_neg c5, if_neg c6]
/-- A sum: the program and the document's answer say the same. -/
theorem done_add (op m x y z : Int) (h : op % 256 = 1) (hx : 0 ≤ x ∧ x < 18446744073709551616) (hy : 0 ≤ y ∧ y < 18446744073709551616) (hz : 0 ≤ z ∧ z < 18446744073709551616) (w : World) (hT : Tab w) :
    Calls Tryz.prog 11 #[.agg #[.int .i64 op, .int .i64 m, .int .u64 x, .int .u64 y, .int .u64 z]] w fun e w' => e = .returned (.bool true) ∧ Below w.heap.size w w' := by
  by_cases hbad : 4 < m % 256
  · exact done_any op m x y z 0 0 true (by omega) w (fun w1 _ => soft_bad _ _ x y z (by omega) (by omega) (.inr (.inr hbad)) w1) (fun w1 _ => ref_bad _ _ x y z (.inr (.inr hbad)) w1)
  have hm : 0 ≤ m % 256 ∧ m % 256 ≤ 4 := by omega
  obtain ⟨X, rfl⟩ : ∃ X : Nat, x = X := ⟨x.toNat, by omega⟩
  obtain ⟨Y, rfl⟩ : ∃ Y : Nat, y = Y := ⟨y.toNat, by omega⟩
  have hX : X < 18446744073709551616 := by omega
  have hY : Y < 18446744073709551616 := by omega
  by_cases hn : anyN [(X : Int), (Y : Int)] = true
  · have hr := nanFlag_range [(X : Int), (Y : Int)]
    refine done_any op m X Y z (nanBits [(X : Int), (Y : Int)]) (nanFlag [(X : Int), (Y : Int)]) false (by omega) w (fun w1 _ => ?_) (fun w1 _ => ?_)
    · rw [h]; exact soft_nans 1 (m % 256) X Y z 2 _ (by omega) hm hx hy hz (by omega) index1 hn w1
    · rw [h]; exact ref_nan2 1 (m % 256) X Y z (by omega) (by omega) hx hy hz hn w1
  · have hn' : anyN [(X : Int), (Y : Int)] = false := by simpa using hn
    have hk : kind (X : Int) < 4 ∧ kind (Y : Int) < 4 := by
      simp [anyN, isN] at hn'
      omega
    have hr := psF_range X Y (m % 256)
    have ea := add_sum X Y (m % 256) hX hY
    refine done_any op m X Y z (psB X Y (m % 256)) (psF X Y (m % 256)) false (by omega) w (fun w1 hb => ?_) (fun w1 _ => ?_)
    · rw [h]; exact soft_add X Y (m % 256) z hX hY hz hm hk.1 hk.2 w1 (hT.later hb)
    · rw [h, ← ea.1, ← ea.2]; exact ref_add X Y (m % 256) z hm hX hY hz hn' w1

/-- A sum: the program and the document's answer say the same. -/
theorem done_sub (op m x y z : Int) (h : op % 256 = 2) (hx : 0 ≤ x ∧ x < 18446744073709551616) (hy : 0 ≤ y ∧ y < 18446744073709551616) (hz : 0 ≤ z ∧ z < 18446744073709551616) (w : World) (hT : Tab w) :
    Calls Tryz.prog 11 #[.agg #[.int .i64 op, .int .i64 m, .int .u64 x, .int .u64 y, .int .u64 z]] w fun e w' => e = .returned (.bool true) ∧ Below w.heap.size w w' := by
  by_cases hbad : 4 < m % 256
  · exact done_any op m x y z 0 0 true (by omega) w (fun w1 _ => soft_bad _ _ x y z (by omega) (by omega) (.inr (.inr hbad)) w1) (fun w1 _ => ref_bad _ _ x y z (.inr (.inr hbad)) w1)
  have hm : 0 ≤ m % 256 ∧ m % 256 ≤ 4 := by omega
  obtain ⟨X, rfl⟩ : ∃ X : Nat, x = X := ⟨x.toNat, by omega⟩
  obtain ⟨Y, rfl⟩ : ∃ Y : Nat, y = Y := ⟨y.toNat, by omega⟩
  have hX : X < 18446744073709551616 := by omega
  have hY : Y < 18446744073709551616 := by omega
  by_cases hn : anyN [(X : Int), (Y : Int)] = true
  · have hr := nanFlag_range [(X : Int), (Y : Int)]
    refine done_any op m X Y z (nanBits [(X : Int), (Y : Int)]) (nanFlag [(X : Int), (Y : Int)]) false (by omega) w (fun w1 _ => ?_) (fun w1 _ => ?_)
    · rw [h]; exact soft_nans 2 (m % 256) X Y z 2 _ (by omega) hm hx hy hz (by omega) index2 hn w1
    · rw [h]; exact ref_nan2 2 (m % 256) X Y z (by omega) (by omega) hx hy hz hn w1
  · have hn' : anyN [(X : Int), (Y : Int)] = false := by simpa using hn
    have hk : kind (X : Int) < 4 ∧ kind (Y : Int) < 4 := by
      simp [anyN, isN] at hn'
      omega
    have hr := psF_range X (neg Y) (m % 256)
    have ea := add_sum X (neg Y) (m % 256) hX (neg_lt hY)
    refine done_any op m X Y z (psB X (neg Y) (m % 256)) (psF X (neg Y) (m % 256)) false (by omega) w (fun w1 hb => ?_) (fun w1 _ => ?_)
    · rw [h]; exact soft_sub X Y (m % 256) z hX hY hz hm hk.1 hk.2 w1 (hT.later hb)
    · rw [h, ← ea.1, ← ea.2]; exact ref_sub X Y (m % 256) z hm hX hY hz hn' w1

theorem done_sums (op m x y z : Int) (h : op % 256 = 1 ∨ op % 256 = 2) (hx : 0 ≤ x ∧ x < 18446744073709551616) (hy : 0 ≤ y ∧ y < 18446744073709551616) (hz : 0 ≤ z ∧ z < 18446744073709551616) (w : World) (hT : Tab w) :
    Calls Tryz.prog 11 #[.agg #[.int .i64 op, .int .i64 m, .int .u64 x, .int .u64 y, .int .u64 z]] w fun e w' => e = .returned (.bool true) ∧ Below w.heap.size w w' :=
  h.elim (fun h => done_add op m x y z h hx hy hz w hT) (fun h => done_sub op m x y z h hx hy hz w hT)

set_option maxHeartbeats 400000 in
theorem sums_walk (a0 : Option Addr) (b off len cap : Nat) (w : World) (hT : Tab w) (ha : 0 < len → a0 = some ⟨b, off, none⟩) (hb : 0 < len → b < w.heap.size)
    (hstep : ∀ i, i < len → ∃ k a op m x y z la ln lc, StepAt w b (off + i * 8) k a op m x y z la ln lc) :
    Calls Tryz.prog 3 #[.slice a0 len cap] w fun e w' => e = .returned (.bool true) ∧ Below w.heap.size w w' := by
  have HSt : Hid (∀ i, i < len → ∃ k a op m x y z la ln lc, StepAt w b (off + i * 8) k a op m x y z la ln lc) := hstep
  have HT : Hid (Tab w) := hT
  clear hstep hT
  go_enter Tryz.func3, Tryz.ntmps3
  go_wp2_with fail
  refine (of_any a0 b off len cap 1 2 w ha hb HSt.out (fun op m x y z h1 h2 hx hy hz w1 hb1 => done_sums op m x y z (by omega) hx hy hz w1 (HT.out.later hb1))).mono ?_
  rintro e w1 ⟨rfl, hb1⟩
  have HB1 : Hid (Below w.heap.size w w1) := hb1
  clear hb1
  go_wp2_with fail
  go_ret
  exact ⟨rfl, HB1.out⟩

end Go.Proofs.YtcjihaafohnbeaaGreatDoor
