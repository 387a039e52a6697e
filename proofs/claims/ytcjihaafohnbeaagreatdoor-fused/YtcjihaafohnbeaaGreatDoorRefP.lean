import Derived.Test.YtcjihaafohnbeaaGreatDoorRefO
import Derived.Test.YtcjihaafohnbeaaGreatDoorOf
import Derived.Test.YtcjihaafohnbeaaGreatDoorCal
namespace Go.Proofs.YtcjihaafohnbeaaGreatDoor
open Go.RowKit

theorem roundF_range (s : Int) (D : Nat) (p m : Int) : 0 ≤ roundF s D p m ∧ roundF s D p m < 256 := by
  unfold roundF
  simp only
  (repeat' split) <;> omega
theorem prodF_range (x y : Nat) (m : Int) : 0 ≤ prodF x y m ∧ prodF x y m < 256 := by
  have := roundF_range (xs x y) (mant x * mant y) (pow x + pow y) m
  unfold prodF
  (repeat' split) <;> omega
/-- The record as it lies, behind a call. -/
structure RecR (w : World) (g : Nat) (op m x y z : Int) : Prop where
  lt : g < w.heap.size
  c0 : w.cell? ⟨g, 0, none⟩ = some (.int .i64 op)
  c1 : w.cell? ⟨g, 1, none⟩ = some (.int .i64 m)
  c2 : w.cell? ⟨g, 2, none⟩ = some (.int .u64 x)
  c3 : w.cell? ⟨g, 3, none⟩ = some (.int .u64 y)
  c4 : w.cell? ⟨g, 4, none⟩ = some (.int .u64 z)
theorem RecR.later {w w' : World} {g : Nat} {op m x y z : Int} (h : RecR w g op m x y z) (hb : Below w.heap.size w w') : RecR w' g op m x y z :=
  ⟨Nat.lt_of_lt_of_le h.lt hb.size, (hb.cell (p := ⟨g, 0, none⟩) h.lt).trans h.c0, (hb.cell (p := ⟨g, 1, none⟩) h.lt).trans h.c1, (hb.cell (p := ⟨g, 2, none⟩) h.lt).trans h.c2, (hb.cell (p := ⟨g, 3, none⟩) h.lt).trans h.c3, (hb.cell (p := ⟨g, 4, none⟩) h.lt).trans h.c4⟩

set_option maxRecDepth 10000 in
set_option maxHeartbeats 2000000 in
theorem ref_nan2 (op m x y z : Int) (h : 1 ≤ op ∧ op ≤ 4) (hm : m ≤ 4) (hx : 0 ≤ x ∧ x < 18446744073709551616) (hy : 0 ≤ y ∧ y < 18446744073709551616) (hz : 0 ≤ z ∧ z < 18446744073709551616) (hn : anyN [x, y] = true) (w : World) :
    Calls Tryz.prog 14 #[.agg #[.int .i64 op, .int .i64 m, .int .u64 x, .int .u64 y, .int .u64 z]] w fun e w' => e = .returned (.agg #[.int .u64 (nanBits [x, y]), .int .i64 (nanFlag [x, y]), .bool false]) ∧ Below w.heap.size w w' := by
  have HN : Hid (∀ w, Calls Tryz.prog 19 #[.agg #[.int .i64 op, .int .i64 m, .int .u64 x, .int .u64 y, .int .u64 z]] w fun e w' => e = .returned (.tuple #[.agg #[.int .u64 (nanBits [x, y]), .int .i64 (nanFlag [x, y]), .bool false], .bool true]) ∧ Below w.heap.size w w') := fun w => by
    have := nans2_any op m x y z h hx hy hz w
    rw [hn] at this
    exact this
  clear hn hx hy hz
  obtain ⟨h1, h2⟩ := h
  have b10 : (op == 10) = false := by rw [beq_eq_false_iff_ne]; omega
  generalize nanBits [x, y] = NB at *
  generalize nanFlag [x, y] = NF at *
  have E0 : Hid (EmptyR ((w.alloc (.cells #[.int .i64 op, .int .i64 m, .int .u64 x, .int .u64 y, .int .u64 z] 41)).alloc (.cells #[.int .u64 0, .int .i64 0, .bool false] 39)) (w.heap.size + 1)) := ⟨by simp, by go_simp, by go_simp, by go_simp, by go_simp, by go_simp, by go_simp⟩
  have R0 : Hid (RecR ((w.alloc (.cells #[.int .i64 op, .int .i64 m, .int .u64 x, .int .u64 y, .int .u64 z] 41)).alloc (.cells #[.int .u64 0, .int .i64 0, .bool false] 39)) w.heap.size op m x y z) := ⟨by simp; omega, by go_simp, by go_simp, by go_simp, by go_simp, by go_simp⟩
  have B0 : Hid (Below w.heap.size w ((w.alloc (.cells #[.int .i64 op, .int .i64 m, .int .u64 x, .int .u64 y, .int .u64 z] 41)).alloc (.cells #[.int .u64 0, .int .i64 0, .bool false] 39))) := ((Below.refl _ _).alloc (Nat.le_refl _) _).alloc (by simp) _
  go_enter Tryz.func14, Tryz.ntmps14
  go_wp2_with fail
  refine (HN.out _).mono ?_
  rintro e w1 ⟨rfl, hb1⟩
  have V1 : Hid (Below w.heap.size w w1) := B0.out.trans (hb1.mono B0.out.size)
  obtain ⟨k0, k1, k2, k3, k4, k5, k6⟩ := E0.out.later hb1
  clear hb1
  go_wp2_with fail
  refine bodyPost_ret (v := .agg #[.int .u64 NB, .int .i64 NF, .bool false]) (by simp [results, Tryz.results14, go_sem, k1, k2, k3, World.cell?_alloc_lt, k0]) rfl ⟨rfl, ?_⟩
  repeat (first | exact V1.out | refine Below.setCell ?_ (by simp) _ | (refine Below.alloc ?_ (by have := V1.out.size; simp; omega) _))

set_option maxRecDepth 10000 in
set_option maxHeartbeats 2000000 in
theorem ref_mul (x y : Nat) (m z : Int) (hm : 0 ≤ m ∧ m ≤ 4) (hx : x < 18446744073709551616) (hy : y < 18446744073709551616) (hz : 0 ≤ z ∧ z < 18446744073709551616) (hn : anyN [(x : Int), (y : Int)] = false) (w : World) :
    Calls Tryz.prog 14 #[.agg #[.int .i64 3, .int .i64 m, .int .u64 (x : Int), .int .u64 (y : Int), .int .u64 z]] w fun e w' => e = .returned (.agg #[.int .u64 (prodB x y m), .int .i64 (prodF x y m), .bool false]) ∧ Below w.heap.size w w' := by
  have HN : Hid (∀ w, Calls Tryz.prog 19 #[.agg #[.int .i64 3, .int .i64 m, .int .u64 (x : Int), .int .u64 (y : Int), .int .u64 z]] w fun e w' => e = .returned (.tuple #[.agg #[.int .u64 (nanBits [(x : Int), (y : Int)]), .int .i64 (nanFlag [(x : Int), (y : Int)]), .bool false], .bool false]) ∧ Below w.heap.size w w') := fun w => by
    have := nans2_any 3 m x y z (by omega) (by omega) (by omega) hz w
    rw [hn] at this
    exact this
  have HMU : Hid (∀ w, Calls Tryz.prog 21 #[.int .u64 (x : Int), .int .u64 (y : Int), .int .i64 m] w fun e w' => e = .returned (.agg #[.int .u64 (prodB x y m), .int .i64 (prodF x y m), .bool false]) ∧ Below w.heap.size w w') := fun w => mult_ref x y m hx hy hm w
  obtain ⟨hm1, hm2⟩ := hm
  clear hn hx hy hz
  generalize nanBits [(x : Int), (y : Int)] = NB at *
  generalize nanFlag [(x : Int), (y : Int)] = NF at *
  generalize prodB x y m = PB at *
  generalize prodF x y m = PF at *
  have E0 : Hid (EmptyR ((w.alloc (.cells #[.int .i64 3, .int .i64 m, .int .u64 (x : Int), .int .u64 (y : Int), .int .u64 z] 41)).alloc (.cells #[.int .u64 0, .int .i64 0, .bool false] 39)) (w.heap.size + 1)) := ⟨by simp, by go_simp, by go_simp, by go_simp, by go_simp, by go_simp, by go_simp⟩
  have R0 : Hid (RecR ((w.alloc (.cells #[.int .i64 3, .int .i64 m, .int .u64 (x : Int), .int .u64 (y : Int), .int .u64 z] 41)).alloc (.cells #[.int .u64 0, .int .i64 0, .bool false] 39)) w.heap.size 3 m x y z) := ⟨by simp; omega, by go_simp, by go_simp, by go_simp, by go_simp, by go_simp⟩
  have B0 : Hid (Below w.heap.size w ((w.alloc (.cells #[.int .i64 3, .int .i64 m, .int .u64 (x : Int), .int .u64 (y : Int), .int .u64 z] 41)).alloc (.cells #[.int .u64 0, .int .i64 0, .bool false] 39))) := ((Below.refl _ _).alloc (Nat.le_refl _) _).alloc (by simp) _
  go_enter Tryz.func14, Tryz.ntmps14
  go_wp2_with fail
  refine (HN.out _).mono ?_
  rintro e w1 ⟨rfl, hb1⟩
  have V1 : Hid (Below w.heap.size w w1) := B0.out.trans (hb1.mono B0.out.size)
  have E1 : Hid (EmptyR w1 (w.heap.size + 1)) := E0.out.later hb1
  obtain ⟨r0, r1, r2, r3, r4, r5⟩ := R0.out.later hb1
  have hsz := E1.out.lt
  clear hb1
  go_wp2_with fail
  refine (HMU.out _).mono ?_
  rintro e w2 ⟨rfl, hb2⟩
  have V1a := V1.out.alloc V1.out.size (.cells #[.int .u64 NB, .int .i64 NF, .bool false] 39)
  have V2 : Hid (Below w.heap.size w w2) := V1a.trans (hb2.mono V1a.size)
  obtain ⟨k0, k1, k2, k3, k4, k5, k6⟩ := (E1.out.later ((Below.refl _ _).alloc (Nat.le_refl _) _)).later hb2
  clear hb2 V1a V1 E1
  go_wp2_with fail
  refine bodyPost_ret (v := .agg #[.int .u64 PB, .int .i64 PF, .bool false]) (by simp [results, Tryz.results14, go_sem, k1, k2, k3]) rfl ⟨rfl, ?_⟩
  repeat (first | exact V2.out | refine Below.setCell ?_ (by simp) _)

/-- A product: the program and the document's answer say the same. -/
theorem done_mul (op m x y z : Int) (h : op % 256 = 3) (hx : 0 ≤ x ∧ x < 18446744073709551616) (hy : 0 ≤ y ∧ y < 18446744073709551616) (hz : 0 ≤ z ∧ z < 18446744073709551616) (w : World) (hT : Tab w) :
    Calls Tryz.prog 11 #[.agg #[.int .i64 op, .int .i64 m, .int .u64 x, .int .u64 y, .int .u64 z]] w fun e w' => e = .returned (.bool true) ∧ Below w.heap.size w w' := by
  by_cases hbad : 4 < m % 256
  · exact done_any op m x y z 0 0 true (by omega) w (fun w1 _ => soft_bad _ _ x y z (by omega) (by omega) (.inr (.inr hbad)) w1) (fun w1 _ => ref_bad _ _ x y z (.inr (.inr hbad)) w1)
  have hm : 0 ≤ m % 256 ∧ m % 256 ≤ 4 := by omega
  obtain ⟨X, rfl⟩ : ∃ X : Nat, x = X := ⟨x.toNat, by omega⟩
  obtain ⟨Y, rfl⟩ : ∃ Y : Nat, y = Y := ⟨y.toNat, by omega⟩
  have hX : X < 18446744073709551616 := by omega
  have hY : Y < 18446744073709551616 := by omega
  by_cases hn : anyN [(X : Int), (Y : Int)] = true
  · have hr := nanFlag_range [(X : Int), (Y : Int)]
    refine done_any op m X Y z (nanBits [(X : Int), (Y : Int)]) (nanFlag [(X : Int), (Y : Int)]) false (by omega) w (fun w1 _ => ?_) (fun w1 _ => ?_)
    · rw [h]; exact soft_nans 3 (m % 256) X Y z 2 _ (by omega) hm hx hy hz (by omega) index3 hn w1
    · rw [h]; exact ref_nan2 3 (m % 256) X Y z (by omega) (by omega) hx hy hz hn w1
  · have hn' : anyN [(X : Int), (Y : Int)] = false := by simpa using hn
    have hk : kind (X : Int) < 4 ∧ kind (Y : Int) < 4 := by
      simp [anyN, isN] at hn'
      omega
    have hr := prodF_range X Y (m % 256)
    refine done_any op m X Y z (prodB X Y (m % 256)) (prodF X Y (m % 256)) false (by omega) w (fun w1 hb => ?_) (fun w1 _ => ?_)
    · rw [h]; exact soft_mul X Y (m % 256) z hX hY hz hm hk.1 hk.2 w1 (hT.later hb)
    · rw [h]; exact ref_mul X Y (m % 256) z hm hX hY hz hn' w1

set_option maxHeartbeats 400000 in
theorem products_walk (a0 : Option Addr) (b off len cap : Nat) (w : World) (hT : Tab w) (ha : 0 < len → a0 = some ⟨b, off, none⟩) (hb : 0 < len → b < w.heap.size)
    (hstep : ∀ i, i < len → ∃ k a op m x y z la ln lc, StepAt w b (off + i * 8) k a op m x y z la ln lc) :
    Calls Tryz.prog 4 #[.slice a0 len cap] w fun e w' => e = .returned (.bool true) ∧ Below w.heap.size w w' := by
  have HSt : Hid (∀ i, i < len → ∃ k a op m x y z la ln lc, StepAt w b (off + i * 8) k a op m x y z la ln lc) := hstep
  have HT : Hid (Tab w) := hT
  clear hstep hT
  go_enter Tryz.func4, Tryz.ntmps4
  go_wp2_with fail
  refine (of_any a0 b off len cap 3 3 w ha hb HSt.out (fun op m x y z h1 h2 hx hy hz w1 hb1 => done_mul op m x y z (by omega) hx hy hz w1 (HT.out.later hb1))).mono ?_
  rintro e w1 ⟨rfl, hb1⟩
  have HB1 : Hid (Below w.heap.size w w1) := hb1
  clear hb1
  go_wp2_with fail
  go_ret
  exact ⟨rfl, HB1.out⟩
end Go.Proofs.YtcjihaafohnbeaaGreatDoor
