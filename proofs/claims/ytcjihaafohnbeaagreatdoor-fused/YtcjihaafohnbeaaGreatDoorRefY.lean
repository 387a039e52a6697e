import Derived.Test.YtcjihaafohnbeaaGreatDoorScale
import Derived.Test.YtcjihaafohnbeaaGreatDoorRefX
namespace Go.Proofs.YtcjihaafohnbeaaGreatDoor
open Go.RowKit

set_option maxRecDepth 10000 in
set_option maxHeartbeats 2000000 in
theorem ref_nan5 (m x y z : Int) (hm : m ≤ 4) (hx : 0 ≤ x ∧ x < 18446744073709551616) (hy : 0 ≤ y ∧ y < 18446744073709551616) (hz : 0 ≤ z ∧ z < 18446744073709551616) (hn : anyN [x, y, z] = true) (w : World) :
    Calls Tryz.prog 14 #[.agg #[.int .i64 5, .int .i64 m, .int .u64 x, .int .u64 y, .int .u64 z]] w fun e w' => e = .returned (.agg #[.int .u64 (n5B x y z), .int .i64 (n5F x y z), .bool false]) ∧ Below w.heap.size w w' := by
  have HN : Hid (∀ w, Calls Tryz.prog 19 #[.agg #[.int .i64 5, .int .i64 m, .int .u64 x, .int .u64 y, .int .u64 z]] w fun e w' => e = .returned (.tuple #[.agg #[.int .u64 (n5B x y z), .int .i64 (n5F x y z), .bool false], .bool true]) ∧ Below w.heap.size w w') := fun w => by
    have := nans5_any m x y z hx hy hz w
    rw [hn] at this
    exact this
  clear hn hx hy hz
  generalize n5B x y z = NB at *
  generalize n5F x y z = NF at *
  have E0 : Hid (EmptyR ((w.alloc (.cells #[.int .i64 5, .int .i64 m, .int .u64 x, .int .u64 y, .int .u64 z] 41)).alloc (.cells #[.int .u64 0, .int .i64 0, .bool false] 39)) (w.heap.size + 1)) := ⟨by simp, by go_simp, by go_simp, by go_simp, by go_simp, by go_simp, by go_simp⟩
  have R0 : Hid (RecR ((w.alloc (.cells #[.int .i64 5, .int .i64 m, .int .u64 x, .int .u64 y, .int .u64 z] 41)).alloc (.cells #[.int .u64 0, .int .i64 0, .bool false] 39)) w.heap.size 5 m x y z) := ⟨by simp; omega, by go_simp, by go_simp, by go_simp, by go_simp, by go_simp⟩
  have B0 : Hid (Below w.heap.size w ((w.alloc (.cells #[.int .i64 5, .int .i64 m, .int .u64 x, .int .u64 y, .int .u64 z] 41)).alloc (.cells #[.int .u64 0, .int .i64 0, .bool false] 39))) := ((Below.refl _ _).alloc (Nat.le_refl _) _).alloc (by simp) _
  go_enter Tryz.func14, Tryz.ntmps14
  go_wp2_with fail
  refine (HN.out _).mono ?_
  rintro e w1 ⟨rfl, hb1⟩
  have V1 : Hid (Below w.heap.size w w1) := B0.out.trans (hb1.mono B0.out.size)
  obtain ⟨k0, k1, k2, k3, k4, k5, k6⟩ := E0.out.later hb1
  clear hb1
  go_wp2_with fail
  refine bodyPost_ret (v := .agg #[.int .u64 NB, .int .i64 NF, .bool false]) (by simp [results, Tryz.results14, go_sem, k1, k2, k3, World.cell?_alloc_lt, k0]) rfl ⟨rfl, ?_⟩
  repeat (first | exact V1.out | refine Below.setCell ?_ (by simp) _ | (refine Below.alloc ?_ (by have := V1.out.size; simp; omega) _))

set_option maxRecDepth 10000 in
set_option maxHeartbeats 2000000 in
theorem ref_fma (x y z : Nat) (m : Int) (hm : 0 ≤ m ∧ m ≤ 4) (hx : x < 18446744073709551616) (hy : y < 18446744073709551616) (hz : z < 18446744073709551616) (hn : anyN [(x : Int), (y : Int), (z : Int)] = false) (w : World) :
    Calls Tryz.prog 14 #[.agg #[.int .i64 5, .int .i64 m, .int .u64 (x : Int), .int .u64 (y : Int), .int .u64 z]] w fun e w' => e = .returned (.agg #[.int .u64 (fuB x y z m), .int .i64 (fuF x y z m), .bool false]) ∧ Below w.heap.size w w' := by
  have HN : Hid (∀ w, Calls Tryz.prog 19 #[.agg #[.int .i64 5, .int .i64 m, .int .u64 (x : Int), .int .u64 (y : Int), .int .u64 z]] w fun e w' => e = .returned (.tuple #[.agg #[.int .u64 (n5B (x : Int) (y : Int) (z : Int)), .int .i64 (n5F (x : Int) (y : Int) (z : Int)), .bool false], .bool false]) ∧ Below w.heap.size w w') := fun w => by
    have := nans5_any m x y z (by omega) (by omega) (by omega) w
    rw [hn] at this
    exact this
  have HMU : Hid (∀ w, Calls Tryz.prog 23 #[.int .u64 (x : Int), .int .u64 (y : Int), .int .u64 (z : Int), .int .i64 m] w fun e w' => e = .returned (.agg #[.int .u64 (fuB x y z m), .int .i64 (fuF x y z m), .bool false]) ∧ Below w.heap.size w w') := fun w => fused_ref x y z m hx hy hz hm w
  obtain ⟨hm1, hm2⟩ := hm
  clear hn hx hy hz
  generalize n5B (x : Int) (y : Int) (z : Int) = NB at *
  generalize n5F (x : Int) (y : Int) (z : Int) = NF at *
  generalize fuB x y z m = PB at *
  generalize fuF x y z m = PF at *
  have E0 : Hid (EmptyR ((w.alloc (.cells #[.int .i64 5, .int .i64 m, .int .u64 (x : Int), .int .u64 (y : Int), .int .u64 z] 41)).alloc (.cells #[.int .u64 0, .int .i64 0, .bool false] 39)) (w.heap.size + 1)) := ⟨by simp, by go_simp, by go_simp, by go_simp, by go_simp, by go_simp, by go_simp⟩
  have R0 : Hid (RecR ((w.alloc (.cells #[.int .i64 5, .int .i64 m, .int .u64 (x : Int), .int .u64 (y : Int), .int .u64 z] 41)).alloc (.cells #[.int .u64 0, .int .i64 0, .bool false] 39)) w.heap.size 5 m x y z) := ⟨by simp; omega, by go_simp, by go_simp, by go_simp, by go_simp, by go_simp⟩
  have B0 : Hid (Below w.heap.size w ((w.alloc (.cells #[.int .i64 5, .int .i64 m, .int .u64 (x : Int), .int .u64 (y : Int), .int .u64 z] 41)).alloc (.cells #[.int .u64 0, .int .i64 0, .bool false] 39))) := ((Below.refl _ _).alloc (Nat.le_refl _) _).alloc (by simp) _
  go_enter Tryz.func14, Tryz.ntmps14
  go_wp2_with fail
  refine (HN.out _).mono ?_
  rintro e w1 ⟨rfl, hb1⟩
  have V1 : Hid (Below w.heap.size w w1) := B0.out.trans (hb1.mono B0.out.size)
  have E1 : Hid (EmptyR w1 (w.heap.size + 1)) := E0.out.later hb1
  obtain ⟨r0, r1, r2, r3, r4, r5⟩ := R0.out.later hb1
  have hsz := E1.out.lt
  clear hb1
  go_wp2_with fail
  refine (HMU.out _).mono ?_
  rintro e w2 ⟨rfl, hb2⟩
  have V1a := V1.out.alloc V1.out.size (.cells #[.int .u64 NB, .int .i64 NF, .bool false] 39)
  have V2 : Hid (Below w.heap.size w w2) := V1a.trans (hb2.mono V1a.size)
  obtain ⟨k0, k1, k2, k3, k4, k5, k6⟩ := (E1.out.later ((Below.refl _ _).alloc (Nat.le_refl _) _)).later hb2
  clear hb2 V1a V1 E1
  go_wp2_with fail
  refine bodyPost_ret (v := .agg #[.int .u64 PB, .int .i64 PF, .bool false]) (by simp [results, Tryz.results14, go_sem, k1, k2, k3]) rfl ⟨rfl, ?_⟩
  repeat (first | exact V2.out | refine Below.setCell ?_ (by simp) _)

theorem fuF_range (x y z : Nat) (m : Int) : 0 ≤ fuF x y z m ∧ fuF x y z m < 256 := by
  have h1 := roundF_range (sOf (dsG (xs x y) (mant x * mant y) (pow x + pow y) (sgn z) (mant z) (pow z))) (dsD (xs x y) (mant x * mant y) (pow x + pow y) (sgn z) (mant z) (pow z)) (dsP (xs x y) (mant x * mant y) (pow x + pow y) (sgn z) (mant z) (pow z)) m
  have h2 := roundF_range (sOf (rsG (infOf x y) z)) (rsD (infOf x y) z) (rsP (infOf x y) z) m
  unfold fuF addF dsF adF
  (repeat' split) <;> omega
theorem n5F_range (x y z : Int) : 0 ≤ n5F x y z ∧ n5F x y z < 256 := by
  have := nanFlag_range [x, y, z]
  unfold n5F
  split <;> omega
/-- fma: the program and the document's answer say the same. -/
theorem done_fma (op m x y z : Int) (h : op % 256 = 5) (hx : 0 ≤ x ∧ x < 18446744073709551616) (hy : 0 ≤ y ∧ y < 18446744073709551616) (hz : 0 ≤ z ∧ z < 18446744073709551616) (w : World) (hT : Tab w) :
    Calls Tryz.prog 11 #[.agg #[.int .i64 op, .int .i64 m, .int .u64 x, .int .u64 y, .int .u64 z]] w fun e w' => e = .returned (.bool true) ∧ Below w.heap.size w w' := by
  by_cases hbad : 4 < m % 256
  · exact done_any op m x y z 0 0 true (by omega) w (fun w1 _ => soft_bad _ _ x y z (by omega) (by omega) (.inr (.inr hbad)) w1) (fun w1 _ => ref_bad _ _ x y z (.inr (.inr hbad)) w1)
  have hm : 0 ≤ m % 256 ∧ m % 256 ≤ 4 := by omega
  obtain ⟨X, rfl⟩ : ∃ X : Nat, x = X := ⟨x.toNat, by omega⟩
  obtain ⟨Y, rfl⟩ : ∃ Y : Nat, y = Y := ⟨y.toNat, by omega⟩
  obtain ⟨Z, rfl⟩ : ∃ Z : Nat, z = Z := ⟨z.toNat, by omega⟩
  have hX : X < 18446744073709551616 := by omega
  have hY : Y < 18446744073709551616 := by omega
  have hZ : Z < 18446744073709551616 := by omega
  have hent := enters_of Tryz.func30 (by kernel_rfl) rfl
  by_cases hn : anyN [(X : Int), (Y : Int), (Z : Int)] = true
  · have hr := n5F_range X Y Z
    refine done_any op m X Y Z (n5B X Y Z) (n5F X Y Z) false (by omega) w (fun w1 hb => ?_) (fun w1 _ => ?_)
    · rw [h]
      by_cases hq : zti (kind X) (kind Y) = true ∧ kind Z = 4
      · have e1 : n5B X Y Z = 9221120237041090560 := by unfold n5B; rw [if_pos hq]
        have e2 : n5F X Y Z = 16 := by unfold n5F; rw [if_pos hq]
        have hxy : kind (X : Int) < 4 ∧ kind (Y : Int) < 4 := by
          have := hq.1
          simp only [zti, Bool.or_eq_true, Bool.and_eq_true, beq_iff_eq] at this
          omega
        have hf : (nanFlag ([(X : Int), (Y : Int), (Z : Int)].take 3) == 16) = false := by
          have n1 : ¬ kind (X : Int) = 5 := by omega
          have n2 : ¬ kind (Y : Int) = 5 := by omega
          have n3 : ¬ kind (Z : Int) = 5 := by omega
          simp [nanFlag, isS, n1, n2, n3]
        rw [e1, e2]
        have hf0 : zti (kind X) (kind Y) = false → False := fun g => by rw [hq.1] at g; cases g
        exact soft_on 5 (m % 256) X Y Z 3 30 (by omega) hm hX hY hZ (by omega) index5 hn hf hq.1 w1 _ _ false hent
          (fun w2 hb2 => fused_walk X Y Z 5 (m % 256) hX hY hZ hm w2 ((hT.later hb).later hb2) 9221120237041090560 16 0 (by decide) (fun _ => ⟨rfl, rfl⟩) (fun g => (hf0 g).elim) (fun g => (hf0 g).elim) (fun g => (hf0 g).elim) (fun g => (hf0 g).elim))
      · have e1 : n5B X Y Z = nanBits ([(X : Int), (Y : Int), (Z : Int)].take 3) := by unfold n5B; rw [if_neg hq]; rfl
        have e2 : n5F X Y Z = nanFlag ([(X : Int), (Y : Int), (Z : Int)].take 3) := by unfold n5F; rw [if_neg hq]; rfl
        rw [e1, e2]
        rcases Bool.eq_false_or_eq_true (nanFlag ([(X : Int), (Y : Int), (Z : Int)].take 3) == 16) with hf | hf
        · exact soft_nan5 5 (m % 256) X Y Z 3 30 (by omega) hm hX hY hZ (by omega) index5 hn hf w1
        · have hzt : zti (kind X) (kind Y) = false := by
            rcases Bool.eq_false_or_eq_true (zti (kind X) (kind Y)) with g | g
            · exfalso
              have g' := g
              simp only [zti, Bool.or_eq_true, Bool.and_eq_true, beq_iff_eq] at g'
              have n4 : ¬ kind (Z : Int) = 4 := fun e => hq ⟨g, e⟩
              have rz := kind_range (Z : Int)
              have a1 : ¬ 4 ≤ kind (X : Int) := by omega
              have a2 : ¬ 4 ≤ kind (Y : Int) := by omega
              simp only [anyN, isN, List.any_cons, List.any_nil, decide_eq_false a1, decide_eq_false a2, Bool.false_or, Bool.or_false, decide_eq_true_eq] at hn
              have n5 : kind (Z : Int) = 5 := by omega
              simp [nanFlag, isS, n5] at hf
            · exact g
          exact soft_off 5 (m % 256) X Y Z 3 30 (by omega) hm hX hY hZ (by omega) index5 hn hf hzt w1
    · rw [h]; exact ref_nan5 (m % 256) X Y Z (by omega) hx hy hz hn w1
  · have hn' : anyN [(X : Int), (Y : Int), (Z : Int)] = false := by simpa using hn
    have hr := fuF_range X Y Z (m % 256)
    have c := fu_cases X Y Z (m % 256) hX hY hZ
    refine done_any op m X Y Z (fuB X Y Z (m % 256)) (fuF X Y Z (m % 256)) false (by omega) w (fun w1 hb => ?_) (fun w1 _ => ?_)
    · rw [h]
      exact soft_do5 5 (m % 256) X Y Z 3 30 (by omega) hm hX hY hZ (by omega) index5 hn' w1 _ _ false hent
        (fun w2 hb2 => fused_walk X Y Z 5 (m % 256) hX hY hZ hm w2 ((hT.later hb).later hb2) _ _ (pbOf X Y) (pbOf_lt X Y) c.1 c.2.1 c.2.2.1 c.2.2.2.1 c.2.2.2.2)
    · rw [h]; exact ref_fma X Y Z (m % 256) hm hX hY hZ hn' w1

set_option maxHeartbeats 400000 in
theorem fused_walks (a0 : Option Addr) (b off len cap : Nat) (w : World) (hT : Tab w) (ha : 0 < len → a0 = some ⟨b, off, none⟩) (hb : 0 < len → b < w.heap.size)
    (hstep : ∀ i, i < len → ∃ k a op m x y z la ln lc, StepAt w b (off + i * 8) k a op m x y z la ln lc) :
    Calls Tryz.prog 6 #[.slice a0 len cap] w fun e w' => e = .returned (.bool true) ∧ Below w.heap.size w w' := by
  have HSt : Hid (∀ i, i < len → ∃ k a op m x y z la ln lc, StepAt w b (off + i * 8) k a op m x y z la ln lc) := hstep
  have HT : Hid (Tab w) := hT
  clear hstep hT
  go_enter Tryz.func6, Tryz.ntmps6
  go_wp2_with fail
  refine (of_any a0 b off len cap 5 5 w ha hb HSt.out (fun op m x y z h1 h2 hx hy hz w1 hb1 => done_fma op m x y z (by omega) hx hy hz w1 (HT.out.later hb1))).mono ?_
  rintro e w1 ⟨rfl, hb1⟩
  have HB1 : Hid (Below w.heap.size w w1) := hb1
  clear hb1
  go_wp2_with fail
  go_ret
  exact ⟨rfl, HB1.out⟩
end Go.Proofs.YtcjihaafohnbeaaGreatDoor
