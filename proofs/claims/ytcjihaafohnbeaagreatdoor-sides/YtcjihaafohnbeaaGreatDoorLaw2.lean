import Derived.Test.YtcjihaafohnbeaaGreatDoorDo
import Derived.Test.YtcjihaafohnbeaaGreatDoorRefNan
import Derived.Shelf.Abstract
namespace Go.Proofs.YtcjihaafohnbeaaGreatDoor
open Go.RowKit

set_option maxHeartbeats 1000000 in
theorem ref_bad (op m x y z : Int) (hbad : op < 1 ∨ 10 < op ∨ 4 < m) (w : World) :
    Calls Tryz.prog 14 #[.agg #[.int .i64 op, .int .i64 m, .int .u64 x, .int .u64 y, .int .u64 z]] w fun e w' =>
      e = .returned (.agg #[.int .u64 0, .int .i64 0, .bool true]) ∧ Below w.heap.size w w' := by
  have HB : Hid (op < 1 ∨ 10 < op ∨ 4 < m) := hbad
  clear hbad
  by_cases h1 : op < 1
  · go_enter Tryz.func14, Tryz.ntmps14
    go_wp2
    exact bodyPost_ret (v := .agg #[.int .u64 0, .int .i64 0, .bool true]) (by simp [results, Tryz.results14, go_sem]) rfl ⟨rfl, ((Below.refl _ _).alloc (Nat.le_refl _) _).alloc (by simp) _⟩
  · by_cases h2 : 10 < op
    · go_enter Tryz.func14, Tryz.ntmps14
      go_wp2
      exact bodyPost_ret (v := .agg #[.int .u64 0, .int .i64 0, .bool true]) (by simp [results, Tryz.results14, go_sem]) rfl ⟨rfl, ((Below.refl _ _).alloc (Nat.le_refl _) _).alloc (by simp) _⟩
    · have h3 : 4 < m := by have := HB.out; omega
      go_enter Tryz.func14, Tryz.ntmps14
      go_wp2
      exact bodyPost_ret (v := .agg #[.int .u64 0, .int .i64 0, .bool true]) (by simp [results, Tryz.results14, go_sem]) rfl ⟨rfl, ((Below.refl _ _).alloc (Nat.le_refl _) _).alloc (by simp) _⟩

set_option maxHeartbeats 1000000 in
theorem ref_clear (m x y z : Int) (hm : m ≤ 4) (w : World) :
    Calls Tryz.prog 14 #[.agg #[.int .i64 10, .int .i64 m, .int .u64 x, .int .u64 y, .int .u64 z]] w fun e w' =>
      e = .returned (.agg #[.int .u64 0, .int .i64 0, .bool false]) ∧ Below w.heap.size w w' := by
  go_enter Tryz.func14, Tryz.ntmps14
  go_wp2
  exact bodyPost_ret (v := .agg #[.int .u64 0, .int .i64 0, .bool false]) (by simp [results, Tryz.results14, go_sem]) rfl ⟨rfl, ((Below.refl _ _).alloc (Nat.le_refl _) _).alloc (by simp) _⟩

theorem index10 (w : World) : (Instr.index 47 (.agg opsCells) (.int .u8 10)).run Tryz.prog w = .ok (.agg #[.int .i64 ((0 : Nat) : Int), .func (.func 37) #[] #[], .nilFunc]) w := by kernel_rfl
theorem soft_clear (m x y z : Int) (hm : 0 ≤ m ∧ m ≤ 4) (hx : 0 ≤ x ∧ x < 18446744073709551616) (hy : 0 ≤ y ∧ y < 18446744073709551616) (hz : 0 ≤ z ∧ z < 18446744073709551616) (w : World) :
    Calls Tryz.prog 13 #[.agg #[.int .u8 10, .int .u8 m, .int .u64 x, .int .u64 y, .int .u64 z]] w fun e w' =>
      e = .returned (.agg #[.int .u64 0, .int .u8 0, .bool false]) ∧ Below w.heap.size w w' := by
  obtain ⟨X, rfl⟩ := Int.eq_ofNat_of_zero_le hx.1
  obtain ⟨Y, rfl⟩ := Int.eq_ofNat_of_zero_le hy.1
  obtain ⟨Z, rfl⟩ := Int.eq_ofNat_of_zero_le hz.1
  exact soft_do 10 m X Y Z 0 37 (by omega) hm (by omega) (by omega) (by omega) (by omega) index10 rfl w 0 0 false (enters_of Tryz.func37 (by kernel_rfl) rfl) (fun w1 _ => zeros_any 10 m X Y Z w1)

set_option maxHeartbeats 1000000 in
theorem done_any (op m x y z b f : Int) (bad : Bool) (hf : 0 ≤ f ∧ f < 256) (w : World)
    (hs : ∀ w1, Below w.heap.size w w1 → Calls Tryz.prog 13 #[.agg #[.int .u8 (op % 256), .int .u8 (m % 256), .int .u64 x, .int .u64 y, .int .u64 z]] w1 fun e w' => e = .returned (.agg #[.int .u64 b, .int .u8 f, .bool bad]) ∧ Below w1.heap.size w1 w')
    (hr : ∀ w1, Below w.heap.size w w1 → Calls Tryz.prog 14 #[.agg #[.int .i64 (op % 256), .int .i64 (m % 256), .int .u64 x, .int .u64 y, .int .u64 z]] w1 fun e w' => e = .returned (.agg #[.int .u64 b, .int .i64 f, .bool bad]) ∧ Below w1.heap.size w1 w') :
    Calls Tryz.prog 11 #[.agg #[.int .i64 op, .int .i64 m, .int .u64 x, .int .u64 y, .int .u64 z]] w fun e w' => e = .returned (.bool true) ∧ Below w.heap.size w w' := by
  have HS : Hid (∀ w1, Below w.heap.size w w1 → Calls Tryz.prog 13 #[.agg #[.int .u8 (op % 256), .int .u8 (m % 256), .int .u64 x, .int .u64 y, .int .u64 z]] w1 fun e w' => e = .returned (.agg #[.int .u64 b, .int .u8 f, .bool bad]) ∧ Below w1.heap.size w1 w') := hs
  have HR : Hid (∀ w1, Below w.heap.size w w1 → Calls Tryz.prog 14 #[.agg #[.int .i64 (op % 256), .int .i64 (m % 256), .int .u64 x, .int .u64 y, .int .u64 z]] w1 fun e w' => e = .returned (.agg #[.int .u64 b, .int .i64 f, .bool bad]) ∧ Below w1.heap.size w1 w') := hr
  clear hs hr
  go_enter Tryz.func11, Tryz.ntmps11
  go_wp2_with fail
  refine (given_any op m x y z _).mono ?_
  rintro e w1 ⟨rfl, hb1⟩
  have H1 : Hid (Below w.heap.size w w1) := ((Below.refl _ _).alloc (Nat.le_refl _) _).trans (hb1.mono (by simp))
  have s1 := hb1.size
  simp only [World.size_alloc] at s1
  have y1 : w.heap.size < w1.heap.size := by omega
  have a0 : w1.cell? ⟨w.heap.size, 0, none⟩ = some (.int .i64 op) := (hb1.cell (p := ⟨w.heap.size, 0, none⟩) (by simp)).trans (by go_simp)
  have a1 : w1.cell? ⟨w.heap.size, 1, none⟩ = some (.int .i64 m) := (hb1.cell (p := ⟨w.heap.size, 1, none⟩) (by simp)).trans (by go_simp)
  have a2 : w1.cell? ⟨w.heap.size, 2, none⟩ = some (.int .u64 x) := (hb1.cell (p := ⟨w.heap.size, 2, none⟩) (by simp)).trans (by go_simp)
  have a3 : w1.cell? ⟨w.heap.size, 3, none⟩ = some (.int .u64 y) := (hb1.cell (p := ⟨w.heap.size, 3, none⟩) (by simp)).trans (by go_simp)
  have a4 : w1.cell? ⟨w.heap.size, 4, none⟩ = some (.int .u64 z) := (hb1.cell (p := ⟨w.heap.size, 4, none⟩) (by simp)).trans (by go_simp)
  clear hb1
  go_wp2_with fail
  refine (HS.out _ (H1.out.alloc (by omega) _)).mono ?_
  rintro e w2 ⟨rfl, hb2⟩
  have H2 : Hid (Below w.heap.size w w2) := (H1.out.alloc (by omega) _).trans (hb2.mono (by simp; omega))
  have z2 := hb2.size
  simp only [World.size_alloc] at z2
  have y2a : w.heap.size < w2.heap.size := by omega
  have y2b : w1.heap.size < w2.heap.size := by omega
  replace a0 := (hb2.cell (p := ⟨w.heap.size, 0, none⟩) (by simp; omega)).trans ((World.cell?_alloc_lt _ _ _ (show w.heap.size < _ from by omega)).trans a0)
  replace a1 := (hb2.cell (p := ⟨w.heap.size, 1, none⟩) (by simp; omega)).trans ((World.cell?_alloc_lt _ _ _ (show w.heap.size < _ from by omega)).trans a1)
  replace a2 := (hb2.cell (p := ⟨w.heap.size, 2, none⟩) (by simp; omega)).trans ((World.cell?_alloc_lt _ _ _ (show w.heap.size < _ from by omega)).trans a2)
  replace a3 := (hb2.cell (p := ⟨w.heap.size, 3, none⟩) (by simp; omega)).trans ((World.cell?_alloc_lt _ _ _ (show w.heap.size < _ from by omega)).trans a3)
  replace a4 := (hb2.cell (p := ⟨w.heap.size, 4, none⟩) (by simp; omega)).trans ((World.cell?_alloc_lt _ _ _ (show w.heap.size < _ from by omega)).trans a4)
  have r0 : w2.cell? ⟨w1.heap.size, 0, none⟩ = some (.int .u8 (op % 256)) := (hb2.cell (p := ⟨w1.heap.size, 0, none⟩) (by simp)).trans (by go_simp)
  have r1 : w2.cell? ⟨w1.heap.size, 1, none⟩ = some (.int .u8 (m % 256)) := (hb2.cell (p := ⟨w1.heap.size, 1, none⟩) (by simp)).trans (by go_simp)
  have r2 : w2.cell? ⟨w1.heap.size, 2, none⟩ = some (.int .u64 x) := (hb2.cell (p := ⟨w1.heap.size, 2, none⟩) (by simp)).trans (by go_simp)
  have r3 : w2.cell? ⟨w1.heap.size, 3, none⟩ = some (.int .u64 y) := (hb2.cell (p := ⟨w1.heap.size, 3, none⟩) (by simp)).trans (by go_simp)
  have r4 : w2.cell? ⟨w1.heap.size, 4, none⟩ = some (.int .u64 z) := (hb2.cell (p := ⟨w1.heap.size, 4, none⟩) (by simp)).trans (by go_simp)
  clear hb2
  go_wp2_with fail
  refine (HS.out _ (H2.out.alloc (by omega) _)).mono ?_
  rintro e w3 ⟨rfl, hb3⟩
  have H3 : Hid (Below w.heap.size w w3) := (H2.out.alloc (by omega) _).trans (hb3.mono (by simp; omega))
  have z3 := hb3.size
  simp only [World.size_alloc] at z3
  have y3a : w.heap.size < w3.heap.size := by omega
  have y3b : w2.heap.size < w3.heap.size := by omega
  replace a0 := (hb3.cell (p := ⟨w.heap.size, 0, none⟩) (by simp; omega)).trans ((World.cell?_alloc_lt _ _ _ (show w.heap.size < _ from by omega)).trans a0)
  replace a1 := (hb3.cell (p := ⟨w.heap.size, 1, none⟩) (by simp; omega)).trans ((World.cell?_alloc_lt _ _ _ (show w.heap.size < _ from by omega)).trans a1)
  replace a2 := (hb3.cell (p := ⟨w.heap.size, 2, none⟩) (by simp; omega)).trans ((World.cell?_alloc_lt _ _ _ (show w.heap.size < _ from by omega)).trans a2)
  replace a3 := (hb3.cell (p := ⟨w.heap.size, 3, none⟩) (by simp; omega)).trans ((World.cell?_alloc_lt _ _ _ (show w.heap.size < _ from by omega)).trans a3)
  replace a4 := (hb3.cell (p := ⟨w.heap.size, 4, none⟩) (by simp; omega)).trans ((World.cell?_alloc_lt _ _ _ (show w.heap.size < _ from by omega)).trans a4)
  have s0 : w3.cell? ⟨w2.heap.size, 0, none⟩ = some (.int .u64 b) := (hb3.cell (p := ⟨w2.heap.size, 0, none⟩) (by simp)).trans (by go_simp)
  have s1 : w3.cell? ⟨w2.heap.size, 1, none⟩ = some (.int .u8 f) := (hb3.cell (p := ⟨w2.heap.size, 1, none⟩) (by simp)).trans (by go_simp)
  have s2 : w3.cell? ⟨w2.heap.size, 2, none⟩ = some (.bool bad) := (hb3.cell (p := ⟨w2.heap.size, 2, none⟩) (by simp)).trans (by go_simp)
  clear hb3 r0 r1 r2 r3 r4
  go_wp2_with fail
  refine (asked_any op m x y z _).mono ?_
  rintro e w4 ⟨rfl, hb4⟩
  have H4 : Hid (Below w.heap.size w w4) := (H3.out.alloc (by omega) _).trans (hb4.mono (by simp; omega))
  have z4 := hb4.size
  simp only [World.size_alloc] at z4
  have y4a : w.heap.size < w4.heap.size := by omega
  have y4b : w2.heap.size < w4.heap.size := by omega
  have y4c : w3.heap.size < w4.heap.size := by omega
  replace s0 := (hb4.cell (p := ⟨w2.heap.size, 0, none⟩) (by simp; omega)).trans ((World.cell?_alloc_lt _ _ _ (show w2.heap.size < _ from by omega)).trans s0)
  replace s1 := (hb4.cell (p := ⟨w2.heap.size, 1, none⟩) (by simp; omega)).trans ((World.cell?_alloc_lt _ _ _ (show w2.heap.size < _ from by omega)).trans s1)
  replace s2 := (hb4.cell (p := ⟨w2.heap.size, 2, none⟩) (by simp; omega)).trans ((World.cell?_alloc_lt _ _ _ (show w2.heap.size < _ from by omega)).trans s2)
  have t0 : w4.cell? ⟨w3.heap.size, 0, none⟩ = some (.int .u64 b) := (hb4.cell (p := ⟨w3.heap.size, 0, none⟩) (by simp)).trans (by go_simp)
  have t1 : w4.cell? ⟨w3.heap.size, 1, none⟩ = some (.int .u8 f) := (hb4.cell (p := ⟨w3.heap.size, 1, none⟩) (by simp)).trans (by go_simp)
  have t2 : w4.cell? ⟨w3.heap.size, 2, none⟩ = some (.bool bad) := (hb4.cell (p := ⟨w3.heap.size, 2, none⟩) (by simp)).trans (by go_simp)
  clear hb4 a0 a1 a2 a3 a4
  go_wp2_with fail
  refine (HR.out _ H4.out).mono ?_
  rintro e w5 ⟨rfl, hb5⟩
  have H5 : Hid (Below w.heap.size w w5) := H4.out.trans (hb5.mono (by omega))
  have z5 := hb5.size
  have y5a : w.heap.size < w5.heap.size := by omega
  have y5b : w2.heap.size < w5.heap.size := by omega
  have y5c : w3.heap.size < w5.heap.size := by omega
  replace s0 := (hb5.cell (p := ⟨w2.heap.size, 0, none⟩) (show w2.heap.size < _ from by omega)).trans s0
  replace s1 := (hb5.cell (p := ⟨w2.heap.size, 1, none⟩) (show w2.heap.size < _ from by omega)).trans s1
  replace s2 := (hb5.cell (p := ⟨w2.heap.size, 2, none⟩) (show w2.heap.size < _ from by omega)).trans s2
  replace t0 := (hb5.cell (p := ⟨w3.heap.size, 0, none⟩) (show w3.heap.size < _ from by omega)).trans t0
  replace t1 := (hb5.cell (p := ⟨w3.heap.size, 1, none⟩) (show w3.heap.size < _ from by omega)).trans t1
  replace t2 := (hb5.cell (p := ⟨w3.heap.size, 2, none⟩) (show w3.heap.size < _ from by omega)).trans t2
  clear hb5
  go_wp2_with fail
  refine (same_any b f bad hf _).mono ?_
  rintro e w6 ⟨rfl, hb6⟩
  have H6 : Hid (Below w.heap.size w w6) := (H5.out.alloc (by omega) _).trans (hb6.mono (by simp; omega))
  have z6 := hb6.size
  simp only [World.size_alloc] at z6
  have y6a : w.heap.size < w6.heap.size := by omega
  have y6b : w3.heap.size < w6.heap.size := by omega
  have y6c : w5.heap.size < w6.heap.size := by omega
  replace t0 := (hb6.cell (p := ⟨w3.heap.size, 0, none⟩) (by simp; omega)).trans ((World.cell?_alloc_lt _ _ _ (show w3.heap.size < _ from by omega)).trans t0)
  replace t1 := (hb6.cell (p := ⟨w3.heap.size, 1, none⟩) (by simp; omega)).trans ((World.cell?_alloc_lt _ _ _ (show w3.heap.size < _ from by omega)).trans t1)
  replace t2 := (hb6.cell (p := ⟨w3.heap.size, 2, none⟩) (by simp; omega)).trans ((World.cell?_alloc_lt _ _ _ (show w3.heap.size < _ from by omega)).trans t2)
  have u0 : w6.cell? ⟨w5.heap.size, 0, none⟩ = some (.int .u64 b) := (hb6.cell (p := ⟨w5.heap.size, 0, none⟩) (by simp)).trans (by go_simp)
  have u1 : w6.cell? ⟨w5.heap.size, 1, none⟩ = some (.int .i64 f) := (hb6.cell (p := ⟨w5.heap.size, 1, none⟩) (by simp)).trans (by go_simp)
  have u2 : w6.cell? ⟨w5.heap.size, 2, none⟩ = some (.bool bad) := (hb6.cell (p := ⟨w5.heap.size, 2, none⟩) (by simp)).trans (by go_simp)
  clear hb6
  go_wp2_with fail
  refine (same_any b f bad hf _).mono ?_
  rintro e w7 ⟨rfl, hb7⟩
  have H7 : Hid (Below w.heap.size w w7) := H6.out.trans (hb7.mono (by omega))
  clear hb7
  go_wp2_with fail
  go_ret
  exact ⟨rfl, H7.out⟩
end Go.Proofs.YtcjihaafohnbeaaGreatDoor
