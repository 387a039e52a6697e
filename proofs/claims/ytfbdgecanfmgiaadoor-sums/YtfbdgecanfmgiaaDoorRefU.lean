import Derived.Test.YtfbdgecanfmgiaaDoorRefT
import Derived.Test.YtfbdgecanfmgiaaDoorRefP
namespace Go.Proofs.YtfbdgecanfmgiaaDoor
open Go.RowKit

set_option maxRecDepth 10000 in
set_option maxHeartbeats 2000000 in
theorem ref_add (x y : Nat) (m z : Int) (hm : 0 ≤ m ∧ m ≤ 4) (hx : x < 18446744073709551616) (hy : y < 18446744073709551616) (hz : 0 ≤ z ∧ z < 18446744073709551616) (hn : anyN [(x : Int), (y : Int)] = false) (w : World) :
    Calls Tryd.prog 19 #[.agg #[.int .i64 1, .int .i64 m, .int .u64 (x : Int), .int .u64 (y : Int), .int .u64 z]] w fun e w' => e = .returned (.agg #[.int .u64 (addB x y m), .int .i64 (addF x y m), .bool false]) ∧ Below w.heap.size w w' := by
  have HN : Hid (∀ w, Calls Tryd.prog 24 #[.agg #[.int .i64 1, .int .i64 m, .int .u64 (x : Int), .int .u64 (y : Int), .int .u64 z]] w fun e w' => e = .returned (.tuple #[.agg #[.int .u64 (nanBits [(x : Int), (y : Int)]), .int .i64 (nanFlag [(x : Int), (y : Int)]), .bool false], .bool false]) ∧ Below w.heap.size w w') := fun w => by
    have := nans2_any 1 m x y z (by omega) (by omega) (by omega) hz w
    rw [hn] at this
    exact this
  have HMU : Hid (∀ w, Calls Tryd.prog 25 #[.int .u64 (x : Int), .int .u64 (y : Int), .int .i64 m] w fun e w' => e = .returned (.agg #[.int .u64 (addB x y m), .int .i64 (addF x y m), .bool false]) ∧ Below w.heap.size w w') := fun w => addition_ref x y m hx hy hm w
  obtain ⟨hm1, hm2⟩ := hm
  clear hn hx hy hz
  generalize nanBits [(x : Int), (y : Int)] = NB at *
  generalize nanFlag [(x : Int), (y : Int)] = NF at *
  generalize addB x y m = PB at *
  generalize addF x y m = PF at *
  have E0 : Hid (EmptyR ((w.alloc (.cells #[.int .i64 1, .int .i64 m, .int .u64 (x : Int), .int .u64 (y : Int), .int .u64 z] 48)).alloc (.cells #[.int .u64 0, .int .i64 0, .bool false] 46)) (w.heap.size + 1)) := ⟨by simp, by go_simp, by go_simp, by go_simp, by go_simp, by go_simp, by go_simp⟩
  have R0 : Hid (RecR ((w.alloc (.cells #[.int .i64 1, .int .i64 m, .int .u64 (x : Int), .int .u64 (y : Int), .int .u64 z] 48)).alloc (.cells #[.int .u64 0, .int .i64 0, .bool false] 46)) w.heap.size 1 m x y z) := ⟨by simp; omega, by go_simp, by go_simp, by go_simp, by go_simp, by go_simp⟩
  have B0 : Hid (Below w.heap.size w ((w.alloc (.cells #[.int .i64 1, .int .i64 m, .int .u64 (x : Int), .int .u64 (y : Int), .int .u64 z] 48)).alloc (.cells #[.int .u64 0, .int .i64 0, .bool false] 46))) := ((Below.refl _ _).alloc (Nat.le_refl _) _).alloc (by simp) _
  go_enter Tryd.func19, Tryd.ntmps19
  go_wp2_with fail
  refine (HN.out _).mono ?_
  rintro e w1 ⟨rfl, hb1⟩
  have V1 : Hid (Below w.heap.size w w1) := B0.out.trans (hb1.mono B0.out.size)
  have E1 : Hid (EmptyR w1 (w.heap.size + 1)) := E0.out.later hb1
  obtain ⟨r0, r1, r2, r3, r4, r5⟩ := R0.out.later hb1
  have hsz := E1.out.lt
  clear hb1
  go_wp2_with fail
  refine (HMU.out _).mono ?_
  rintro e w2 ⟨rfl, hb2⟩
  have V1a := V1.out.alloc V1.out.size (.cells #[.int .u64 NB, .int .i64 NF, .bool false] 46)
  have V2 : Hid (Below w.heap.size w w2) := V1a.trans (hb2.mono V1a.size)
  obtain ⟨k0, k1, k2, k3, k4, k5, k6⟩ := (E1.out.later ((Below.refl _ _).alloc (Nat.le_refl _) _)).later hb2
  clear hb2 V1a V1 E1
  go_wp2_with fail
  refine bodyPost_ret (v := .agg #[.int .u64 PB, .int .i64 PF, .bool false]) (by simp [results, Tryd.results19, go_sem, k1, k2, k3]) rfl ⟨rfl, ?_⟩
  repeat (first | exact V2.out | refine Below.setCell ?_ (by simp) _)

set_option maxRecDepth 10000 in
set_option maxHeartbeats 2000000 in
theorem ref_sub (x y : Nat) (m z : Int) (hm : 0 ≤ m ∧ m ≤ 4) (hx : x < 18446744073709551616) (hy : y < 18446744073709551616) (hz : 0 ≤ z ∧ z < 18446744073709551616) (hn : anyN [(x : Int), (y : Int)] = false) (w : World) :
    Calls Tryd.prog 19 #[.agg #[.int .i64 2, .int .i64 m, .int .u64 (x : Int), .int .u64 (y : Int), .int .u64 z]] w fun e w' => e = .returned (.agg #[.int .u64 (addB x (neg y) m), .int .i64 (addF x (neg y) m), .bool false]) ∧ Below w.heap.size w w' := by
  have HN : Hid (∀ w, Calls Tryd.prog 24 #[.agg #[.int .i64 2, .int .i64 m, .int .u64 (x : Int), .int .u64 (y : Int), .int .u64 z]] w fun e w' => e = .returned (.tuple #[.agg #[.int .u64 (nanBits [(x : Int), (y : Int)]), .int .i64 (nanFlag [(x : Int), (y : Int)]), .bool false], .bool false]) ∧ Below w.heap.size w w') := fun w => by
    have := nans2_any 2 m x y z (by omega) (by omega) (by omega) hz w
    rw [hn] at this
    exact this
  have HMU : Hid (∀ w, Calls Tryd.prog 25 #[.int .u64 (x : Int), .int .u64 ((neg y : Nat) : Int), .int .i64 m] w fun e w' => e = .returned (.agg #[.int .u64 (addB x (neg y) m), .int .i64 (addF x (neg y) m), .bool false]) ∧ Below w.heap.size w w') := fun w => addition_ref x (neg y) m hx (neg_lt hy) hm w
  have hxr : bits .xor .u64 (y : Int) 9223372036854775808 = ((neg y : Nat) : Int) := xor_top y hy
  obtain ⟨hm1, hm2⟩ := hm
  clear hn hx hy hz
  generalize nanBits [(x : Int), (y : Int)] = NB at *
  generalize nanFlag [(x : Int), (y : Int)] = NF at *
  generalize addB x (neg y) m = PB at *
  generalize addF x (neg y) m = PF at *
  have E0 : Hid (EmptyR ((w.alloc (.cells #[.int .i64 2, .int .i64 m, .int .u64 (x : Int), .int .u64 (y : Int), .int .u64 z] 48)).alloc (.cells #[.int .u64 0, .int .i64 0, .bool false] 46)) (w.heap.size + 1)) := ⟨by simp, by go_simp, by go_simp, by go_simp, by go_simp, by go_simp, by go_simp⟩
  have R0 : Hid (RecR ((w.alloc (.cells #[.int .i64 2, .int .i64 m, .int .u64 (x : Int), .int .u64 (y : Int), .int .u64 z] 48)).alloc (.cells #[.int .u64 0, .int .i64 0, .bool false] 46)) w.heap.size 2 m x y z) := ⟨by simp; omega, by go_simp, by go_simp, by go_simp, by go_simp, by go_simp⟩
  have B0 : Hid (Below w.heap.size w ((w.alloc (.cells #[.int .i64 2, .int .i64 m, .int .u64 (x : Int), .int .u64 (y : Int), .int .u64 z] 48)).alloc (.cells #[.int .u64 0, .int .i64 0, .bool false] 46))) := ((Below.refl _ _).alloc (Nat.le_refl _) _).alloc (by simp) _
  go_enter Tryd.func19, Tryd.ntmps19
  go_wp2_with fail
  refine (HN.out _).mono ?_
  rintro e w1 ⟨rfl, hb1⟩
  have V1 : Hid (Below w.heap.size w w1) := B0.out.trans (hb1.mono B0.out.size)
  have E1 : Hid (EmptyR w1 (w.heap.size + 1)) := E0.out.later hb1
  obtain ⟨r0, r1, r2, r3, r4, r5⟩ := R0.out.later hb1
  have hsz := E1.out.lt
  clear hb1
  go_wp2_with fail
  refine (HMU.out _).mono ?_
  rintro e w2 ⟨rfl, hb2⟩
  have V1a := V1.out.alloc V1.out.size (.cells #[.int .u64 NB, .int .i64 NF, .bool false] 46)
  have V2 : Hid (Below w.heap.size w w2) := V1a.trans (hb2.mono V1a.size)
  obtain ⟨k0, k1, k2, k3, k4, k5, k6⟩ := (E1.out.later ((Below.refl _ _).alloc (Nat.le_refl _) _)).later hb2
  clear hb2 V1a V1 E1
  go_wp2_with fail
  refine bodyPost_ret (v := .agg #[.int .u64 PB, .int .i64 PF, .bool false]) (by simp [results, Tryd.results19, go_sem, k1, k2, k3]) rfl ⟨rfl, ?_⟩
  repeat (first | exact V2.out | refine Below.setCell ?_ (by simp) _)

end Go.Proofs.YtfbdgecanfmgiaaDoor
