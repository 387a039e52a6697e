import Derived.Test.YtcjihaafohnbeaaGreatDoorRefO
import Derived.Test.YtcjihaafohnbeaaGreatDoorLaw2
namespace Go.Proofs.YtcjihaafohnbeaaGreatDoor
open Go.RowKit

theorem roundF_range (s : Int) (D : Nat) (p m : Int) : 0 ≤ roundF s D p m ∧ roundF s D p m < 256 := by
  unfold roundF
  simp only
  (repeat' split) <;> omega
/-- The record as it lies, behind a call. -/
structure RecR (w : World) (g : Nat) (op m x y z : Int) : Prop where
  lt : g < w.heap.size
  c0 : w.cell? ⟨g, 0, none⟩ = some (.int .i64 op)
  c1 : w.cell? ⟨g, 1, none⟩ = some (.int .i64 m)
  c2 : w.cell? ⟨g, 2, none⟩ = some (.int .u64 x)
  c3 : w.cell? ⟨g, 3, none⟩ = some (.int .u64 y)
  c4 : w.cell? ⟨g, 4, none⟩ = some (.int .u64 z)
theorem RecR.later {w w' : World} {g : Nat} {op m x y z : Int} (h : RecR w g op m x y z) (hb : Below w.heap.size w w') : RecR w' g op m x y z :=
  ⟨Nat.lt_of_lt_of_le h.lt hb.size, (hb.cell (p := ⟨g, 0, none⟩) h.lt).trans h.c0, (hb.cell (p := ⟨g, 1, none⟩) h.lt).trans h.c1, (hb.cell (p := ⟨g, 2, none⟩) h.lt).trans h.c2, (hb.cell (p := ⟨g, 3, none⟩) h.lt).trans h.c3, (hb.cell (p := ⟨g, 4, none⟩) h.lt).trans h.c4⟩

set_option maxRecDepth 10000 in
set_option maxHeartbeats 2000000 in
theorem ref_nan2 (op m x y z : Int) (h : 1 ≤ op ∧ op ≤ 4) (hm : m ≤ 4) (hx : 0 ≤ x ∧ x < 18446744073709551616) (hy : 0 ≤ y ∧ y < 18446744073709551616) (hz : 0 ≤ z ∧ z < 18446744073709551616) (hn : anyN [x, y] = true) (w : World) :
    Calls Tryz.prog 14 #[.agg #[.int .i64 op, .int .i64 m, .int .u64 x, .int .u64 y, .int .u64 z]] w fun e w' => e = .returned (.agg #[.int .u64 (nanBits [x, y]), .int .i64 (nanFlag [x, y]), .bool false]) ∧ Below w.heap.size w w' := by
  have HN : Hid (∀ w, Calls Tryz.prog 19 #[.agg #[.int .i64 op, .int .i64 m, .int .u64 x, .int .u64 y, .int .u64 z]] w fun e w' => e = .returned (.tuple #[.agg #[.int .u64 (nanBits [x, y]), .int .i64 (nanFlag [x, y]), .bool false], .bool true]) ∧ Below w.heap.size w w') := fun w => by
    have := nans2_any op m x y z h hx hy hz w
    rw [hn] at this
    exact this
  clear hn hx hy hz
  obtain ⟨h1, h2⟩ := h
  have b10 : (op == 10) = false := by rw [beq_eq_false_iff_ne]; omega
  generalize nanBits [x, y] = NB at *
  generalize nanFlag [x, y] = NF at *
  have E0 : Hid (EmptyR ((w.alloc (.cells #[.int .i64 op, .int .i64 m, .int .u64 x, .int .u64 y, .int .u64 z] 41)).alloc (.cells #[.int .u64 0, .int .i64 0, .bool false] 39)) (w.heap.size + 1)) := ⟨by simp, by go_simp, by go_simp, by go_simp, by go_simp, by go_simp, by go_simp⟩
  have R0 : Hid (RecR ((w.alloc (.cells #[.int .i64 op, .int .i64 m, .int .u64 x, .int .u64 y, .int .u64 z] 41)).alloc (.cells #[.int .u64 0, .int .i64 0, .bool false] 39)) w.heap.size op m x y z) := ⟨by simp; omega, by go_simp, by go_simp, by go_simp, by go_simp, by go_simp⟩
  have B0 : Hid (Below w.heap.size w ((w.alloc (.cells #[.int .i64 op, .int .i64 m, .int .u64 x, .int .u64 y, .int .u64 z] 41)).alloc (.cells #[.int .u64 0, .int .i64 0, .bool false] 39))) := ((Below.refl _ _).alloc (Nat.le_refl _) _).alloc (by simp) _
  go_enter Tryz.func14, Tryz.ntmps14
  go_wp2_with fail
  refine (HN.out _).mono ?_
  rintro e w1 ⟨rfl, hb1⟩
  have V1 : Hid (Below w.heap.size w w1) := B0.out.trans (hb1.mono B0.out.size)
  obtain ⟨k0, k1, k2, k3, k4, k5, k6⟩ := E0.out.later hb1
  clear hb1
  go_wp2_with fail
  refine bodyPost_ret (v := .agg #[.int .u64 NB, .int .i64 NF, .bool false]) (by simp [results, Tryz.results14, go_sem, k1, k2, k3, World.cell?_alloc_lt, k0]) rfl ⟨rfl, ?_⟩
  repeat (first | exact V1.out | refine Below.setCell ?_ (by simp) _ | (refine Below.alloc ?_ (by have := V1.out.size; simp; omega) _))

end Go.Proofs.YtcjihaafohnbeaaGreatDoor
