import Derived.Test.YtfbdgecanfmgiaaDoorRefJ
namespace Go.Proofs.YtfbdgecanfmgiaaDoor
open Go.RowKit

set_option maxHeartbeats 1000000 in
theorem finite_of (neg : Bool) (a : Option Addr) (len cap : Nat) (p m B F : Int) (w : World)
    (HRD : Hid (∀ w1, Below w.heap.size w w1 → Calls Tryd.prog 58 #[.agg #[.bool neg, .slice a len cap, .int .i64 p], .int .i64 m] w1 fun e w' => e = .returned (.tuple #[.int .u64 B, .int .i64 F]) ∧ Below w1.heap.size w1 w')) :
    Calls Tryd.prog 40 #[.agg #[.bool neg, .slice a len cap, .int .i64 p], .int .i64 m] w fun e w' => e = .returned (.agg #[.int .u64 B, .int .i64 F, .bool false]) ∧ Below w.heap.size w w' := by
  go_enter Tryd.func40, Tryd.ntmps40
  go_wp2_with fail
  refine (HRD.out _ (((Below.refl _ _).alloc (Nat.le_refl _) _).alloc (by simp) _)).mono ?_
  rintro e w1 ⟨rfl, hb⟩
  have hz := hb.size
  simp only [World.size_alloc] at hz
  have d0 : w1.cell? ⟨w.heap.size + 1, 0, none⟩ = some (.int .u64 0) := (hb.cell (p := ⟨w.heap.size + 1, 0, none⟩) (by simp)).trans (by go_simp)
  have d1 : w1.cell? ⟨w.heap.size + 1, 1, none⟩ = some (.int .i64 0) := (hb.cell (p := ⟨w.heap.size + 1, 1, none⟩) (by simp)).trans (by go_simp)
  have d2 : w1.cell? ⟨w.heap.size + 1, 2, none⟩ = some (.bool false) := (hb.cell (p := ⟨w.heap.size + 1, 2, none⟩) (by simp)).trans (by go_simp)
  have f0 : w1.frozen? ⟨w.heap.size + 1, 0, none⟩ = false := (hb.frozen (p := ⟨w.heap.size + 1, 0, none⟩) (by simp)).trans (by go_simp)
  have f1 : w1.frozen? ⟨w.heap.size + 1, 1, none⟩ = false := (hb.frozen (p := ⟨w.heap.size + 1, 1, none⟩) (by simp)).trans (by go_simp)
  have f2 : w1.frozen? ⟨w.heap.size + 1, 2, none⟩ = false := (hb.frozen (p := ⟨w.heap.size + 1, 2, none⟩) (by simp)).trans (by go_simp)
  have HB : Hid (Below w.heap.size w w1) := (((Below.refl _ _).alloc (Nat.le_refl _) _).alloc (by simp) _).trans (hb.mono (by simp; omega))
  clear hb
  go_wp2_with fail
  refine bodyPost_ret (v := .agg #[.int .u64 B, .int .i64 F, .bool false]) (by simp [results, Tryd.results40, go_sem, d0, d1, d2]) rfl ⟨rfl, ((HB.out.setCell (by simp) _).setCell (by simp) _).setCell (by simp) _⟩
end Go.Proofs.YtfbdgecanfmgiaaDoor
