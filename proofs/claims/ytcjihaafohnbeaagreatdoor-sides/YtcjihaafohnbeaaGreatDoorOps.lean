import Derived.Test.YtcjihaafohnbeaaGreatDoorBase
import Derived.Laws.EntriesVeiled
namespace Go.Proofs.YtcjihaafohnbeaaGreatDoor
open Go.RowKit

theorem belowSetRow {B g : Nat} {w0 w : World} (hb : Below B w0 w) (hBg : B ≤ g) (cs : Array Value) : Below B w0 (w.setRow g cs) :=
  ⟨hb.os, hb.tape, hb.output, by simpa using hb.size, fun k hk => by rw [setRow_other _ _ _ _ (by omega)]; exact hb.block k hk⟩
def fnv (n : Nat) : Value := .func (.func n) #[] #[]
def opsCells : Array Value := #[.int .i64 0, .nilFunc, .nilFunc, .int .i64 2, fnv 26, .nilFunc, .int .i64 2, fnv 27, .nilFunc, .int .i64 2, fnv 28, .nilFunc, .int .i64 2, fnv 29, .nilFunc, .int .i64 3, fnv 30, fnv 31, .int .i64 1, fnv 32, .nilFunc, .int .i64 1, fnv 33, .nilFunc, .int .i64 1, fnv 34, .nilFunc, .int .i64 2, fnv 35, fnv 36, .int .i64 0, fnv 37, .nilFunc]
theorem infoOps : (Tryz.prog.info? 47).map (·.size) = some 33 := by kernel_rfl

set_option maxHeartbeats 400000 in
theorem operations_any (w : World) :
    Calls Tryz.prog 17 #[] w fun e w' => e = .returned (.agg opsCells) ∧ Below w.heap.size w w' := by
  go_enter Tryz.func17, Tryz.ntmps17
  go_wp2_with (refine wpList_store_row rfl 47 (.tmp 0) (.tmp 11) rfl w.heap.size opsCells rfl (by kernel_rfl) 47 _ (heap_alloc_new _ _) infoOps (by kernel_rfl) (by kernel_rfl) ?_)
  refine bodyPost_ret (v := .agg opsCells) (results_cell_row rfl _ _ w.heap.size 47 opsCells (0, 0) _ rfl (setRow_heap _ _ _ _ _ _ (heap_alloc_new _ _)) Tryz.underlying47 rfl infoOps) rfl ⟨rfl, ?_⟩
  exact belowSetRow ((Below.refl _ _).alloc (Nat.le_refl _) _) (Nat.le_refl _) _
end Go.Proofs.YtcjihaafohnbeaaGreatDoor
