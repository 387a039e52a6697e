import Derived.Test.YtcjihaafohnbeaaDoorBase
import Derived.Laws.EntriesVeiled
namespace Go.Proofs.YtcjihaafohnbeaaDoor
open Go.RowKit

theorem belowSetRow {B g : Nat} {w0 w : World} (hb : Below B w0 w) (hBg : B ≤ g) (cs : Array Value) : Below B w0 (w.setRow g cs) :=
  ⟨hb.os, hb.tape, hb.output, by simpa using hb.size, fun k hk => by rw [setRow_other _ _ _ _ (by omega)]; exact hb.block k hk⟩
def fnv (n : Nat) : Value := .func (.func n) #[] #[]
def opsCells : Array Value := #[.int .i64 0, .nilFunc, .nilFunc, .int .i64 2, fnv 21, .nilFunc, .int .i64 2, fnv 22, .nilFunc, .int .i64 2, fnv 23, .nilFunc, .int .i64 2, fnv 24, .nilFunc, .int .i64 3, fnv 25, fnv 26, .int .i64 1, fnv 27, .nilFunc, .int .i64 1, fnv 28, .nilFunc, .int .i64 1, fnv 29, .nilFunc, .int .i64 2, fnv 30, fnv 31, .int .i64 0, fnv 32, .nilFunc]
theorem infoOps : (Tryd.prog.info? 48).map (·.size) = some 33 := by kernel_rfl

set_option maxHeartbeats 400000 in
theorem operations_any (w : World) :
    Calls Tryd.prog 19 #[] w fun e w' => e = .returned (.agg opsCells) ∧ Below w.heap.size w w' := by
  go_enter Tryd.func19, Tryd.ntmps19
  go_wp2_with (refine wpList_store_row rfl 48 (.tmp 0) (.tmp 11) rfl w.heap.size opsCells rfl (by kernel_rfl) 48 _ (heap_alloc_new _ _) infoOps (by kernel_rfl) (by kernel_rfl) ?_)
  refine bodyPost_ret (v := .agg opsCells) (results_cell_row rfl _ _ w.heap.size 48 opsCells (0, 0) _ rfl (setRow_heap _ _ _ _ _ _ (heap_alloc_new _ _)) Tryd.underlying48 rfl infoOps) rfl ⟨rfl, ?_⟩
  exact belowSetRow ((Below.refl _ _).alloc (Nat.le_refl _) _) (Nat.le_refl _) _
end Go.Proofs.YtcjihaafohnbeaaDoor
