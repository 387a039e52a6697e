import Derived.Test.YtcjihaafohnbeaaDoorBase
namespace Go.Proofs.YtcjihaafohnbeaaDoor
open Go.RowKit

theorem bcell {W w1 : World} (hb : Below W.heap.size W w1) : (∀ b o, b < W.heap.size → w1.cell? ⟨b, o, none⟩ = W.cell? ⟨b, o, none⟩) ∧ (∀ b o, b < W.heap.size → w1.frozen? ⟨b, o, none⟩ = W.frozen? ⟨b, o, none⟩) :=
  ⟨fun b o h => hb.cell (p := ⟨b, o, none⟩) h, fun b o h => hb.frozen (p := ⟨b, o, none⟩) h⟩

/-- A record as the law has it, as the program has it, as the document's answer has it. -/
def lrec (op m x y z : Int) : Value := .agg #[.int .i64 op, .int .i64 m, .int .u64 x, .int .u64 y, .int .u64 z]
def srec (op m x y z : Int) : Value := .agg #[.int .u8 op, .int .u8 m, .int .u64 x, .int .u64 y, .int .u64 z]
def sres (b f : Int) (bad : Bool) : Value := .agg #[.int .u64 b, .int .u8 f, .bool bad]
def rres (b f : Int) (bad : Bool) : Value := .agg #[.int .u64 b, .int .i64 f, .bool bad]

set_option maxHeartbeats 400000 in
theorem given_any (op m x y z : Int) (w : World) :
    Calls Tryd.prog 13 #[.agg #[.int .i64 op, .int .i64 m, .int .u64 x, .int .u64 y, .int .u64 z]] w fun e w' =>
      e = .returned (.agg #[.int .u8 (op % 256), .int .u8 (m % 256), .int .u64 x, .int .u64 y, .int .u64 z]) ∧ Below w.heap.size w w' := by
  go_enter Tryd.func13, Tryd.ntmps13
  go_wp2
  exact bodyPost_ret (v := .agg #[.int .u8 (op % 256), .int .u8 (m % 256), .int .u64 x, .int .u64 y, .int .u64 z]) (by simp [results, Tryd.results13, go_sem]) rfl ⟨rfl, ((Below.refl _ _).alloc (Nat.le_refl _) _).alloc (by simp) _⟩

set_option maxHeartbeats 400000 in
theorem zeros_any (op m x y z : Int) (w : World) :
    Calls Tryd.prog 32 #[.agg #[.int .u8 op, .int .u8 m, .int .u64 x, .int .u64 y, .int .u64 z]] w fun e w' =>
      e = .returned (.agg #[.int .u64 0, .int .u8 0, .bool false]) ∧ Below w.heap.size w w' := by
  go_enter Tryd.func32, Tryd.ntmps32
  go_wp2
  exact bodyPost_ret (v := .agg #[.int .u64 0, .int .u8 0, .bool false]) (by simp [results, Tryd.results32, go_sem]) rfl ⟨rfl, ((Below.refl _ _).alloc (Nat.le_refl _) _).alloc (by simp) _⟩

end Go.Proofs.YtcjihaafohnbeaaDoor
