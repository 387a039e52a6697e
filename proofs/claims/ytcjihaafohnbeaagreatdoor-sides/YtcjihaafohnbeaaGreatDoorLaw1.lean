import Derived.Test.YtcjihaafohnbeaaGreatDoorBase
namespace Go.Proofs.YtcjihaafohnbeaaGreatDoor
open Go.RowKit

theorem bcell {W w1 : World} (hb : Below W.heap.size W w1) : (∀ b o, b < W.heap.size → w1.cell? ⟨b, o, none⟩ = W.cell? ⟨b, o, none⟩) ∧ (∀ b o, b < W.heap.size → w1.frozen? ⟨b, o, none⟩ = W.frozen? ⟨b, o, none⟩) :=
  ⟨fun b o h => hb.cell (p := ⟨b, o, none⟩) h, fun b o h => hb.frozen (p := ⟨b, o, none⟩) h⟩

/-- A record as the law has it, as the program has it, as the document's answer has it. -/
def lrec (op m x y z : Int) : Value := .agg #[.int .i64 op, .int .i64 m, .int .u64 x, .int .u64 y, .int .u64 z]
def srec (op m x y z : Int) : Value := .agg #[.int .u8 op, .int .u8 m, .int .u64 x, .int .u64 y, .int .u64 z]
def sres (b f : Int) (bad : Bool) : Value := .agg #[.int .u64 b, .int .u8 f, .bool bad]
def rres (b f : Int) (bad : Bool) : Value := .agg #[.int .u64 b, .int .i64 f, .bool bad]

set_option maxHeartbeats 400000 in
theorem given_any (op m x y z : Int) (w : World) :
    Calls Tryz.prog 12 #[.agg #[.int .i64 op, .int .i64 m, .int .u64 x, .int .u64 y, .int .u64 z]] w fun e w' =>
      e = .returned (.agg #[.int .u8 (op % 256), .int .u8 (m % 256), .int .u64 x, .int .u64 y, .int .u64 z]) ∧ Below w.heap.size w w' := by
  go_enter Tryz.func12, Tryz.ntmps12
  go_wp2
  exact bodyPost_ret (v := .agg #[.int .u8 (op % 256), .int .u8 (m % 256), .int .u64 x, .int .u64 y, .int .u64 z]) (by simp [results, Tryz.results12, go_sem]) rfl ⟨rfl, ((Below.refl _ _).alloc (Nat.le_refl _) _).alloc (by simp) _⟩

set_option maxHeartbeats 400000 in
theorem asked_any (op m x y z : Int) (w : World) :
    Calls Tryz.prog 15 #[.agg #[.int .i64 op, .int .i64 m, .int .u64 x, .int .u64 y, .int .u64 z]] w fun e w' =>
      e = .returned (.agg #[.int .i64 (op % 256), .int .i64 (m % 256), .int .u64 x, .int .u64 y, .int .u64 z]) ∧ Below w.heap.size w w' := by
  have h1 := wrap64_small (op % 256) (by omega) (by omega)
  have h2 := wrap64_small (m % 256) (by omega) (by omega)
  go_enter Tryz.func15, Tryz.ntmps15
  go_wp2
  exact bodyPost_ret (v := .agg #[.int .i64 (op % 256), .int .i64 (m % 256), .int .u64 x, .int .u64 y, .int .u64 z]) (by simp [results, Tryz.results15, go_sem]) rfl ⟨rfl, ((Below.refl _ _).alloc (Nat.le_refl _) _).alloc (by simp) _⟩

set_option maxHeartbeats 400000 in
theorem same_any (b f : Int) (bad : Bool) (hf : 0 ≤ f ∧ f < 256) (w : World) :
    Calls Tryz.prog 16 #[.agg #[.int .u64 b, .int .u8 f, .bool bad], .agg #[.int .u64 b, .int .i64 f, .bool bad]] w fun e w' =>
      e = .returned (.bool true) ∧ Below w.heap.size w w' := by
  have h1 := wrap64_small f (by omega) (by omega)
  obtain ⟨_, _⟩ := hf
  go_enter Tryz.func16, Tryz.ntmps16
  go_wp2
  go_ret
  exact ⟨rfl, ((Below.refl _ _).alloc (Nat.le_refl _) _).alloc (by simp) _⟩

set_option maxHeartbeats 400000 in
theorem zeros_any (op m x y z : Int) (w : World) :
    Calls Tryz.prog 37 #[.agg #[.int .u8 op, .int .u8 m, .int .u64 x, .int .u64 y, .int .u64 z]] w fun e w' =>
      e = .returned (.agg #[.int .u64 0, .int .u8 0, .bool false]) ∧ Below w.heap.size w w' := by
  go_enter Tryz.func37, Tryz.ntmps37
  go_wp2
  exact bodyPost_ret (v := .agg #[.int .u64 0, .int .u8 0, .bool false]) (by simp [results, Tryz.results37, go_sem]) rfl ⟨rfl, ((Below.refl _ _).alloc (Nat.le_refl _) _).alloc (by simp) _⟩

end Go.Proofs.YtcjihaafohnbeaaGreatDoor
