import Derived.Test.YtcjihaafohnbeaaDoorFair1
import Derived.Test.YtcjihaafohnbeaaDoorTurn3
import Derived.Laws.BitsAllLaws
import Derived.Laws.OwnMore
import Derived.Deep.AppendLies
namespace Go.Proofs.YtcjihaafohnbeaaDoor
open Go.RowKit

theorem and_top (z : Int) (h0 : 9223372036854775808 ≤ z) (h1 : z < 18446744073709551616) : bits .and .u64 z 9223372036854775807 = z - 9223372036854775808 := by
  have h := bits_and_u64_nat z.toNat (2 ^ 63 - 1) (by omega) (by decide)
  rw [Nat.and_two_pow_sub_one_eq_mod, show ((2 ^ 63 - 1 : Nat) : Int) = 9223372036854775807 by decide, show (z.toNat : Int) = z by omega] at h
  rw [h]
  omega
theorem and_one (f : Int) (h0 : 0 ≤ f) (h1 : f < 256) : bits .and .u8 f 1 = f % 2 := by
  have h := u8_and f 1 h0 h1 (by decide) (by decide)
  rw [h, show (1 : Int).toNat = 2 ^ 1 - 1 by decide, Nat.and_two_pow_sub_one_eq_mod]
  omega

set_option maxHeartbeats 400000 in
theorem order_any (z : Int) (h : 0 ≤ z ∧ z < 18446744073709551616) (w : World) :
    Calls Tryd.prog 15 #[.int .u64 z] w fun e w' => e = .returned (.int .i64 (ordI z)) ∧ w' = w := by
  unfold ordI
  by_cases hz : 9223372036854775808 ≤ z
  · have ha := and_top z hz h.2
    have h1 : z / 9223372036854775808 = 1 := by omega
    have hw := wrap64_small (z - 9223372036854775808) (by omega) (by omega)
    have hw2 : wrap64 (-(z - 9223372036854775808)) = -(z - 9223372036854775808) := by unfold wrap64; omega
    rw [if_pos hz]
    go_enter Tryd.func15, Tryd.ntmps15
    go_wp2
    go_ret
    exact ⟨ret_int (by first | rfl | assumption | omega), rfl⟩
  · have h1 : (z / 9223372036854775808 == 1) = false := by simp; omega
    have hw := wrap64_small z (by omega) (by omega)
    rw [if_neg hz]
    go_enter Tryd.func15, Tryd.ntmps15
    go_wp2
    go_ret
    exact ⟨rfl, rfl⟩

/-- The law's record as it lies in its block, whole. -/
structure ARec (w : World) (g : Nat) (op mo x y z : Int) : Prop where
  lt : g < w.heap.size
  c0 : w.cell? ⟨g, 0, none⟩ = some (.int .i64 op)
  c1 : w.cell? ⟨g, 1, none⟩ = some (.int .i64 mo)
  c2 : w.cell? ⟨g, 2, none⟩ = some (.int .u64 x)
  c3 : w.cell? ⟨g, 3, none⟩ = some (.int .u64 y)
  c4 : w.cell? ⟨g, 4, none⟩ = some (.int .u64 z)
theorem ARec.later {w w' : World} {g : Nat} {op mo x y z : Int} (h : ARec w g op mo x y z) (hb : Below w.heap.size w w') : ARec w' g op mo x y z :=
  ⟨Nat.lt_of_lt_of_le h.lt hb.size, (hb.cell (p := ⟨g, 0, none⟩) h.lt).trans h.c0, (hb.cell (p := ⟨g, 1, none⟩) h.lt).trans h.c1, (hb.cell (p := ⟨g, 2, none⟩) h.lt).trans h.c2, (hb.cell (p := ⟨g, 3, none⟩) h.lt).trans h.c3, (hb.cell (p := ⟨g, 4, none⟩) h.lt).trans h.c4⟩
theorem ARec.grown {w w' : World} {g : Nat} {op mo x y z : Int} {row : Option Nat} (h : ARec w g op mo x y z) (hg : w.grownBy w' row) (hr : some g ≠ row) : ARec w' g op mo x y z := by
  have e := hg.block g h.lt hr
  exact ⟨Nat.lt_of_lt_of_le h.lt hg.size, (World.cell?_of_block (a := ⟨g, 0, none⟩) e).trans h.c0, (World.cell?_of_block (a := ⟨g, 1, none⟩) e).trans h.c1, (World.cell?_of_block (a := ⟨g, 2, none⟩) e).trans h.c2, (World.cell?_of_block (a := ⟨g, 3, none⟩) e).trans h.c3, (World.cell?_of_block (a := ⟨g, 4, none⟩) e).trans h.c4⟩

theorem own_later {w w' : World} {base : Nat} {e : TypeId} {size : Nat} {v : Value} {n : Nat} {xs : List Value} (h : w.ownsRow base e size v n xs) (hb : Below w.heap.size w w') : w'.ownsRow base e size v n xs := by
  refine ⟨h.1, ?_⟩
  rcases h.2 with hn | ⟨g, cap, cur, hv, hbg, hg, rest⟩
  · exact .inl hn
  · have hl : g < w.heap.size := (h.lt g (by rw [hv]; rfl)).2
    exact .inr ⟨g, cap, cur, hv, hbg, (hb.block g hl).trans hg, rest⟩

/-- The first k results, as they lie one behind the other. -/
def resRow (B F : Int → Int) : Nat → List Value
  | 0 => []
  | k + 1 => resRow B F k ++ [.int .u64 (B k), .int .u8 (F k), .bool false]
theorem resRow_five (B F : Int → Int) : resRow B F 5 = [.int .u64 (B 0), .int .u8 (F 0), .bool false, .int .u64 (B 1), .int .u8 (F 1), .bool false, .int .u64 (B 2), .int .u8 (F 2), .bool false, .int .u64 (B 3), .int .u8 (F 3), .bool false, .int .u64 (B 4), .int .u8 (F 4), .bool false] := rfl
end Go.Proofs.YtcjihaafohnbeaaDoor
