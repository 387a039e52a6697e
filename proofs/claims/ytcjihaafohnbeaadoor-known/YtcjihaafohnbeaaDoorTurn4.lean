import Derived.Test.YtcjihaafohnbeaaDoorTurn3
import Derived.BigQuiet
namespace Go.Proofs.YtcjihaafohnbeaaDoor
open Go.RowKit

/-- What a region that asks the program leaves: its answer, in a block of its own. -/
def Given (W : World) (a b : Int) (s : Value) (wx : World) : Prop := ∃ g, s = .pointer (some ⟨g, 0, none⟩) ∧ Below W.heap.size W wx ∧ Lies wx g a b false
theorem given_new {W W1 w' : World} (h : Below W.heap.size W W1) (hb : Below W1.heap.size W1 w') (a b : Int) (t : TypeId) :
    Given W a b (.pointer (some ⟨w'.heap.size, 0, none⟩)) (w'.alloc (.cells #[.int .u64 a, .int .u8 b, .bool false] t)) :=
  ⟨_, rfl, below_new h hb _ (Nat.le_refl _), Lies.new _ _ _ _ _⟩
theorem given_old {W W1 w' : World} {g : Nat} (h : Below W.heap.size W W1) (hg : W.heap.size ≤ g) (u v x : Value) (c0 : W1.cell? ⟨g, 0, none⟩ = some u) (c1 : W1.cell? ⟨g, 1, none⟩ = some v) (c2 : W1.cell? ⟨g, 2, none⟩ = some x)
    (hb : Below W1.heap.size W1 w') (a b : Int) :
    Given W a b (.pointer (some ⟨g, 0, none⟩)) (((w'.setCell ⟨g, 0, none⟩ (.int .u64 a)).setCell ⟨g, 1, none⟩ (.int .u8 b)).setCell ⟨g, 2, none⟩ (.bool false)) := by
  have hl : g < W1.heap.size := block_lt_of_cell c0
  have d0 := (hb.cell (p := ⟨g, 0, none⟩) hl).trans c0
  have d1 := (hb.cell (p := ⟨g, 1, none⟩) hl).trans c1
  have d2 := (hb.cell (p := ⟨g, 2, none⟩) hl).trans c2
  have hz := hb.size
  refine ⟨_, rfl, (((h.trans (hb.mono h.size)).setCell hg _).setCell hg _).setCell hg _, ⟨by simp; omega, ?_, ?_, ?_⟩⟩
  · rw [World.cell?_setCell_other _ _ _ _ (by simp), World.cell?_setCell_other _ _ _ _ (by simp)]; exact World.cell?_setCell_same _ _ _ d0
  · rw [World.cell?_setCell_other _ _ _ _ (by simp)]
    exact World.cell?_setCell_same _ _ _ ((World.cell?_setCell_other _ _ _ _ (by simp)).trans d1)
  · exact World.cell?_setCell_same _ _ _ ((World.cell?_setCell_other _ _ _ _ (by simp)).trans ((World.cell?_setCell_other _ _ _ _ (by simp)).trans d2))

/-- The law's record as it lies in its block. -/
structure LRec (w : World) (g : Nat) (mo x y : Int) : Prop where
  lt : g < w.heap.size
  c1 : w.cell? ⟨g, 1, none⟩ = some (.int .i64 mo)
  c2 : w.cell? ⟨g, 2, none⟩ = some (.int .u64 x)
  c3 : w.cell? ⟨g, 3, none⟩ = some (.int .u64 y)
theorem LRec.later {w w' : World} {g : Nat} {mo x y : Int} (h : LRec w g mo x y) (hb : Below w.heap.size w w') : LRec w' g mo x y :=
  ⟨Nat.lt_of_lt_of_le h.lt hb.size, (hb.cell (p := ⟨g, 1, none⟩) h.lt).trans h.c1, (hb.cell (p := ⟨g, 2, none⟩) h.lt).trans h.c2, (hb.cell (p := ⟨g, 3, none⟩) h.lt).trans h.c3⟩

theorem nan_is {z : Int} {b : Bool} (h : nanI z = b) (w : World) : Calls Tryd.prog 14 #[.int .u64 z] w fun e w' => e = .returned (.bool b) ∧ w' = w := by rw [← h]; exact nan_any z w
theorem minus_is {z n : Int} (hz : 0 ≤ z ∧ z < 18446744073709551616) (h : negI z = n) (w : World) : Calls Tryd.prog 16 #[.int .u64 z] w fun e w' => e = .returned (.int .u64 n) ∧ w' = w := by rw [← h]; exact minus_any z hz w
theorem eqR_self (a b : Int) (c : Bool) : eqR a b c a b c = true := by simp [eqR]

set_option maxRecDepth 10000 in
set_option maxHeartbeats 4000000 in
theorem turned_clear (op mo x y z m SB SF DB PB PF GB : Int) (hm : mo % 256 % 5 = m) (n1 : nanI x = false) (n2 : nanI y = false) (hx : 0 ≤ x ∧ x < 18446744073709551616) (hy : 0 ≤ y ∧ y < 18446744073709551616) (w : World)
    (H1 : Hid (∀ w1, Below w.heap.size w w1 → Calls Tryd.prog 12 #[.agg #[.int .u8 1, .int .u8 m, .int .u64 x, .int .u64 y, .int .u64 0]] w1 fun e w' => e = .returned (.agg #[.int .u64 SB, .int .u8 SF, .bool false]) ∧ Below w1.heap.size w1 w'))
    (H2 : Hid (∀ w1, Below w.heap.size w w1 → Calls Tryd.prog 12 #[.agg #[.int .u8 1, .int .u8 m, .int .u64 y, .int .u64 x, .int .u64 0]] w1 fun e w' => e = .returned (.agg #[.int .u64 SB, .int .u8 SF, .bool false]) ∧ Below w1.heap.size w1 w'))
    (H3 : Hid (∀ w1, Below w.heap.size w w1 → Calls Tryd.prog 12 #[.agg #[.int .u8 2, .int .u8 m, .int .u64 x, .int .u64 (negI y), .int .u64 0]] w1 fun e w' => e = .returned (.agg #[.int .u64 SB, .int .u8 SF, .bool false]) ∧ Below w1.heap.size w1 w'))
    (H4 : Hid (∀ w1, Below w.heap.size w w1 → Calls Tryd.prog 12 #[.agg #[.int .u8 1, .int .u8 (otherM m), .int .u64 (negI x), .int .u64 (negI y), .int .u64 0]] w1 fun e w' => e = .returned (.agg #[.int .u64 DB, .int .u8 SF, .bool false]) ∧ Below w1.heap.size w1 w'))
    (H5 : Hid (∀ w1, Below w.heap.size w w1 → Calls Tryd.prog 12 #[.agg #[.int .u8 3, .int .u8 m, .int .u64 x, .int .u64 y, .int .u64 0]] w1 fun e w' => e = .returned (.agg #[.int .u64 PB, .int .u8 PF, .bool false]) ∧ Below w1.heap.size w1 w'))
    (H6 : Hid (∀ w1, Below w.heap.size w w1 → Calls Tryd.prog 12 #[.agg #[.int .u8 3, .int .u8 m, .int .u64 y, .int .u64 x, .int .u64 0]] w1 fun e w' => e = .returned (.agg #[.int .u64 PB, .int .u8 PF, .bool false]) ∧ Below w1.heap.size w1 w'))
    (H7 : Hid (∀ w1, Below w.heap.size w w1 → Calls Tryd.prog 12 #[.agg #[.int .u8 3, .int .u8 (otherM m), .int .u64 (negI x), .int .u64 y, .int .u64 0]] w1 fun e w' => e = .returned (.agg #[.int .u64 GB, .int .u8 PF, .bool false]) ∧ Below w1.heap.size w1 w'))
    (HS : Hid (nanI SB = true ∨ negI DB = SB ∨ (SB * 2 % 18446744073709551616 = 0 ∧ DB * 2 % 18446744073709551616 = 0))) (HP : Hid (nanI PB = true ∨ negI GB = PB))
    (hD : Hid (0 ≤ DB ∧ DB < 18446744073709551616)) (hG : Hid (0 ≤ GB ∧ GB < 18446744073709551616)) :
    Calls Tryd.prog 9 #[.agg #[.int .i64 op, .int .i64 mo, .int .u64 x, .int .u64 y, .int .u64 z]] w fun e w' => e = .returned (.bool true) ∧ Below w.heap.size w w' := by
  have HX : Hid (0 ≤ x ∧ x < 18446744073709551616) := hx
  have HY : Hid (0 ≤ y ∧ y < 18446744073709551616) := hy
  have R0 : Hid (LRec (w.alloc (.cells #[.int .i64 op, .int .i64 mo, .int .u64 x, .int .u64 y, .int .u64 z] 26)) w.heap.size mo x y) := ⟨by simp, by go_simp, by go_simp, by go_simp⟩
  clear hx hy
  go_enter Tryd.func9, Tryd.ntmps9
  go_wp2_with (go_at_call 14; refine (nan_any _ _).mono ?_; rintro e w' ⟨rfl, rfl⟩)
  refine (H1.out _ ((Below.refl _ _).alloc (Nat.le_refl _) _)).mono ?_
  rintro e w1 ⟨rfl, hb1⟩
  have B1 : Hid (Below w.heap.size w (w1.alloc (.cells #[.int .u64 SB, .int .u8 SF, .bool false] 33))) := below_new ((Below.refl _ _).alloc (Nat.le_refl _) _) hb1 _ (Nat.le_refl _)
  have R1 : Hid (LRec w1 w.heap.size mo x y) := R0.out.later hb1
  have L1 : Hid (Lies (w1.alloc (.cells #[.int .u64 SB, .int .u8 SF, .bool false] 33)) w1.heap.size SB SF false) := Lies.new _ _ _ _ _
  have t1 := R1.out.lt
  have t2 := R1.out.c2
  have t3 := R1.out.c3
  clear hb1 R0
  go_wp2_with fail
  refine (H2.out _ B1.out).mono ?_
  rintro e w2 ⟨rfl, hb2⟩
  have B2 : Hid (Below w.heap.size w (w2.alloc (.cells #[.int .u64 SB, .int .u8 SF, .bool false] 33))) := below_new B1.out hb2 _ (Nat.le_refl _)
  have L1 : Hid (Lies (w2.alloc (.cells #[.int .u64 SB, .int .u8 SF, .bool false] 33)) w1.heap.size SB SF false) := (L1.out.later hb2).alloc _
  have L2 : Hid (Lies (w2.alloc (.cells #[.int .u64 SB, .int .u8 SF, .bool false] 33)) w2.heap.size SB SF false) := Lies.new _ _ _ _ _
  have R2 : Hid (LRec (w2.alloc (.cells #[.int .u64 SB, .int .u8 SF, .bool false] 33)) w.heap.size mo x y) := (R1.out.later (below_new ((Below.refl _ _).alloc (Nat.le_refl _) _) hb2 _ (Nat.le_refl _)))
  clear hb2 R1 t1 t2 t3 B1
  go_wp2_with fail
  generalize w2.alloc (.cells #[.int .u64 SB, .int .u8 SF, .bool false] 33) = W2 at *
  generalize w1.heap.size = g1 at *
  generalize w2.heap.size = g2 at *
  have t1 := R2.out.lt
  have t2 := R2.out.c2
  have t3 := R2.out.c3
  go_cut [6] from 13 to 144 (Given W2 SB SF)
  case first =>
    go_region_held3 (fun w' => w'.cell? ⟨w.heap.size, 2, none⟩ = some (.int .u64 x) ∧ w'.cell? ⟨w.heap.size, 3, none⟩ = some (.int .u64 y))
      (first | (go_keep; done) | (refine ⟨?_, ?_⟩ <;> go_simp; done) | (refine ⟨?_, ?_⟩ <;> (rw [hb.cell (by first | omega | (simp; done) | (simp; omega))]; go_simp); done) | (refine ⟨?_, ?_⟩ <;> (rw [World.cell?_alloc_lt _ _ _ (by first | omega | (simp; done) | (simp; omega)), hb.cell (by first | omega | (simp; done) | (simp; omega))]; go_simp); done) | (refine ⟨?_, ?_⟩ <;> (rw [cellSet _ _ _ _ (by simp; omega), cellSet _ _ _ _ (by simp; omega), cellSet _ _ _ _ (by simp; omega), hb.cell (by first | omega | (simp; done) | (simp; omega))]; go_simp); done))
      (first | (go_at_call 16; refine (minus_any _ HY.out _).mono ?_; rintro e w' ⟨rfl, rfl⟩) | (go_at_call 12; refine (H3.out _ (by repeat (first | exact B2.out | exact Below.refl _ _ | refine Below.alloc ?_ (by have := B2.out.size; simp; omega) _ | refine below_drewN ?_ _))).mono ?_; rintro e w' ⟨rfl, hb⟩; obtain ⟨hc, hf⟩ := bcell hb; have hzz : w.heap.size < w'.heap.size := by (have := hb.size; simp at this; omega)))
    all_goals (try go_wp2_with fail)
    all_goals go_meet
    all_goals go_light
    all_goals clear hc hf
    all_goals first
      | (refine given_new ?_ hb _ _ _
         repeat (first | exact Below.refl _ _ | refine Below.alloc ?_ (by simp <;> omega) _ | refine below_drewN ?_ _))
      | (refine given_old ?_ (Nat.le_refl _) (.int .u64 0) (.int .u8 0) (.bool false) (by go_simp) (by go_simp) (by go_simp) hb _ _
         repeat (first | exact Below.refl _ _ | refine Below.alloc ?_ (by simp <;> omega) _ | refine below_drewN ?_ _))
  case rest =>
    obtain ⟨g3, rfl, hb3, l3⟩ := hcut
    have B3 : Hid (Below w.heap.size w wc) := B2.out.trans (hb3.mono B2.out.size)
    have L1 : Hid (Lies wc g1 SB SF false) := L1.out.later hb3
    have L2 : Hid (Lies wc g2 SB SF false) := L2.out.later hb3
    have L3 : Hid (Lies wc g3 SB SF false) := l3
    have R3 : Hid (LRec wc w.heap.size mo x y) := R2.out.later hb3
    clear hb3 l3 B2 R2 t1 t2 t3
    have t1 := R3.out.lt
    have t2 := R3.out.c2
    have t3 := R3.out.c3
    go_wp2_with fail
    have W3e : Hid (∃ W3, W3 = wc) := ⟨_, rfl⟩
    generalize wc = W3 at *
    go_cut [7] from 13 to 144 (Given W3 DB SF)
    case first =>
      go_region_held3 (fun w' => w'.cell? ⟨w.heap.size, 2, none⟩ = some (.int .u64 x) ∧ w'.cell? ⟨w.heap.size, 3, none⟩ = some (.int .u64 y))
        (first | (go_keep; done) | (refine ⟨?_, ?_⟩ <;> go_simp; done) | (refine ⟨?_, ?_⟩ <;> (rw [hb.cell (by first | omega | (simp; done) | (simp; omega))]; go_simp); done) | (refine ⟨?_, ?_⟩ <;> (rw [World.cell?_alloc_lt _ _ _ (by first | omega | (simp; done) | (simp; omega)), hb.cell (by first | omega | (simp; done) | (simp; omega))]; go_simp); done) | (refine ⟨?_, ?_⟩ <;> (rw [cellSet _ _ _ _ (by simp; omega), cellSet _ _ _ _ (by simp; omega), cellSet _ _ _ _ (by simp; omega), hb.cell (by first | omega | (simp; done) | (simp; omega))]; go_simp); done))
        (first | (go_at_call 17; refine (other_any _ _).mono ?_; rintro e w' ⟨rfl, rfl⟩) | (go_at_call 16; refine (minus_any _ HX.out _).mono ?_; rintro e w' ⟨rfl, rfl⟩) | (go_at_call 16; refine (minus_any _ HY.out _).mono ?_; rintro e w' ⟨rfl, rfl⟩) | (go_at_call 12; refine (H4.out _ (by repeat (first | exact B3.out | exact Below.refl _ _ | refine Below.alloc ?_ (by have := B3.out.size; simp; omega) _ | refine below_drewN ?_ _))).mono ?_; rintro e w' ⟨rfl, hb⟩; obtain ⟨hc, hf⟩ := bcell hb; have hzz : w.heap.size < w'.heap.size := by (have := hb.size; simp at this; omega)))
      all_goals (try go_wp2_with fail)
      all_goals go_meet
      all_goals go_light
      all_goals clear hc hf
      all_goals first
        | (refine given_new ?_ hb _ _ _
           repeat (first | exact Below.refl _ _ | refine Below.alloc ?_ (by simp <;> omega) _ | refine below_drewN ?_ _))
        | (refine given_old ?_ (Nat.le_refl _) (.int .u64 0) (.int .u8 0) (.bool false) (by go_simp) (by go_simp) (by go_simp) hb _ _
           repeat (first | exact Below.refl _ _ | refine Below.alloc ?_ (by simp <;> omega) _ | refine below_drewN ?_ _))
    case rest =>

      obtain ⟨g4, rfl, hb4, l4⟩ := hcut
      have B4 : Hid (Below w.heap.size w wc) := B3.out.trans (hb4.mono B3.out.size)
      have L1 : Hid (Lies wc g1 SB SF false) := L1.out.later hb4
      have L2 : Hid (Lies wc g2 SB SF false) := L2.out.later hb4
      have L3 : Hid (Lies wc g3 SB SF false) := L3.out.later hb4
      have L4 : Hid (Lies wc g4 DB SF false) := l4
      have R4 : Hid (LRec wc w.heap.size mo x y) := R3.out.later hb4
      clear hb4 l4 B3 R3 t1 t2 t3
      have t1 := R4.out.lt
      have t2 := R4.out.c2
      have t3 := R4.out.c3
      go_wp2_with fail
      refine (H5.out _ B4.out).mono ?_
      rintro e w5 ⟨rfl, hb5⟩
      have B5 : Hid (Below w.heap.size w (w5.alloc (.cells #[.int .u64 PB, .int .u8 PF, .bool false] 33))) := below_new B4.out hb5 _ (Nat.le_refl _)
      have L1 : Hid (Lies (w5.alloc (.cells #[.int .u64 PB, .int .u8 PF, .bool false] 33)) g1 SB SF false) := (L1.out.later hb5).alloc _
      have L2 : Hid (Lies (w5.alloc (.cells #[.int .u64 PB, .int .u8 PF, .bool false] 33)) g2 SB SF false) := (L2.out.later hb5).alloc _
      have L3 : Hid (Lies (w5.alloc (.cells #[.int .u64 PB, .int .u8 PF, .bool false] 33)) g3 SB SF false) := (L3.out.later hb5).alloc _
      have L4 : Hid (Lies (w5.alloc (.cells #[.int .u64 PB, .int .u8 PF, .bool false] 33)) g4 DB SF false) := (L4.out.later hb5).alloc _
      have L5 : Hid (Lies (w5.alloc (.cells #[.int .u64 PB, .int .u8 PF, .bool false] 33)) w5.heap.size PB PF false) := Lies.new _ _ _ _ _
      have R5 : Hid (LRec w5 w.heap.size mo x y) := R4.out.later hb5
      clear hb5 B4 R4 t1 t2 t3
      have t1 := R5.out.lt
      have t2 := R5.out.c2
      have t3 := R5.out.c3
      go_wp2_with fail
      refine (H6.out _ B5.out).mono ?_
      rintro e w6 ⟨rfl, hb6⟩
      have B6 : Hid (Below w.heap.size w (w6.alloc (.cells #[.int .u64 PB, .int .u8 PF, .bool false] 33))) := below_new B5.out hb6 _ (Nat.le_refl _)
      have L1 : Hid (Lies (w6.alloc (.cells #[.int .u64 PB, .int .u8 PF, .bool false] 33)) g1 SB SF false) := (L1.out.later hb6).alloc _
      have L2 : Hid (Lies (w6.alloc (.cells #[.int .u64 PB, .int .u8 PF, .bool false] 33)) g2 SB SF false) := (L2.out.later hb6).alloc _
      have L3 : Hid (Lies (w6.alloc (.cells #[.int .u64 PB, .int .u8 PF, .bool false] 33)) g3 SB SF false) := (L3.out.later hb6).alloc _
      have L4 : Hid (Lies (w6.alloc (.cells #[.int .u64 PB, .int .u8 PF, .bool false] 33)) g4 DB SF false) := (L4.out.later hb6).alloc _
      have L5 : Hid (Lies (w6.alloc (.cells #[.int .u64 PB, .int .u8 PF, .bool false] 33)) w5.heap.size PB PF false) := (L5.out.later hb6).alloc _
      have L6 : Hid (Lies (w6.alloc (.cells #[.int .u64 PB, .int .u8 PF, .bool false] 33)) w6.heap.size PB PF false) := Lies.new _ _ _ _ _
      have R6 : Hid (LRec (w6.alloc (.cells #[.int .u64 PB, .int .u8 PF, .bool false] 33)) w.heap.size mo x y) := (R5.out.later (below_new ((Below.refl _ _).alloc (Nat.le_refl _) _) hb6 _ (Nat.le_refl _)))
      clear hb6 B5 R5 t1 t2 t3
      go_wp2_with fail
      generalize w6.alloc (.cells #[.int .u64 PB, .int .u8 PF, .bool false] 33) = W6 at *
      generalize w5.heap.size = g5 at *
      generalize w6.heap.size = g6 at *
      have t1 := R6.out.lt
      have t2 := R6.out.c2
      have t3 := R6.out.c3
      go_cut [10] from 13 to 144 (Given W6 GB PF)
      case first =>
        go_region_held3 (fun w' => w'.cell? ⟨w.heap.size, 2, none⟩ = some (.int .u64 x) ∧ w'.cell? ⟨w.heap.size, 3, none⟩ = some (.int .u64 y))
          (first | (go_keep; done) | (refine ⟨?_, ?_⟩ <;> go_simp; done) | (refine ⟨?_, ?_⟩ <;> (rw [hb.cell (by first | omega | (simp; done) | (simp; omega))]; go_simp); done) | (refine ⟨?_, ?_⟩ <;> (rw [World.cell?_alloc_lt _ _ _ (by first | omega | (simp; done) | (simp; omega)), hb.cell (by first | omega | (simp; done) | (simp; omega))]; go_simp); done) | (refine ⟨?_, ?_⟩ <;> (rw [cellSet _ _ _ _ (by simp; omega), cellSet _ _ _ _ (by simp; omega), cellSet _ _ _ _ (by simp; omega), hb.cell (by first | omega | (simp; done) | (simp; omega))]; go_simp); done))
          (first | (go_at_call 17; refine (other_any _ _).mono ?_; rintro e w' ⟨rfl, rfl⟩) | (go_at_call 16; refine (minus_any _ HX.out _).mono ?_; rintro e w' ⟨rfl, rfl⟩) | (go_at_call 16; refine (minus_any _ HY.out _).mono ?_; rintro e w' ⟨rfl, rfl⟩) | (go_at_call 12; refine (H7.out _ (by repeat (first | exact B6.out | exact Below.refl _ _ | refine Below.alloc ?_ (by have := B6.out.size; simp; omega) _ | refine below_drewN ?_ _))).mono ?_; rintro e w' ⟨rfl, hb⟩; obtain ⟨hc, hf⟩ := bcell hb; have hzz : w.heap.size < w'.heap.size := by (have := hb.size; simp at this; omega)))
        all_goals (try go_wp2_with fail)
        all_goals go_meet
        all_goals go_light
        all_goals clear hc hf
        all_goals first
          | (refine given_new ?_ hb _ _ _
             repeat (first | exact Below.refl _ _ | refine Below.alloc ?_ (by simp <;> omega) _ | refine below_drewN ?_ _))
          | (refine given_old ?_ (Nat.le_refl _) (.int .u64 0) (.int .u8 0) (.bool false) (by go_simp) (by go_simp) (by go_simp) hb _ _
             repeat (first | exact Below.refl _ _ | refine Below.alloc ?_ (by simp <;> omega) _ | refine below_drewN ?_ _))
      case rest =>

        obtain ⟨g7, rfl, hb7, l7⟩ := hcut
        have B7 : Hid (Below w.heap.size w wc) := B6.out.trans (hb7.mono B6.out.size)
        have L1 := L1.out.later hb7
        have L2 := L2.out.later hb7
        have L3 := L3.out.later hb7
        have L4 := L4.out.later hb7
        have L5 := L5.out.later hb7
        have L6 := L6.out.later hb7
        clear hb7 B6 R6 t1 t2 t3
        have a0 := L1.c0
        have a1 := L1.c1
        have a2 := L1.c2
        have b0 := L2.c0
        have b1 := L2.c1
        have b2 := L2.c2
        have c0 := L3.c0
        have c1 := L3.c1
        have c2 := L3.c2
        have d0 := L4.c0
        have d1 := L4.c1
        have e0 := L5.c0
        have e1 := L5.c1
        have e2 := L5.c2
        have f0 := L6.c0
        have f1 := L6.c1
        have f2 := L6.c2
        have i0 := l7.c0
        have i1 := l7.c1
        clear L1 L2 L3 L4 L5 L6 l7
        have q1 := ne_res SB SF false SB SF false
        have q2 := ne_res PB PF false PB PF false
        rw [eqR_self, Bool.not_true] at q1 q2
        go_wp2_with fail
        -- the end
        clear H1 H2 H3 H4 H5 H6 H7 HX HY a1 a2 b0 b1 b2 c0 c1 c2 d1 e1 e2 f0 f1 f2 i1 q1 q2 n1 n2 hm
        go_cut [11] from 13 to 144 (fun s wx => s = .bool true ∧ wx.cell? ⟨g5, 0, none⟩ = some (.int .u64 PB) ∧ wx.cell? ⟨g7, 0, none⟩ = some (.int .u64 GB) ∧ Below w.heap.size w wx)
        case first =>
          by_cases nS : nanI SB = true
          · clear HS HP
            go_quiet (first | (go_at_call 14; exact Calls.quiet_of_same (nan_is nS _)))
            go_wp2_with fail
            go_meet
            exact ⟨rfl, e0, i0, below_drewN B7.out _⟩
          · have nSf : nanI SB = false := by simpa using nS
            clear nS
            by_cases hn : negI DB = SB
            · clear HS HP
              go_quiet (first | (go_at_call 14; exact Calls.quiet_of_same (nan_is nSf _)) | (go_at_call 16; exact Calls.quiet_of_same (minus_is hD.out hn _)))
              go_wp2_with fail
              go_meet
              exact ⟨rfl, e0, i0, below_drewN B7.out _⟩
            · obtain ⟨N, hN⟩ : ∃ N, negI DB = N := ⟨_, rfl⟩
              have hnb : (N == SB) = false := by rw [← hN]; simp [hn]
              have hz : IntKind.u64.wrap (SB * 2) = 0 ∧ IntKind.u64.wrap (DB * 2) = 0 := by have := HS.out; simp [nSf, hn] at this; exact this
              have z1 := hz.1
              have z2 := hz.2
              clear hn HS HP hz
              go_quiet (first | (go_at_call 14; exact Calls.quiet_of_same (nan_is nSf _)) | (go_at_call 16; exact Calls.quiet_of_same (minus_is hD.out hN _)))
              go_wp2_with fail
              go_meet
              exact ⟨rfl, e0, i0, below_drewN B7.out _⟩
        case rest =>
          obtain ⟨rfl, j0, k0, b8⟩ := hcut
          have B8 : Hid (Below w.heap.size w wc) := b8
          clear HS a0 d0 e0 i0 b8 B7
          go_wp2_with fail
          by_cases nP : nanI PB = true
          · clear HP
            go_quiet (first | (go_at_call 14; exact Calls.quiet_of_same (nan_is nP _)))
            go_wp2_with fail
            go_ret
            exact ⟨rfl, by repeat (first | exact B8.out | refine below_drewN ?_ _)⟩
          · have nPf : nanI PB = false := by simpa using nP
            have hn : negI GB = PB := by have := HP.out; simp [nPf] at this; exact this
            clear nP HP
            go_quiet (first | (go_at_call 14; exact Calls.quiet_of_same (nan_is nPf _)) | (go_at_call 16; exact Calls.quiet_of_same (minus_is hG.out hn _)))
            go_wp2_with fail
            go_ret
            exact ⟨rfl, by repeat (first | exact B8.out | refine below_drewN ?_ _)⟩
end Go.Proofs.YtcjihaafohnbeaaDoor
