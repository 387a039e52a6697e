import Derived.Test.YtcjihaafohnbeaaDoorDo
import Derived.Test.YtcjihaafohnbeaaDoorRtH
import Derived.Test.YtcjihaafohnbeaaDoorSC4
import Derived.Test.YtcjihaafohnbeaaDoorRefT
import Derived.Test.YtcjihaafohnbeaaDoorRefK
namespace Go.Proofs.YtcjihaafohnbeaaDoor
open Go.RowKit

/-- Whether one of two kinds is that of an infinity. -/
def anI (a b : Int) : Bool := a == 3 || b == 3
theorem eqNil9 (w : World) : (Go.binOp .eql 45 (.func (.func 31) #[] #[]) .nilFunc).run Tryd.prog w = .ok (.bool false) w := by kernel_rfl
theorem anI_any (x y : Nat) (op m z : Int) (hx : x < 18446744073709551616) (hy : y < 18446744073709551616) (w : World) :
    Calls Tryd.prog 31 #[.agg #[.int .u8 op, .int .u8 m, .int .u64 x, .int .u64 y, .int .u64 z]] w fun e w' => e = .returned (.bool (anI (kind x) (kind y))) ∧ Below w.heap.size w w' := by
  have HK : Hid (∀ w, Calls Tryd.prog 38 #[.agg #[.int .u8 op, .int .u8 m, .int .u64 x, .int .u64 y, .int .u64 z]] w fun e w' => e = .returned (.agg #[.int .i64 (kind x), .int .i64 (kind y)]) ∧ Below w.heap.size w w') := fun w => kindsOf_any x y op m z hx hy w
  have HH : Hid (∀ w, Calls Tryd.prog 39 #[.agg #[.int .i64 (kind x), .int .i64 (kind y)], .int .i64 3] w fun e w' => e = .returned (.bool (anI (kind x) (kind y))) ∧ Below w.heap.size w w') := fun w => has_any (kind x) (kind y) 3 w
  clear hx hy
  generalize kind x = KX at *
  generalize kind y = KY at *
  generalize anI KX KY = B at *
  go_enter Tryd.func31, Tryd.ntmps31
  go_wp2_with fail
  refine (HK.out _).mono ?_
  rintro e w1 ⟨rfl, hb1⟩
  have HB : Hid (Below w.heap.size w w1) := ((Below.refl _ _).alloc (Nat.le_refl _) _).trans (hb1.mono (by simp))
  clear hb1
  go_wp2_with fail
  refine (HH.out _).mono ?_
  rintro e w2 ⟨rfl, hb2⟩
  have HB2 : Hid (Below w.heap.size w w2) := HB.out.trans (hb2.mono HB.out.size)
  clear hb2
  go_wp2_with fail
  go_ret
  exact ⟨rfl, HB2.out⟩

set_option maxHeartbeats 8000000 in
set_option maxRecDepth 20000 in
theorem soft_do9 (op m : Int) (x y z : Nat) (n f : Nat) (ho : 1 ≤ op ∧ op ≤ 10) (hm : 0 ≤ m ∧ m ≤ 4) (hx : x < 18446744073709551616) (hy : y < 18446744073709551616) (hz : z < 18446744073709551616) (hn : n ≤ 3)
    (hix : ∀ w, (Instr.index 48 (.agg opsCells) (.int .u8 op)).run Tryd.prog w = .ok (.agg #[.int .i64 n, .func (.func f) #[] #[], .func (.func 31) #[] #[]]) w)
    (hnan : ([(x : Int), (y : Int), (z : Int)].take n).any isN = false) (w : World) (b fl : Int) (bad : Bool) (hent : ∀ args w, (callFunc f args).run Tryd.prog w = .ok (.enter f args) w) (hrec : ∀ w1, Below w.heap.size w w1 → Calls Tryd.prog f #[.agg #[.int .u8 op, .int .u8 m, .int .u64 x, .int .u64 y, .int .u64 z]] w1 fun e w' => e = .returned (.agg #[.int .u64 b, .int .u8 fl, .bool bad]) ∧ Below w1.heap.size w1 w') :
    Calls Tryd.prog 12 #[.agg #[.int .u8 op, .int .u8 m, .int .u64 x, .int .u64 y, .int .u64 z]] w fun e w' => e = .returned (.agg #[.int .u64 b, .int .u8 fl, .bool bad]) ∧ Below w.heap.size w w' := by
  have HREC : Hid (∀ w1, Below w.heap.size w w1 → Calls Tryd.prog f #[.agg #[.int .u8 op, .int .u8 m, .int .u64 x, .int .u64 y, .int .u64 z]] w1 fun e w' => e = .returned (.agg #[.int .u64 b, .int .u8 fl, .bool bad]) ∧ Below w1.heap.size w1 w') := hrec
  clear hrec
  have HA : Hid (∀ (W : World), Calls Tryd.prog 20 #[.slice (some ⟨W.heap.size, 0, none⟩) n 3] (W.alloc (.cells #[.int .u64 x, .int .u64 y, .int .u64 z] 50)) fun e w' =>
      e = .returned (.tuple #[.agg #[.int .u64 (nanBits ([(x : Int), (y : Int), (z : Int)].take n)), .int .u8 (nanFlag ([(x : Int), (y : Int), (z : Int)].take n)), .bool false], .bool false]) ∧ Below (W.heap.size + 1) (W.alloc (.cells #[.int .u64 x, .int .u64 y, .int .u64 z] 50)) w') := fun W => by
    have h := firstNaN_any W.heap.size 0 n 3 ([(x : Int), (y : Int), (z : Int)].take n) (by simp; omega) hn (by decide) (W.alloc (.cells #[.int .u64 x, .int .u64 y, .int .u64 z] 50)) (by simp) (fun i hi => args_cells (by omega) (by omega) (by omega) hn i hi)
    rw [hnan, World.size_alloc] at h
    exact h
  obtain ⟨o1, o2⟩ := ho
  obtain ⟨m1, m2⟩ := hm
  have hnn : (n : Int) ≤ 3 := by omega
  clear hnan hn hx hy hz
  generalize nanBits ([(x : Int), (y : Int), (z : Int)].take n) = NB at *
  generalize nanFlag ([(x : Int), (y : Int), (z : Int)].take n) = NF at *
  go_enter Tryd.func12, Tryd.ntmps12
  go_wp2
  go_cut [3] from 7 to 61 (Opened w ((w.alloc (.cells #[.int .u8 op, .int .u8 m, .int .u64 x, .int .u64 y, .int .u64 z] 36)).alloc (.cells #[.int .u64 0, .int .u8 0, .bool false] 33)) [.int .i64 n, .func (.func f) #[] #[], .func (.func 31) #[] #[]])
  case first =>
    go_region_held3 (fun w' => w'.cell? ⟨w.heap.size, 0, none⟩ = some (.int .u8 op)) (first | go_keep | (rw [cellSet _ _ _ _ (by simp; omega), cellSet _ _ _ _ (by simp; omega), cellSet _ _ _ _ (by simp; omega), hb.cell (by first | omega | (simp; done) | (simp; omega))]; first | assumption | go_simp) | (rw [World.cell?_alloc_lt _ _ _ (by first | omega | (simp; done) | (simp; omega))]; assumption) | (rw [World.cell?_alloc_lt _ _ _ (by first | omega | (simp; done) | (simp; omega)), hb.cell (by first | omega | (simp; done) | (simp; omega))]; first | assumption | go_simp) | (rw [hb.cell (by first | omega | (simp; done) | (simp; omega))]; first | assumption | go_simp)) ((go_at_call 19; refine (operations_any _).mono ?_; rintro e w' ⟨rfl, hb⟩; obtain ⟨hc, hf⟩ := bcell hb; have hzz : w.heap.size + 1 < w'.heap.size := by (have := hb.size; simp at this; omega)))
    all_goals (try go_wp2_with fail)
    all_goals go_meet
    all_goals go_light
    all_goals clear hc hf hix
    · refine opened_new ?_ ?_ _ _ (by simp)
      · simp
      · exact ⟨hb.os, hb.tape, hb.output, hb.size, hb.block⟩
    · refine opened_new ?_ ?_ _ _ (by simp)
      · simp
      · exact ⟨hb.os, hb.tape, hb.output, hb.size, hb.block⟩
    · refine opened_old ?_ _ (.int .i64 0) .nilFunc .nilFunc 47 rfl ?_ ?_ _ _ _
      · rfl
      · simp
      · exact ⟨hb.os, hb.tape, hb.output, hb.size, hb.block⟩
  case rest =>
    obtain ⟨g, rfl, hg1, hbel, hk⟩ := hcut
    have K0 : Hid (Rows2 w wc [.int .u8 op, .int .u8 m, .int .u64 x, .int .u64 y, .int .u64 z] [.int .u64 0, .int .u8 0, .bool false]) := (Rows2.start w _ _ _ _ (by simp) (by simp)).below' hbel (Nat.le_refl _)
    have G0 : Hid (Blk wc g [.int .i64 n, .func (.func f) #[] #[], .func (.func 31) #[] #[]]) := hk
    clear hbel hk hix
    have c0 := K0.out.x.cells 0 _ rfl
    have c1 := K0.out.x.cells 1 _ rfl
    have c2 := K0.out.x.cells 2 _ rfl
    have c3 := K0.out.x.cells 3 _ rfl
    have c4 := K0.out.x.cells 4 _ rfl
    have g0 := G0.out.cells 0 _ rfl
    have g1 := G0.out.cells 1 _ rfl
    have g2 := G0.out.cells 2 _ rfl
    have z1 := K0.out.size
    have z0 := K0.out.x.lt
    have z3 := G0.out.lt
    go_wp2_with fail
    refine (HA.out _).mono ?_
    rintro e w1 ⟨rfl, hb1⟩
    have hb2 : Below wc.heap.size wc w1 := ((Below.refl _ _).alloc (Nat.le_refl _) _).trans (hb1.mono (by simp))
    have K1 : Hid (Rows2 w w1 [.int .u8 op, .int .u8 m, .int .u64 x, .int .u64 y, .int .u64 z] [.int .u64 0, .int .u8 0, .bool false]) := K0.out.later hb2
    have G1 : Hid (Blk w1 g [.int .i64 n, .func (.func f) #[] #[], .func (.func 31) #[] #[]]) := G0.out.later hb2
    clear hb1 hb2 HA K0 G0 c0 c1 c2 c3 c4 g0 g1 g2 z1 z0 z3
    have c0 := K1.out.x.cells 0 _ rfl
    have c1 := K1.out.x.cells 1 _ rfl
    have c2 := K1.out.x.cells 2 _ rfl
    have c3 := K1.out.x.cells 3 _ rfl
    have c4 := K1.out.x.cells 4 _ rfl
    have g0 := G1.out.cells 0 _ rfl
    have g1 := G1.out.cells 1 _ rfl
    have g2 := G1.out.cells 2 _ rfl
    have r0 := K1.out.r.cells 0 _ rfl
    have r1 := K1.out.r.cells 1 _ rfl
    have r2 := K1.out.r.cells 2 _ rfl
    have f0 := K1.out.r.live 0 _ rfl
    have f1 := K1.out.r.live 1 _ rfl
    have f2 := K1.out.r.live 2 _ rfl
    have z1 := K1.out.size
    have z0 := K1.out.x.lt
    have z3 := G1.out.lt
    go_wp2_with fail
    refine (HREC.out _ (K1.out.below.alloc (by omega) _)).mono ?_
    rintro e w2 ⟨rfl, hb2⟩
    have K2 : Hid (Rows2 w w2 [.int .u8 op, .int .u8 m, .int .u64 x, .int .u64 y, .int .u64 z] [.int .u64 0, .int .u8 0, .bool false]) := (K1.out.below' ((Below.refl _ _).alloc (Nat.le_refl _) _) (by omega)).later hb2
    clear hb2 K1 G1 c0 c1 c2 c3 c4 g0 g1 g2 r0 r1 r2 f0 f1 f2 z1 z0 z3
    have r0 := K2.out.r.cells 0 _ rfl
    have r1 := K2.out.r.cells 1 _ rfl
    have r2 := K2.out.r.cells 2 _ rfl
    have f0 := K2.out.r.live 0 _ rfl
    have f1 := K2.out.r.live 1 _ rfl
    have f2 := K2.out.r.live 2 _ rfl
    go_wp2_with fail
    go_light
    refine bodyPost_ret (v := .agg #[.int .u64 b, .int .u8 fl, .bool bad]) (results_do rfl (((K2.out.r.set 0 _ (by simp)).set 1 _ (by simp)).set 2 _ (by simp))) rfl ⟨rfl, ?_⟩
    exact ((K2.out.below.setCell (by simp) _).setCell (by simp) _).setCell (by simp) _

set_option maxHeartbeats 8000000 in
set_option maxRecDepth 20000 in
theorem soft_nan9 (op m : Int) (x y z : Nat) (n f : Nat) (ho : 1 ≤ op ∧ op ≤ 10) (hm : 0 ≤ m ∧ m ≤ 4) (hx : x < 18446744073709551616) (hy : y < 18446744073709551616) (hz : z < 18446744073709551616) (hn : n ≤ 3)
    (hix : ∀ w, (Instr.index 48 (.agg opsCells) (.int .u8 op)).run Tryd.prog w = .ok (.agg #[.int .i64 n, .func (.func f) #[] #[], .func (.func 31) #[] #[]]) w)
    (hnan : ([(x : Int), (y : Int), (z : Int)].take n).any isN = true) (hfl : (nanFlag ([(x : Int), (y : Int), (z : Int)].take n) == 16) = true) (w : World) :
    Calls Tryd.prog 12 #[.agg #[.int .u8 op, .int .u8 m, .int .u64 x, .int .u64 y, .int .u64 z]] w fun e w' => e = .returned (.agg #[.int .u64 (nanBits ([(x : Int), (y : Int), (z : Int)].take n)), .int .u8 (nanFlag ([(x : Int), (y : Int), (z : Int)].take n)), .bool false]) ∧ Below w.heap.size w w' := by
  have HA : Hid (∀ (W : World), Calls Tryd.prog 20 #[.slice (some ⟨W.heap.size, 0, none⟩) n 3] (W.alloc (.cells #[.int .u64 x, .int .u64 y, .int .u64 z] 50)) fun e w' =>
      e = .returned (.tuple #[.agg #[.int .u64 (nanBits ([(x : Int), (y : Int), (z : Int)].take n)), .int .u8 (nanFlag ([(x : Int), (y : Int), (z : Int)].take n)), .bool false], .bool true]) ∧ Below (W.heap.size + 1) (W.alloc (.cells #[.int .u64 x, .int .u64 y, .int .u64 z] 50)) w') := fun W => by
    have h := firstNaN_any W.heap.size 0 n 3 ([(x : Int), (y : Int), (z : Int)].take n) (by simp; omega) hn (by decide) (W.alloc (.cells #[.int .u64 x, .int .u64 y, .int .u64 z] 50)) (by simp) (fun i hi => args_cells (by omega) (by omega) (by omega) hn i hi)
    rw [hnan, World.size_alloc] at h
    exact h
  obtain ⟨o1, o2⟩ := ho
  obtain ⟨m1, m2⟩ := hm
  have hnn : (n : Int) ≤ 3 := by omega
  clear hnan hn hx hy hz
  generalize nanBits ([(x : Int), (y : Int), (z : Int)].take n) = NB at *
  generalize nanFlag ([(x : Int), (y : Int), (z : Int)].take n) = NF at *
  go_enter Tryd.func12, Tryd.ntmps12
  go_wp2
  go_cut [3] from 7 to 61 (Opened w ((w.alloc (.cells #[.int .u8 op, .int .u8 m, .int .u64 x, .int .u64 y, .int .u64 z] 36)).alloc (.cells #[.int .u64 0, .int .u8 0, .bool false] 33)) [.int .i64 n, .func (.func f) #[] #[], .func (.func 31) #[] #[]])
  case first =>
    go_region_held3 (fun w' => w'.cell? ⟨w.heap.size, 0, none⟩ = some (.int .u8 op)) (first | go_keep | (rw [cellSet _ _ _ _ (by simp; omega), cellSet _ _ _ _ (by simp; omega), cellSet _ _ _ _ (by simp; omega), hb.cell (by first | omega | (simp; done) | (simp; omega))]; first | assumption | go_simp) | (rw [World.cell?_alloc_lt _ _ _ (by first | omega | (simp; done) | (simp; omega))]; assumption) | (rw [World.cell?_alloc_lt _ _ _ (by first | omega | (simp; done) | (simp; omega)), hb.cell (by first | omega | (simp; done) | (simp; omega))]; first | assumption | go_simp) | (rw [hb.cell (by first | omega | (simp; done) | (simp; omega))]; first | assumption | go_simp)) ((go_at_call 19; refine (operations_any _).mono ?_; rintro e w' ⟨rfl, hb⟩; obtain ⟨hc, hf⟩ := bcell hb; have hzz : w.heap.size + 1 < w'.heap.size := by (have := hb.size; simp at this; omega)))
    all_goals (try go_wp2_with fail)
    all_goals go_meet
    all_goals go_light
    all_goals clear hc hf hix
    · refine opened_new ?_ ?_ _ _ (by simp)
      · simp
      · exact ⟨hb.os, hb.tape, hb.output, hb.size, hb.block⟩
    · refine opened_new ?_ ?_ _ _ (by simp)
      · simp
      · exact ⟨hb.os, hb.tape, hb.output, hb.size, hb.block⟩
    · refine opened_old ?_ _ (.int .i64 0) .nilFunc .nilFunc 47 rfl ?_ ?_ _ _ _
      · rfl
      · simp
      · exact ⟨hb.os, hb.tape, hb.output, hb.size, hb.block⟩
  case rest =>
    obtain ⟨g, rfl, hg1, hbel, hk⟩ := hcut
    have K0 : Hid (Rows2 w wc [.int .u8 op, .int .u8 m, .int .u64 x, .int .u64 y, .int .u64 z] [.int .u64 0, .int .u8 0, .bool false]) := (Rows2.start w _ _ _ _ (by simp) (by simp)).below' hbel (Nat.le_refl _)
    have G0 : Hid (Blk wc g [.int .i64 n, .func (.func f) #[] #[], .func (.func 31) #[] #[]]) := hk
    clear hbel hk hix
    have c0 := K0.out.x.cells 0 _ rfl
    have c1 := K0.out.x.cells 1 _ rfl
    have c2 := K0.out.x.cells 2 _ rfl
    have c3 := K0.out.x.cells 3 _ rfl
    have c4 := K0.out.x.cells 4 _ rfl
    have g0 := G0.out.cells 0 _ rfl
    have g1 := G0.out.cells 1 _ rfl
    have g2 := G0.out.cells 2 _ rfl
    have z1 := K0.out.size
    have z0 := K0.out.x.lt
    have z3 := G0.out.lt
    go_wp2_with fail
    refine (HA.out _).mono ?_
    rintro e w1 ⟨rfl, hb1⟩
    have hb2 : Below wc.heap.size wc w1 := ((Below.refl _ _).alloc (Nat.le_refl _) _).trans (hb1.mono (by simp))
    have K1 : Hid (Rows2 w w1 [.int .u8 op, .int .u8 m, .int .u64 x, .int .u64 y, .int .u64 z] [.int .u64 0, .int .u8 0, .bool false]) := K0.out.later hb2
    have G1 : Hid (Blk w1 g [.int .i64 n, .func (.func f) #[] #[], .func (.func 31) #[] #[]]) := G0.out.later hb2
    clear hb1 hb2 HA K0 G0 c0 c1 c2 c3 c4 g0 g1 g2 z1 z0 z3
    have c0 := K1.out.x.cells 0 _ rfl
    have c1 := K1.out.x.cells 1 _ rfl
    have c2 := K1.out.x.cells 2 _ rfl
    have c3 := K1.out.x.cells 3 _ rfl
    have c4 := K1.out.x.cells 4 _ rfl
    have g0 := G1.out.cells 0 _ rfl
    have g1 := G1.out.cells 1 _ rfl
    have g2 := G1.out.cells 2 _ rfl
    have r0 := K1.out.r.cells 0 _ rfl
    have r1 := K1.out.r.cells 1 _ rfl
    have r2 := K1.out.r.cells 2 _ rfl
    have f0 := K1.out.r.live 0 _ rfl
    have f1 := K1.out.r.live 1 _ rfl
    have f2 := K1.out.r.live 2 _ rfl
    have z1 := K1.out.size
    have z0 := K1.out.x.lt
    have z3 := G1.out.lt
    go_wp2_with fail
    go_light
    refine bodyPost_ret (v := .agg #[.int .u64 NB, .int .u8 NF, .bool false]) (results_do rfl ((((K1.out.r.set 0 _ (by simp)).set 1 _ (by simp)).set 2 _ (by simp)).alloc _)) rfl ⟨rfl, ?_⟩
    exact (((K1.out.below.setCell (by simp) _).setCell (by simp) _).setCell (by simp) _).alloc (by simp; omega) _

set_option maxHeartbeats 8000000 in
set_option maxRecDepth 20000 in
theorem soft_off9 (op m : Int) (x y z : Nat) (n f : Nat) (ho : 1 ≤ op ∧ op ≤ 10) (hm : 0 ≤ m ∧ m ≤ 4) (hx : x < 18446744073709551616) (hy : y < 18446744073709551616) (hz : z < 18446744073709551616) (hn : n ≤ 3)
    (hix : ∀ w, (Instr.index 48 (.agg opsCells) (.int .u8 op)).run Tryd.prog w = .ok (.agg #[.int .i64 n, .func (.func f) #[] #[], .func (.func 31) #[] #[]]) w)
    (hnan : ([(x : Int), (y : Int), (z : Int)].take n).any isN = true) (hfl : (nanFlag ([(x : Int), (y : Int), (z : Int)].take n) == 16) = false) (hzt : anI (kind x) (kind y) = false) (w : World) :
    Calls Tryd.prog 12 #[.agg #[.int .u8 op, .int .u8 m, .int .u64 x, .int .u64 y, .int .u64 z]] w fun e w' => e = .returned (.agg #[.int .u64 (nanBits ([(x : Int), (y : Int), (z : Int)].take n)), .int .u8 (nanFlag ([(x : Int), (y : Int), (z : Int)].take n)), .bool false]) ∧ Below w.heap.size w w' := by
  have HZT : Hid (∀ w, Calls Tryd.prog 31 #[.agg #[.int .u8 op, .int .u8 m, .int .u64 x, .int .u64 y, .int .u64 z]] w fun e w' => e = .returned (.bool false) ∧ Below w.heap.size w w') := fun w => by rw [← hzt]; exact anI_any x y op m z hx hy w
  clear hzt
  have en1 := eqNil1
  have en2 := eqNil9
  have HA : Hid (∀ (W : World), Calls Tryd.prog 20 #[.slice (some ⟨W.heap.size, 0, none⟩) n 3] (W.alloc (.cells #[.int .u64 x, .int .u64 y, .int .u64 z] 50)) fun e w' =>
      e = .returned (.tuple #[.agg #[.int .u64 (nanBits ([(x : Int), (y : Int), (z : Int)].take n)), .int .u8 (nanFlag ([(x : Int), (y : Int), (z : Int)].take n)), .bool false], .bool true]) ∧ Below (W.heap.size + 1) (W.alloc (.cells #[.int .u64 x, .int .u64 y, .int .u64 z] 50)) w') := fun W => by
    have h := firstNaN_any W.heap.size 0 n 3 ([(x : Int), (y : Int), (z : Int)].take n) (by simp; omega) hn (by decide) (W.alloc (.cells #[.int .u64 x, .int .u64 y, .int .u64 z] 50)) (by simp) (fun i hi => args_cells (by omega) (by omega) (by omega) hn i hi)
    rw [hnan, World.size_alloc] at h
    exact h
  obtain ⟨o1, o2⟩ := ho
  obtain ⟨m1, m2⟩ := hm
  have hnn : (n : Int) ≤ 3 := by omega
  clear hnan hn hx hy hz
  generalize nanBits ([(x : Int), (y : Int), (z : Int)].take n) = NB at *
  generalize nanFlag ([(x : Int), (y : Int), (z : Int)].take n) = NF at *
  go_enter Tryd.func12, Tryd.ntmps12
  go_wp2
  go_cut [3] from 7 to 61 (Opened w ((w.alloc (.cells #[.int .u8 op, .int .u8 m, .int .u64 x, .int .u64 y, .int .u64 z] 36)).alloc (.cells #[.int .u64 0, .int .u8 0, .bool false] 33)) [.int .i64 n, .func (.func f) #[] #[], .func (.func 31) #[] #[]])
  case first =>
    go_region_held3 (fun w' => w'.cell? ⟨w.heap.size, 0, none⟩ = some (.int .u8 op)) (first | go_keep | (rw [cellSet _ _ _ _ (by simp; omega), cellSet _ _ _ _ (by simp; omega), cellSet _ _ _ _ (by simp; omega), hb.cell (by first | omega | (simp; done) | (simp; omega))]; first | assumption | go_simp) | (rw [World.cell?_alloc_lt _ _ _ (by first | omega | (simp; done) | (simp; omega))]; assumption) | (rw [World.cell?_alloc_lt _ _ _ (by first | omega | (simp; done) | (simp; omega)), hb.cell (by first | omega | (simp; done) | (simp; omega))]; first | assumption | go_simp) | (rw [hb.cell (by first | omega | (simp; done) | (simp; omega))]; first | assumption | go_simp)) ((go_at_call 19; refine (operations_any _).mono ?_; rintro e w' ⟨rfl, hb⟩; obtain ⟨hc, hf⟩ := bcell hb; have hzz : w.heap.size + 1 < w'.heap.size := by (have := hb.size; simp at this; omega)))
    all_goals (try go_wp2_with fail)
    all_goals go_meet
    all_goals go_light
    all_goals clear hc hf hix
    · refine opened_new ?_ ?_ _ _ (by simp)
      · simp
      · exact ⟨hb.os, hb.tape, hb.output, hb.size, hb.block⟩
    · refine opened_new ?_ ?_ _ _ (by simp)
      · simp
      · exact ⟨hb.os, hb.tape, hb.output, hb.size, hb.block⟩
    · refine opened_old ?_ _ (.int .i64 0) .nilFunc .nilFunc 47 rfl ?_ ?_ _ _ _
      · rfl
      · simp
      · exact ⟨hb.os, hb.tape, hb.output, hb.size, hb.block⟩
  case rest =>
    obtain ⟨g, rfl, hg1, hbel, hk⟩ := hcut
    have K0 : Hid (Rows2 w wc [.int .u8 op, .int .u8 m, .int .u64 x, .int .u64 y, .int .u64 z] [.int .u64 0, .int .u8 0, .bool false]) := (Rows2.start w _ _ _ _ (by simp) (by simp)).below' hbel (Nat.le_refl _)
    have G0 : Hid (Blk wc g [.int .i64 n, .func (.func f) #[] #[], .func (.func 31) #[] #[]]) := hk
    clear hbel hk hix
    have c0 := K0.out.x.cells 0 _ rfl
    have c1 := K0.out.x.cells 1 _ rfl
    have c2 := K0.out.x.cells 2 _ rfl
    have c3 := K0.out.x.cells 3 _ rfl
    have c4 := K0.out.x.cells 4 _ rfl
    have g0 := G0.out.cells 0 _ rfl
    have g1 := G0.out.cells 1 _ rfl
    have g2 := G0.out.cells 2 _ rfl
    have z1 := K0.out.size
    have z0 := K0.out.x.lt
    have z3 := G0.out.lt
    go_wp2_with fail
    refine (HA.out _).mono ?_
    rintro e w1 ⟨rfl, hb1⟩
    have hb2 : Below wc.heap.size wc w1 := ((Below.refl _ _).alloc (Nat.le_refl _) _).trans (hb1.mono (by simp))
    have K1 : Hid (Rows2 w w1 [.int .u8 op, .int .u8 m, .int .u64 x, .int .u64 y, .int .u64 z] [.int .u64 0, .int .u8 0, .bool false]) := K0.out.later hb2
    have G1 : Hid (Blk w1 g [.int .i64 n, .func (.func f) #[] #[], .func (.func 31) #[] #[]]) := G0.out.later hb2
    clear hb1 hb2 HA K0 G0 c0 c1 c2 c3 c4 g0 g1 g2 z1 z0 z3
    have c0 := K1.out.x.cells 0 _ rfl
    have c1 := K1.out.x.cells 1 _ rfl
    have c2 := K1.out.x.cells 2 _ rfl
    have c3 := K1.out.x.cells 3 _ rfl
    have c4 := K1.out.x.cells 4 _ rfl
    have g0 := G1.out.cells 0 _ rfl
    have g1 := G1.out.cells 1 _ rfl
    have g2 := G1.out.cells 2 _ rfl
    have r0 := K1.out.r.cells 0 _ rfl
    have r1 := K1.out.r.cells 1 _ rfl
    have r2 := K1.out.r.cells 2 _ rfl
    have f0 := K1.out.r.live 0 _ rfl
    have f1 := K1.out.r.live 1 _ rfl
    have f2 := K1.out.r.live 2 _ rfl
    have z1 := K1.out.size
    have z0 := K1.out.x.lt
    have z3 := G1.out.lt
    go_wp2_with fail
    refine (HZT.out _).mono ?_
    rintro e w2 ⟨rfl, hb2⟩
    have N2 : Hid (Blk w2 w1.heap.size [.int .u64 NB, .int .u8 NF, .bool false]) := (Blk.new _ _ _ (by simp)).below hb2 (by simp)
    have hb3 : Below w1.heap.size w1 w2 := ((Below.refl _ _).alloc (Nat.le_refl _) _).trans (hb2.mono (by simp))
    have K2 : Hid (Rows2 w w2 [.int .u8 op, .int .u8 m, .int .u64 x, .int .u64 y, .int .u64 z] [.int .u64 0, .int .u8 0, .bool false]) := K1.out.later hb3
    have G2 : Hid (Blk w2 g [.int .i64 n, .func (.func f) #[] #[], .func (.func 31) #[] #[]]) := G1.out.later hb3
    have l1 := K1.out.size
    clear hb2 hb3 K1 G1 c0 c1 c2 c3 c4 g0 g1 g2 r0 r1 r2 f0 f1 f2 z1 z0 z3
    have c0 := K2.out.x.cells 0 _ rfl
    have c1 := K2.out.x.cells 1 _ rfl
    have c2 := K2.out.x.cells 2 _ rfl
    have c3 := K2.out.x.cells 3 _ rfl
    have c4 := K2.out.x.cells 4 _ rfl
    have g0 := G2.out.cells 0 _ rfl
    have g1 := G2.out.cells 1 _ rfl
    have g2 := G2.out.cells 2 _ rfl
    have d0 := N2.out.cells 0 _ rfl
    have d1 := N2.out.cells 1 _ rfl
    have d2 := N2.out.cells 2 _ rfl
    have r0 := K2.out.r.cells 0 _ rfl
    have r1 := K2.out.r.cells 1 _ rfl
    have r2 := K2.out.r.cells 2 _ rfl
    have f0 := K2.out.r.live 0 _ rfl
    have f1 := K2.out.r.live 1 _ rfl
    have f2 := K2.out.r.live 2 _ rfl
    go_wp2_with fail
    go_light
    refine bodyPost_ret (v := .agg #[.int .u64 NB, .int .u8 NF, .bool false]) (results_do rfl (((K2.out.r.set 0 _ (by simp)).set 1 _ (by simp)).set 2 _ (by simp))) rfl ⟨rfl, ?_⟩
    exact ((K2.out.below.setCell (by simp) _).setCell (by simp) _).setCell (by simp) _

set_option maxHeartbeats 8000000 in
set_option maxRecDepth 20000 in
theorem soft_on9 (op m : Int) (x y z : Nat) (n f : Nat) (ho : 1 ≤ op ∧ op ≤ 10) (hm : 0 ≤ m ∧ m ≤ 4) (hx : x < 18446744073709551616) (hy : y < 18446744073709551616) (hz : z < 18446744073709551616) (hn : n ≤ 3)
    (hix : ∀ w, (Instr.index 48 (.agg opsCells) (.int .u8 op)).run Tryd.prog w = .ok (.agg #[.int .i64 n, .func (.func f) #[] #[], .func (.func 31) #[] #[]]) w)
    (hnan : ([(x : Int), (y : Int), (z : Int)].take n).any isN = true) (hfl : (nanFlag ([(x : Int), (y : Int), (z : Int)].take n) == 16) = false) (hzt : anI (kind x) (kind y) = true) (w : World) (b fl : Int) (bad : Bool) (hent : ∀ args w, (callFunc f args).run Tryd.prog w = .ok (.enter f args) w) (hrec : ∀ w1, Below w.heap.size w w1 → Calls Tryd.prog f #[.agg #[.int .u8 op, .int .u8 m, .int .u64 x, .int .u64 y, .int .u64 z]] w1 fun e w' => e = .returned (.agg #[.int .u64 b, .int .u8 fl, .bool bad]) ∧ Below w1.heap.size w1 w') :
    Calls Tryd.prog 12 #[.agg #[.int .u8 op, .int .u8 m, .int .u64 x, .int .u64 y, .int .u64 z]] w fun e w' => e = .returned (.agg #[.int .u64 b, .int .u8 fl, .bool bad]) ∧ Below w.heap.size w w' := by
  have HREC : Hid (∀ w1, Below w.heap.size w w1 → Calls Tryd.prog f #[.agg #[.int .u8 op, .int .u8 m, .int .u64 x, .int .u64 y, .int .u64 z]] w1 fun e w' => e = .returned (.agg #[.int .u64 b, .int .u8 fl, .bool bad]) ∧ Below w1.heap.size w1 w') := hrec
  clear hrec
  have HZT : Hid (∀ w, Calls Tryd.prog 31 #[.agg #[.int .u8 op, .int .u8 m, .int .u64 x, .int .u64 y, .int .u64 z]] w fun e w' => e = .returned (.bool true) ∧ Below w.heap.size w w') := fun w => by rw [← hzt]; exact anI_any x y op m z hx hy w
  clear hzt
  have en1 := eqNil1
  have en2 := eqNil9
  have HA : Hid (∀ (W : World), Calls Tryd.prog 20 #[.slice (some ⟨W.heap.size, 0, none⟩) n 3] (W.alloc (.cells #[.int .u64 x, .int .u64 y, .int .u64 z] 50)) fun e w' =>
      e = .returned (.tuple #[.agg #[.int .u64 (nanBits ([(x : Int), (y : Int), (z : Int)].take n)), .int .u8 (nanFlag ([(x : Int), (y : Int), (z : Int)].take n)), .bool false], .bool true]) ∧ Below (W.heap.size + 1) (W.alloc (.cells #[.int .u64 x, .int .u64 y, .int .u64 z] 50)) w') := fun W => by
    have h := firstNaN_any W.heap.size 0 n 3 ([(x : Int), (y : Int), (z : Int)].take n) (by simp; omega) hn (by decide) (W.alloc (.cells #[.int .u64 x, .int .u64 y, .int .u64 z] 50)) (by simp) (fun i hi => args_cells (by omega) (by omega) (by omega) hn i hi)
    rw [hnan, World.size_alloc] at h
    exact h
  obtain ⟨o1, o2⟩ := ho
  obtain ⟨m1, m2⟩ := hm
  have hnn : (n : Int) ≤ 3 := by omega
  clear hnan hn hx hy hz
  generalize nanBits ([(x : Int), (y : Int), (z : Int)].take n) = NB at *
  generalize nanFlag ([(x : Int), (y : Int), (z : Int)].take n) = NF at *
  go_enter Tryd.func12, Tryd.ntmps12
  go_wp2
  go_cut [3] from 7 to 61 (Opened w ((w.alloc (.cells #[.int .u8 op, .int .u8 m, .int .u64 x, .int .u64 y, .int .u64 z] 36)).alloc (.cells #[.int .u64 0, .int .u8 0, .bool false] 33)) [.int .i64 n, .func (.func f) #[] #[], .func (.func 31) #[] #[]])
  case first =>
    go_region_held3 (fun w' => w'.cell? ⟨w.heap.size, 0, none⟩ = some (.int .u8 op)) (first | go_keep | (rw [cellSet _ _ _ _ (by simp; omega), cellSet _ _ _ _ (by simp; omega), cellSet _ _ _ _ (by simp; omega), hb.cell (by first | omega | (simp; done) | (simp; omega))]; first | assumption | go_simp) | (rw [World.cell?_alloc_lt _ _ _ (by first | omega | (simp; done) | (simp; omega))]; assumption) | (rw [World.cell?_alloc_lt _ _ _ (by first | omega | (simp; done) | (simp; omega)), hb.cell (by first | omega | (simp; done) | (simp; omega))]; first | assumption | go_simp) | (rw [hb.cell (by first | omega | (simp; done) | (simp; omega))]; first | assumption | go_simp)) ((go_at_call 19; refine (operations_any _).mono ?_; rintro e w' ⟨rfl, hb⟩; obtain ⟨hc, hf⟩ := bcell hb; have hzz : w.heap.size + 1 < w'.heap.size := by (have := hb.size; simp at this; omega)))
    all_goals (try go_wp2_with fail)
    all_goals go_meet
    all_goals go_light
    all_goals clear hc hf hix
    · refine opened_new ?_ ?_ _ _ (by simp)
      · simp
      · exact ⟨hb.os, hb.tape, hb.output, hb.size, hb.block⟩
    · refine opened_new ?_ ?_ _ _ (by simp)
      · simp
      · exact ⟨hb.os, hb.tape, hb.output, hb.size, hb.block⟩
    · refine opened_old ?_ _ (.int .i64 0) .nilFunc .nilFunc 47 rfl ?_ ?_ _ _ _
      · rfl
      · simp
      · exact ⟨hb.os, hb.tape, hb.output, hb.size, hb.block⟩
  case rest =>
    obtain ⟨g, rfl, hg1, hbel, hk⟩ := hcut
    have K0 : Hid (Rows2 w wc [.int .u8 op, .int .u8 m, .int .u64 x, .int .u64 y, .int .u64 z] [.int .u64 0, .int .u8 0, .bool false]) := (Rows2.start w _ _ _ _ (by simp) (by simp)).below' hbel (Nat.le_refl _)
    have G0 : Hid (Blk wc g [.int .i64 n, .func (.func f) #[] #[], .func (.func 31) #[] #[]]) := hk
    clear hbel hk hix
    have c0 := K0.out.x.cells 0 _ rfl
    have c1 := K0.out.x.cells 1 _ rfl
    have c2 := K0.out.x.cells 2 _ rfl
    have c3 := K0.out.x.cells 3 _ rfl
    have c4 := K0.out.x.cells 4 _ rfl
    have g0 := G0.out.cells 0 _ rfl
    have g1 := G0.out.cells 1 _ rfl
    have g2 := G0.out.cells 2 _ rfl
    have z1 := K0.out.size
    have z0 := K0.out.x.lt
    have z3 := G0.out.lt
    go_wp2_with fail
    refine (HA.out _).mono ?_
    rintro e w1 ⟨rfl, hb1⟩
    have hb2 : Below wc.heap.size wc w1 := ((Below.refl _ _).alloc (Nat.le_refl _) _).trans (hb1.mono (by simp))
    have K1 : Hid (Rows2 w w1 [.int .u8 op, .int .u8 m, .int .u64 x, .int .u64 y, .int .u64 z] [.int .u64 0, .int .u8 0, .bool false]) := K0.out.later hb2
    have G1 : Hid (Blk w1 g [.int .i64 n, .func (.func f) #[] #[], .func (.func 31) #[] #[]]) := G0.out.later hb2
    clear hb1 hb2 HA K0 G0 c0 c1 c2 c3 c4 g0 g1 g2 z1 z0 z3
    have c0 := K1.out.x.cells 0 _ rfl
    have c1 := K1.out.x.cells 1 _ rfl
    have c2 := K1.out.x.cells 2 _ rfl
    have c3 := K1.out.x.cells 3 _ rfl
    have c4 := K1.out.x.cells 4 _ rfl
    have g0 := G1.out.cells 0 _ rfl
    have g1 := G1.out.cells 1 _ rfl
    have g2 := G1.out.cells 2 _ rfl
    have r0 := K1.out.r.cells 0 _ rfl
    have r1 := K1.out.r.cells 1 _ rfl
    have r2 := K1.out.r.cells 2 _ rfl
    have f0 := K1.out.r.live 0 _ rfl
    have f1 := K1.out.r.live 1 _ rfl
    have f2 := K1.out.r.live 2 _ rfl
    have z1 := K1.out.size
    have z0 := K1.out.x.lt
    have z3 := G1.out.lt
    go_wp2_with fail
    refine (HZT.out _).mono ?_
    rintro e w2 ⟨rfl, hb2⟩
    have N2 : Hid (Blk w2 w1.heap.size [.int .u64 NB, .int .u8 NF, .bool false]) := (Blk.new _ _ _ (by simp)).below hb2 (by simp)
    have hb3 : Below w1.heap.size w1 w2 := ((Below.refl _ _).alloc (Nat.le_refl _) _).trans (hb2.mono (by simp))
    have K2 : Hid (Rows2 w w2 [.int .u8 op, .int .u8 m, .int .u64 x, .int .u64 y, .int .u64 z] [.int .u64 0, .int .u8 0, .bool false]) := K1.out.later hb3
    have G2 : Hid (Blk w2 g [.int .i64 n, .func (.func f) #[] #[], .func (.func 31) #[] #[]]) := G1.out.later hb3
    have l1 := K1.out.size
    clear hb2 hb3 K1 G1 c0 c1 c2 c3 c4 g0 g1 g2 r0 r1 r2 f0 f1 f2 z1 z0 z3
    have c0 := K2.out.x.cells 0 _ rfl
    have c1 := K2.out.x.cells 1 _ rfl
    have c2 := K2.out.x.cells 2 _ rfl
    have c3 := K2.out.x.cells 3 _ rfl
    have c4 := K2.out.x.cells 4 _ rfl
    have g0 := G2.out.cells 0 _ rfl
    have g1 := G2.out.cells 1 _ rfl
    have g2 := G2.out.cells 2 _ rfl
    have d0 := N2.out.cells 0 _ rfl
    have d1 := N2.out.cells 1 _ rfl
    have d2 := N2.out.cells 2 _ rfl
    have r0 := K2.out.r.cells 0 _ rfl
    have r1 := K2.out.r.cells 1 _ rfl
    have r2 := K2.out.r.cells 2 _ rfl
    have f0 := K2.out.r.live 0 _ rfl
    have f1 := K2.out.r.live 1 _ rfl
    have f2 := K2.out.r.live 2 _ rfl
    go_wp2_with fail
    refine (HREC.out _ K2.out.below).mono ?_
    rintro e w3 ⟨rfl, hb3⟩
    have K3 : Hid (Rows2 w w3 [.int .u8 op, .int .u8 m, .int .u64 x, .int .u64 y, .int .u64 z] [.int .u64 0, .int .u8 0, .bool false]) := K2.out.later hb3
    clear hb3 K2 G2 N2 c0 c1 c2 c3 c4 g0 g1 g2 r0 r1 r2 f0 f1 f2 d0 d1 d2
    have r0 := K3.out.r.cells 0 _ rfl
    have r1 := K3.out.r.cells 1 _ rfl
    have r2 := K3.out.r.cells 2 _ rfl
    have f0 := K3.out.r.live 0 _ rfl
    have f1 := K3.out.r.live 1 _ rfl
    have f2 := K3.out.r.live 2 _ rfl
    go_wp2_with fail
    go_light
    refine bodyPost_ret (v := .agg #[.int .u64 b, .int .u8 fl, .bool bad]) (results_do rfl (((K3.out.r.set 0 _ (by simp)).set 1 _ (by simp)).set 2 _ (by simp))) rfl ⟨rfl, ?_⟩
    exact ((K3.out.below.setCell (by simp) _).setCell (by simp) _).setCell (by simp) _


/-- The sum of two squares: its digits and its power. -/
def ssD (x y : Nat) : Nat := alN (mant x * mant x) (pow x + pow x) (pow y + pow y) + alN (mant y * mant y) (pow y + pow y) (pow x + pow x)
def ssP (x y : Nat) : Int := min (pow x + pow x) (pow y + pow y)
def sdB (x y : Nat) (m : Int) : Int :=
  if kind x = 3 ∨ kind y = 3 then 9218868437227405312
  else if kind x = 0 ∧ kind y = 0 then 0
  else roundB 0 (sqD (ssD x y) (ssP x y)) (sqP (ssP x y)) m
def sdF (x y : Nat) (m : Int) : Int :=
  if kind x = 3 ∨ kind y = 3 then 0
  else if kind x = 0 ∧ kind y = 0 then 0
  else roundF 0 (sqD (ssD x y) (ssP x y)) (sqP (ssP x y)) m
theorem ssP_range (x y : Nat) : -2148 ≤ ssP x y ∧ ssP x y ≤ 1944 := by
  have := pow_range x
  have := pow_range y
  unfold ssP; omega
theorem shift_ne {D : Nat} (k : Nat) (h : D ≠ 0) : D * 2 ^ k ≠ 0 := fun e => by
  have := Nat.two_pow_pos k
  rcases Nat.mul_eq_zero.1 e with g | g
  · exact h g
  · omega
theorem al_some {D : Nat} (p q : Int) (h : D ≠ 0) : alN D p q ≠ 0 := shift_ne _ h
theorem sq_some {D : Nat} (h : D ≠ 0) : D * D ≠ 0 := fun e => by rcases Nat.mul_eq_zero.1 e with g | g <;> exact h g
theorem ssD_some {x y : Nat} (h : mant x ≠ 0 ∨ mant y ≠ 0) : ssD x y ≠ 0 := by
  unfold ssD
  rcases h with h | h
  · have := al_some (pow x + pow x) (pow y + pow y) (sq_some h)
    omega
  · have := al_some (pow y + pow y) (pow x + pow x) (sq_some h)
    omega

/-- A number with a mark in place of what was cut off, held against even numbers. -/
theorem mark_le {E S t V : Nat} (hm : (E % 2 ^ t = 0 ∧ S = E / 2 ^ t) ∨ (E % 2 ^ t ≠ 0 ∧ S = E / 2 ^ t + (1 - E / 2 ^ t % 2))) (hV : V % 2 = 0) : (V ≤ S ↔ V * 2 ^ t ≤ E) ∧ (V = S ↔ V * 2 ^ t = E) := by
  have h1 : V ≤ E / 2 ^ t ↔ V * 2 ^ t ≤ E := Nat.le_div_iff_mul_le (Nat.two_pow_pos t)
  have hdm := Nat.div_add_mod E (2 ^ t)
  rcases hm with ⟨h, rfl⟩ | ⟨h, rfl⟩
  · refine ⟨h1, ?_⟩
    rw [h, Nat.add_zero, Nat.mul_comm] at hdm
    constructor
    · intro e; rw [e, hdm]
    · intro e; rw [← e, Nat.mul_div_cancel _ (Nat.two_pow_pos t)]
  · refine ⟨?_, ?_⟩
    · rw [← h1]; omega
    · constructor
      · intro e; omega
      · intro e; exfalso; apply h; rw [← e]; exact Nat.mul_mod_left _ _

theorem sqm_round {E S W t : Nat} {p s m : Int} (hm : (E % 2 ^ t = 0 ∧ S = E / 2 ^ t) ∨ (E % 2 ^ t ≠ 0 ∧ S = E / 2 ^ t + (1 - E / 2 ^ t % 2))) (hS : 2 ^ 254 ≤ S) (hS2 : S < 2 ^ 255) (h1 : pw2 W ≤ rtG 2 128 S (p + t)) (h2 : rtG 2 128 S (p + t) < pw2 (W + 1)) :
    roundB s (sqD E p) (sqP p) m = roundB s (odd W (decide (pw2 W = rtG 2 128 S (p + t)))) (rtP 2 128 S (p + t)) m ∧ roundF s (sqD E p) (sqP p) m = roundF s (odd W (decide (pw2 W = rtG 2 128 S (p + t)))) (rtP 2 128 S (p + t)) m := by
  have hbl : Go.bitLen S = 255 := by
    have g1 := bitLen_le (n := 255) hS2
    have g2 := (Go.bitLen_spec S).1
    rcases Nat.lt_or_ge (Go.bitLen S) 255 with g | g
    · exact absurd (Nat.lt_of_lt_of_le g2 (Nat.pow_le_pow_right (n := 2) (by decide) (by omega : Go.bitLen S ≤ 254))) (Nat.not_lt.2 hS)
    · omega
  have hs0 : S ≠ 0 := fun e => by rw [e] at hbl; exact absurd hbl (by decide)
  have hl := liftN_le (d := 2) (p := p + t + 128) (r := 256 - (Go.bitLen S : Int)) (by omega)
  have hL : 0 ≤ rtL 2 128 S (p + t) ∧ rtL 2 128 S (p + t) ≤ 1 := by unfold rtL; omega
  have hb : 2 ^ 60 ≤ W := big2 h2 (rtG_ge 254 hs0 (by omega) hL.1)
  obtain ⟨k, hk⟩ := liftN_dvd 2 (p + t + 128) (256 - (Go.bitLen S : Int))
  have hk' : p + t + 128 - rtL 2 128 S (p + t) = 2 * k := hk
  have hK : (p - sqK p) % 2 = 0 ∧ 130 ≤ sqK p := by unfold sqK; split <;> omega
  obtain ⟨L, hLn⟩ : ∃ L : Nat, rtL 2 128 S (p + t) = L := ⟨(rtL 2 128 S (p + t)).toNat, by omega⟩
  obtain ⟨c, hc⟩ : ∃ c : Nat, 128 = c + 1 + L := ⟨127 - L, by omega⟩
  obtain ⟨j, hj⟩ : ∃ j : Nat, c + 1 + t + sqK p = 2 * j := ⟨(c + 1 + t + sqK p) / 2, by omega⟩
  have hG : rtG 2 128 S (p + t) = S * 2 ^ L := by unfold rtG; rw [hLn]; rfl
  have key : ∀ V : Nat, (V * V * 2 ^ 128 ≤ S * 2 ^ L ↔ V * V * 2 ^ (2 * j) ≤ E * 2 ^ sqK p) ∧ (V * V * 2 ^ 128 = S * 2 ^ L ↔ V * V * 2 ^ (2 * j) = E * 2 ^ sqK p) := fun V => by
    have q := mark_le (V := V * V * 2 ^ (c + 1)) hm (by rw [Nat.pow_succ, ← Nat.mul_assoc]; exact Nat.mul_mod_left _ _)
    have e1 : V * V * 2 ^ 128 = V * V * 2 ^ (c + 1) * 2 ^ L := by rw [Nat.mul_assoc (V * V) (2 ^ (c + 1)) (2 ^ L), ← Nat.pow_add, ← hc]
    have e2 : V * V * 2 ^ (2 * j) = V * V * 2 ^ (c + 1) * 2 ^ t * 2 ^ sqK p := by rw [← hj, Nat.pow_add, Nat.pow_add, ← Nat.mul_assoc, ← Nat.mul_assoc]
    rw [e1, e2, Nat.mul_le_mul_right_iff (Nat.two_pow_pos L), Nat.mul_le_mul_right_iff (Nat.two_pow_pos (sqK p)), Nat.mul_left_inj (Nat.ne_of_gt (Nat.two_pow_pos L)), Nat.mul_left_inj (Nat.ne_of_gt (Nat.two_pow_pos (sqK p)))]
    exact q
  rw [hG, pw2_is] at h1 h2
  have hf : ∀ a b : Nat, a < b → (fun a => a * a) a < (fun a => a * a) b := sq_grows
  have g1 : (fun a => a * a) (W * 2 ^ j) ≤ sqA E p := by
    show W * 2 ^ j * (W * 2 ^ j) ≤ E * 2 ^ sqK p
    rw [sq_shift]
    exact (key W).1.1 h1
  have g2 : sqA E p < (fun a => a * a) ((W + 1) * 2 ^ j) := by
    show E * 2 ^ sqK p < (W + 1) * 2 ^ j * ((W + 1) * 2 ^ j)
    rw [sq_shift]
    have := (key (W + 1)).1
    omega
  have g3 : ((fun a => a * a) (W * 2 ^ j) = sqA E p) = (pw2 W = rtG 2 128 S (p + t)) := propext (by
    show W * 2 ^ j * (W * 2 ^ j) = E * 2 ^ sqK p ↔ pw2 W = rtG 2 128 S (p + t)
    rw [sq_shift, hG, pw2_is]
    exact (key W).2.symm)
  have h := root_round (s := s) (m := m) (p := sqP p) hf g1 g2 (sqR_spec _).1 (sqR_spec _).2 hb
  have e1 : sqP p + j + 1 = rtP 2 128 S (p + t) := by unfold sqP rtP; omega
  rw [e1] at h
  simp only [g3] at h
  exact h

theorem gs_mark {d1 d2 : Nat} {p1 p2 : Int} (hp : p2 ≤ p1) (b1 : Go.bitLen d1 ≤ 106) (b2 : Go.bitLen d2 ≤ 106) (hf : p2 < p1 → d1 ≠ 0) (_h0 : d1 * 2 ^ (p1 - p2).toNat + d2 ≠ 0) :
    ∃ t : Nat, ((d1 * 2 ^ (p1 - p2).toNat + d2) % 2 ^ t = 0 ∧ d1 * 2 ^ (lift 256 d1 (p1 - p2)).toNat + mk d2 (p1 - p2 - lift 256 d1 (p1 - p2)).toNat = (d1 * 2 ^ (p1 - p2).toNat + d2) / 2 ^ t ∨
      (d1 * 2 ^ (p1 - p2).toNat + d2) % 2 ^ t ≠ 0 ∧ d1 * 2 ^ (lift 256 d1 (p1 - p2)).toNat + mk d2 (p1 - p2 - lift 256 d1 (p1 - p2)).toNat = (d1 * 2 ^ (p1 - p2).toNat + d2) / 2 ^ t + (1 - (d1 * 2 ^ (p1 - p2).toNat + d2) / 2 ^ t % 2)) ∧
      p1 - lift 256 d1 (p1 - p2) = p2 + t ∧ (t ≠ 0 → 2 ^ 254 ≤ d1 * 2 ^ (lift 256 d1 (p1 - p2)).toNat + mk d2 (p1 - p2 - lift 256 d1 (p1 - p2)).toNat) ∧ d1 * 2 ^ (lift 256 d1 (p1 - p2)).toNat + mk d2 (p1 - p2 - lift 256 d1 (p1 - p2)).toNat < 2 ^ 255 ∧
      (t = 0 → d1 * 2 ^ (lift 256 d1 (p1 - p2)).toNat + mk d2 (p1 - p2 - lift 256 d1 (p1 - p2)).toNat = d1 * 2 ^ (p1 - p2).toNat + d2) := by
  have hl := lift_le (n := 256) (d := d1) (a := p1 - p2) (by omega) (by omega)
  have hdef : lift 256 d1 (p1 - p2) = min (p1 - p2) (256 - Go.bitLen d1 - 1) := rfl
  obtain ⟨L, hL⟩ : ∃ L : Nat, lift 256 d1 (p1 - p2) = L := ⟨(lift 256 d1 (p1 - p2)).toNat, by omega⟩
  obtain ⟨t, ht⟩ : ∃ t : Nat, p1 - p2 - lift 256 d1 (p1 - p2) = t := ⟨(p1 - p2 - lift 256 d1 (p1 - p2)).toNat, by omega⟩
  rw [ht, hL, Int.toNat_natCast, Int.toNat_natCast]
  have ha : (p1 - p2).toNat = L + t := by omega
  rw [ha, Nat.pow_add, ← Nat.mul_assoc]
  have g1 := (Go.bitLen_spec d1).1
  have g2 := (Go.bitLen_spec d2).1
  have hmk : mk d2 t ≤ 2 ^ 106 := by
    have q1 := mk_le d2 t
    have q2 := Nat.div_le_self d2 (2 ^ t)
    have q3 := Nat.lt_of_lt_of_le g2 (Nat.pow_le_pow_right (n := 2) (by decide) b2)
    omega
  have hlt : d1 * 2 ^ L + mk d2 t < 2 ^ 255 := by
    have q1 : (d1 + 1) * 2 ^ L ≤ 2 ^ Go.bitLen d1 * 2 ^ L := Nat.mul_le_mul_right _ g1
    rw [← Nat.pow_add, Nat.add_mul, Nat.one_mul] at q1
    rcases Nat.lt_or_ge L 107 with q | q
    · have q2 : (2 : Nat) ^ (Go.bitLen d1 + L) ≤ 2 ^ 212 := Nat.pow_le_pow_right (by decide) (by omega)
      have q3 := Nat.two_pow_pos L
      have q4 : (2 : Nat) ^ 212 + 2 ^ 106 < 2 ^ 255 := by decide
      omega
    · have q2 : (2 : Nat) ^ (Go.bitLen d1 + L) ≤ 2 ^ 255 := Nat.pow_le_pow_right (by decide) (by omega)
      have q3 : (2 : Nat) ^ 107 ≤ 2 ^ L := Nat.pow_le_pow_right (by decide) q
      have q4 : (2 : Nat) ^ 106 < 2 ^ 107 := by decide
      omega
  refine ⟨t, ?_, by omega, ?_, hlt, ?_⟩
  · by_cases h : t = 0
    · subst h
      left
      have : mk d2 0 = d2 := by unfold mk; simp [Nat.mod_one]
      rw [this]
      simp [Nat.mod_one]
    · refine far_plus ?_
      obtain ⟨l, rfl⟩ : ∃ l, L = l + 1 := ⟨L - 1, by omega⟩
      rw [Nat.pow_succ, ← Nat.mul_assoc]
      exact Nat.mul_mod_left _ _
  · intro h
    have hd : d1 ≠ 0 := hf (by omega)
    have q1 := (Go.bitLen_spec d1).2 hd
    have q2 := bl_pos hd
    have q3 : 2 ^ (Go.bitLen d1 - 1) * 2 ^ L ≤ d1 * 2 ^ L := Nat.mul_le_mul_right _ q1
    rw [← Nat.pow_add, show Go.bitLen d1 - 1 + L = 254 by omega] at q3
    omega
  · intro h
    subst h
    have : mk d2 0 = d2 := by unfold mk; simp [Nat.mod_one]
    rw [this, Nat.pow_zero, Nat.mul_one]

/-- The program's sum of squares: its mark. -/
def hyS (x y : Nat) : Nat := gsD 256 0 (mant x * mant x) (pow x + pow x) 0 (mant y * mant y) (pow y + pow y)
def hyP (x y : Nat) : Int := gsP 256 0 (mant x * mant x) (pow x + pow x) 0 (mant y * mant y) (pow y + pow y)
theorem sq_bl (x : Nat) : Go.bitLen (mant x * mant x) ≤ 106 := bitLen_le (n := 106) (Nat.lt_of_lt_of_le (Nat.mul_lt_mul'' (mant_lt x) (mant_lt x)) (by decide))
theorem mant_high {x : Nat} (h : -1074 < pow x) : mant x ≠ 0 := by
  unfold pow at h
  unfold mant
  split
  · rename_i c
    rw [if_pos c] at h
    omega
  · omega
theorem hy_mark {x y : Nat} (h : mant x ≠ 0 ∨ mant y ≠ 0) : ∃ t : Nat, ((ssD x y % 2 ^ t = 0 ∧ hyS x y = ssD x y / 2 ^ t) ∨ (ssD x y % 2 ^ t ≠ 0 ∧ hyS x y = ssD x y / 2 ^ t + (1 - ssD x y / 2 ^ t % 2))) ∧ hyP x y = ssP x y + t ∧ (t ≠ 0 → 2 ^ 254 ≤ hyS x y) ∧ hyS x y < 2 ^ 255 ∧ (t = 0 → hyS x y = ssD x y) := by
  have h0 := ssD_some h
  have rx := pow_range x
  have ry := pow_range y
  by_cases hp : pow y + pow y ≤ pow x + pow x
  · have e1 : ssD x y = mant x * mant x * 2 ^ (pow x + pow x - (pow y + pow y)).toNat + mant y * mant y := by
      unfold ssD alN
      rw [show min (pow x + pow x) (pow y + pow y) = pow y + pow y by omega, show min (pow y + pow y) (pow x + pow x) = pow y + pow y by omega, Int.sub_self]
      simp
    have e2 : ssP x y = pow y + pow y := by unfold ssP; omega
    have e3 : hyS x y = mant x * mant x * 2 ^ (lift 256 (mant x * mant x) (pow x + pow x - (pow y + pow y))).toNat + mk (mant y * mant y) (pow x + pow x - (pow y + pow y) - lift 256 (mant x * mant x) (pow x + pow x - (pow y + pow y))).toNat := by
      unfold hyS gsD suD
      rw [if_pos hp, if_pos rfl]
    have e4 : hyP x y = pow x + pow x - lift 256 (mant x * mant x) (pow x + pow x - (pow y + pow y)) := by
      unfold hyP gsP suP
      rw [if_pos hp, if_pos rfl]
    rw [e1] at h0
    have := gs_mark hp (sq_bl x) (sq_bl y) (fun g => sq_some (mant_high (by omega))) h0
    rw [e1, e2, e3, e4]
    exact this
  · have hq : pow x + pow x ≤ pow y + pow y := by omega
    have e1 : ssD x y = mant y * mant y * 2 ^ (pow y + pow y - (pow x + pow x)).toNat + mant x * mant x := by
      unfold ssD alN
      rw [show min (pow x + pow x) (pow y + pow y) = pow x + pow x by omega, show min (pow y + pow y) (pow x + pow x) = pow x + pow x by omega, Int.sub_self]
      simp
      rw [Nat.add_comm]
    have e2 : ssP x y = pow x + pow x := by unfold ssP; omega
    have e3 : hyS x y = mant y * mant y * 2 ^ (lift 256 (mant y * mant y) (pow y + pow y - (pow x + pow x))).toNat + mk (mant x * mant x) (pow y + pow y - (pow x + pow x) - lift 256 (mant y * mant y) (pow y + pow y - (pow x + pow x))).toNat := by
      unfold hyS gsD suD
      rw [if_neg hp, if_pos rfl]
    have e4 : hyP x y = pow y + pow y - lift 256 (mant y * mant y) (pow y + pow y - (pow x + pow x)) := by
      unfold hyP gsP suP
      rw [if_neg hp, if_pos rfl]
    rw [e1] at h0
    have := gs_mark hq (sq_bl y) (sq_bl x) (fun g => sq_some (mant_high (by omega))) h0
    rw [e1, e2, e3, e4]
    exact this
theorem hyL {x y : Nat} (h : mant x ≠ 0 ∨ mant y ≠ 0) : hyS x y ≠ 0 ∧ 0 ≤ rtL 2 128 (hyS x y) (hyP x y) := by
  obtain ⟨t, hm, hp, hb, hl, he⟩ := hy_mark h
  have hbl := bitLen_le (n := 255) hl
  have h1 := liftN_le (d := 2) (p := hyP x y + 128) (r := 256 - (Go.bitLen (hyS x y) : Int)) (by omega)
  refine ⟨?_, by unfold rtL; omega⟩
  by_cases ht : t = 0
  · rw [he ht]; exact ssD_some h
  · have := hb ht
    have h2 := Nat.two_pow_pos 254
    omega
theorem hy_round {x y W : Nat} {m : Int} (h : mant x ≠ 0 ∨ mant y ≠ 0) (h1 : pw2 W ≤ rtG 2 128 (hyS x y) (hyP x y)) (h2 : rtG 2 128 (hyS x y) (hyP x y) < pw2 (W + 1)) :
    roundB 0 (sqD (ssD x y) (ssP x y)) (sqP (ssP x y)) m = roundB 0 (odd W (decide (pw2 W = rtG 2 128 (hyS x y) (hyP x y)))) (rtP 2 128 (hyS x y) (hyP x y)) m ∧ roundF 0 (sqD (ssD x y) (ssP x y)) (sqP (ssP x y)) m = roundF 0 (odd W (decide (pw2 W = rtG 2 128 (hyS x y) (hyP x y)))) (rtP 2 128 (hyS x y) (hyP x y)) m := by
  obtain ⟨hs0, hL⟩ := hyL h
  obtain ⟨t, hm, hp, hb, hl, he⟩ := hy_mark h
  by_cases ht : t = 0
  · subst ht
    have e1 : hyP x y = ssP x y := by omega
    rw [he rfl, e1] at h1 h2 hL
    rw [he rfl, e1]
    exact sq_round (ssD_some h) hL h1 h2
  · rw [hp] at h1 h2 ⊢
    exact sqm_round hm (hb ht) hl h1 h2


theorem results_hy {tmps : Array Value} {U : World} {g : Nat} {a b c : Value} (h2 : tmps.getD 2 undef = .pointer (some ⟨g, 0, none⟩)) (h : Blk U g [a, b, c]) :
    (results Tryd.f30 tmps).run Tryd.prog U = .ok (.agg #[a, b, c]) U := by
  have c0 := h.cells 0 _ rfl
  have c1 := h.cells 1 _ rfl
  have c2 := h.cells 2 _ rfl
  have h2' : tmps[2]?.getD undef = .pointer (some ⟨g, 0, none⟩) := by simpa using h2
  simp [results, Tryd.results30, go_sem, h2', c0, c1, c2]
theorem Rows2.put {w w1 : World} {xs rs : List Value} (h : Rows2 w w1 xs rs) {g : Nat} (i : Nat) (v : Value) (hg : w.heap.size + 1 < g) : Rows2 w (w1.setCell ⟨g, i, none⟩ v) xs rs := ⟨h.below.setCell (by simp; omega) _, by simpa using h.size, h.x.other _ _ (by simp; omega), h.r.other _ _ (by simp; omega)⟩
theorem Blk.set4 {w : World} {g : Nat} {z0 z1 z2 z3 a b c d : Value} (h : Blk w g [z0, z1, z2, z3]) : Blk ((((w.setCell ⟨g, 0, none⟩ a).setCell ⟨g, 1, none⟩ b).setCell ⟨g, 2, none⟩ c).setCell ⟨g, 3, none⟩ d) g [a, b, c, d] :=
  (((h.set 0 a (by simp)).set 1 b (by simp)).set 2 c (by simp)).set 3 d (by simp)
theorem Blk.other4 {w : World} {g k : Nat} {vs : List Value} {a b c d : Value} (h : Blk w k vs) (hk : k ≠ g) : Blk ((((w.setCell ⟨g, 0, none⟩ a).setCell ⟨g, 1, none⟩ b).setCell ⟨g, 2, none⟩ c).setCell ⟨g, 3, none⟩ d) k vs :=
  (((h.other ⟨g, 0, none⟩ a hk).other ⟨g, 1, none⟩ b hk).other ⟨g, 2, none⟩ c hk).other ⟨g, 3, none⟩ d hk
theorem Blk.new1 (w : World) (o : Obj) (vs : List Value) (t : TypeId) (hn : 0 < vs.length) : Blk ((w.alloc o).alloc (.cells vs.toArray t)) (w.heap.size + 1) vs := by
  have h := Blk.new (w.alloc o) vs t hn
  rw [World.size_alloc] at h
  exact h
theorem Blk.new4 (w : World) (g : Nat) (a b c d : Value) (vs : List Value) (t : TypeId) (hn : 0 < vs.length) : Blk (((((w.setCell ⟨g, 0, none⟩ a).setCell ⟨g, 1, none⟩ b).setCell ⟨g, 2, none⟩ c).setCell ⟨g, 3, none⟩ d).alloc (.cells vs.toArray t)) w.heap.size vs := by
  have h := Blk.new ((((w.setCell ⟨g, 0, none⟩ a).setCell ⟨g, 1, none⟩ b).setCell ⟨g, 2, none⟩ c).setCell ⟨g, 3, none⟩ d) vs t hn
  have e : ((((w.setCell ⟨g, 0, none⟩ a).setCell ⟨g, 1, none⟩ b).setCell ⟨g, 2, none⟩ c).setCell ⟨g, 3, none⟩ d).heap.size = w.heap.size := by simp
  rw [e] at h
  exact h
/-- Two blocks and two numbers behind them. -/
structure Tri (w w1 : World) (xs rs : List Value) (g3 g4 : Nat) (ps qs : List Value) : Prop where
  rows : Rows2 w w1 xs rs
  p : Blk w1 g3 ps
  q : Blk w1 g4 qs
theorem Tri.later {w w1 w2 : World} {xs rs ps qs : List Value} {g3 g4 : Nat} (h : Tri w w1 xs rs g3 g4 ps qs) (hb : Below w1.heap.size w1 w2) : Tri w w2 xs rs g3 g4 ps qs := ⟨h.rows.later hb, h.p.later hb, h.q.later hb⟩
theorem Tri.drew {w w1 : World} {xs rs ps qs : List Value} {g3 g4 : Nat} (h : Tri w w1 xs rs g3 g4 ps qs) : Tri w w1.drew xs rs g3 g4 ps qs := ⟨h.rows.drew, h.p.drew, h.q.drew⟩
theorem xs_self (x : Nat) : xs x x = 0 := by unfold xs; omega
theorem gsS_zero {d1 d2 : Nat} {p1 p2 m : Int} : gsS 256 0 d1 p1 0 d2 p2 m = 0 := by unfold gsS suS; simp

set_option maxHeartbeats 8000000 in
set_option maxRecDepth 10000 in
theorem soft_hy (x y : Nat) (op m z : Int) (hx : x < 18446744073709551616) (hy : y < 18446744073709551616) (hm : 0 ≤ m ∧ m ≤ 4) (w : World) (hT : Tab w) :
    Calls Tryd.prog 30 #[.agg #[.int .u8 op, .int .u8 m, .int .u64 x, .int .u64 y, .int .u64 z]] w fun e w' => e = .returned (.agg #[.int .u64 (sdB x y m), .int .u8 (sdF x y m), .bool false]) ∧ Below w.heap.size w w' := by
  have HK : Hid (∀ w, Calls Tryd.prog 38 #[.agg #[.int .u8 op, .int .u8 m, .int .u64 x, .int .u64 y, .int .u64 z]] w fun e w' => e = .returned (.agg #[.int .i64 (kind x), .int .i64 (kind y)]) ∧ Below w.heap.size w w') := fun w => kindsOf_any x y op m z hx hy w
  have HAI : Hid (∀ w, Calls Tryd.prog 31 #[.agg #[.int .u8 op, .int .u8 m, .int .u64 x, .int .u64 y, .int .u64 z]] w fun e w' => e = .returned (.bool (anI (kind x) (kind y))) ∧ Below w.heap.size w w') := fun w => anI_any x y op m z hx hy w
  have HEX : Hid (∀ w, Calls Tryd.prog 42 #[.agg #[.int .u8 0, .int .u8 0, .int .u64 x, .int .u64 x, .int .u64 0]] w fun e w' => e = .returned (.agg #[.int .u64 0, .int .u64 (wd (mant x * mant x) 0 : Nat), .int .u64 (wd (mant x * mant x) 1 : Nat), .int .i64 (pow x + pow x)]) ∧ Below w.heap.size w w') := fun w => by
    have := exactProduct_any x x 0 0 0 hx hx w
    rw [xs_self] at this
    exact this
  have HWX : Hid (∀ w, Calls Tryd.prog 45 #[.agg #[.int .u64 0, .int .u64 (wd (mant x * mant x) 0 : Nat), .int .u64 (wd (mant x * mant x) 1 : Nat), .int .i64 (pow x + pow x)]] w fun e w' => e = .returned (.agg #[.int .u64 0, .int .u64 (wd (mant x * mant x) 0 : Nat), .int .u64 (wd (mant x * mant x) 1 : Nat), .int .u64 (wd (mant x * mant x) 2 : Nat), .int .u64 (wd (mant x * mant x) 3 : Nat), .int .i64 (pow x + pow x)]) ∧ Below w.heap.size w w') := fun w => wider_any 0 (mant x * mant x) (pow x + pow x) (Nat.lt_of_lt_of_le (Nat.mul_lt_mul'' (mant_lt x) (mant_lt x)) (by decide)) w
  have qx := pow_range x
  have lx := sq_bl x
  have Mx : Hid (¬ kind x = 0 → mant x ≠ 0) := mant_some hx
  have HEY : Hid (∀ w, Calls Tryd.prog 42 #[.agg #[.int .u8 0, .int .u8 0, .int .u64 y, .int .u64 y, .int .u64 0]] w fun e w' => e = .returned (.agg #[.int .u64 0, .int .u64 (wd (mant y * mant y) 0 : Nat), .int .u64 (wd (mant y * mant y) 1 : Nat), .int .i64 (pow y + pow y)]) ∧ Below w.heap.size w w') := fun w => by
    have := exactProduct_any y y 0 0 0 hy hy w
    rw [xs_self] at this
    exact this
  have HWY : Hid (∀ w, Calls Tryd.prog 45 #[.agg #[.int .u64 0, .int .u64 (wd (mant y * mant y) 0 : Nat), .int .u64 (wd (mant y * mant y) 1 : Nat), .int .i64 (pow y + pow y)]] w fun e w' => e = .returned (.agg #[.int .u64 0, .int .u64 (wd (mant y * mant y) 0 : Nat), .int .u64 (wd (mant y * mant y) 1 : Nat), .int .u64 (wd (mant y * mant y) 2 : Nat), .int .u64 (wd (mant y * mant y) 3 : Nat), .int .i64 (pow y + pow y)]) ∧ Below w.heap.size w w') := fun w => wider_any 0 (mant y * mant y) (pow y + pow y) (Nat.lt_of_lt_of_le (Nat.mul_lt_mul'' (mant_lt y) (mant_lt y)) (by decide)) w
  have qy := pow_range y
  have ly := sq_bl y
  have My : Hid (¬ kind y = 0 → mant y ≠ 0) := mant_some hy
  have HES : Hid (∀ w, Calls Tryd.prog 48 #[.agg #[.int .u64 0, .int .u64 (wd (mant x * mant x) 0 : Nat), .int .u64 (wd (mant x * mant x) 1 : Nat), .int .u64 (wd (mant x * mant x) 2 : Nat), .int .u64 (wd (mant x * mant x) 3 : Nat), .int .i64 (pow x + pow x)], .agg #[.int .u64 0, .int .u64 (wd (mant y * mant y) 0 : Nat), .int .u64 (wd (mant y * mant y) 1 : Nat), .int .u64 (wd (mant y * mant y) 2 : Nat), .int .u64 (wd (mant y * mant y) 3 : Nat), .int .i64 (pow y + pow y)], .int .u8 m] w fun e w' => e = .returned (.agg #[.int .u64 0, .int .u64 (wd (hyS x y) 0 : Nat), .int .u64 (wd (hyS x y) 1 : Nat), .int .u64 (wd (hyS x y) 2 : Nat), .int .u64 (wd (hyS x y) 3 : Nat), .int .i64 (hyP x y)]) ∧ Below w.heap.size w w') := fun w => by
    have := W4.exactSum_any 0 0 (mant x * mant x) (mant y * mant y) (pow x + pow x) (pow y + pow y) m (by omega) (by omega) (by omega) (by omega) (by omega) (by omega) w
    rw [gsS_zero] at this
    exact this
  have HER : Hid ((mant x ≠ 0 ∨ mant y ≠ 0) → ∀ w1, Calls Tryd.prog 46 #[.agg #[.int .u64 0, .int .u64 (wd (hyS x y) 0 : Nat), .int .u64 (wd (hyS x y) 1 : Nat), .int .u64 (wd (hyS x y) 2 : Nat), .int .u64 (wd (hyS x y) 3 : Nat), .int .i64 (hyP x y)], .int .i64 2] w1 fun e w' => ∃ O : Nat, Hid (∀ w2, Below w.heap.size w w2 → Calls Tryd.prog 41 #[.agg #[.int .u64 0, .int .u64 (O : Nat), .int .u64 0, .int .i64 (rtP 2 128 (hyS x y) (hyP x y))], .int .u8 m] w2 fun e w' => e = .returned (.agg #[.int .u64 (roundB 0 (sqD (ssD x y) (ssP x y)) (sqP (ssP x y)) m), .int .u8 (roundF 0 (sqD (ssD x y) (ssP x y)) (sqP (ssP x y)) m), .bool false]) ∧ Below w2.heap.size w2 w') ∧ e = .returned (.agg #[.int .u64 0, .int .u64 (O : Nat), .int .u64 0, .int .i64 (rtP 2 128 (hyS x y) (hyP x y))]) ∧ Below w1.heap.size w1 w') := fun hn w1 => by
    obtain ⟨h0, hL⟩ := hyL hn
    obtain ⟨t, _, hpt, _, hl, _⟩ := hy_mark hn
    have hP := gsP_range (n := 256) (s1 := 0) (s2 := 0) (d1 := mant x * mant x) (d2 := mant y * mant y) (p1 := pow x + pow x) (p2 := pow y + pow y) (by omega) (by omega) (by omega) (by omega) (by omega)
    have hP' : -5000 ≤ hyP x y ∧ hyP x y ≤ 5000 := hP
    have hS4 : hyS x y < 18446744073709551616 ^ 4 := Nat.lt_of_lt_of_le hl (by decide)
    refine (exactRoot2 0 (hyS x y) (hyP x y) h0 hS4 hL (by omega) w1).mono ?_
    rintro e w' ⟨W, g1, g2, g3, rfl, hb⟩
    refine ⟨_, fun w2 hb2 => ?_, rfl, hb⟩
    obtain ⟨r1, r2⟩ := hy_round (m := m) hn g2 g3
    have hO := odd_lt (decide (pw2 W = rtG 2 128 (hyS x y) (hyP x y))) g1
    have ow := one_word hO
    have hLr := rtL_range (d := 2) (below := 128) (p := hyP x y) (by decide) h0 hS4
    have := W2.round_any 0 (odd W (decide (pw2 W = rtG 2 128 (hyS x y) (hyP x y)))) (rtP 2 128 (hyS x y) (hyP x y)) m (by omega) (by omega) hm (by unfold rtP; omega) w2 (hT.later hb2)
    rw [ow.1, ow.2] at this
    rw [r1, r2]
    exact this
  have HPB : Hid (sdB x y m = (if kind x = 3 ∨ kind y = 3 then 9218868437227405312 else if kind x = 0 ∧ kind y = 0 then 0 else roundB 0 (sqD (ssD x y) (ssP x y)) (sqP (ssP x y)) m)) := rfl
  have HPF : Hid (sdF x y m = (if kind x = 3 ∨ kind y = 3 then 0 else if kind x = 0 ∧ kind y = 0 then 0 else roundF 0 (sqD (ssD x y) (ssP x y)) (sqP (ssP x y)) m)) := rfl
  clear hx hy hm hT qx qy lx ly
  generalize sdB x y m = B at *
  generalize sdF x y m = F at *
  generalize roundB 0 (sqD (ssD x y) (ssP x y)) (sqP (ssP x y)) m = RB at *
  generalize roundF 0 (sqD (ssD x y) (ssP x y)) (sqP (ssP x y)) m = RF at *
  generalize rtP 2 128 (hyS x y) (hyP x y) = PP at *
  generalize hyP x y = HP at *
  generalize wd (hyS x y) 0 = s0 at *
  generalize wd (mant x * mant x) 0 = a0 at *
  generalize wd (mant y * mant y) 0 = b0 at *
  generalize wd (hyS x y) 1 = s1 at *
  generalize wd (mant x * mant x) 1 = a1 at *
  generalize wd (mant y * mant y) 1 = b1 at *
  generalize wd (hyS x y) 2 = s2 at *
  generalize wd (mant x * mant x) 2 = a2 at *
  generalize wd (mant y * mant y) 2 = b2 at *
  generalize wd (hyS x y) 3 = s3 at *
  generalize wd (mant x * mant x) 3 = a3 at *
  generalize wd (mant y * mant y) 3 = b3 at *
  generalize pow x + pow x = px at *
  generalize pow y + pow y = py at *
  generalize kind (x : Int) = KX at *
  generalize kind (y : Int) = KY at *
  have K0 : Hid (Rows2 w ((w.alloc (.cells #[.int .u8 op, .int .u8 m, .int .u64 x, .int .u64 y, .int .u64 z] 36)).alloc (.cells #[.int .u64 0, .int .u8 0, .bool false] 33)) [.int .u8 op, .int .u8 m, .int .u64 x, .int .u64 y, .int .u64 z] [.int .u64 0, .int .u8 0, .bool false]) := Rows2.start w _ _ _ _ (by simp) (by simp)
  by_cases c0 : KX = 3 ∨ KY = 3
  · have hai : anI KX KY = true := by unfold anI; rcases c0 with h | h <;> simp [h]
    have HV : Hid (B = 9218868437227405312 ∧ F = 0) := ⟨by rw [HPB.out, if_pos c0], by rw [HPF.out, if_pos c0]⟩
    rw [hai] at HAI
    clear c0 HPB HPF Mx My HER hai
    go_enter Tryd.func30, Tryd.ntmps30
    go_wp2_with fail
    refine (HAI.out _).mono ?_
    rintro e w1 ⟨rfl, hb1⟩
    have K1 : Hid (Rows2 w w1 [.int .u8 op, .int .u8 m, .int .u64 x, .int .u64 y, .int .u64 z] [.int .u64 0, .int .u8 0, .bool false]) := K0.out.later hb1
    clear hb1 K0
    have c0 := K1.out.x.cells 0 _ rfl
    have c1 := K1.out.x.cells 1 _ rfl
    have c2 := K1.out.x.cells 2 _ rfl
    have c3 := K1.out.x.cells 3 _ rfl
    have c4 := K1.out.x.cells 4 _ rfl
    have r0 := K1.out.r.cells 0 _ rfl
    have r1 := K1.out.r.cells 1 _ rfl
    have r2 := K1.out.r.cells 2 _ rfl
    have f0 := K1.out.r.live 0 _ rfl
    have f1 := K1.out.r.live 1 _ rfl
    have f2 := K1.out.r.live 2 _ rfl
    have z1 := K1.out.size
    have z0 : w.heap.size < _ := K1.out.x.lt
    go_wp2_with fail
    go_light
    refine bodyPost_ret (v := .agg #[.int .u64 9218868437227405312, .int .u8 0, .bool false]) (results_hy rfl (((K1.out.r.set 0 _ (by simp)).set 1 _ (by simp)).set 2 _ (by simp))) rfl ⟨by rw [HV.out.1, HV.out.2], ?_⟩
    exact ((K1.out.below.setCell (by simp) _).setCell (by simp) _).setCell (by simp) _
  have hai : anI KX KY = false := by unfold anI; simp; omega
  rw [hai] at HAI
  by_cases c1 : KX = 0 ∧ KY = 0
  · have hz : (KX == 0 && KY == 0) = true := by simp [c1]
    have HV : Hid (B = 0 ∧ F = 0) := ⟨by rw [HPB.out, if_neg c0, if_pos c1], by rw [HPF.out, if_neg c0, if_pos c1]⟩
    have hep := fun w => eq_pair KX KY 0 0 w
    rw [hz] at hep
    clear c0 c1 HPB HPF Mx My HER hai hz
    go_enter Tryd.func30, Tryd.ntmps30
    go_wp2_with fail
    refine (HAI.out _).mono ?_
    rintro e w1 ⟨rfl, hb1⟩
    have K1 : Hid (Rows2 w w1 [.int .u8 op, .int .u8 m, .int .u64 x, .int .u64 y, .int .u64 z] [.int .u64 0, .int .u8 0, .bool false]) := K0.out.later hb1
    clear hb1 K0
    have c0 := K1.out.x.cells 0 _ rfl
    have c1 := K1.out.x.cells 1 _ rfl
    have c2 := K1.out.x.cells 2 _ rfl
    have c3 := K1.out.x.cells 3 _ rfl
    have c4 := K1.out.x.cells 4 _ rfl
    have r0 := K1.out.r.cells 0 _ rfl
    have r1 := K1.out.r.cells 1 _ rfl
    have r2 := K1.out.r.cells 2 _ rfl
    have f0 := K1.out.r.live 0 _ rfl
    have f1 := K1.out.r.live 1 _ rfl
    have f2 := K1.out.r.live 2 _ rfl
    have z1 := K1.out.size
    have z0 : w.heap.size < _ := K1.out.x.lt
    go_wp2_with fail
    refine (HK.out _).mono ?_
    rintro e w2 ⟨rfl, hb2⟩
    have K2 : Hid (Rows2 w w2 [.int .u8 op, .int .u8 m, .int .u64 x, .int .u64 y, .int .u64 z] [.int .u64 0, .int .u8 0, .bool false]) := K1.out.later hb2
    clear hb2 K1 c0 c1 c2 c3 c4 r0 r1 r2 f0 f1 f2 z1 z0
    have c0 := K2.out.x.cells 0 _ rfl
    have c1 := K2.out.x.cells 1 _ rfl
    have c2 := K2.out.x.cells 2 _ rfl
    have c3 := K2.out.x.cells 3 _ rfl
    have c4 := K2.out.x.cells 4 _ rfl
    have r0 := K2.out.r.cells 0 _ rfl
    have r1 := K2.out.r.cells 1 _ rfl
    have r2 := K2.out.r.cells 2 _ rfl
    have f0 := K2.out.r.live 0 _ rfl
    have f1 := K2.out.r.live 1 _ rfl
    have f2 := K2.out.r.live 2 _ rfl
    have z1 := K2.out.size
    have z0 : w.heap.size < _ := K2.out.x.lt
    go_wp2_with fail
    go_light
    refine bodyPost_ret (v := .agg #[.int .u64 0, .int .u8 0, .bool false]) (results_hy rfl (((K2.out.r.set 0 _ (by simp)).set 1 _ (by simp)).set 2 _ (by simp))) rfl ⟨by rw [HV.out.1, HV.out.2], ?_⟩
    exact ((K2.out.below.setCell (by simp) _).setCell (by simp) _).setCell (by simp) _
  · have hz : (KX == 0 && KY == 0) = false := by rw [Bool.and_eq_false_iff]; simp; omega
    have HV : Hid (B = RB ∧ F = RF) := ⟨by rw [HPB.out, if_neg c0, if_neg c1], by rw [HPF.out, if_neg c0, if_neg c1]⟩
    have hep := fun w => eq_pair KX KY 0 0 w
    rw [hz] at hep
    have HERY : Hid (_) := HER.out (by
      rcases Classical.em (KX = 0) with g | g
      · exact .inr (My.out (by omega))
      · exact .inl (Mx.out g))
    clear c0 c1 HPB HPF Mx My HER hai hz
    go_enter Tryd.func30, Tryd.ntmps30
    go_wp2_with fail
    refine (HAI.out _).mono ?_
    rintro e w1 ⟨rfl, hb1⟩
    have K1 : Hid (Rows2 w w1 [.int .u8 op, .int .u8 m, .int .u64 x, .int .u64 y, .int .u64 z] [.int .u64 0, .int .u8 0, .bool false]) := K0.out.later hb1
    clear hb1 K0
    have c0 := K1.out.x.cells 0 _ rfl
    have c1 := K1.out.x.cells 1 _ rfl
    have c2 := K1.out.x.cells 2 _ rfl
    have c3 := K1.out.x.cells 3 _ rfl
    have c4 := K1.out.x.cells 4 _ rfl
    have r0 := K1.out.r.cells 0 _ rfl
    have r1 := K1.out.r.cells 1 _ rfl
    have r2 := K1.out.r.cells 2 _ rfl
    have f0 := K1.out.r.live 0 _ rfl
    have f1 := K1.out.r.live 1 _ rfl
    have f2 := K1.out.r.live 2 _ rfl
    have z1 := K1.out.size
    have z0 : w.heap.size < _ := K1.out.x.lt
    go_wp2_with fail
    refine (HK.out _).mono ?_
    rintro e w2 ⟨rfl, hb2⟩
    have K2 : Hid (Rows2 w w2 [.int .u8 op, .int .u8 m, .int .u64 x, .int .u64 y, .int .u64 z] [.int .u64 0, .int .u8 0, .bool false]) := K1.out.later hb2
    clear hb2 K1 c0 c1 c2 c3 c4 r0 r1 r2 f0 f1 f2 z1 z0
    have c0 := K2.out.x.cells 0 _ rfl
    have c1 := K2.out.x.cells 1 _ rfl
    have c2 := K2.out.x.cells 2 _ rfl
    have c3 := K2.out.x.cells 3 _ rfl
    have c4 := K2.out.x.cells 4 _ rfl
    have r0 := K2.out.r.cells 0 _ rfl
    have r1 := K2.out.r.cells 1 _ rfl
    have r2 := K2.out.r.cells 2 _ rfl
    have f0 := K2.out.r.live 0 _ rfl
    have f1 := K2.out.r.live 1 _ rfl
    have f2 := K2.out.r.live 2 _ rfl
    have z1 := K2.out.size
    have z0 : w.heap.size < _ := K2.out.x.lt
    have hz4 : 0 < ([.int .u64 0, .int .u64 0, .int .u64 0, .int .i64 0] : List Value).length := by simp
    have hp4 : 0 < ([.int .u64 0, .int .u64 (a0 : Nat), .int .u64 (a1 : Nat), .int .i64 px] : List Value).length := by simp
    have hq4 : 0 < ([.int .u64 0, .int .u64 (b0 : Nat), .int .u64 (b1 : Nat), .int .i64 py] : List Value).length := by simp
    go_upto_region 5 with fail
    go_cut [3, 4] from 5 to 37 (fun s3 s4 wx => ∃ g3 g4, s3 = .pointer (some ⟨g3, 0, none⟩) ∧ s4 = .pointer (some ⟨g4, 0, none⟩) ∧ w.heap.size + 1 < g3 ∧ w.heap.size + 1 < g4 ∧ Rows2 w wx [.int .u8 op, .int .u8 m, .int .u64 x, .int .u64 y, .int .u64 z] [.int .u64 0, .int .u8 0, .bool false] ∧ Blk wx g3 [.int .u64 0, .int .u64 (a0 : Nat), .int .u64 (a1 : Nat), .int .i64 px] ∧ Blk wx g4 [.int .u64 0, .int .u64 (b0 : Nat), .int .u64 (b1 : Nat), .int .i64 py])
    case first =>
      go_region_held3 (fun w' => w'.cell? ⟨w.heap.size, 2, none⟩ = some (.int .u64 x) ∧ w'.cell? ⟨w.heap.size, 3, none⟩ = some (.int .u64 y))
        (first | (with_reducible exact ⟨ya, yb⟩) | (with_reducible exact ⟨xa, xb⟩) | ((with_reducible refine ⟨?_, ?_⟩) <;> ((repeat (first | rw [cellSet4 _ _ _ _ _ _ _ (by first | (simp; done) | (simp; omega))] | rw [World.cell?_alloc_lt _ _ _ (by first | assumption | (simp; done) | (simp; omega))])); assumption)) | (go_keep; done))
        (first | (go_at_call_of 42 (Value.agg #[.int .u8 0, .int .u8 0, .int .u64 (x : Int), .int .u64 (x : Int), .int .u64 0]); refine (HEX.out _).mono ?_; rintro e w' ⟨rfl, hb⟩; have hs3 := hb.size; (try simp only [World.size_alloc, World.size_drew] at hs3); (first | ((with_reducible have N0 : Blk w' (w2.heap.size) [.int .u64 0, .int .u64 0, .int .u64 0, .int .i64 0] := Blk.later (Blk.alloc (Blk.new _ _ _ hz4) _) hb); have NA : Hid (Blk w' (w2.heap.size) [.int .u64 0, .int .u64 0, .int .u64 0, .int .i64 0]) := N0; clear N0; skip) | ((with_reducible have N0 : Blk w' (w2.heap.size) [.int .u64 0, .int .u64 0, .int .u64 0, .int .i64 0] := Blk.later (Blk.drew (Blk.alloc (Blk.new _ _ _ hz4) _)) hb); have NA : Hid (Blk w' (w2.heap.size) [.int .u64 0, .int .u64 0, .int .u64 0, .int .i64 0]) := N0; clear N0; skip) | ((with_reducible have N0 : Blk w' (w2.heap.size) [.int .u64 0, .int .u64 0, .int .u64 0, .int .i64 0] := Blk.later (Blk.new _ _ _ hz4) hb); have NA : Hid (Blk w' (w2.heap.size) [.int .u64 0, .int .u64 0, .int .u64 0, .int .i64 0]) := N0; clear N0; skip) | ((with_reducible have N0 : Blk w' (w2.heap.size) [.int .u64 0, .int .u64 0, .int .u64 0, .int .i64 0] := Blk.later (Blk.drew (Blk.new _ _ _ hz4)) hb); have NA : Hid (Blk w' (w2.heap.size) [.int .u64 0, .int .u64 0, .int .u64 0, .int .i64 0]) := N0; clear N0; skip) | skip); (first | ((with_reducible have N0 : Blk w' (w2.heap.size + 1) [.int .u64 0, .int .u64 0, .int .u64 0, .int .i64 0] := Blk.later (Blk.new1 _ _ _ _ hz4) hb); have NB : Hid (Blk w' (w2.heap.size + 1) [.int .u64 0, .int .u64 0, .int .u64 0, .int .i64 0]) := N0; clear N0; skip) | ((with_reducible have N0 : Blk w' (w2.heap.size + 1) [.int .u64 0, .int .u64 0, .int .u64 0, .int .i64 0] := Blk.later (Blk.drew (Blk.new1 _ _ _ _ hz4)) hb); have NB : Hid (Blk w' (w2.heap.size + 1) [.int .u64 0, .int .u64 0, .int .u64 0, .int .i64 0]) := N0; clear N0; skip) | skip); have K3 : Hid (Rows2 w w' [.int .u8 op, .int .u8 m, .int .u64 x, .int .u64 y, .int .u64 z] [.int .u64 0, .int .u8 0, .bool false]) := Rows2.later (by repeat (with_reducible first | exact K2.out | refine Rows2.drew ?_ | refine Rows2.alloc ?_ _)) hb; have xa := K3.out.x.cells 2 _ rfl; have xb := K3.out.x.cells 3 _ rfl; have z3 := K3.out.size; clear hb) | (go_at_call_of 42 (Value.agg #[.int .u8 0, .int .u8 0, .int .u64 (y : Int), .int .u64 (y : Int), .int .u64 0]); refine (HEY.out _).mono ?_; rintro e w' ⟨rfl, hb⟩; have hs4 := hb.size; (try simp only [World.size_alloc] at hs4); (first | ((with_reducible have N0 : Blk w' (w2.heap.size) [.int .u64 0, .int .u64 0, .int .u64 0, .int .i64 0] := Blk.later (NA.out) hb); have NC : Hid (Blk w' (w2.heap.size) [.int .u64 0, .int .u64 0, .int .u64 0, .int .i64 0]) := N0; clear N0; have lNC := NC.out.lt; have nNC0 := NC.out.cells 0 _ rfl; have mNC0 := NC.out.live 0 _ rfl; have nNC1 := NC.out.cells 1 _ rfl; have mNC1 := NC.out.live 1 _ rfl; have nNC2 := NC.out.cells 2 _ rfl; have mNC2 := NC.out.live 2 _ rfl; have nNC3 := NC.out.cells 3 _ rfl; have mNC3 := NC.out.live 3 _ rfl) | ((with_reducible have N0 : Blk w' (w2.heap.size) [.int .u64 0, .int .u64 0, .int .u64 0, .int .i64 0] := Blk.later (Blk.drew (NA.out)) hb); have NC : Hid (Blk w' (w2.heap.size) [.int .u64 0, .int .u64 0, .int .u64 0, .int .i64 0]) := N0; clear N0; have lNC := NC.out.lt; have nNC0 := NC.out.cells 0 _ rfl; have mNC0 := NC.out.live 0 _ rfl; have nNC1 := NC.out.cells 1 _ rfl; have mNC1 := NC.out.live 1 _ rfl; have nNC2 := NC.out.cells 2 _ rfl; have mNC2 := NC.out.live 2 _ rfl; have nNC3 := NC.out.cells 3 _ rfl; have mNC3 := NC.out.live 3 _ rfl) | ((with_reducible have N0 : Blk w' (w2.heap.size) [.int .u64 0, .int .u64 0, .int .u64 0, .int .i64 0] := Blk.later (Blk.alloc (NA.out) _) hb); have NC : Hid (Blk w' (w2.heap.size) [.int .u64 0, .int .u64 0, .int .u64 0, .int .i64 0]) := N0; clear N0; have lNC := NC.out.lt; have nNC0 := NC.out.cells 0 _ rfl; have mNC0 := NC.out.live 0 _ rfl; have nNC1 := NC.out.cells 1 _ rfl; have mNC1 := NC.out.live 1 _ rfl; have nNC2 := NC.out.cells 2 _ rfl; have mNC2 := NC.out.live 2 _ rfl; have nNC3 := NC.out.cells 3 _ rfl; have mNC3 := NC.out.live 3 _ rfl) | ((with_reducible have N0 : Blk w' (w2.heap.size) [.int .u64 0, .int .u64 0, .int .u64 0, .int .i64 0] := Blk.later (Blk.alloc (Blk.alloc (NA.out) _) _) hb); have NC : Hid (Blk w' (w2.heap.size) [.int .u64 0, .int .u64 0, .int .u64 0, .int .i64 0]) := N0; clear N0; have lNC := NC.out.lt; have nNC0 := NC.out.cells 0 _ rfl; have mNC0 := NC.out.live 0 _ rfl; have nNC1 := NC.out.cells 1 _ rfl; have mNC1 := NC.out.live 1 _ rfl; have nNC2 := NC.out.cells 2 _ rfl; have mNC2 := NC.out.live 2 _ rfl; have nNC3 := NC.out.cells 3 _ rfl; have mNC3 := NC.out.live 3 _ rfl) | skip); (first | ((with_reducible have N0 : Blk w' (w2.heap.size + 1) [.int .u64 0, .int .u64 0, .int .u64 0, .int .i64 0] := Blk.later (NB.out) hb); have ND : Hid (Blk w' (w2.heap.size + 1) [.int .u64 0, .int .u64 0, .int .u64 0, .int .i64 0]) := N0; clear N0; have lND := ND.out.lt; have nND0 := ND.out.cells 0 _ rfl; have mND0 := ND.out.live 0 _ rfl; have nND1 := ND.out.cells 1 _ rfl; have mND1 := ND.out.live 1 _ rfl; have nND2 := ND.out.cells 2 _ rfl; have mND2 := ND.out.live 2 _ rfl; have nND3 := ND.out.cells 3 _ rfl; have mND3 := ND.out.live 3 _ rfl) | ((with_reducible have N0 : Blk w' (w2.heap.size + 1) [.int .u64 0, .int .u64 0, .int .u64 0, .int .i64 0] := Blk.later (Blk.drew (NB.out)) hb); have ND : Hid (Blk w' (w2.heap.size + 1) [.int .u64 0, .int .u64 0, .int .u64 0, .int .i64 0]) := N0; clear N0; have lND := ND.out.lt; have nND0 := ND.out.cells 0 _ rfl; have mND0 := ND.out.live 0 _ rfl; have nND1 := ND.out.cells 1 _ rfl; have mND1 := ND.out.live 1 _ rfl; have nND2 := ND.out.cells 2 _ rfl; have mND2 := ND.out.live 2 _ rfl; have nND3 := ND.out.cells 3 _ rfl; have mND3 := ND.out.live 3 _ rfl) | ((with_reducible have N0 : Blk w' (w2.heap.size + 1) [.int .u64 0, .int .u64 0, .int .u64 0, .int .i64 0] := Blk.later (Blk.alloc (NB.out) _) hb); have ND : Hid (Blk w' (w2.heap.size + 1) [.int .u64 0, .int .u64 0, .int .u64 0, .int .i64 0]) := N0; clear N0; have lND := ND.out.lt; have nND0 := ND.out.cells 0 _ rfl; have mND0 := ND.out.live 0 _ rfl; have nND1 := ND.out.cells 1 _ rfl; have mND1 := ND.out.live 1 _ rfl; have nND2 := ND.out.cells 2 _ rfl; have mND2 := ND.out.live 2 _ rfl; have nND3 := ND.out.cells 3 _ rfl; have mND3 := ND.out.live 3 _ rfl) | ((with_reducible have N0 : Blk w' (w2.heap.size + 1) [.int .u64 0, .int .u64 0, .int .u64 0, .int .i64 0] := Blk.later (Blk.alloc (Blk.alloc (NB.out) _) _) hb); have ND : Hid (Blk w' (w2.heap.size + 1) [.int .u64 0, .int .u64 0, .int .u64 0, .int .i64 0]) := N0; clear N0; have lND := ND.out.lt; have nND0 := ND.out.cells 0 _ rfl; have mND0 := ND.out.live 0 _ rfl; have nND1 := ND.out.cells 1 _ rfl; have mND1 := ND.out.live 1 _ rfl; have nND2 := ND.out.cells 2 _ rfl; have mND2 := ND.out.live 2 _ rfl; have nND3 := ND.out.cells 3 _ rfl; have mND3 := ND.out.live 3 _ rfl) | skip); (first | ((with_reducible have N0 : Blk w' (_) [.int .u64 0, .int .u64 0, .int .u64 0, .int .i64 0] := Blk.later (Blk.alloc (Blk.new _ _ _ hz4) _) hb); have NE : Hid (Blk w' (_) [.int .u64 0, .int .u64 0, .int .u64 0, .int .i64 0]) := N0; clear N0; have lNE := NE.out.lt; have nNE0 := NE.out.cells 0 _ rfl; have mNE0 := NE.out.live 0 _ rfl; have nNE1 := NE.out.cells 1 _ rfl; have mNE1 := NE.out.live 1 _ rfl; have nNE2 := NE.out.cells 2 _ rfl; have mNE2 := NE.out.live 2 _ rfl; have nNE3 := NE.out.cells 3 _ rfl; have mNE3 := NE.out.live 3 _ rfl) | ((with_reducible have N0 : Blk w' (_) [.int .u64 0, .int .u64 0, .int .u64 0, .int .i64 0] := Blk.later (Blk.drew (Blk.alloc (Blk.new _ _ _ hz4) _)) hb); have NE : Hid (Blk w' (_) [.int .u64 0, .int .u64 0, .int .u64 0, .int .i64 0]) := N0; clear N0; have lNE := NE.out.lt; have nNE0 := NE.out.cells 0 _ rfl; have mNE0 := NE.out.live 0 _ rfl; have nNE1 := NE.out.cells 1 _ rfl; have mNE1 := NE.out.live 1 _ rfl; have nNE2 := NE.out.cells 2 _ rfl; have mNE2 := NE.out.live 2 _ rfl; have nNE3 := NE.out.cells 3 _ rfl; have mNE3 := NE.out.live 3 _ rfl) | ((with_reducible have N0 : Blk w' (_) [.int .u64 0, .int .u64 0, .int .u64 0, .int .i64 0] := Blk.later (Blk.new _ _ _ hz4) hb); have NE : Hid (Blk w' (_) [.int .u64 0, .int .u64 0, .int .u64 0, .int .i64 0]) := N0; clear N0; have lNE := NE.out.lt; have nNE0 := NE.out.cells 0 _ rfl; have mNE0 := NE.out.live 0 _ rfl; have nNE1 := NE.out.cells 1 _ rfl; have mNE1 := NE.out.live 1 _ rfl; have nNE2 := NE.out.cells 2 _ rfl; have mNE2 := NE.out.live 2 _ rfl; have nNE3 := NE.out.cells 3 _ rfl; have mNE3 := NE.out.live 3 _ rfl) | ((with_reducible have N0 : Blk w' (_) [.int .u64 0, .int .u64 0, .int .u64 0, .int .i64 0] := Blk.later (Blk.drew (Blk.new _ _ _ hz4)) hb); have NE : Hid (Blk w' (_) [.int .u64 0, .int .u64 0, .int .u64 0, .int .i64 0]) := N0; clear N0; have lNE := NE.out.lt; have nNE0 := NE.out.cells 0 _ rfl; have mNE0 := NE.out.live 0 _ rfl; have nNE1 := NE.out.cells 1 _ rfl; have mNE1 := NE.out.live 1 _ rfl; have nNE2 := NE.out.cells 2 _ rfl; have mNE2 := NE.out.live 2 _ rfl; have nNE3 := NE.out.cells 3 _ rfl; have mNE3 := NE.out.live 3 _ rfl) | skip); (first | ((with_reducible have N0 : Blk w' (_) [.int .u64 0, .int .u64 0, .int .u64 0, .int .i64 0] := Blk.later (Blk.new1 _ _ _ _ hz4) hb); have NF : Hid (Blk w' (_) [.int .u64 0, .int .u64 0, .int .u64 0, .int .i64 0]) := N0; clear N0; have lNF := NF.out.lt; have nNF0 := NF.out.cells 0 _ rfl; have mNF0 := NF.out.live 0 _ rfl; have nNF1 := NF.out.cells 1 _ rfl; have mNF1 := NF.out.live 1 _ rfl; have nNF2 := NF.out.cells 2 _ rfl; have mNF2 := NF.out.live 2 _ rfl; have nNF3 := NF.out.cells 3 _ rfl; have mNF3 := NF.out.live 3 _ rfl) | ((with_reducible have N0 : Blk w' (_) [.int .u64 0, .int .u64 0, .int .u64 0, .int .i64 0] := Blk.later (Blk.drew (Blk.new1 _ _ _ _ hz4)) hb); have NF : Hid (Blk w' (_) [.int .u64 0, .int .u64 0, .int .u64 0, .int .i64 0]) := N0; clear N0; have lNF := NF.out.lt; have nNF0 := NF.out.cells 0 _ rfl; have mNF0 := NF.out.live 0 _ rfl; have nNF1 := NF.out.cells 1 _ rfl; have mNF1 := NF.out.live 1 _ rfl; have nNF2 := NF.out.cells 2 _ rfl; have mNF2 := NF.out.live 2 _ rfl; have nNF3 := NF.out.cells 3 _ rfl; have mNF3 := NF.out.live 3 _ rfl) | skip); have K4 : Hid (Rows2 w w' [.int .u8 op, .int .u8 m, .int .u64 x, .int .u64 y, .int .u64 z] [.int .u64 0, .int .u8 0, .bool false]) := Rows2.later (by repeat (with_reducible first | exact K3.out | refine Rows2.drew ?_ | refine Rows2.alloc ?_ _)) hb; have ya := K4.out.x.cells 2 _ rfl; have yb := K4.out.x.cells 3 _ rfl; have z4 := K4.out.size; clear hb))
      all_goals (try go_wp2_with fail)
      all_goals go_meet
      all_goals go_light
      all_goals exact ⟨_, _, rfl, rfl, by omega, by omega, by repeat (with_reducible first | exact K4.out | refine Rows2.drew ?_ | refine Rows2.alloc ?_ _ | refine Rows2.put ?_ _ _ (by omega)), by repeat (with_reducible first | exact NC.out | exact ND.out | exact NE.out | exact NF.out | exact Blk.new _ _ _ hp4 | exact Blk.new _ _ _ hq4 | exact Blk.new4 _ _ _ _ _ _ _ _ hp4 | exact Blk.new4 _ _ _ _ _ _ _ _ hq4 | exact Blk.new1 _ _ _ _ hp4 | exact Blk.new1 _ _ _ _ hq4 | refine Blk.set4 (z0 := .int .u64 0) (z1 := .int .u64 0) (z2 := .int .u64 0) (z3 := .int .i64 0) ?_ | refine Blk.other4 ?_ (by omega) | refine Blk.drew ?_ | refine Blk.alloc ?_ _), by repeat (with_reducible first | exact NC.out | exact ND.out | exact NE.out | exact NF.out | exact Blk.new _ _ _ hp4 | exact Blk.new _ _ _ hq4 | exact Blk.new4 _ _ _ _ _ _ _ _ hp4 | exact Blk.new4 _ _ _ _ _ _ _ _ hq4 | exact Blk.new1 _ _ _ _ hp4 | exact Blk.new1 _ _ _ _ hq4 | refine Blk.set4 (z0 := .int .u64 0) (z1 := .int .u64 0) (z2 := .int .u64 0) (z3 := .int .i64 0) ?_ | refine Blk.other4 ?_ (by omega) | refine Blk.drew ?_ | refine Blk.alloc ?_ _)⟩
    case rest =>
      obtain ⟨g3, g4, rfl, rfl, e3, e4, hk, h3, h4⟩ := hcut
      have T0 : Hid (Tri w wc [.int .u8 op, .int .u8 m, .int .u64 x, .int .u64 y, .int .u64 z] [.int .u64 0, .int .u8 0, .bool false] g3 g4 [.int .u64 0, .int .u64 (a0 : Nat), .int .u64 (a1 : Nat), .int .i64 px] [.int .u64 0, .int .u64 (b0 : Nat), .int .u64 (b1 : Nat), .int .i64 py]) := ⟨hk, h3, h4⟩
      clear hk h3 h4 K2 HK HAI HEX HEY hep c0 c1 c2 c3 c4 r0 r1 r2 f0 f1 f2 z1 z0 hz4 hp4 hq4
      have t1 := T0.out.rows.x.cells 1 _ rfl
      have p0 := T0.out.p.cells 0 _ rfl
      have p1 := T0.out.p.cells 1 _ rfl
      have p2 := T0.out.p.cells 2 _ rfl
      have p3 := T0.out.p.cells 3 _ rfl
      have q0 := T0.out.q.cells 0 _ rfl
      have q1 := T0.out.q.cells 1 _ rfl
      have q2 := T0.out.q.cells 2 _ rfl
      have q3 := T0.out.q.cells 3 _ rfl
      have l3 := T0.out.p.lt
      have l4 := T0.out.q.lt
      have z1 := T0.out.rows.size
      go_wp2_with fail
      go_region_held3 (fun w' => w'.cell? ⟨w.heap.size, 1, none⟩ = some (.int .u8 m) ∧ w'.cell? ⟨g3, 0, none⟩ = some (.int .u64 0) ∧ w'.cell? ⟨g3, 1, none⟩ = some (.int .u64 (a0 : Nat)) ∧ w'.cell? ⟨g3, 2, none⟩ = some (.int .u64 (a1 : Nat)) ∧ w'.cell? ⟨g3, 3, none⟩ = some (.int .i64 px) ∧ w'.cell? ⟨g4, 0, none⟩ = some (.int .u64 0) ∧ w'.cell? ⟨g4, 1, none⟩ = some (.int .u64 (b0 : Nat)) ∧ w'.cell? ⟨g4, 2, none⟩ = some (.int .u64 (b1 : Nat)) ∧ w'.cell? ⟨g4, 3, none⟩ = some (.int .i64 py))
        (first | (with_reducible exact ⟨xT5, pT50, pT51, pT52, pT53, qT50, qT51, qT52, qT53⟩) | (with_reducible exact ⟨xT4, pT40, pT41, pT42, pT43, qT40, qT41, qT42, qT43⟩) | (with_reducible exact ⟨xT3, pT30, pT31, pT32, pT33, qT30, qT31, qT32, qT33⟩) | (with_reducible exact ⟨xT2, pT20, pT21, pT22, pT23, qT20, qT21, qT22, qT23⟩) | (with_reducible exact ⟨xT1, pT10, pT11, pT12, pT13, qT10, qT11, qT12, qT13⟩) | ((with_reducible refine ⟨?_, ?_, ?_, ?_, ?_, ?_, ?_, ?_, ?_⟩) <;> (rw [cellSet3 _ _ _ _ _ _ (by first | (simp; done) | (simp; omega))]; assumption)) | (go_keep; done))
        (first | (go_at_call_of 45 (Value.agg #[.int .u64 0, .int .u64 ((a0 : Nat) : Int), .int .u64 ((a1 : Nat) : Int), .int .i64 px]); refine (HWX.out _).mono ?_; rintro e w' ⟨rfl, hb⟩; have T1 : Hid (Tri w w' [.int .u8 op, .int .u8 m, .int .u64 x, .int .u64 y, .int .u64 z] [.int .u64 0, .int .u8 0, .bool false] g3 g4 [.int .u64 0, .int .u64 (a0 : Nat), .int .u64 (a1 : Nat), .int .i64 px] [.int .u64 0, .int .u64 (b0 : Nat), .int .u64 (b1 : Nat), .int .i64 py]) := Tri.later (by repeat (with_reducible first | exact T0.out | refine Tri.drew ?_)) hb; have xT1 := T1.out.rows.x.cells 1 _ rfl; have pT10 := T1.out.p.cells 0 _ rfl; have qT10 := T1.out.q.cells 0 _ rfl; have pT11 := T1.out.p.cells 1 _ rfl; have qT11 := T1.out.q.cells 1 _ rfl; have pT12 := T1.out.p.cells 2 _ rfl; have qT12 := T1.out.q.cells 2 _ rfl; have pT13 := T1.out.p.cells 3 _ rfl; have qT13 := T1.out.q.cells 3 _ rfl; clear hb) | (go_at_call_of 45 (Value.agg #[.int .u64 0, .int .u64 ((b0 : Nat) : Int), .int .u64 ((b1 : Nat) : Int), .int .i64 py]); refine (HWY.out _).mono ?_; rintro e w' ⟨rfl, hb⟩; have T2 : Hid (Tri w w' [.int .u8 op, .int .u8 m, .int .u64 x, .int .u64 y, .int .u64 z] [.int .u64 0, .int .u8 0, .bool false] g3 g4 [.int .u64 0, .int .u64 (a0 : Nat), .int .u64 (a1 : Nat), .int .i64 px] [.int .u64 0, .int .u64 (b0 : Nat), .int .u64 (b1 : Nat), .int .i64 py]) := Tri.later (by repeat (with_reducible first | exact T1.out | refine Tri.drew ?_)) hb; have xT2 := T2.out.rows.x.cells 1 _ rfl; have pT20 := T2.out.p.cells 0 _ rfl; have qT20 := T2.out.q.cells 0 _ rfl; have pT21 := T2.out.p.cells 1 _ rfl; have qT21 := T2.out.q.cells 1 _ rfl; have pT22 := T2.out.p.cells 2 _ rfl; have qT22 := T2.out.q.cells 2 _ rfl; have pT23 := T2.out.p.cells 3 _ rfl; have qT23 := T2.out.q.cells 3 _ rfl; clear hb) | (go_at_call 48; refine (HES.out _).mono ?_; rintro e w' ⟨rfl, hb⟩; have T3 : Hid (Tri w w' [.int .u8 op, .int .u8 m, .int .u64 x, .int .u64 y, .int .u64 z] [.int .u64 0, .int .u8 0, .bool false] g3 g4 [.int .u64 0, .int .u64 (a0 : Nat), .int .u64 (a1 : Nat), .int .i64 px] [.int .u64 0, .int .u64 (b0 : Nat), .int .u64 (b1 : Nat), .int .i64 py]) := Tri.later (by repeat (with_reducible first | exact T2.out | refine Tri.drew ?_)) hb; have xT3 := T3.out.rows.x.cells 1 _ rfl; have pT30 := T3.out.p.cells 0 _ rfl; have qT30 := T3.out.q.cells 0 _ rfl; have pT31 := T3.out.p.cells 1 _ rfl; have qT31 := T3.out.q.cells 1 _ rfl; have pT32 := T3.out.p.cells 2 _ rfl; have qT32 := T3.out.q.cells 2 _ rfl; have pT33 := T3.out.p.cells 3 _ rfl; have qT33 := T3.out.q.cells 3 _ rfl; clear hb) | (go_at_call 46; refine (HERY.out _).mono ?_; rintro e w' ⟨O, HR, rfl, hb⟩; have T4 : Hid (Tri w w' [.int .u8 op, .int .u8 m, .int .u64 x, .int .u64 y, .int .u64 z] [.int .u64 0, .int .u8 0, .bool false] g3 g4 [.int .u64 0, .int .u64 (a0 : Nat), .int .u64 (a1 : Nat), .int .i64 px] [.int .u64 0, .int .u64 (b0 : Nat), .int .u64 (b1 : Nat), .int .i64 py]) := Tri.later (by repeat (with_reducible first | exact T3.out | refine Tri.drew ?_)) hb; have xT4 := T4.out.rows.x.cells 1 _ rfl; have pT40 := T4.out.p.cells 0 _ rfl; have qT40 := T4.out.q.cells 0 _ rfl; have pT41 := T4.out.p.cells 1 _ rfl; have qT41 := T4.out.q.cells 1 _ rfl; have pT42 := T4.out.p.cells 2 _ rfl; have qT42 := T4.out.q.cells 2 _ rfl; have pT43 := T4.out.p.cells 3 _ rfl; have qT43 := T4.out.q.cells 3 _ rfl; clear hb) | (go_at_call 41; refine (HR.out _ (by exact Rows2.below (Tri.rows (g3 := g3) (g4 := g4) (xs := [.int .u8 op, .int .u8 m, .int .u64 x, .int .u64 y, .int .u64 z]) (rs := [.int .u64 0, .int .u8 0, .bool false]) (ps := [.int .u64 0, .int .u64 (a0 : Nat), .int .u64 (a1 : Nat), .int .i64 px]) (qs := [.int .u64 0, .int .u64 (b0 : Nat), .int .u64 (b1 : Nat), .int .i64 py]) (by repeat (with_reducible first | exact T4.out | refine Tri.drew ?_))))).mono ?_; rintro e w' ⟨rfl, hb⟩; have T5 : Hid (Tri w w' [.int .u8 op, .int .u8 m, .int .u64 x, .int .u64 y, .int .u64 z] [.int .u64 0, .int .u8 0, .bool false] g3 g4 [.int .u64 0, .int .u64 (a0 : Nat), .int .u64 (a1 : Nat), .int .i64 px] [.int .u64 0, .int .u64 (b0 : Nat), .int .u64 (b1 : Nat), .int .i64 py]) := Tri.later (by repeat (with_reducible first | exact T4.out | refine Tri.drew ?_)) hb; have xT5 := T5.out.rows.x.cells 1 _ rfl; have pT50 := T5.out.p.cells 0 _ rfl; have qT50 := T5.out.q.cells 0 _ rfl; have pT51 := T5.out.p.cells 1 _ rfl; have qT51 := T5.out.q.cells 1 _ rfl; have pT52 := T5.out.p.cells 2 _ rfl; have qT52 := T5.out.q.cells 2 _ rfl; have pT53 := T5.out.p.cells 3 _ rfl; have qT53 := T5.out.q.cells 3 _ rfl; have s0 := T5.out.rows.r.cells 0 _ rfl; have t0 := T5.out.rows.r.live 0 _ rfl; have s1 := T5.out.rows.r.cells 1 _ rfl; have t1 := T5.out.rows.r.live 1 _ rfl; have s2 := T5.out.rows.r.cells 2 _ rfl; have t2 := T5.out.rows.r.live 2 _ rfl; clear hb))
      all_goals (try go_wp2_with fail)
      all_goals go_light
      all_goals refine bodyPost_ret (v := .agg #[.int .u64 RB, .int .u8 RF, .bool false]) (results_hy rfl (((T5.out.rows.r.set 0 _ (by simp)).set 1 _ (by simp)).set 2 _ (by simp))) rfl ⟨by rw [HV.out.1, HV.out.2], ?_⟩
      all_goals exact ((T5.out.rows.below.setCell (by simp) _).setCell (by simp) _).setCell (by simp) _


/-- hypot's bits where an operand is a NaN. -/
def n9B (x y : Int) : Int := if anyN [x, y] = true ∧ nanFlag [x, y] = 0 ∧ (kind x = 3 ∨ kind y = 3) then 9218868437227405312 else nanBits [x, y]
theorem index9 (w : World) : (Instr.index 48 (.agg opsCells) (.int .u8 9)).run Tryd.prog w = .ok (.agg #[.int .i64 ((2 : Nat) : Int), .func (.func 30) #[] #[], .func (.func 31) #[] #[]]) w := by kernel_rfl
theorem soft_hyDo (x y : Nat) (m z : Int) (hx : x < 18446744073709551616) (hy : y < 18446744073709551616) (hz : 0 ≤ z ∧ z < 18446744073709551616) (hm : 0 ≤ m ∧ m ≤ 4) (hn : anyN [(x : Int), (y : Int)] = false) (w : World) (hT : Tab w) :
    Calls Tryd.prog 12 #[.agg #[.int .u8 9, .int .u8 m, .int .u64 x, .int .u64 y, .int .u64 z]] w fun e w' => e = .returned (.agg #[.int .u64 (sdB x y m), .int .u8 (sdF x y m), .bool false]) ∧ Below w.heap.size w w' := by
  obtain ⟨Z, rfl⟩ := Int.eq_ofNat_of_zero_le hz.1
  exact soft_do9 9 m x y Z 2 30 (by omega) hm hx hy (by omega) (by omega) index9 hn w _ _ false (enters_of Tryd.func30 (by kernel_rfl) rfl) (fun w1 hb => soft_hy x y 9 m Z hx hy hm w1 (hT.later hb))
theorem nanFlag_two (l : List Int) : nanFlag l = 0 ∨ nanFlag l = 16 := by unfold nanFlag; split <;> simp
theorem soft_nanHy (x y : Nat) (m z : Int) (hx : x < 18446744073709551616) (hy : y < 18446744073709551616) (hz : 0 ≤ z ∧ z < 18446744073709551616) (hm : 0 ≤ m ∧ m ≤ 4) (hn : anyN [(x : Int), (y : Int)] = true) (w : World) (hT : Tab w) :
    Calls Tryd.prog 12 #[.agg #[.int .u8 9, .int .u8 m, .int .u64 x, .int .u64 y, .int .u64 z]] w fun e w' => e = .returned (.agg #[.int .u64 (n9B x y), .int .u8 (nanFlag [(x : Int), (y : Int)]), .bool false]) ∧ Below w.heap.size w w' := by
  obtain ⟨Z, rfl⟩ := Int.eq_ofNat_of_zero_le hz.1
  rcases nanFlag_two [(x : Int), (y : Int)] with hf | hf
  · have hb : (nanFlag ([(x : Int), (y : Int), (Z : Int)].take 2) == 16) = false := by
      show (nanFlag [(x : Int), (y : Int)] == 16) = false
      rw [hf]; rfl
    by_cases hi : kind (x : Int) = 3 ∨ kind (y : Int) = 3
    · have ha : anI (kind x) (kind y) = true := by unfold anI; rcases hi with h | h <;> simp [h]
      have e1 : n9B x y = sdB x y m := by unfold n9B sdB; rw [if_pos ⟨hn, hf, hi⟩, if_pos hi]
      have e2 : nanFlag [(x : Int), (y : Int)] = sdF x y m := by rw [hf]; unfold sdF; rw [if_pos hi]
      rw [e1, e2]
      exact soft_on9 9 m x y Z 2 30 (by omega) hm hx hy (by omega) (by omega) index9 hn hb ha w _ _ false (enters_of Tryd.func30 (by kernel_rfl) rfl) (fun w1 hb => soft_hy x y 9 m Z hx hy hm w1 (hT.later hb))
    · have ha : anI (kind x) (kind y) = false := by unfold anI; simp; omega
      have e1 : n9B x y = nanBits ([(x : Int), (y : Int), (Z : Int)].take 2) := by unfold n9B; rw [if_neg (fun h => hi h.2.2)]; rfl
      rw [e1]
      exact soft_off9 9 m x y Z 2 30 (by omega) hm hx hy (by omega) (by omega) index9 hn hb ha w
  · have hb : (nanFlag ([(x : Int), (y : Int), (Z : Int)].take 2) == 16) = true := by
      show (nanFlag [(x : Int), (y : Int)] == 16) = true
      rw [hf]; rfl
    have e1 : n9B x y = nanBits ([(x : Int), (y : Int), (Z : Int)].take 2) := by unfold n9B; rw [if_neg (fun h => by rw [hf] at h; exact absurd h.2.1 (by decide))]; rfl
    rw [e1]
    exact soft_nan9 9 m x y Z 2 30 (by omega) hm hx hy (by omega) (by omega) index9 hn hb w

end Go.Proofs.YtcjihaafohnbeaaDoor
