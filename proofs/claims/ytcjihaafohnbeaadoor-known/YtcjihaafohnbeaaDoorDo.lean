import Derived.Test.YtcjihaafohnbeaaDoorRefK
import Derived.Test.YtcjihaafohnbeaaDoorPA
import Derived.Deep.RegionHeld3
import Derived.Deep.Cut
import Derived.Deep.CutRange
import Derived.Deep.Light
import Derived.Shelf.Abstract
namespace Go.Proofs.YtcjihaafohnbeaaDoor
open Go.RowKit

set_option maxHeartbeats 1000000 in
theorem soft_bad (op m x y z : Int) (ho : 0 ≤ op ∧ op < 256) (hm : 0 ≤ m ∧ m < 256) (hbad : op < 1 ∨ 10 < op ∨ 4 < m) (w : World) :
    Calls Tryd.prog 12 #[.agg #[.int .u8 op, .int .u8 m, .int .u64 x, .int .u64 y, .int .u64 z]] w fun e w' =>
      e = .returned (.agg #[.int .u64 0, .int .u8 0, .bool true]) ∧ Below w.heap.size w w' := by
  obtain ⟨o1, o2⟩ := ho
  obtain ⟨m1, m2⟩ := hm
  have HB : Hid (op < 1 ∨ 10 < op ∨ 4 < m) := hbad
  clear hbad
  by_cases h1 : op < 1
  · go_enter Tryd.func12, Tryd.ntmps12
    go_wp2
    exact bodyPost_ret (v := .agg #[.int .u64 0, .int .u8 0, .bool true]) (by simp [results, Tryd.results12, go_sem]) rfl ⟨rfl, ((Below.refl _ _).alloc (Nat.le_refl _) _).alloc (by simp) _⟩
  · by_cases h2 : 10 < op
    · go_enter Tryd.func12, Tryd.ntmps12
      go_wp2
      exact bodyPost_ret (v := .agg #[.int .u64 0, .int .u8 0, .bool true]) (by simp [results, Tryd.results12, go_sem]) rfl ⟨rfl, ((Below.refl _ _).alloc (Nat.le_refl _) _).alloc (by simp) _⟩
    · have h3 : 4 < m := by have := HB.out; omega
      go_enter Tryd.func12, Tryd.ntmps12
      go_wp2
      exact bodyPost_ret (v := .agg #[.int .u64 0, .int .u8 0, .bool true]) (by simp [results, Tryd.results12, go_sem]) rfl ⟨rfl, ((Below.refl _ _).alloc (Nat.le_refl _) _).alloc (by simp) _⟩

theorem args_cells {x y z : Int} (hx : 0 ≤ x ∧ x < 18446744073709551616) (hy : 0 ≤ y ∧ y < 18446744073709551616) (hz : 0 ≤ z ∧ z < 18446744073709551616) {n : Nat} (hn : n ≤ 3) {w : World} {t : TypeId} (i : Nat) (hi : i < n) :
    (w.alloc (.cells #[.int .u64 x, .int .u64 y, .int .u64 z] t)).cell? ⟨w.heap.size, 0 + i, none⟩ = some (.int .u64 (([x, y, z].take n).getD i 0)) ∧ 0 ≤ ([x, y, z].take n).getD i 0 ∧ ([x, y, z].take n).getD i 0 < 18446744073709551616 := by
  have e : ([x, y, z].take n).getD i 0 = [x, y, z].getD i 0 := by
    simp only [List.getD_eq_getElem?_getD, List.getElem?_take, if_pos hi]
  rw [e]
  match i, (show i < 3 by omega) with
  | 0, _ => exact ⟨by go_simp, hx⟩
  | 1, _ => exact ⟨by go_simp, hy⟩
  | 2, _ => exact ⟨by go_simp, hz⟩
def Opened (w W2 : World) (vs : List Value) (s3 : Value) (wx : World) : Prop := ∃ g, s3 = .pointer (some ⟨g, 0, none⟩) ∧ w.heap.size + 1 < g ∧ Below (w.heap.size + 2) W2 wx ∧ Blk wx g vs
theorem opened_new {w W2 w' : World} (hs : W2.heap.size = w.heap.size + 2) (hb : Below W2.heap.size W2 w') (vs : List Value) (t : TypeId) (hn : 0 < vs.length) :
    Opened w W2 vs (.pointer (some ⟨w'.heap.size, 0, none⟩)) (w'.alloc (.cells vs.toArray t)) := by
  have hz := hb.size
  exact ⟨_, rfl, by omega, (hb.mono (by omega)).alloc (by omega) _, Blk.new _ _ _ hn⟩
theorem opened_old {w W2 w' : World} {g : Nat} (hg : g = w.heap.size + 2) (o : Obj) (c0 c1 c2 : Value) (t : TypeId) (ho : o = .cells #[c0, c1, c2] t) (hs : W2.heap.size = w.heap.size + 2) (hb : Below (W2.alloc o).heap.size (W2.alloc o) w') (a b c : Value) :
    Opened w W2 [a, b, c] (.pointer (some ⟨g, 0, none⟩)) (((w'.setCell ⟨g, 0, none⟩ a).setCell ⟨g, 1, none⟩ b).setCell ⟨g, 2, none⟩ c) := by
  subst hg ho
  have hz := hb.size
  have hk : Blk (W2.alloc (.cells #[c0, c1, c2] t)) (w.heap.size + 2) [c0, c1, c2] := by
    have := Blk.new W2 [c0, c1, c2] t (by simp)
    rw [hs] at this
    exact this
  have hk2 := hk.later hb
  simp only [World.size_alloc] at hz hb
  have h2 : Below (w.heap.size + 2) W2 w' := ((Below.refl _ _).alloc (by omega) _).trans (hb.mono (by omega))
  exact ⟨_, rfl, by omega, ((h2.setCell (by simp) _).setCell (by simp) _).setCell (by simp) _, ((hk2.set 0 a (by simp)).set 1 b (by simp)).set 2 c (by simp)⟩

theorem eqNil1 (w : World) : (Go.binOp .eql 45 .nilFunc .nilFunc).run Tryd.prog w = .ok (.bool true) w := by kernel_rfl
theorem eqNil2 (w : World) : (Go.binOp .eql 45 (.func (.func 26) #[] #[]) .nilFunc).run Tryd.prog w = .ok (.bool false) w := by kernel_rfl
theorem results_do {tmps : Array Value} {U : World} {g : Nat} {a b c : Value} (h2 : tmps.getD 2 undef = .pointer (some ⟨g, 0, none⟩)) (h : Blk U g [a, b, c]) :
    (results Tryd.f12 tmps).run Tryd.prog U = .ok (.agg #[a, b, c]) U := by
  have c0 := h.cells 0 _ rfl
  have c1 := h.cells 1 _ rfl
  have c2 := h.cells 2 _ rfl
  have h2' : tmps[2]?.getD undef = .pointer (some ⟨g, 0, none⟩) := by simpa using h2
  simp [results, Tryd.results12, go_sem, h2', c0, c1, c2]

set_option maxHeartbeats 8000000 in
set_option maxRecDepth 20000 in
theorem soft_do (op m : Int) (x y z : Nat) (n f : Nat) (ho : 1 ≤ op ∧ op ≤ 10) (hm : 0 ≤ m ∧ m ≤ 4) (hx : x < 18446744073709551616) (hy : y < 18446744073709551616) (hz : z < 18446744073709551616) (hn : n ≤ 3)
    (hix : ∀ w, (Instr.index 48 (.agg opsCells) (.int .u8 op)).run Tryd.prog w = .ok (.agg #[.int .i64 n, .func (.func f) #[] #[], .nilFunc]) w)
    (hnan : ([(x : Int), (y : Int), (z : Int)].take n).any isN = false) (w : World) (b fl : Int) (bad : Bool) (hent : ∀ args w, (callFunc f args).run Tryd.prog w = .ok (.enter f args) w) (hrec : ∀ w1, Below w.heap.size w w1 → Calls Tryd.prog f #[.agg #[.int .u8 op, .int .u8 m, .int .u64 x, .int .u64 y, .int .u64 z]] w1 fun e w' => e = .returned (.agg #[.int .u64 b, .int .u8 fl, .bool bad]) ∧ Below w1.heap.size w1 w') :
    Calls Tryd.prog 12 #[.agg #[.int .u8 op, .int .u8 m, .int .u64 x, .int .u64 y, .int .u64 z]] w fun e w' => e = .returned (.agg #[.int .u64 b, .int .u8 fl, .bool bad]) ∧ Below w.heap.size w w' := by
  have HREC : Hid (∀ w1, Below w.heap.size w w1 → Calls Tryd.prog f #[.agg #[.int .u8 op, .int .u8 m, .int .u64 x, .int .u64 y, .int .u64 z]] w1 fun e w' => e = .returned (.agg #[.int .u64 b, .int .u8 fl, .bool bad]) ∧ Below w1.heap.size w1 w') := hrec
  clear hrec
  have HA : Hid (∀ (W : World), Calls Tryd.prog 20 #[.slice (some ⟨W.heap.size, 0, none⟩) n 3] (W.alloc (.cells #[.int .u64 x, .int .u64 y, .int .u64 z] 50)) fun e w' =>
      e = .returned (.tuple #[.agg #[.int .u64 (nanBits ([(x : Int), (y : Int), (z : Int)].take n)), .int .u8 (nanFlag ([(x : Int), (y : Int), (z : Int)].take n)), .bool false], .bool false]) ∧ Below (W.heap.size + 1) (W.alloc (.cells #[.int .u64 x, .int .u64 y, .int .u64 z] 50)) w') := fun W => by
    have h := firstNaN_any W.heap.size 0 n 3 ([(x : Int), (y : Int), (z : Int)].take n) (by simp; omega) hn (by decide) (W.alloc (.cells #[.int .u64 x, .int .u64 y, .int .u64 z] 50)) (by simp) (fun i hi => args_cells (by omega) (by omega) (by omega) hn i hi)
    rw [hnan, World.size_alloc] at h
    exact h
  obtain ⟨o1, o2⟩ := ho
  obtain ⟨m1, m2⟩ := hm
  have hnn : (n : Int) ≤ 3 := by omega
  clear hnan hn hx hy hz
  generalize nanBits ([(x : Int), (y : Int), (z : Int)].take n) = NB at *
  generalize nanFlag ([(x : Int), (y : Int), (z : Int)].take n) = NF at *
  go_enter Tryd.func12, Tryd.ntmps12
  go_wp2
  go_cut [3] from 7 to 61 (Opened w ((w.alloc (.cells #[.int .u8 op, .int .u8 m, .int .u64 x, .int .u64 y, .int .u64 z] 36)).alloc (.cells #[.int .u64 0, .int .u8 0, .bool false] 33)) [.int .i64 n, .func (.func f) #[] #[], .nilFunc])
  case first =>
    go_region_held3 (fun w' => w'.cell? ⟨w.heap.size, 0, none⟩ = some (.int .u8 op)) (first | go_keep | (rw [cellSet _ _ _ _ (by simp; omega), cellSet _ _ _ _ (by simp; omega), cellSet _ _ _ _ (by simp; omega), hb.cell (by first | omega | (simp; done) | (simp; omega))]; first | assumption | go_simp) | (rw [World.cell?_alloc_lt _ _ _ (by first | omega | (simp; done) | (simp; omega))]; assumption) | (rw [World.cell?_alloc_lt _ _ _ (by first | omega | (simp; done) | (simp; omega)), hb.cell (by first | omega | (simp; done) | (simp; omega))]; first | assumption | go_simp) | (rw [hb.cell (by first | omega | (simp; done) | (simp; omega))]; first | assumption | go_simp)) ((go_at_call 19; refine (operations_any _).mono ?_; rintro e w' ⟨rfl, hb⟩; obtain ⟨hc, hf⟩ := bcell hb; have hzz : w.heap.size + 1 < w'.heap.size := by (have := hb.size; simp at this; omega)))
    all_goals (try go_wp2_with fail)
    all_goals go_meet
    all_goals go_light
    all_goals clear hc hf hix
    · refine opened_new ?_ ?_ _ _ (by simp)
      · simp
      · exact ⟨hb.os, hb.tape, hb.output, hb.size, hb.block⟩
    · refine opened_new ?_ ?_ _ _ (by simp)
      · simp
      · exact ⟨hb.os, hb.tape, hb.output, hb.size, hb.block⟩
    · refine opened_old ?_ _ (.int .i64 0) .nilFunc .nilFunc 47 rfl ?_ ?_ _ _ _
      · rfl
      · simp
      · exact ⟨hb.os, hb.tape, hb.output, hb.size, hb.block⟩
  case rest =>
    obtain ⟨g, rfl, hg1, hbel, hk⟩ := hcut
    have K0 : Hid (Rows2 w wc [.int .u8 op, .int .u8 m, .int .u64 x, .int .u64 y, .int .u64 z] [.int .u64 0, .int .u8 0, .bool false]) := (Rows2.start w _ _ _ _ (by simp) (by simp)).below' hbel (Nat.le_refl _)
    have G0 : Hid (Blk wc g [.int .i64 n, .func (.func f) #[] #[], .nilFunc]) := hk
    clear hbel hk hix
    have c0 := K0.out.x.cells 0 _ rfl
    have c1 := K0.out.x.cells 1 _ rfl
    have c2 := K0.out.x.cells 2 _ rfl
    have c3 := K0.out.x.cells 3 _ rfl
    have c4 := K0.out.x.cells 4 _ rfl
    have g0 := G0.out.cells 0 _ rfl
    have g1 := G0.out.cells 1 _ rfl
    have g2 := G0.out.cells 2 _ rfl
    have z1 := K0.out.size
    have z0 := K0.out.x.lt
    have z3 := G0.out.lt
    go_wp2_with fail
    refine (HA.out _).mono ?_
    rintro e w1 ⟨rfl, hb1⟩
    have hb2 : Below wc.heap.size wc w1 := ((Below.refl _ _).alloc (Nat.le_refl _) _).trans (hb1.mono (by simp))
    have K1 : Hid (Rows2 w w1 [.int .u8 op, .int .u8 m, .int .u64 x, .int .u64 y, .int .u64 z] [.int .u64 0, .int .u8 0, .bool false]) := K0.out.later hb2
    have G1 : Hid (Blk w1 g [.int .i64 n, .func (.func f) #[] #[], .nilFunc]) := G0.out.later hb2
    clear hb1 hb2 HA K0 G0 c0 c1 c2 c3 c4 g0 g1 g2 z1 z0 z3
    have c0 := K1.out.x.cells 0 _ rfl
    have c1 := K1.out.x.cells 1 _ rfl
    have c2 := K1.out.x.cells 2 _ rfl
    have c3 := K1.out.x.cells 3 _ rfl
    have c4 := K1.out.x.cells 4 _ rfl
    have g0 := G1.out.cells 0 _ rfl
    have g1 := G1.out.cells 1 _ rfl
    have g2 := G1.out.cells 2 _ rfl
    have r0 := K1.out.r.cells 0 _ rfl
    have r1 := K1.out.r.cells 1 _ rfl
    have r2 := K1.out.r.cells 2 _ rfl
    have f0 := K1.out.r.live 0 _ rfl
    have f1 := K1.out.r.live 1 _ rfl
    have f2 := K1.out.r.live 2 _ rfl
    have z1 := K1.out.size
    have z0 := K1.out.x.lt
    have z3 := G1.out.lt
    go_wp2_with fail
    refine (HREC.out _ (K1.out.below.alloc (by omega) _)).mono ?_
    rintro e w2 ⟨rfl, hb2⟩
    have K2 : Hid (Rows2 w w2 [.int .u8 op, .int .u8 m, .int .u64 x, .int .u64 y, .int .u64 z] [.int .u64 0, .int .u8 0, .bool false]) := (K1.out.below' ((Below.refl _ _).alloc (Nat.le_refl _) _) (by omega)).later hb2
    clear hb2 K1 G1 c0 c1 c2 c3 c4 g0 g1 g2 r0 r1 r2 f0 f1 f2 z1 z0 z3
    have r0 := K2.out.r.cells 0 _ rfl
    have r1 := K2.out.r.cells 1 _ rfl
    have r2 := K2.out.r.cells 2 _ rfl
    have f0 := K2.out.r.live 0 _ rfl
    have f1 := K2.out.r.live 1 _ rfl
    have f2 := K2.out.r.live 2 _ rfl
    go_wp2_with fail
    go_light
    refine bodyPost_ret (v := .agg #[.int .u64 b, .int .u8 fl, .bool bad]) (results_do rfl (((K2.out.r.set 0 _ (by simp)).set 1 _ (by simp)).set 2 _ (by simp))) rfl ⟨rfl, ?_⟩
    exact ((K2.out.below.setCell (by simp) _).setCell (by simp) _).setCell (by simp) _

set_option maxHeartbeats 8000000 in
set_option maxRecDepth 20000 in
theorem soft_do5 (op m : Int) (x y z : Nat) (n f : Nat) (ho : 1 ≤ op ∧ op ≤ 10) (hm : 0 ≤ m ∧ m ≤ 4) (hx : x < 18446744073709551616) (hy : y < 18446744073709551616) (hz : z < 18446744073709551616) (hn : n ≤ 3)
    (hix : ∀ w, (Instr.index 48 (.agg opsCells) (.int .u8 op)).run Tryd.prog w = .ok (.agg #[.int .i64 n, .func (.func f) #[] #[], .func (.func 26) #[] #[]]) w)
    (hnan : ([(x : Int), (y : Int), (z : Int)].take n).any isN = false) (w : World) (b fl : Int) (bad : Bool) (hent : ∀ args w, (callFunc f args).run Tryd.prog w = .ok (.enter f args) w) (hrec : ∀ w1, Below w.heap.size w w1 → Calls Tryd.prog f #[.agg #[.int .u8 op, .int .u8 m, .int .u64 x, .int .u64 y, .int .u64 z]] w1 fun e w' => e = .returned (.agg #[.int .u64 b, .int .u8 fl, .bool bad]) ∧ Below w1.heap.size w1 w') :
    Calls Tryd.prog 12 #[.agg #[.int .u8 op, .int .u8 m, .int .u64 x, .int .u64 y, .int .u64 z]] w fun e w' => e = .returned (.agg #[.int .u64 b, .int .u8 fl, .bool bad]) ∧ Below w.heap.size w w' := by
  have HREC : Hid (∀ w1, Below w.heap.size w w1 → Calls Tryd.prog f #[.agg #[.int .u8 op, .int .u8 m, .int .u64 x, .int .u64 y, .int .u64 z]] w1 fun e w' => e = .returned (.agg #[.int .u64 b, .int .u8 fl, .bool bad]) ∧ Below w1.heap.size w1 w') := hrec
  clear hrec
  have HA : Hid (∀ (W : World), Calls Tryd.prog 20 #[.slice (some ⟨W.heap.size, 0, none⟩) n 3] (W.alloc (.cells #[.int .u64 x, .int .u64 y, .int .u64 z] 50)) fun e w' =>
      e = .returned (.tuple #[.agg #[.int .u64 (nanBits ([(x : Int), (y : Int), (z : Int)].take n)), .int .u8 (nanFlag ([(x : Int), (y : Int), (z : Int)].take n)), .bool false], .bool false]) ∧ Below (W.heap.size + 1) (W.alloc (.cells #[.int .u64 x, .int .u64 y, .int .u64 z] 50)) w') := fun W => by
    have h := firstNaN_any W.heap.size 0 n 3 ([(x : Int), (y : Int), (z : Int)].take n) (by simp; omega) hn (by decide) (W.alloc (.cells #[.int .u64 x, .int .u64 y, .int .u64 z] 50)) (by simp) (fun i hi => args_cells (by omega) (by omega) (by omega) hn i hi)
    rw [hnan, World.size_alloc] at h
    exact h
  obtain ⟨o1, o2⟩ := ho
  obtain ⟨m1, m2⟩ := hm
  have hnn : (n : Int) ≤ 3 := by omega
  clear hnan hn hx hy hz
  generalize nanBits ([(x : Int), (y : Int), (z : Int)].take n) = NB at *
  generalize nanFlag ([(x : Int), (y : Int), (z : Int)].take n) = NF at *
  go_enter Tryd.func12, Tryd.ntmps12
  go_wp2
  go_cut [3] from 7 to 61 (Opened w ((w.alloc (.cells #[.int .u8 op, .int .u8 m, .int .u64 x, .int .u64 y, .int .u64 z] 36)).alloc (.cells #[.int .u64 0, .int .u8 0, .bool false] 33)) [.int .i64 n, .func (.func f) #[] #[], .func (.func 26) #[] #[]])
  case first =>
    go_region_held3 (fun w' => w'.cell? ⟨w.heap.size, 0, none⟩ = some (.int .u8 op)) (first | go_keep | (rw [cellSet _ _ _ _ (by simp; omega), cellSet _ _ _ _ (by simp; omega), cellSet _ _ _ _ (by simp; omega), hb.cell (by first | omega | (simp; done) | (simp; omega))]; first | assumption | go_simp) | (rw [World.cell?_alloc_lt _ _ _ (by first | omega | (simp; done) | (simp; omega))]; assumption) | (rw [World.cell?_alloc_lt _ _ _ (by first | omega | (simp; done) | (simp; omega)), hb.cell (by first | omega | (simp; done) | (simp; omega))]; first | assumption | go_simp) | (rw [hb.cell (by first | omega | (simp; done) | (simp; omega))]; first | assumption | go_simp)) ((go_at_call 19; refine (operations_any _).mono ?_; rintro e w' ⟨rfl, hb⟩; obtain ⟨hc, hf⟩ := bcell hb; have hzz : w.heap.size + 1 < w'.heap.size := by (have := hb.size; simp at this; omega)))
    all_goals (try go_wp2_with fail)
    all_goals go_meet
    all_goals go_light
    all_goals clear hc hf hix
    · refine opened_new ?_ ?_ _ _ (by simp)
      · simp
      · exact ⟨hb.os, hb.tape, hb.output, hb.size, hb.block⟩
    · refine opened_new ?_ ?_ _ _ (by simp)
      · simp
      · exact ⟨hb.os, hb.tape, hb.output, hb.size, hb.block⟩
    · refine opened_old ?_ _ (.int .i64 0) .nilFunc .nilFunc 47 rfl ?_ ?_ _ _ _
      · rfl
      · simp
      · exact ⟨hb.os, hb.tape, hb.output, hb.size, hb.block⟩
  case rest =>
    obtain ⟨g, rfl, hg1, hbel, hk⟩ := hcut
    have K0 : Hid (Rows2 w wc [.int .u8 op, .int .u8 m, .int .u64 x, .int .u64 y, .int .u64 z] [.int .u64 0, .int .u8 0, .bool false]) := (Rows2.start w _ _ _ _ (by simp) (by simp)).below' hbel (Nat.le_refl _)
    have G0 : Hid (Blk wc g [.int .i64 n, .func (.func f) #[] #[], .func (.func 26) #[] #[]]) := hk
    clear hbel hk hix
    have c0 := K0.out.x.cells 0 _ rfl
    have c1 := K0.out.x.cells 1 _ rfl
    have c2 := K0.out.x.cells 2 _ rfl
    have c3 := K0.out.x.cells 3 _ rfl
    have c4 := K0.out.x.cells 4 _ rfl
    have g0 := G0.out.cells 0 _ rfl
    have g1 := G0.out.cells 1 _ rfl
    have g2 := G0.out.cells 2 _ rfl
    have z1 := K0.out.size
    have z0 := K0.out.x.lt
    have z3 := G0.out.lt
    go_wp2_with fail
    refine (HA.out _).mono ?_
    rintro e w1 ⟨rfl, hb1⟩
    have hb2 : Below wc.heap.size wc w1 := ((Below.refl _ _).alloc (Nat.le_refl _) _).trans (hb1.mono (by simp))
    have K1 : Hid (Rows2 w w1 [.int .u8 op, .int .u8 m, .int .u64 x, .int .u64 y, .int .u64 z] [.int .u64 0, .int .u8 0, .bool false]) := K0.out.later hb2
    have G1 : Hid (Blk w1 g [.int .i64 n, .func (.func f) #[] #[], .func (.func 26) #[] #[]]) := G0.out.later hb2
    clear hb1 hb2 HA K0 G0 c0 c1 c2 c3 c4 g0 g1 g2 z1 z0 z3
    have c0 := K1.out.x.cells 0 _ rfl
    have c1 := K1.out.x.cells 1 _ rfl
    have c2 := K1.out.x.cells 2 _ rfl
    have c3 := K1.out.x.cells 3 _ rfl
    have c4 := K1.out.x.cells 4 _ rfl
    have g0 := G1.out.cells 0 _ rfl
    have g1 := G1.out.cells 1 _ rfl
    have g2 := G1.out.cells 2 _ rfl
    have r0 := K1.out.r.cells 0 _ rfl
    have r1 := K1.out.r.cells 1 _ rfl
    have r2 := K1.out.r.cells 2 _ rfl
    have f0 := K1.out.r.live 0 _ rfl
    have f1 := K1.out.r.live 1 _ rfl
    have f2 := K1.out.r.live 2 _ rfl
    have z1 := K1.out.size
    have z0 := K1.out.x.lt
    have z3 := G1.out.lt
    go_wp2_with fail
    refine (HREC.out _ (K1.out.below.alloc (by omega) _)).mono ?_
    rintro e w2 ⟨rfl, hb2⟩
    have K2 : Hid (Rows2 w w2 [.int .u8 op, .int .u8 m, .int .u64 x, .int .u64 y, .int .u64 z] [.int .u64 0, .int .u8 0, .bool false]) := (K1.out.below' ((Below.refl _ _).alloc (Nat.le_refl _) _) (by omega)).later hb2
    clear hb2 K1 G1 c0 c1 c2 c3 c4 g0 g1 g2 r0 r1 r2 f0 f1 f2 z1 z0 z3
    have r0 := K2.out.r.cells 0 _ rfl
    have r1 := K2.out.r.cells 1 _ rfl
    have r2 := K2.out.r.cells 2 _ rfl
    have f0 := K2.out.r.live 0 _ rfl
    have f1 := K2.out.r.live 1 _ rfl
    have f2 := K2.out.r.live 2 _ rfl
    go_wp2_with fail
    go_light
    refine bodyPost_ret (v := .agg #[.int .u64 b, .int .u8 fl, .bool bad]) (results_do rfl (((K2.out.r.set 0 _ (by simp)).set 1 _ (by simp)).set 2 _ (by simp))) rfl ⟨rfl, ?_⟩
    exact ((K2.out.below.setCell (by simp) _).setCell (by simp) _).setCell (by simp) _

set_option maxHeartbeats 8000000 in
set_option maxRecDepth 20000 in
theorem soft_nan (op m : Int) (x y z : Nat) (n f : Nat) (ho : 1 ≤ op ∧ op ≤ 10) (hm : 0 ≤ m ∧ m ≤ 4) (hx : x < 18446744073709551616) (hy : y < 18446744073709551616) (hz : z < 18446744073709551616) (hn : n ≤ 3)
    (hix : ∀ w, (Instr.index 48 (.agg opsCells) (.int .u8 op)).run Tryd.prog w = .ok (.agg #[.int .i64 n, .func (.func f) #[] #[], .nilFunc]) w)
    (hnan : ([(x : Int), (y : Int), (z : Int)].take n).any isN = true) (hfl : (nanFlag ([(x : Int), (y : Int), (z : Int)].take n) == 16) = true) (w : World) :
    Calls Tryd.prog 12 #[.agg #[.int .u8 op, .int .u8 m, .int .u64 x, .int .u64 y, .int .u64 z]] w fun e w' => e = .returned (.agg #[.int .u64 (nanBits ([(x : Int), (y : Int), (z : Int)].take n)), .int .u8 (nanFlag ([(x : Int), (y : Int), (z : Int)].take n)), .bool false]) ∧ Below w.heap.size w w' := by
  have HA : Hid (∀ (W : World), Calls Tryd.prog 20 #[.slice (some ⟨W.heap.size, 0, none⟩) n 3] (W.alloc (.cells #[.int .u64 x, .int .u64 y, .int .u64 z] 50)) fun e w' =>
      e = .returned (.tuple #[.agg #[.int .u64 (nanBits ([(x : Int), (y : Int), (z : Int)].take n)), .int .u8 (nanFlag ([(x : Int), (y : Int), (z : Int)].take n)), .bool false], .bool true]) ∧ Below (W.heap.size + 1) (W.alloc (.cells #[.int .u64 x, .int .u64 y, .int .u64 z] 50)) w') := fun W => by
    have h := firstNaN_any W.heap.size 0 n 3 ([(x : Int), (y : Int), (z : Int)].take n) (by simp; omega) hn (by decide) (W.alloc (.cells #[.int .u64 x, .int .u64 y, .int .u64 z] 50)) (by simp) (fun i hi => args_cells (by omega) (by omega) (by omega) hn i hi)
    rw [hnan, World.size_alloc] at h
    exact h
  obtain ⟨o1, o2⟩ := ho
  obtain ⟨m1, m2⟩ := hm
  have hnn : (n : Int) ≤ 3 := by omega
  clear hnan hn hx hy hz
  generalize nanBits ([(x : Int), (y : Int), (z : Int)].take n) = NB at *
  generalize nanFlag ([(x : Int), (y : Int), (z : Int)].take n) = NF at *
  go_enter Tryd.func12, Tryd.ntmps12
  go_wp2
  go_cut [3] from 7 to 61 (Opened w ((w.alloc (.cells #[.int .u8 op, .int .u8 m, .int .u64 x, .int .u64 y, .int .u64 z] 36)).alloc (.cells #[.int .u64 0, .int .u8 0, .bool false] 33)) [.int .i64 n, .func (.func f) #[] #[], .nilFunc])
  case first =>
    go_region_held3 (fun w' => w'.cell? ⟨w.heap.size, 0, none⟩ = some (.int .u8 op)) (first | go_keep | (rw [cellSet _ _ _ _ (by simp; omega), cellSet _ _ _ _ (by simp; omega), cellSet _ _ _ _ (by simp; omega), hb.cell (by first | omega | (simp; done) | (simp; omega))]; first | assumption | go_simp) | (rw [World.cell?_alloc_lt _ _ _ (by first | omega | (simp; done) | (simp; omega))]; assumption) | (rw [World.cell?_alloc_lt _ _ _ (by first | omega | (simp; done) | (simp; omega)), hb.cell (by first | omega | (simp; done) | (simp; omega))]; first | assumption | go_simp) | (rw [hb.cell (by first | omega | (simp; done) | (simp; omega))]; first | assumption | go_simp)) ((go_at_call 19; refine (operations_any _).mono ?_; rintro e w' ⟨rfl, hb⟩; obtain ⟨hc, hf⟩ := bcell hb; have hzz : w.heap.size + 1 < w'.heap.size := by (have := hb.size; simp at this; omega)))
    all_goals (try go_wp2_with fail)
    all_goals go_meet
    all_goals go_light
    all_goals clear hc hf hix
    · refine opened_new ?_ ?_ _ _ (by simp)
      · simp
      · exact ⟨hb.os, hb.tape, hb.output, hb.size, hb.block⟩
    · refine opened_new ?_ ?_ _ _ (by simp)
      · simp
      · exact ⟨hb.os, hb.tape, hb.output, hb.size, hb.block⟩
    · refine opened_old ?_ _ (.int .i64 0) .nilFunc .nilFunc 47 rfl ?_ ?_ _ _ _
      · rfl
      · simp
      · exact ⟨hb.os, hb.tape, hb.output, hb.size, hb.block⟩
  case rest =>
    obtain ⟨g, rfl, hg1, hbel, hk⟩ := hcut
    have K0 : Hid (Rows2 w wc [.int .u8 op, .int .u8 m, .int .u64 x, .int .u64 y, .int .u64 z] [.int .u64 0, .int .u8 0, .bool false]) := (Rows2.start w _ _ _ _ (by simp) (by simp)).below' hbel (Nat.le_refl _)
    have G0 : Hid (Blk wc g [.int .i64 n, .func (.func f) #[] #[], .nilFunc]) := hk
    clear hbel hk hix
    have c0 := K0.out.x.cells 0 _ rfl
    have c1 := K0.out.x.cells 1 _ rfl
    have c2 := K0.out.x.cells 2 _ rfl
    have c3 := K0.out.x.cells 3 _ rfl
    have c4 := K0.out.x.cells 4 _ rfl
    have g0 := G0.out.cells 0 _ rfl
    have g1 := G0.out.cells 1 _ rfl
    have g2 := G0.out.cells 2 _ rfl
    have z1 := K0.out.size
    have z0 := K0.out.x.lt
    have z3 := G0.out.lt
    go_wp2_with fail
    refine (HA.out _).mono ?_
    rintro e w1 ⟨rfl, hb1⟩
    have hb2 : Below wc.heap.size wc w1 := ((Below.refl _ _).alloc (Nat.le_refl _) _).trans (hb1.mono (by simp))
    have K1 : Hid (Rows2 w w1 [.int .u8 op, .int .u8 m, .int .u64 x, .int .u64 y, .int .u64 z] [.int .u64 0, .int .u8 0, .bool false]) := K0.out.later hb2
    have G1 : Hid (Blk w1 g [.int .i64 n, .func (.func f) #[] #[], .nilFunc]) := G0.out.later hb2
    clear hb1 hb2 HA K0 G0 c0 c1 c2 c3 c4 g0 g1 g2 z1 z0 z3
    have c0 := K1.out.x.cells 0 _ rfl
    have c1 := K1.out.x.cells 1 _ rfl
    have c2 := K1.out.x.cells 2 _ rfl
    have c3 := K1.out.x.cells 3 _ rfl
    have c4 := K1.out.x.cells 4 _ rfl
    have g0 := G1.out.cells 0 _ rfl
    have g1 := G1.out.cells 1 _ rfl
    have g2 := G1.out.cells 2 _ rfl
    have r0 := K1.out.r.cells 0 _ rfl
    have r1 := K1.out.r.cells 1 _ rfl
    have r2 := K1.out.r.cells 2 _ rfl
    have f0 := K1.out.r.live 0 _ rfl
    have f1 := K1.out.r.live 1 _ rfl
    have f2 := K1.out.r.live 2 _ rfl
    have z1 := K1.out.size
    have z0 := K1.out.x.lt
    have z3 := G1.out.lt
    go_wp2_with fail
    go_light
    refine bodyPost_ret (v := .agg #[.int .u64 NB, .int .u8 NF, .bool false]) (results_do rfl ((((K1.out.r.set 0 _ (by simp)).set 1 _ (by simp)).set 2 _ (by simp)).alloc _)) rfl ⟨rfl, ?_⟩
    exact (((K1.out.below.setCell (by simp) _).setCell (by simp) _).setCell (by simp) _).alloc (by simp; omega) _

set_option maxHeartbeats 8000000 in
set_option maxRecDepth 20000 in
theorem soft_nan5 (op m : Int) (x y z : Nat) (n f : Nat) (ho : 1 ≤ op ∧ op ≤ 10) (hm : 0 ≤ m ∧ m ≤ 4) (hx : x < 18446744073709551616) (hy : y < 18446744073709551616) (hz : z < 18446744073709551616) (hn : n ≤ 3)
    (hix : ∀ w, (Instr.index 48 (.agg opsCells) (.int .u8 op)).run Tryd.prog w = .ok (.agg #[.int .i64 n, .func (.func f) #[] #[], .func (.func 26) #[] #[]]) w)
    (hnan : ([(x : Int), (y : Int), (z : Int)].take n).any isN = true) (hfl : (nanFlag ([(x : Int), (y : Int), (z : Int)].take n) == 16) = true) (w : World) :
    Calls Tryd.prog 12 #[.agg #[.int .u8 op, .int .u8 m, .int .u64 x, .int .u64 y, .int .u64 z]] w fun e w' => e = .returned (.agg #[.int .u64 (nanBits ([(x : Int), (y : Int), (z : Int)].take n)), .int .u8 (nanFlag ([(x : Int), (y : Int), (z : Int)].take n)), .bool false]) ∧ Below w.heap.size w w' := by
  have HA : Hid (∀ (W : World), Calls Tryd.prog 20 #[.slice (some ⟨W.heap.size, 0, none⟩) n 3] (W.alloc (.cells #[.int .u64 x, .int .u64 y, .int .u64 z] 50)) fun e w' =>
      e = .returned (.tuple #[.agg #[.int .u64 (nanBits ([(x : Int), (y : Int), (z : Int)].take n)), .int .u8 (nanFlag ([(x : Int), (y : Int), (z : Int)].take n)), .bool false], .bool true]) ∧ Below (W.heap.size + 1) (W.alloc (.cells #[.int .u64 x, .int .u64 y, .int .u64 z] 50)) w') := fun W => by
    have h := firstNaN_any W.heap.size 0 n 3 ([(x : Int), (y : Int), (z : Int)].take n) (by simp; omega) hn (by decide) (W.alloc (.cells #[.int .u64 x, .int .u64 y, .int .u64 z] 50)) (by simp) (fun i hi => args_cells (by omega) (by omega) (by omega) hn i hi)
    rw [hnan, World.size_alloc] at h
    exact h
  obtain ⟨o1, o2⟩ := ho
  obtain ⟨m1, m2⟩ := hm
  have hnn : (n : Int) ≤ 3 := by omega
  clear hnan hn hx hy hz
  generalize nanBits ([(x : Int), (y : Int), (z : Int)].take n) = NB at *
  generalize nanFlag ([(x : Int), (y : Int), (z : Int)].take n) = NF at *
  go_enter Tryd.func12, Tryd.ntmps12
  go_wp2
  go_cut [3] from 7 to 61 (Opened w ((w.alloc (.cells #[.int .u8 op, .int .u8 m, .int .u64 x, .int .u64 y, .int .u64 z] 36)).alloc (.cells #[.int .u64 0, .int .u8 0, .bool false] 33)) [.int .i64 n, .func (.func f) #[] #[], .func (.func 26) #[] #[]])
  case first =>
    go_region_held3 (fun w' => w'.cell? ⟨w.heap.size, 0, none⟩ = some (.int .u8 op)) (first | go_keep | (rw [cellSet _ _ _ _ (by simp; omega), cellSet _ _ _ _ (by simp; omega), cellSet _ _ _ _ (by simp; omega), hb.cell (by first | omega | (simp; done) | (simp; omega))]; first | assumption | go_simp) | (rw [World.cell?_alloc_lt _ _ _ (by first | omega | (simp; done) | (simp; omega))]; assumption) | (rw [World.cell?_alloc_lt _ _ _ (by first | omega | (simp; done) | (simp; omega)), hb.cell (by first | omega | (simp; done) | (simp; omega))]; first | assumption | go_simp) | (rw [hb.cell (by first | omega | (simp; done) | (simp; omega))]; first | assumption | go_simp)) ((go_at_call 19; refine (operations_any _).mono ?_; rintro e w' ⟨rfl, hb⟩; obtain ⟨hc, hf⟩ := bcell hb; have hzz : w.heap.size + 1 < w'.heap.size := by (have := hb.size; simp at this; omega)))
    all_goals (try go_wp2_with fail)
    all_goals go_meet
    all_goals go_light
    all_goals clear hc hf hix
    · refine opened_new ?_ ?_ _ _ (by simp)
      · simp
      · exact ⟨hb.os, hb.tape, hb.output, hb.size, hb.block⟩
    · refine opened_new ?_ ?_ _ _ (by simp)
      · simp
      · exact ⟨hb.os, hb.tape, hb.output, hb.size, hb.block⟩
    · refine opened_old ?_ _ (.int .i64 0) .nilFunc .nilFunc 47 rfl ?_ ?_ _ _ _
      · rfl
      · simp
      · exact ⟨hb.os, hb.tape, hb.output, hb.size, hb.block⟩
  case rest =>
    obtain ⟨g, rfl, hg1, hbel, hk⟩ := hcut
    have K0 : Hid (Rows2 w wc [.int .u8 op, .int .u8 m, .int .u64 x, .int .u64 y, .int .u64 z] [.int .u64 0, .int .u8 0, .bool false]) := (Rows2.start w _ _ _ _ (by simp) (by simp)).below' hbel (Nat.le_refl _)
    have G0 : Hid (Blk wc g [.int .i64 n, .func (.func f) #[] #[], .func (.func 26) #[] #[]]) := hk
    clear hbel hk hix
    have c0 := K0.out.x.cells 0 _ rfl
    have c1 := K0.out.x.cells 1 _ rfl
    have c2 := K0.out.x.cells 2 _ rfl
    have c3 := K0.out.x.cells 3 _ rfl
    have c4 := K0.out.x.cells 4 _ rfl
    have g0 := G0.out.cells 0 _ rfl
    have g1 := G0.out.cells 1 _ rfl
    have g2 := G0.out.cells 2 _ rfl
    have z1 := K0.out.size
    have z0 := K0.out.x.lt
    have z3 := G0.out.lt
    go_wp2_with fail
    refine (HA.out _).mono ?_
    rintro e w1 ⟨rfl, hb1⟩
    have hb2 : Below wc.heap.size wc w1 := ((Below.refl _ _).alloc (Nat.le_refl _) _).trans (hb1.mono (by simp))
    have K1 : Hid (Rows2 w w1 [.int .u8 op, .int .u8 m, .int .u64 x, .int .u64 y, .int .u64 z] [.int .u64 0, .int .u8 0, .bool false]) := K0.out.later hb2
    have G1 : Hid (Blk w1 g [.int .i64 n, .func (.func f) #[] #[], .func (.func 26) #[] #[]]) := G0.out.later hb2
    clear hb1 hb2 HA K0 G0 c0 c1 c2 c3 c4 g0 g1 g2 z1 z0 z3
    have c0 := K1.out.x.cells 0 _ rfl
    have c1 := K1.out.x.cells 1 _ rfl
    have c2 := K1.out.x.cells 2 _ rfl
    have c3 := K1.out.x.cells 3 _ rfl
    have c4 := K1.out.x.cells 4 _ rfl
    have g0 := G1.out.cells 0 _ rfl
    have g1 := G1.out.cells 1 _ rfl
    have g2 := G1.out.cells 2 _ rfl
    have r0 := K1.out.r.cells 0 _ rfl
    have r1 := K1.out.r.cells 1 _ rfl
    have r2 := K1.out.r.cells 2 _ rfl
    have f0 := K1.out.r.live 0 _ rfl
    have f1 := K1.out.r.live 1 _ rfl
    have f2 := K1.out.r.live 2 _ rfl
    have z1 := K1.out.size
    have z0 := K1.out.x.lt
    have z3 := G1.out.lt
    go_wp2_with fail
    go_light
    refine bodyPost_ret (v := .agg #[.int .u64 NB, .int .u8 NF, .bool false]) (results_do rfl ((((K1.out.r.set 0 _ (by simp)).set 1 _ (by simp)).set 2 _ (by simp)).alloc _)) rfl ⟨rfl, ?_⟩
    exact (((K1.out.below.setCell (by simp) _).setCell (by simp) _).setCell (by simp) _).alloc (by simp; omega) _

set_option maxHeartbeats 8000000 in
set_option maxRecDepth 20000 in
theorem soft_nil (op m : Int) (x y z : Nat) (n f : Nat) (ho : 1 ≤ op ∧ op ≤ 10) (hm : 0 ≤ m ∧ m ≤ 4) (hx : x < 18446744073709551616) (hy : y < 18446744073709551616) (hz : z < 18446744073709551616) (hn : n ≤ 3)
    (hix : ∀ w, (Instr.index 48 (.agg opsCells) (.int .u8 op)).run Tryd.prog w = .ok (.agg #[.int .i64 n, .func (.func f) #[] #[], .nilFunc]) w)
    (hnan : ([(x : Int), (y : Int), (z : Int)].take n).any isN = true) (hfl : (nanFlag ([(x : Int), (y : Int), (z : Int)].take n) == 16) = false) (w : World) :
    Calls Tryd.prog 12 #[.agg #[.int .u8 op, .int .u8 m, .int .u64 x, .int .u64 y, .int .u64 z]] w fun e w' => e = .returned (.agg #[.int .u64 (nanBits ([(x : Int), (y : Int), (z : Int)].take n)), .int .u8 (nanFlag ([(x : Int), (y : Int), (z : Int)].take n)), .bool false]) ∧ Below w.heap.size w w' := by
  have en1 := eqNil1
  have en2 := eqNil2
  have HA : Hid (∀ (W : World), Calls Tryd.prog 20 #[.slice (some ⟨W.heap.size, 0, none⟩) n 3] (W.alloc (.cells #[.int .u64 x, .int .u64 y, .int .u64 z] 50)) fun e w' =>
      e = .returned (.tuple #[.agg #[.int .u64 (nanBits ([(x : Int), (y : Int), (z : Int)].take n)), .int .u8 (nanFlag ([(x : Int), (y : Int), (z : Int)].take n)), .bool false], .bool true]) ∧ Below (W.heap.size + 1) (W.alloc (.cells #[.int .u64 x, .int .u64 y, .int .u64 z] 50)) w') := fun W => by
    have h := firstNaN_any W.heap.size 0 n 3 ([(x : Int), (y : Int), (z : Int)].take n) (by simp; omega) hn (by decide) (W.alloc (.cells #[.int .u64 x, .int .u64 y, .int .u64 z] 50)) (by simp) (fun i hi => args_cells (by omega) (by omega) (by omega) hn i hi)
    rw [hnan, World.size_alloc] at h
    exact h
  obtain ⟨o1, o2⟩ := ho
  obtain ⟨m1, m2⟩ := hm
  have hnn : (n : Int) ≤ 3 := by omega
  clear hnan hn hx hy hz
  generalize nanBits ([(x : Int), (y : Int), (z : Int)].take n) = NB at *
  generalize nanFlag ([(x : Int), (y : Int), (z : Int)].take n) = NF at *
  go_enter Tryd.func12, Tryd.ntmps12
  go_wp2
  go_cut [3] from 7 to 61 (Opened w ((w.alloc (.cells #[.int .u8 op, .int .u8 m, .int .u64 x, .int .u64 y, .int .u64 z] 36)).alloc (.cells #[.int .u64 0, .int .u8 0, .bool false] 33)) [.int .i64 n, .func (.func f) #[] #[], .nilFunc])
  case first =>
    go_region_held3 (fun w' => w'.cell? ⟨w.heap.size, 0, none⟩ = some (.int .u8 op)) (first | go_keep | (rw [cellSet _ _ _ _ (by simp; omega), cellSet _ _ _ _ (by simp; omega), cellSet _ _ _ _ (by simp; omega), hb.cell (by first | omega | (simp; done) | (simp; omega))]; first | assumption | go_simp) | (rw [World.cell?_alloc_lt _ _ _ (by first | omega | (simp; done) | (simp; omega))]; assumption) | (rw [World.cell?_alloc_lt _ _ _ (by first | omega | (simp; done) | (simp; omega)), hb.cell (by first | omega | (simp; done) | (simp; omega))]; first | assumption | go_simp) | (rw [hb.cell (by first | omega | (simp; done) | (simp; omega))]; first | assumption | go_simp)) ((go_at_call 19; refine (operations_any _).mono ?_; rintro e w' ⟨rfl, hb⟩; obtain ⟨hc, hf⟩ := bcell hb; have hzz : w.heap.size + 1 < w'.heap.size := by (have := hb.size; simp at this; omega)))
    all_goals (try go_wp2_with fail)
    all_goals go_meet
    all_goals go_light
    all_goals clear hc hf hix
    · refine opened_new ?_ ?_ _ _ (by simp)
      · simp
      · exact ⟨hb.os, hb.tape, hb.output, hb.size, hb.block⟩
    · refine opened_new ?_ ?_ _ _ (by simp)
      · simp
      · exact ⟨hb.os, hb.tape, hb.output, hb.size, hb.block⟩
    · refine opened_old ?_ _ (.int .i64 0) .nilFunc .nilFunc 47 rfl ?_ ?_ _ _ _
      · rfl
      · simp
      · exact ⟨hb.os, hb.tape, hb.output, hb.size, hb.block⟩
  case rest =>
    obtain ⟨g, rfl, hg1, hbel, hk⟩ := hcut
    have K0 : Hid (Rows2 w wc [.int .u8 op, .int .u8 m, .int .u64 x, .int .u64 y, .int .u64 z] [.int .u64 0, .int .u8 0, .bool false]) := (Rows2.start w _ _ _ _ (by simp) (by simp)).below' hbel (Nat.le_refl _)
    have G0 : Hid (Blk wc g [.int .i64 n, .func (.func f) #[] #[], .nilFunc]) := hk
    clear hbel hk hix
    have c0 := K0.out.x.cells 0 _ rfl
    have c1 := K0.out.x.cells 1 _ rfl
    have c2 := K0.out.x.cells 2 _ rfl
    have c3 := K0.out.x.cells 3 _ rfl
    have c4 := K0.out.x.cells 4 _ rfl
    have g0 := G0.out.cells 0 _ rfl
    have g1 := G0.out.cells 1 _ rfl
    have g2 := G0.out.cells 2 _ rfl
    have z1 := K0.out.size
    have z0 := K0.out.x.lt
    have z3 := G0.out.lt
    go_wp2_with fail
    refine (HA.out _).mono ?_
    rintro e w1 ⟨rfl, hb1⟩
    have hb2 : Below wc.heap.size wc w1 := ((Below.refl _ _).alloc (Nat.le_refl _) _).trans (hb1.mono (by simp))
    have K1 : Hid (Rows2 w w1 [.int .u8 op, .int .u8 m, .int .u64 x, .int .u64 y, .int .u64 z] [.int .u64 0, .int .u8 0, .bool false]) := K0.out.later hb2
    have G1 : Hid (Blk w1 g [.int .i64 n, .func (.func f) #[] #[], .nilFunc]) := G0.out.later hb2
    clear hb1 hb2 HA K0 G0 c0 c1 c2 c3 c4 g0 g1 g2 z1 z0 z3
    have c0 := K1.out.x.cells 0 _ rfl
    have c1 := K1.out.x.cells 1 _ rfl
    have c2 := K1.out.x.cells 2 _ rfl
    have c3 := K1.out.x.cells 3 _ rfl
    have c4 := K1.out.x.cells 4 _ rfl
    have g0 := G1.out.cells 0 _ rfl
    have g1 := G1.out.cells 1 _ rfl
    have g2 := G1.out.cells 2 _ rfl
    have r0 := K1.out.r.cells 0 _ rfl
    have r1 := K1.out.r.cells 1 _ rfl
    have r2 := K1.out.r.cells 2 _ rfl
    have f0 := K1.out.r.live 0 _ rfl
    have f1 := K1.out.r.live 1 _ rfl
    have f2 := K1.out.r.live 2 _ rfl
    have z1 := K1.out.size
    have z0 := K1.out.x.lt
    have z3 := G1.out.lt
    go_wp2_with fail
    go_light
    refine bodyPost_ret (v := .agg #[.int .u64 NB, .int .u8 NF, .bool false]) (results_do rfl ((((K1.out.r.set 0 _ (by simp)).set 1 _ (by simp)).set 2 _ (by simp)).alloc _)) rfl ⟨rfl, ?_⟩
    exact (((K1.out.below.setCell (by simp) _).setCell (by simp) _).setCell (by simp) _).alloc (by simp; omega) _

set_option maxHeartbeats 8000000 in
set_option maxRecDepth 20000 in
theorem soft_off (op m : Int) (x y z : Nat) (n f : Nat) (ho : 1 ≤ op ∧ op ≤ 10) (hm : 0 ≤ m ∧ m ≤ 4) (hx : x < 18446744073709551616) (hy : y < 18446744073709551616) (hz : z < 18446744073709551616) (hn : n ≤ 3)
    (hix : ∀ w, (Instr.index 48 (.agg opsCells) (.int .u8 op)).run Tryd.prog w = .ok (.agg #[.int .i64 n, .func (.func f) #[] #[], .func (.func 26) #[] #[]]) w)
    (hnan : ([(x : Int), (y : Int), (z : Int)].take n).any isN = true) (hfl : (nanFlag ([(x : Int), (y : Int), (z : Int)].take n) == 16) = false) (hzt : zti (kind x) (kind y) = false) (w : World) :
    Calls Tryd.prog 12 #[.agg #[.int .u8 op, .int .u8 m, .int .u64 x, .int .u64 y, .int .u64 z]] w fun e w' => e = .returned (.agg #[.int .u64 (nanBits ([(x : Int), (y : Int), (z : Int)].take n)), .int .u8 (nanFlag ([(x : Int), (y : Int), (z : Int)].take n)), .bool false]) ∧ Below w.heap.size w w' := by
  have HZT : Hid (∀ w, Calls Tryd.prog 26 #[.agg #[.int .u8 op, .int .u8 m, .int .u64 x, .int .u64 y, .int .u64 z]] w fun e w' => e = .returned (.bool false) ∧ Below w.heap.size w w') := fun w => by rw [← hzt]; exact zti_any x y op m z hx hy w
  clear hzt
  have en1 := eqNil1
  have en2 := eqNil2
  have HA : Hid (∀ (W : World), Calls Tryd.prog 20 #[.slice (some ⟨W.heap.size, 0, none⟩) n 3] (W.alloc (.cells #[.int .u64 x, .int .u64 y, .int .u64 z] 50)) fun e w' =>
      e = .returned (.tuple #[.agg #[.int .u64 (nanBits ([(x : Int), (y : Int), (z : Int)].take n)), .int .u8 (nanFlag ([(x : Int), (y : Int), (z : Int)].take n)), .bool false], .bool true]) ∧ Below (W.heap.size + 1) (W.alloc (.cells #[.int .u64 x, .int .u64 y, .int .u64 z] 50)) w') := fun W => by
    have h := firstNaN_any W.heap.size 0 n 3 ([(x : Int), (y : Int), (z : Int)].take n) (by simp; omega) hn (by decide) (W.alloc (.cells #[.int .u64 x, .int .u64 y, .int .u64 z] 50)) (by simp) (fun i hi => args_cells (by omega) (by omega) (by omega) hn i hi)
    rw [hnan, World.size_alloc] at h
    exact h
  obtain ⟨o1, o2⟩ := ho
  obtain ⟨m1, m2⟩ := hm
  have hnn : (n : Int) ≤ 3 := by omega
  clear hnan hn hx hy hz
  generalize nanBits ([(x : Int), (y : Int), (z : Int)].take n) = NB at *
  generalize nanFlag ([(x : Int), (y : Int), (z : Int)].take n) = NF at *
  go_enter Tryd.func12, Tryd.ntmps12
  go_wp2
  go_cut [3] from 7 to 61 (Opened w ((w.alloc (.cells #[.int .u8 op, .int .u8 m, .int .u64 x, .int .u64 y, .int .u64 z] 36)).alloc (.cells #[.int .u64 0, .int .u8 0, .bool false] 33)) [.int .i64 n, .func (.func f) #[] #[], .func (.func 26) #[] #[]])
  case first =>
    go_region_held3 (fun w' => w'.cell? ⟨w.heap.size, 0, none⟩ = some (.int .u8 op)) (first | go_keep | (rw [cellSet _ _ _ _ (by simp; omega), cellSet _ _ _ _ (by simp; omega), cellSet _ _ _ _ (by simp; omega), hb.cell (by first | omega | (simp; done) | (simp; omega))]; first | assumption | go_simp) | (rw [World.cell?_alloc_lt _ _ _ (by first | omega | (simp; done) | (simp; omega))]; assumption) | (rw [World.cell?_alloc_lt _ _ _ (by first | omega | (simp; done) | (simp; omega)), hb.cell (by first | omega | (simp; done) | (simp; omega))]; first | assumption | go_simp) | (rw [hb.cell (by first | omega | (simp; done) | (simp; omega))]; first | assumption | go_simp)) ((go_at_call 19; refine (operations_any _).mono ?_; rintro e w' ⟨rfl, hb⟩; obtain ⟨hc, hf⟩ := bcell hb; have hzz : w.heap.size + 1 < w'.heap.size := by (have := hb.size; simp at this; omega)))
    all_goals (try go_wp2_with fail)
    all_goals go_meet
    all_goals go_light
    all_goals clear hc hf hix
    · refine opened_new ?_ ?_ _ _ (by simp)
      · simp
      · exact ⟨hb.os, hb.tape, hb.output, hb.size, hb.block⟩
    · refine opened_new ?_ ?_ _ _ (by simp)
      · simp
      · exact ⟨hb.os, hb.tape, hb.output, hb.size, hb.block⟩
    · refine opened_old ?_ _ (.int .i64 0) .nilFunc .nilFunc 47 rfl ?_ ?_ _ _ _
      · rfl
      · simp
      · exact ⟨hb.os, hb.tape, hb.output, hb.size, hb.block⟩
  case rest =>
    obtain ⟨g, rfl, hg1, hbel, hk⟩ := hcut
    have K0 : Hid (Rows2 w wc [.int .u8 op, .int .u8 m, .int .u64 x, .int .u64 y, .int .u64 z] [.int .u64 0, .int .u8 0, .bool false]) := (Rows2.start w _ _ _ _ (by simp) (by simp)).below' hbel (Nat.le_refl _)
    have G0 : Hid (Blk wc g [.int .i64 n, .func (.func f) #[] #[], .func (.func 26) #[] #[]]) := hk
    clear hbel hk hix
    have c0 := K0.out.x.cells 0 _ rfl
    have c1 := K0.out.x.cells 1 _ rfl
    have c2 := K0.out.x.cells 2 _ rfl
    have c3 := K0.out.x.cells 3 _ rfl
    have c4 := K0.out.x.cells 4 _ rfl
    have g0 := G0.out.cells 0 _ rfl
    have g1 := G0.out.cells 1 _ rfl
    have g2 := G0.out.cells 2 _ rfl
    have z1 := K0.out.size
    have z0 := K0.out.x.lt
    have z3 := G0.out.lt
    go_wp2_with fail
    refine (HA.out _).mono ?_
    rintro e w1 ⟨rfl, hb1⟩
    have hb2 : Below wc.heap.size wc w1 := ((Below.refl _ _).alloc (Nat.le_refl _) _).trans (hb1.mono (by simp))
    have K1 : Hid (Rows2 w w1 [.int .u8 op, .int .u8 m, .int .u64 x, .int .u64 y, .int .u64 z] [.int .u64 0, .int .u8 0, .bool false]) := K0.out.later hb2
    have G1 : Hid (Blk w1 g [.int .i64 n, .func (.func f) #[] #[], .func (.func 26) #[] #[]]) := G0.out.later hb2
    clear hb1 hb2 HA K0 G0 c0 c1 c2 c3 c4 g0 g1 g2 z1 z0 z3
    have c0 := K1.out.x.cells 0 _ rfl
    have c1 := K1.out.x.cells 1 _ rfl
    have c2 := K1.out.x.cells 2 _ rfl
    have c3 := K1.out.x.cells 3 _ rfl
    have c4 := K1.out.x.cells 4 _ rfl
    have g0 := G1.out.cells 0 _ rfl
    have g1 := G1.out.cells 1 _ rfl
    have g2 := G1.out.cells 2 _ rfl
    have r0 := K1.out.r.cells 0 _ rfl
    have r1 := K1.out.r.cells 1 _ rfl
    have r2 := K1.out.r.cells 2 _ rfl
    have f0 := K1.out.r.live 0 _ rfl
    have f1 := K1.out.r.live 1 _ rfl
    have f2 := K1.out.r.live 2 _ rfl
    have z1 := K1.out.size
    have z0 := K1.out.x.lt
    have z3 := G1.out.lt
    go_wp2_with fail
    refine (HZT.out _).mono ?_
    rintro e w2 ⟨rfl, hb2⟩
    have N2 : Hid (Blk w2 w1.heap.size [.int .u64 NB, .int .u8 NF, .bool false]) := (Blk.new _ _ _ (by simp)).below hb2 (by simp)
    have hb3 : Below w1.heap.size w1 w2 := ((Below.refl _ _).alloc (Nat.le_refl _) _).trans (hb2.mono (by simp))
    have K2 : Hid (Rows2 w w2 [.int .u8 op, .int .u8 m, .int .u64 x, .int .u64 y, .int .u64 z] [.int .u64 0, .int .u8 0, .bool false]) := K1.out.later hb3
    have G2 : Hid (Blk w2 g [.int .i64 n, .func (.func f) #[] #[], .func (.func 26) #[] #[]]) := G1.out.later hb3
    have l1 := K1.out.size
    clear hb2 hb3 K1 G1 c0 c1 c2 c3 c4 g0 g1 g2 r0 r1 r2 f0 f1 f2 z1 z0 z3
    have c0 := K2.out.x.cells 0 _ rfl
    have c1 := K2.out.x.cells 1 _ rfl
    have c2 := K2.out.x.cells 2 _ rfl
    have c3 := K2.out.x.cells 3 _ rfl
    have c4 := K2.out.x.cells 4 _ rfl
    have g0 := G2.out.cells 0 _ rfl
    have g1 := G2.out.cells 1 _ rfl
    have g2 := G2.out.cells 2 _ rfl
    have d0 := N2.out.cells 0 _ rfl
    have d1 := N2.out.cells 1 _ rfl
    have d2 := N2.out.cells 2 _ rfl
    have r0 := K2.out.r.cells 0 _ rfl
    have r1 := K2.out.r.cells 1 _ rfl
    have r2 := K2.out.r.cells 2 _ rfl
    have f0 := K2.out.r.live 0 _ rfl
    have f1 := K2.out.r.live 1 _ rfl
    have f2 := K2.out.r.live 2 _ rfl
    go_wp2_with fail
    go_light
    refine bodyPost_ret (v := .agg #[.int .u64 NB, .int .u8 NF, .bool false]) (results_do rfl (((K2.out.r.set 0 _ (by simp)).set 1 _ (by simp)).set 2 _ (by simp))) rfl ⟨rfl, ?_⟩
    exact ((K2.out.below.setCell (by simp) _).setCell (by simp) _).setCell (by simp) _

set_option maxHeartbeats 8000000 in
set_option maxRecDepth 20000 in
theorem soft_on (op m : Int) (x y z : Nat) (n f : Nat) (ho : 1 ≤ op ∧ op ≤ 10) (hm : 0 ≤ m ∧ m ≤ 4) (hx : x < 18446744073709551616) (hy : y < 18446744073709551616) (hz : z < 18446744073709551616) (hn : n ≤ 3)
    (hix : ∀ w, (Instr.index 48 (.agg opsCells) (.int .u8 op)).run Tryd.prog w = .ok (.agg #[.int .i64 n, .func (.func f) #[] #[], .func (.func 26) #[] #[]]) w)
    (hnan : ([(x : Int), (y : Int), (z : Int)].take n).any isN = true) (hfl : (nanFlag ([(x : Int), (y : Int), (z : Int)].take n) == 16) = false) (hzt : zti (kind x) (kind y) = true) (w : World) (b fl : Int) (bad : Bool) (hent : ∀ args w, (callFunc f args).run Tryd.prog w = .ok (.enter f args) w) (hrec : ∀ w1, Below w.heap.size w w1 → Calls Tryd.prog f #[.agg #[.int .u8 op, .int .u8 m, .int .u64 x, .int .u64 y, .int .u64 z]] w1 fun e w' => e = .returned (.agg #[.int .u64 b, .int .u8 fl, .bool bad]) ∧ Below w1.heap.size w1 w') :
    Calls Tryd.prog 12 #[.agg #[.int .u8 op, .int .u8 m, .int .u64 x, .int .u64 y, .int .u64 z]] w fun e w' => e = .returned (.agg #[.int .u64 b, .int .u8 fl, .bool bad]) ∧ Below w.heap.size w w' := by
  have HREC : Hid (∀ w1, Below w.heap.size w w1 → Calls Tryd.prog f #[.agg #[.int .u8 op, .int .u8 m, .int .u64 x, .int .u64 y, .int .u64 z]] w1 fun e w' => e = .returned (.agg #[.int .u64 b, .int .u8 fl, .bool bad]) ∧ Below w1.heap.size w1 w') := hrec
  clear hrec
  have HZT : Hid (∀ w, Calls Tryd.prog 26 #[.agg #[.int .u8 op, .int .u8 m, .int .u64 x, .int .u64 y, .int .u64 z]] w fun e w' => e = .returned (.bool true) ∧ Below w.heap.size w w') := fun w => by rw [← hzt]; exact zti_any x y op m z hx hy w
  clear hzt
  have en1 := eqNil1
  have en2 := eqNil2
  have HA : Hid (∀ (W : World), Calls Tryd.prog 20 #[.slice (some ⟨W.heap.size, 0, none⟩) n 3] (W.alloc (.cells #[.int .u64 x, .int .u64 y, .int .u64 z] 50)) fun e w' =>
      e = .returned (.tuple #[.agg #[.int .u64 (nanBits ([(x : Int), (y : Int), (z : Int)].take n)), .int .u8 (nanFlag ([(x : Int), (y : Int), (z : Int)].take n)), .bool false], .bool true]) ∧ Below (W.heap.size + 1) (W.alloc (.cells #[.int .u64 x, .int .u64 y, .int .u64 z] 50)) w') := fun W => by
    have h := firstNaN_any W.heap.size 0 n 3 ([(x : Int), (y : Int), (z : Int)].take n) (by simp; omega) hn (by decide) (W.alloc (.cells #[.int .u64 x, .int .u64 y, .int .u64 z] 50)) (by simp) (fun i hi => args_cells (by omega) (by omega) (by omega) hn i hi)
    rw [hnan, World.size_alloc] at h
    exact h
  obtain ⟨o1, o2⟩ := ho
  obtain ⟨m1, m2⟩ := hm
  have hnn : (n : Int) ≤ 3 := by omega
  clear hnan hn hx hy hz
  generalize nanBits ([(x : Int), (y : Int), (z : Int)].take n) = NB at *
  generalize nanFlag ([(x : Int), (y : Int), (z : Int)].take n) = NF at *
  go_enter Tryd.func12, Tryd.ntmps12
  go_wp2
  go_cut [3] from 7 to 61 (Opened w ((w.alloc (.cells #[.int .u8 op, .int .u8 m, .int .u64 x, .int .u64 y, .int .u64 z] 36)).alloc (.cells #[.int .u64 0, .int .u8 0, .bool false] 33)) [.int .i64 n, .func (.func f) #[] #[], .func (.func 26) #[] #[]])
  case first =>
    go_region_held3 (fun w' => w'.cell? ⟨w.heap.size, 0, none⟩ = some (.int .u8 op)) (first | go_keep | (rw [cellSet _ _ _ _ (by simp; omega), cellSet _ _ _ _ (by simp; omega), cellSet _ _ _ _ (by simp; omega), hb.cell (by first | omega | (simp; done) | (simp; omega))]; first | assumption | go_simp) | (rw [World.cell?_alloc_lt _ _ _ (by first | omega | (simp; done) | (simp; omega))]; assumption) | (rw [World.cell?_alloc_lt _ _ _ (by first | omega | (simp; done) | (simp; omega)), hb.cell (by first | omega | (simp; done) | (simp; omega))]; first | assumption | go_simp) | (rw [hb.cell (by first | omega | (simp; done) | (simp; omega))]; first | assumption | go_simp)) ((go_at_call 19; refine (operations_any _).mono ?_; rintro e w' ⟨rfl, hb⟩; obtain ⟨hc, hf⟩ := bcell hb; have hzz : w.heap.size + 1 < w'.heap.size := by (have := hb.size; simp at this; omega)))
    all_goals (try go_wp2_with fail)
    all_goals go_meet
    all_goals go_light
    all_goals clear hc hf hix
    · refine opened_new ?_ ?_ _ _ (by simp)
      · simp
      · exact ⟨hb.os, hb.tape, hb.output, hb.size, hb.block⟩
    · refine opened_new ?_ ?_ _ _ (by simp)
      · simp
      · exact ⟨hb.os, hb.tape, hb.output, hb.size, hb.block⟩
    · refine opened_old ?_ _ (.int .i64 0) .nilFunc .nilFunc 47 rfl ?_ ?_ _ _ _
      · rfl
      · simp
      · exact ⟨hb.os, hb.tape, hb.output, hb.size, hb.block⟩
  case rest =>
    obtain ⟨g, rfl, hg1, hbel, hk⟩ := hcut
    have K0 : Hid (Rows2 w wc [.int .u8 op, .int .u8 m, .int .u64 x, .int .u64 y, .int .u64 z] [.int .u64 0, .int .u8 0, .bool false]) := (Rows2.start w _ _ _ _ (by simp) (by simp)).below' hbel (Nat.le_refl _)
    have G0 : Hid (Blk wc g [.int .i64 n, .func (.func f) #[] #[], .func (.func 26) #[] #[]]) := hk
    clear hbel hk hix
    have c0 := K0.out.x.cells 0 _ rfl
    have c1 := K0.out.x.cells 1 _ rfl
    have c2 := K0.out.x.cells 2 _ rfl
    have c3 := K0.out.x.cells 3 _ rfl
    have c4 := K0.out.x.cells 4 _ rfl
    have g0 := G0.out.cells 0 _ rfl
    have g1 := G0.out.cells 1 _ rfl
    have g2 := G0.out.cells 2 _ rfl
    have z1 := K0.out.size
    have z0 := K0.out.x.lt
    have z3 := G0.out.lt
    go_wp2_with fail
    refine (HA.out _).mono ?_
    rintro e w1 ⟨rfl, hb1⟩
    have hb2 : Below wc.heap.size wc w1 := ((Below.refl _ _).alloc (Nat.le_refl _) _).trans (hb1.mono (by simp))
    have K1 : Hid (Rows2 w w1 [.int .u8 op, .int .u8 m, .int .u64 x, .int .u64 y, .int .u64 z] [.int .u64 0, .int .u8 0, .bool false]) := K0.out.later hb2
    have G1 : Hid (Blk w1 g [.int .i64 n, .func (.func f) #[] #[], .func (.func 26) #[] #[]]) := G0.out.later hb2
    clear hb1 hb2 HA K0 G0 c0 c1 c2 c3 c4 g0 g1 g2 z1 z0 z3
    have c0 := K1.out.x.cells 0 _ rfl
    have c1 := K1.out.x.cells 1 _ rfl
    have c2 := K1.out.x.cells 2 _ rfl
    have c3 := K1.out.x.cells 3 _ rfl
    have c4 := K1.out.x.cells 4 _ rfl
    have g0 := G1.out.cells 0 _ rfl
    have g1 := G1.out.cells 1 _ rfl
    have g2 := G1.out.cells 2 _ rfl
    have r0 := K1.out.r.cells 0 _ rfl
    have r1 := K1.out.r.cells 1 _ rfl
    have r2 := K1.out.r.cells 2 _ rfl
    have f0 := K1.out.r.live 0 _ rfl
    have f1 := K1.out.r.live 1 _ rfl
    have f2 := K1.out.r.live 2 _ rfl
    have z1 := K1.out.size
    have z0 := K1.out.x.lt
    have z3 := G1.out.lt
    go_wp2_with fail
    refine (HZT.out _).mono ?_
    rintro e w2 ⟨rfl, hb2⟩
    have N2 : Hid (Blk w2 w1.heap.size [.int .u64 NB, .int .u8 NF, .bool false]) := (Blk.new _ _ _ (by simp)).below hb2 (by simp)
    have hb3 : Below w1.heap.size w1 w2 := ((Below.refl _ _).alloc (Nat.le_refl _) _).trans (hb2.mono (by simp))
    have K2 : Hid (Rows2 w w2 [.int .u8 op, .int .u8 m, .int .u64 x, .int .u64 y, .int .u64 z] [.int .u64 0, .int .u8 0, .bool false]) := K1.out.later hb3
    have G2 : Hid (Blk w2 g [.int .i64 n, .func (.func f) #[] #[], .func (.func 26) #[] #[]]) := G1.out.later hb3
    have l1 := K1.out.size
    clear hb2 hb3 K1 G1 c0 c1 c2 c3 c4 g0 g1 g2 r0 r1 r2 f0 f1 f2 z1 z0 z3
    have c0 := K2.out.x.cells 0 _ rfl
    have c1 := K2.out.x.cells 1 _ rfl
    have c2 := K2.out.x.cells 2 _ rfl
    have c3 := K2.out.x.cells 3 _ rfl
    have c4 := K2.out.x.cells 4 _ rfl
    have g0 := G2.out.cells 0 _ rfl
    have g1 := G2.out.cells 1 _ rfl
    have g2 := G2.out.cells 2 _ rfl
    have d0 := N2.out.cells 0 _ rfl
    have d1 := N2.out.cells 1 _ rfl
    have d2 := N2.out.cells 2 _ rfl
    have r0 := K2.out.r.cells 0 _ rfl
    have r1 := K2.out.r.cells 1 _ rfl
    have r2 := K2.out.r.cells 2 _ rfl
    have f0 := K2.out.r.live 0 _ rfl
    have f1 := K2.out.r.live 1 _ rfl
    have f2 := K2.out.r.live 2 _ rfl
    go_wp2_with fail
    refine (HREC.out _ K2.out.below).mono ?_
    rintro e w3 ⟨rfl, hb3⟩
    have K3 : Hid (Rows2 w w3 [.int .u8 op, .int .u8 m, .int .u64 x, .int .u64 y, .int .u64 z] [.int .u64 0, .int .u8 0, .bool false]) := K2.out.later hb3
    clear hb3 K2 G2 N2 c0 c1 c2 c3 c4 g0 g1 g2 r0 r1 r2 f0 f1 f2 d0 d1 d2
    have r0 := K3.out.r.cells 0 _ rfl
    have r1 := K3.out.r.cells 1 _ rfl
    have r2 := K3.out.r.cells 2 _ rfl
    have f0 := K3.out.r.live 0 _ rfl
    have f1 := K3.out.r.live 1 _ rfl
    have f2 := K3.out.r.live 2 _ rfl
    go_wp2_with fail
    go_light
    refine bodyPost_ret (v := .agg #[.int .u64 b, .int .u8 fl, .bool bad]) (results_do rfl (((K3.out.r.set 0 _ (by simp)).set 1 _ (by simp)).set 2 _ (by simp))) rfl ⟨rfl, ?_⟩
    exact ((K3.out.below.setCell (by simp) _).setCell (by simp) _).setCell (by simp) _
end Go.Proofs.YtcjihaafohnbeaaDoor
