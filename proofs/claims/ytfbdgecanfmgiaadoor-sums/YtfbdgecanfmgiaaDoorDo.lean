import Derived.Test.YtfbdgecanfmgiaaDoorNan
import Derived.Test.YtfbdgecanfmgiaaDoorOps
import Derived.Deep.RegionHeld3
import Derived.Deep.Cut
import Derived.Deep.CutRange
import Derived.Deep.Light
namespace Go.Proofs.YtfbdgecanfmgiaaDoor
open Go.RowKit

theorem cellSet (w : World) (p a : Addr) (v : Value) (h : a.block ≠ p.block) : (w.setCell p v).cell? a = w.cell? a := World.cell?_of_block (w := w) (heap_setCell_other w p a.block v h)

set_option maxHeartbeats 1000000 in
theorem soft_bad (op m x y z : Int) (ho : 0 ≤ op ∧ op < 256) (hm : 0 ≤ m ∧ m < 256) (hbad : op < 1 ∨ 10 < op ∨ 4 < m) (w : World) :
    Calls Tryd.prog 13 #[.agg #[.int .u8 op, .int .u8 m, .int .u64 x, .int .u64 y, .int .u64 z]] w fun e w' =>
      e = .returned (.agg #[.int .u64 0, .int .u8 0, .bool true]) ∧ Below w.heap.size w w' := by
  obtain ⟨o1, o2⟩ := ho
  obtain ⟨m1, m2⟩ := hm
  have HB : Hid (op < 1 ∨ 10 < op ∨ 4 < m) := hbad
  clear hbad
  by_cases h1 : op < 1
  · go_enter Tryd.func13, Tryd.ntmps13
    go_wp2
    exact bodyPost_ret (v := .agg #[.int .u64 0, .int .u8 0, .bool true]) (by simp [results, Tryd.results13, go_sem]) rfl ⟨rfl, ((Below.refl _ _).alloc (Nat.le_refl _) _).alloc (by simp) _⟩
  · by_cases h2 : 10 < op
    · go_enter Tryd.func13, Tryd.ntmps13
      go_wp2
      exact bodyPost_ret (v := .agg #[.int .u64 0, .int .u8 0, .bool true]) (by simp [results, Tryd.results13, go_sem]) rfl ⟨rfl, ((Below.refl _ _).alloc (Nat.le_refl _) _).alloc (by simp) _⟩
    · have h3 : 4 < m := by have := HB.out; omega
      go_enter Tryd.func13, Tryd.ntmps13
      go_wp2
      exact bodyPost_ret (v := .agg #[.int .u64 0, .int .u8 0, .bool true]) (by simp [results, Tryd.results13, go_sem]) rfl ⟨rfl, ((Below.refl _ _).alloc (Nat.le_refl _) _).alloc (by simp) _⟩

theorem args_cells {x y z : Int} (hx : 0 ≤ x ∧ x < 18446744073709551616) (hy : 0 ≤ y ∧ y < 18446744073709551616) (hz : 0 ≤ z ∧ z < 18446744073709551616) {n : Nat} (hn : n ≤ 3) {w : World} {t : TypeId} (i : Nat) (hi : i < n) :
    (w.alloc (.cells #[.int .u64 x, .int .u64 y, .int .u64 z] t)).cell? ⟨w.heap.size, 0 + i, none⟩ = some (.int .u64 (([x, y, z].take n).getD i 0)) ∧ 0 ≤ ([x, y, z].take n).getD i 0 ∧ ([x, y, z].take n).getD i 0 < 18446744073709551616 := by
  have e : ([x, y, z].take n).getD i 0 = [x, y, z].getD i 0 := by
    simp only [List.getD_eq_getElem?_getD, List.getElem?_take, if_pos hi]
  rw [e]
  match i, (show i < 3 by omega) with
  | 0, _ => exact ⟨by go_simp, hx⟩
  | 1, _ => exact ⟨by go_simp, hy⟩
  | 2, _ => exact ⟨by go_simp, hz⟩
def Opened (w W2 : World) (a b : Value) (s3 : Value) (wx : World) : Prop := ∃ g, s3 = .pointer (some ⟨g, 0, none⟩) ∧ w.heap.size + 1 < g ∧ g < wx.heap.size ∧ Below (w.heap.size + 2) W2 wx ∧
  wx.cell? ⟨g, 0, none⟩ = some a ∧ wx.cell? ⟨g, 1, none⟩ = some b
theorem opened_new {w W2 w' : World} (hs : W2.heap.size = w.heap.size + 2) (hb : Below W2.heap.size W2 w') (a b : Value) (t : TypeId) :
    Opened w W2 a b (.pointer (some ⟨w'.heap.size, 0, none⟩)) (w'.alloc (.cells #[a, b] t)) := by
  have hz := hb.size
  refine ⟨_, rfl, by omega, by simp, (hb.mono (by omega)).alloc (by omega) _, ?_, ?_⟩
  · go_simp
  · go_simp
theorem opened_old {w W2 w' : World} {g : Nat} (hg : g = w.heap.size + 2) (o : Obj) (c0 c1 : Value) (t : TypeId) (ho : o = .cells #[c0, c1] t) (hs : W2.heap.size = w.heap.size + 2) (hb : Below (W2.alloc o).heap.size (W2.alloc o) w') (a b : Value) :
    Opened w W2 a b (.pointer (some ⟨g, 0, none⟩)) ((w'.setCell ⟨g, 0, none⟩ a).setCell ⟨g, 1, none⟩ b) := by
  subst hg ho
  have hz := hb.size
  simp only [World.size_alloc] at hz hb
  have h2 : Below (w.heap.size + 2) W2 w' := ((Below.refl _ _).alloc (by omega) _).trans (hb.mono (by omega))
  refine ⟨_, rfl, by omega, by simp; omega, (h2.setCell (by simp) _).setCell (by simp) _, ?_, ?_⟩
  · rw [World.cell?_setCell_other _ _ _ _ (by simp)]
    refine World.cell?_setCell_same _ _ _ (u := c0) ?_
    rw [hb.cell (by simp; omega)]
    rw [← hs]
    go_simp
  · refine World.cell?_setCell_same _ _ _ (u := c1) ?_
    rw [World.cell?_setCell_other _ _ _ _ (by simp), hb.cell (by simp; omega), ← hs]
    go_simp

set_option maxHeartbeats 1000000 in
theorem soft_nan (op m x y z : Int) (n f : Nat) (ho : 1 ≤ op ∧ op ≤ 10) (hm : 0 ≤ m ∧ m ≤ 4) (hx : 0 ≤ x ∧ x < 18446744073709551616) (hy : 0 ≤ y ∧ y < 18446744073709551616) (hz : 0 ≤ z ∧ z < 18446744073709551616) (hn : n ≤ 3)
    (hix : ∀ w, (Instr.index 53 (.agg opsCells) (.int .u8 op)).run Tryd.prog w = .ok (.agg #[.int .i64 n, .func (.func f) #[] #[]]) w)
    (hnan : ([x, y, z].take n).any isN = true) (w : World) :
    Calls Tryd.prog 13 #[.agg #[.int .u8 op, .int .u8 m, .int .u64 x, .int .u64 y, .int .u64 z]] w fun e w' =>
      e = .returned (.agg #[.int .u64 (nanBits ([x, y, z].take n)), .int .u8 (nanFlag ([x, y, z].take n)), .bool false]) ∧ Below w.heap.size w w' := by
  obtain ⟨o1, o2⟩ := ho
  obtain ⟨m1, m2⟩ := hm
  go_enter Tryd.func13, Tryd.ntmps13
  go_wp2
  go_cut [3] from 7 to 44 (Opened w ((w.alloc (.cells #[.int .u8 op, .int .u8 m, .int .u64 x, .int .u64 y, .int .u64 z] 37)).alloc (.cells #[.int .u64 0, .int .u8 0, .bool false] 34)) (.int .i64 n) (.func (.func f) #[] #[]))
  case first =>
    go_region_held3 (fun w' => w'.cell? ⟨w.heap.size, 0, none⟩ = some (.int .u8 op)) (first | go_keep | (rw [cellSet _ _ _ _ (by simp; omega), cellSet _ _ _ _ (by simp; omega), hb.cell (by first | omega | (simp; done) | (simp; omega))]; first | assumption | go_simp) | (rw [World.cell?_alloc_lt _ _ _ (by first | omega | (simp; done) | (simp; omega))]; assumption) | (rw [World.cell?_alloc_lt _ _ _ (by first | omega | (simp; done) | (simp; omega)), hb.cell (by first | omega | (simp; done) | (simp; omega))]; first | assumption | go_simp) | (rw [hb.cell (by first | omega | (simp; done) | (simp; omega))]; first | assumption | go_simp)) ((go_at_call 22; refine (operations_any _).mono ?_; rintro e w' ⟨rfl, hb⟩; obtain ⟨hc, hf⟩ := bcell hb; have hzz : w.heap.size + 1 < w'.heap.size := by (have := hb.size; simp at this; omega)))
    all_goals (try go_wp2_with fail)
    all_goals go_meet
    all_goals go_light
    all_goals clear hc hf hix
    · refine opened_new ?_ ?_ _ _ _
      · simp
      · exact ⟨hb.os, hb.tape, hb.output, hb.size, hb.block⟩
    · refine opened_new ?_ ?_ _ _ _
      · simp
      · exact ⟨hb.os, hb.tape, hb.output, hb.size, hb.block⟩
    · refine opened_old ?_ _ (.int .i64 0) .nilFunc 52 rfl ?_ ?_ _ _
      · rfl
      · simp
      · exact ⟨hb.os, hb.tape, hb.output, hb.size, hb.block⟩
  case rest =>
    obtain ⟨g, rfl, hg1, hg2, hbel, hc0, hc1⟩ := hcut
    clear hix
    have HX : Hid (0 ≤ x ∧ x < 18446744073709551616) := hx
    have HY : Hid (0 ≤ y ∧ y < 18446744073709551616) := hy
    have HZ : Hid (0 ≤ z ∧ z < 18446744073709551616) := hz
    have HN : Hid (n ≤ 3) := hn
    have HNN : Hid (([x, y, z].take n).any isN = true) := hnan
    have r0 : wc.cell? ⟨w.heap.size, 0, none⟩ = some (.int .u8 op) := (hbel.cell (p := ⟨w.heap.size, 0, none⟩) (by simp)).trans (by go_simp)
    have r1 : wc.cell? ⟨w.heap.size, 1, none⟩ = some (.int .u8 m) := (hbel.cell (p := ⟨w.heap.size, 1, none⟩) (by simp)).trans (by go_simp)
    have r2 : wc.cell? ⟨w.heap.size, 2, none⟩ = some (.int .u64 x) := (hbel.cell (p := ⟨w.heap.size, 2, none⟩) (by simp)).trans (by go_simp)
    have r3 : wc.cell? ⟨w.heap.size, 3, none⟩ = some (.int .u64 y) := (hbel.cell (p := ⟨w.heap.size, 3, none⟩) (by simp)).trans (by go_simp)
    have r4 : wc.cell? ⟨w.heap.size, 4, none⟩ = some (.int .u64 z) := (hbel.cell (p := ⟨w.heap.size, 4, none⟩) (by simp)).trans (by go_simp)
    have q0 : wc.cell? ⟨w.heap.size + 1, 0, none⟩ = some (.int .u64 0) := (hbel.cell (p := ⟨w.heap.size + 1, 0, none⟩) (by simp)).trans (by go_simp)
    have q1 : wc.cell? ⟨w.heap.size + 1, 1, none⟩ = some (.int .u8 0) := (hbel.cell (p := ⟨w.heap.size + 1, 1, none⟩) (by simp)).trans (by go_simp)
    have q2 : wc.cell? ⟨w.heap.size + 1, 2, none⟩ = some (.bool false) := (hbel.cell (p := ⟨w.heap.size + 1, 2, none⟩) (by simp)).trans (by go_simp)
    have hz1 : w.heap.size < wc.heap.size := by have := hbel.size; simp at this; omega
    have hz2 : w.heap.size + 1 < wc.heap.size := by have := hbel.size; simp at this; omega
    have hnn : (n : Int) ≤ 3 := by omega
    have HB : Hid (Below (w.heap.size + 2) ((w.alloc (.cells #[.int .u8 op, .int .u8 m, .int .u64 x, .int .u64 y, .int .u64 z] 37)).alloc (.cells #[.int .u64 0, .int .u8 0, .bool false] 34)) wc) := hbel
    clear hbel
    clear hx hy hz hnan hn
    set_option maxRecDepth 20000 in
    go_wp2_with fail
    refine (firstNaN_any _ _ _ _ ([x, y, z].take n) ?_ ?_ ?_ _ ?_ ?_).mono ?_
    · have := HN.out; simp; omega
    · have := HN.out; omega
    · decide
    · simp
    · intro i hi
      exact args_cells HX.out HY.out HZ.out (by have := HN.out; omega) i hi
    · rintro e w' ⟨rfl, hb⟩
      have hb' : Below wc.heap.size wc w' := ((Below.refl _ _).alloc (Nat.le_refl _) _).trans (hb.mono (by simp))
      have s0 := hb'.size
      have k0 := (hb'.cell (p := ⟨w.heap.size + 1, 0, none⟩) hz2).trans q0
      have k1 := (hb'.cell (p := ⟨w.heap.size + 1, 1, none⟩) hz2).trans q1
      have k2 := (hb'.cell (p := ⟨w.heap.size + 1, 2, none⟩) hz2).trans q2
      have j0 : w'.frozen? ⟨w.heap.size + 1, 0, none⟩ = false := (hb'.frozen (p := ⟨w.heap.size + 1, 0, none⟩) hz2).trans ((HB.out.frozen (p := ⟨w.heap.size + 1, 0, none⟩) (by simp)).trans (by go_simp))
      have j1 : w'.frozen? ⟨w.heap.size + 1, 1, none⟩ = false := (hb'.frozen (p := ⟨w.heap.size + 1, 1, none⟩) hz2).trans ((HB.out.frozen (p := ⟨w.heap.size + 1, 1, none⟩) (by simp)).trans (by go_simp))
      have j2 : w'.frozen? ⟨w.heap.size + 1, 2, none⟩ = false := (hb'.frozen (p := ⟨w.heap.size + 1, 2, none⟩) hz2).trans ((HB.out.frozen (p := ⟨w.heap.size + 1, 2, none⟩) (by simp)).trans (by go_simp))
      have hz3 : w.heap.size + 1 < w'.heap.size := by omega
      have hany := HNN.out
      have HS : Hid (Below w.heap.size w w') := (((Below.refl _ _).alloc (Nat.le_refl _) _).alloc (by simp) _).trans ((HB.out.mono (by omega)).trans (hb'.mono (by omega)))
      clear hb hb' r0 r1 r2 r3 r4 q0 q1 q2 HB hc0 hc1 s0
      set_option maxRecDepth 20000 in
      go_wp2_with fail
      refine bodyPost_ret (v := .agg #[.int .u64 (nanBits ([x, y, z].take n)), .int .u8 (nanFlag ([x, y, z].take n)), .bool false]) (by simp [results, Tryd.results13, go_sem, *]) rfl ⟨rfl, ?_⟩
      exact (((HS.out.setCell (by simp) _).setCell (by simp) _).setCell (by simp) _).alloc (by simp; omega) _
set_option maxHeartbeats 1000000 in
theorem soft_do (op m x y z : Int) (n f : Nat) (ho : 1 ≤ op ∧ op ≤ 10) (hm : 0 ≤ m ∧ m ≤ 4) (hx : 0 ≤ x ∧ x < 18446744073709551616) (hy : 0 ≤ y ∧ y < 18446744073709551616) (hz : 0 ≤ z ∧ z < 18446744073709551616) (hn : n ≤ 3)
    (hix : ∀ w, (Instr.index 53 (.agg opsCells) (.int .u8 op)).run Tryd.prog w = .ok (.agg #[.int .i64 n, .func (.func f) #[] #[]]) w)
    (hnan : ([x, y, z].take n).any isN = false) (w : World) (b fl : Int) (bad : Bool) (hent : ∀ args w, (callFunc f args).run Tryd.prog w = .ok (.enter f args) w)
    (hrec : ∀ w1, Below w.heap.size w w1 → Calls Tryd.prog f #[.agg #[.int .u8 op, .int .u8 m, .int .u64 x, .int .u64 y, .int .u64 z]] w1 fun e w' => e = .returned (.agg #[.int .u64 b, .int .u8 fl, .bool bad]) ∧ Below w1.heap.size w1 w') :
    Calls Tryd.prog 13 #[.agg #[.int .u8 op, .int .u8 m, .int .u64 x, .int .u64 y, .int .u64 z]] w fun e w' =>
      e = .returned (.agg #[.int .u64 b, .int .u8 fl, .bool bad]) ∧ Below w.heap.size w w' := by
  have HREC : Hid (∀ w1, Below w.heap.size w w1 → Calls Tryd.prog f #[.agg #[.int .u8 op, .int .u8 m, .int .u64 x, .int .u64 y, .int .u64 z]] w1 fun e w' => e = .returned (.agg #[.int .u64 b, .int .u8 fl, .bool bad]) ∧ Below w1.heap.size w1 w') := hrec
  clear hrec
  obtain ⟨o1, o2⟩ := ho
  obtain ⟨m1, m2⟩ := hm
  go_enter Tryd.func13, Tryd.ntmps13
  go_wp2
  go_cut [3] from 7 to 44 (Opened w ((w.alloc (.cells #[.int .u8 op, .int .u8 m, .int .u64 x, .int .u64 y, .int .u64 z] 37)).alloc (.cells #[.int .u64 0, .int .u8 0, .bool false] 34)) (.int .i64 n) (.func (.func f) #[] #[]))
  case first =>
    go_region_held3 (fun w' => w'.cell? ⟨w.heap.size, 0, none⟩ = some (.int .u8 op)) (first | go_keep | (rw [cellSet _ _ _ _ (by simp; omega), cellSet _ _ _ _ (by simp; omega), hb.cell (by first | omega | (simp; done) | (simp; omega))]; first | assumption | go_simp) | (rw [World.cell?_alloc_lt _ _ _ (by first | omega | (simp; done) | (simp; omega))]; assumption) | (rw [World.cell?_alloc_lt _ _ _ (by first | omega | (simp; done) | (simp; omega)), hb.cell (by first | omega | (simp; done) | (simp; omega))]; first | assumption | go_simp) | (rw [hb.cell (by first | omega | (simp; done) | (simp; omega))]; first | assumption | go_simp)) ((go_at_call 22; refine (operations_any _).mono ?_; rintro e w' ⟨rfl, hb⟩; obtain ⟨hc, hf⟩ := bcell hb; have hzz : w.heap.size + 1 < w'.heap.size := by (have := hb.size; simp at this; omega)))
    all_goals (try go_wp2_with fail)
    all_goals go_meet
    all_goals go_light
    all_goals clear hc hf hix
    · refine opened_new ?_ ?_ _ _ _
      · simp
      · exact ⟨hb.os, hb.tape, hb.output, hb.size, hb.block⟩
    · refine opened_new ?_ ?_ _ _ _
      · simp
      · exact ⟨hb.os, hb.tape, hb.output, hb.size, hb.block⟩
    · refine opened_old ?_ _ (.int .i64 0) .nilFunc 52 rfl ?_ ?_ _ _
      · rfl
      · simp
      · exact ⟨hb.os, hb.tape, hb.output, hb.size, hb.block⟩
  case rest =>
    obtain ⟨g, rfl, hg1, hg2, hbel, hc0, hc1⟩ := hcut
    clear hix
    have HX : Hid (0 ≤ x ∧ x < 18446744073709551616) := hx
    have HY : Hid (0 ≤ y ∧ y < 18446744073709551616) := hy
    have HZ : Hid (0 ≤ z ∧ z < 18446744073709551616) := hz
    have HN : Hid (n ≤ 3) := hn
    have HNN : Hid (([x, y, z].take n).any isN = false) := hnan
    have r0 : wc.cell? ⟨w.heap.size, 0, none⟩ = some (.int .u8 op) := (hbel.cell (p := ⟨w.heap.size, 0, none⟩) (by simp)).trans (by go_simp)
    have r1 : wc.cell? ⟨w.heap.size, 1, none⟩ = some (.int .u8 m) := (hbel.cell (p := ⟨w.heap.size, 1, none⟩) (by simp)).trans (by go_simp)
    have r2 : wc.cell? ⟨w.heap.size, 2, none⟩ = some (.int .u64 x) := (hbel.cell (p := ⟨w.heap.size, 2, none⟩) (by simp)).trans (by go_simp)
    have r3 : wc.cell? ⟨w.heap.size, 3, none⟩ = some (.int .u64 y) := (hbel.cell (p := ⟨w.heap.size, 3, none⟩) (by simp)).trans (by go_simp)
    have r4 : wc.cell? ⟨w.heap.size, 4, none⟩ = some (.int .u64 z) := (hbel.cell (p := ⟨w.heap.size, 4, none⟩) (by simp)).trans (by go_simp)
    have q0 : wc.cell? ⟨w.heap.size + 1, 0, none⟩ = some (.int .u64 0) := (hbel.cell (p := ⟨w.heap.size + 1, 0, none⟩) (by simp)).trans (by go_simp)
    have q1 : wc.cell? ⟨w.heap.size + 1, 1, none⟩ = some (.int .u8 0) := (hbel.cell (p := ⟨w.heap.size + 1, 1, none⟩) (by simp)).trans (by go_simp)
    have q2 : wc.cell? ⟨w.heap.size + 1, 2, none⟩ = some (.bool false) := (hbel.cell (p := ⟨w.heap.size + 1, 2, none⟩) (by simp)).trans (by go_simp)
    have hz1 : w.heap.size < wc.heap.size := by have := hbel.size; simp at this; omega
    have hz2 : w.heap.size + 1 < wc.heap.size := by have := hbel.size; simp at this; omega
    have hnn : (n : Int) ≤ 3 := by omega
    have HB : Hid (Below (w.heap.size + 2) ((w.alloc (.cells #[.int .u8 op, .int .u8 m, .int .u64 x, .int .u64 y, .int .u64 z] 37)).alloc (.cells #[.int .u64 0, .int .u8 0, .bool false] 34)) wc) := hbel
    clear hbel
    clear hx hy hz hnan hn
    set_option maxRecDepth 20000 in
    go_wp2_with fail
    refine (firstNaN_any _ _ _ _ ([x, y, z].take n) ?_ ?_ ?_ _ ?_ ?_).mono ?_
    · have := HN.out; simp; omega
    · have := HN.out; omega
    · decide
    · simp
    · intro i hi
      exact args_cells HX.out HY.out HZ.out (by have := HN.out; omega) i hi
    · rintro e w' ⟨rfl, hb⟩
      have hb' : Below wc.heap.size wc w' := ((Below.refl _ _).alloc (Nat.le_refl _) _).trans (hb.mono (by simp))
      have s0 := hb'.size
      have k0 := (hb'.cell (p := ⟨w.heap.size + 1, 0, none⟩) hz2).trans q0
      have k1 := (hb'.cell (p := ⟨w.heap.size + 1, 1, none⟩) hz2).trans q1
      have k2 := (hb'.cell (p := ⟨w.heap.size + 1, 2, none⟩) hz2).trans q2
      have j0 : w'.frozen? ⟨w.heap.size + 1, 0, none⟩ = false := (hb'.frozen (p := ⟨w.heap.size + 1, 0, none⟩) hz2).trans ((HB.out.frozen (p := ⟨w.heap.size + 1, 0, none⟩) (by simp)).trans (by go_simp))
      have j1 : w'.frozen? ⟨w.heap.size + 1, 1, none⟩ = false := (hb'.frozen (p := ⟨w.heap.size + 1, 1, none⟩) hz2).trans ((HB.out.frozen (p := ⟨w.heap.size + 1, 1, none⟩) (by simp)).trans (by go_simp))
      have j2 : w'.frozen? ⟨w.heap.size + 1, 2, none⟩ = false := (hb'.frozen (p := ⟨w.heap.size + 1, 2, none⟩) hz2).trans ((HB.out.frozen (p := ⟨w.heap.size + 1, 2, none⟩) (by simp)).trans (by go_simp))
      have hz3 : w.heap.size + 1 < w'.heap.size := by omega
      have hany := HNN.out
      have HS : Hid (Below w.heap.size w w') := (((Below.refl _ _).alloc (Nat.le_refl _) _).alloc (by simp) _).trans ((HB.out.mono (by omega)).trans (hb'.mono (by omega)))
      have l0 := (hb'.cell (p := ⟨w.heap.size, 0, none⟩) hz1).trans r0
      have l1 := (hb'.cell (p := ⟨w.heap.size, 1, none⟩) hz1).trans r1
      have l2 := (hb'.cell (p := ⟨w.heap.size, 2, none⟩) hz1).trans r2
      have l3 := (hb'.cell (p := ⟨w.heap.size, 3, none⟩) hz1).trans r3
      have l4 := (hb'.cell (p := ⟨w.heap.size, 4, none⟩) hz1).trans r4
      have d1 := (hb'.cell (p := ⟨g, 1, none⟩) hg2).trans hc1
      have hz4 : w.heap.size < w'.heap.size := by omega
      have hz5 : g < w'.heap.size := by omega
      clear hb hb' r0 r1 r2 r3 r4 q0 q1 q2 HB hc0 hc1 s0
      set_option maxRecDepth 20000 in
      go_wp2_with fail
      refine (HREC.out _ ?_).mono ?_
      · exact HS.out.alloc (by omega) _
      · rintro e w2 ⟨rfl, hb2⟩
        have t0 := hb2.size
        simp only [World.size_alloc] at t0
        have e0 : w2.cell? ⟨w.heap.size + 1, 0, none⟩ = some (.int .u64 0) := (hb2.cell (p := ⟨w.heap.size + 1, 0, none⟩) (by simp; omega)).trans (by rw [World.cell?_alloc_lt _ _ _ hz3]; exact k0)
        have e1 : w2.cell? ⟨w.heap.size + 1, 1, none⟩ = some (.int .u8 0) := (hb2.cell (p := ⟨w.heap.size + 1, 1, none⟩) (by simp; omega)).trans (by rw [World.cell?_alloc_lt _ _ _ hz3]; exact k1)
        have e2 : w2.cell? ⟨w.heap.size + 1, 2, none⟩ = some (.bool false) := (hb2.cell (p := ⟨w.heap.size + 1, 2, none⟩) (by simp; omega)).trans (by rw [World.cell?_alloc_lt _ _ _ hz3]; exact k2)
        have p0 : w2.frozen? ⟨w.heap.size + 1, 0, none⟩ = false := (hb2.frozen (p := ⟨w.heap.size + 1, 0, none⟩) (by simp; omega)).trans (by rw [World.frozen?_alloc_old _ _ _ (by simp; omega)]; exact j0)
        have p1 : w2.frozen? ⟨w.heap.size + 1, 1, none⟩ = false := (hb2.frozen (p := ⟨w.heap.size + 1, 1, none⟩) (by simp; omega)).trans (by rw [World.frozen?_alloc_old _ _ _ (by simp; omega)]; exact j1)
        have p2 : w2.frozen? ⟨w.heap.size + 1, 2, none⟩ = false := (hb2.frozen (p := ⟨w.heap.size + 1, 2, none⟩) (by simp; omega)).trans (by rw [World.frozen?_alloc_old _ _ _ (by simp; omega)]; exact j2)
        have HS2 : Hid (Below w.heap.size w w2) := (HS.out.alloc (by omega) _).trans (hb2.mono (by simp; omega))
        clear hb2 k0 k1 k2 j0 j1 j2 l0 l1 l2 l3 l4 d1 HS t0
        set_option maxRecDepth 20000 in
        go_wp2_with fail
        refine bodyPost_ret (v := .agg #[.int .u64 b, .int .u8 fl, .bool bad]) (by simp [results, Tryd.results13, go_sem, *]) rfl ⟨rfl, ?_⟩
        exact ((HS2.out.setCell (by simp) _).setCell (by simp) _).setCell (by simp) _
end Go.Proofs.YtfbdgecanfmgiaaDoor
