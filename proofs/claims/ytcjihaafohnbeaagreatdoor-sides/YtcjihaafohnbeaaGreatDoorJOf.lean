import Derived.Test.YtcjihaafohnbeaaGreatDoorLaw2
import Derived.Test.YtcjihaafohnbeaaGreatDoorJRefPn
import Derived.Test.YtcjihaafohnbeaaGreatDoorJRefNan
import Derived.Test.YtcjihaafohnbeaaGreatDoorRefSd
import Derived.Test.YtcjihaafohnbeaaGreatDoorRefN9
namespace Go.Proofs.YtcjihaafohnbeaaGreatDoor
open Go.RowKit

set_option maxHeartbeats 1000000 in
/-- 'of' answers true, if 'done' does for each record that it comes to. -/
theorem of_any (a0 : Option Addr) (b off len cap : Nat) (lo hi : Int) (w : World) (ha : 0 < len → a0 = some ⟨b, off, none⟩) (hb : 0 < len → b < w.heap.size)
    (hstep : ∀ i, i < len → ∃ k a op m x y z la ln lc, StepAt w b (off + i * 8) k a op m x y z la ln lc)
    (hdone : ∀ op m x y z : Int, lo ≤ op % 256 → op % 256 ≤ hi → 0 ≤ x ∧ x < 18446744073709551616 → 0 ≤ y ∧ y < 18446744073709551616 → 0 ≤ z ∧ z < 18446744073709551616 → ∀ w1, Below w.heap.size w w1 →
      Calls Tryz.prog 11 #[.agg #[.int .i64 op, .int .i64 m, .int .u64 x, .int .u64 y, .int .u64 z]] w1 fun e w' => e = .returned (.bool true) ∧ Below w1.heap.size w1 w') :
    Calls Tryz.prog 10 #[.slice a0 len cap, .int .i64 lo, .int .i64 hi] w fun e w' => e = .returned (.bool true) ∧ Below w.heap.size w w' := by
  have HD : Hid (∀ op m x y z : Int, lo ≤ op % 256 → op % 256 ≤ hi → 0 ≤ x ∧ x < 18446744073709551616 → 0 ≤ y ∧ y < 18446744073709551616 → 0 ≤ z ∧ z < 18446744073709551616 → ∀ w1, Below w.heap.size w w1 →
      Calls Tryz.prog 11 #[.agg #[.int .i64 op, .int .i64 m, .int .u64 x, .int .u64 y, .int .u64 z]] w1 fun e w' => e = .returned (.bool true) ∧ Below w1.heap.size w1 w') := hdone
  clear hdone
  have HSt : Hid (∀ i, i < len → ∃ k a op m x y z la ln lc, StepAt w b (off + i * 8) k a op m x y z la ln lc) := hstep
  clear hstep
  go_enter Tryz.func10, Tryz.ntmps10
  go_wp2
  go_loopw [7, 8, 9, 10] (fun i _ _ _ wr => ∃ k : Nat, k ≤ len ∧ i = .int .i64 k ∧ Below w.heap.size w wr) (fun i _ _ _ _ => len - (intOf i).toNat)
  case atStart => exact ⟨0, Nat.zero_le _, rfl, Below.refl _ _⟩
  case round =>
    obtain ⟨k, hk, rfl, hbel⟩ := hrel
    have HB : Hid (Below w.heap.size w wr) := hbel
    by_cases hlt : k < len
    · obtain ⟨kk, aa, op, m, x, y, z, la, ln, lc, hst⟩ := HSt.out k hlt
      have hbb := hb (by omega)
      have := ha (by omega)
      subst this
      have c0 := (hbel.cell (p := ⟨b, off + k * 8, none⟩) hbb).trans hst.c0
      have c1 := (hbel.cell (p := ⟨b, off + k * 8 + 1, none⟩) hbb).trans hst.c1
      have c2 := (hbel.cell (p := ⟨b, off + k * 8 + 2, none⟩) hbb).trans hst.c2
      have c3 := (hbel.cell (p := ⟨b, off + k * 8 + 3, none⟩) hbb).trans hst.c3
      have c4 := (hbel.cell (p := ⟨b, off + k * 8 + 4, none⟩) hbb).trans hst.c4
      have c5 := (hbel.cell (p := ⟨b, off + k * 8 + 5, none⟩) hbb).trans hst.c5
      have c6 := (hbel.cell (p := ⟨b, off + k * 8 + 6, none⟩) hbb).trans hst.c6
      have c7 := (hbel.cell (p := ⟨b, off + k * 8 + 7, none⟩) hbb).trans hst.c7
      have hwrap := wrap64_small (op % 256) (by omega) (by omega)
      have HST : Hid (StepAt w b (off + k * 8) kk aa op m x y z la ln lc) := hst
      clear hst hbel
      by_cases h60 : (k : Int) < 1152921504606846976
      · by_cases h2 : kk = 2
        · by_cases h3 : lo ≤ op % 256
          · by_cases h4 : op % 256 ≤ hi
            · go_wp2_with fail
              refine (HD.out op m x y z h3 h4 HST.out.rx HST.out.ry HST.out.rz _ (HB.out.alloc HB.out.size _)).mono ?_
              rintro e w1 ⟨rfl, hb1⟩
              have HB1 : Hid (Below w.heap.size w w1) := (HB.out.alloc HB.out.size _).trans (hb1.mono (by have := HB.out.size; simp; omega))
              clear hb1 c0 c1 c2 c3 c4 c5 c6 c7
              go_wp2_with fail
              go_roundw
              case rel => exact ⟨k + 1, by omega, by go_num, HB1.out⟩
              case measure => simp [intOf]; omega
            · go_wp2_with fail
              go_roundw
              case rel => exact ⟨k + 1, by omega, by go_num, HB.out.alloc HB.out.size _⟩
              case measure => simp [intOf]; omega
          · go_wp2_with fail
            go_roundw
            case rel => exact ⟨k + 1, by omega, by go_num, HB.out.alloc HB.out.size _⟩
            case measure => simp [intOf]; omega
        · have h2' : (kk == 2) = false := by simp [h2]
          go_wp2_with fail
          go_roundw
          case rel => exact ⟨k + 1, by omega, by go_num, HB.out.alloc HB.out.size _⟩
          case measure => simp [intOf]; omega
      · clear c0 c1 c2 c3 c4 c5 c6 c7
        go_wp2
        go_ret
        exact ⟨rfl, HB.out⟩
    · go_wp2
      go_ret
      exact ⟨rfl, HB.out⟩


theorem sdF_range (x y : Nat) (m : Int) : 0 ≤ sdF x y m ∧ sdF x y m < 256 := by
  have := roundF_range 0 (sqD (ssD x y) (ssP x y)) (sqP (ssP x y)) m
  unfold sdF
  (repeat' split) <;> omega

set_option maxRecDepth 10000 in
set_option maxHeartbeats 2000000 in
theorem ref_nan9 (m x y z : Int) (hm : m ≤ 4) (hx : 0 ≤ x ∧ x < 18446744073709551616) (hy : 0 ≤ y ∧ y < 18446744073709551616) (hz : 0 ≤ z ∧ z < 18446744073709551616) (hn : anyN [x, y] = true) (w : World) :
    Calls Tryz.prog 14 #[.agg #[.int .i64 9, .int .i64 m, .int .u64 x, .int .u64 y, .int .u64 z]] w fun e w' => e = .returned (.agg #[.int .u64 (n9B x y), .int .i64 (nanFlag [x, y]), .bool false]) ∧ Below w.heap.size w w' := by
  have HN : Hid (∀ w, Calls Tryz.prog 19 #[.agg #[.int .i64 9, .int .i64 m, .int .u64 x, .int .u64 y, .int .u64 z]] w fun e w' => e = .returned (.tuple #[.agg #[.int .u64 (n9B x y), .int .i64 (nanFlag [x, y]), .bool false], .bool true]) ∧ Below w.heap.size w w') := fun w => by
    have := nans9_any m x y z hx hy hz w
    rw [hn] at this
    exact this
  clear hn hx hy hz
  generalize n9B x y = NB at *
  generalize nanFlag [x, y] = NF at *
  have E0 : Hid (EmptyR ((w.alloc (.cells #[.int .i64 9, .int .i64 m, .int .u64 x, .int .u64 y, .int .u64 z] 41)).alloc (.cells #[.int .u64 0, .int .i64 0, .bool false] 39)) (w.heap.size + 1)) := ⟨by simp, by go_simp, by go_simp, by go_simp, by go_simp, by go_simp, by go_simp⟩
  have B0 : Hid (Below w.heap.size w ((w.alloc (.cells #[.int .i64 9, .int .i64 m, .int .u64 x, .int .u64 y, .int .u64 z] 41)).alloc (.cells #[.int .u64 0, .int .i64 0, .bool false] 39))) := ((Below.refl _ _).alloc (Nat.le_refl _) _).alloc (by simp) _
  go_enter Tryz.func14, Tryz.ntmps14
  go_wp2_with fail
  refine (HN.out _).mono ?_
  rintro e w1 ⟨rfl, hb1⟩
  have V1 : Hid (Below w.heap.size w w1) := B0.out.trans (hb1.mono B0.out.size)
  obtain ⟨k0, k1, k2, k3, k4, k5, k6⟩ := E0.out.later hb1
  clear hb1
  go_wp2_with fail
  refine bodyPost_ret (v := .agg #[.int .u64 NB, .int .i64 NF, .bool false]) (by simp [results, Tryz.results14, go_sem, k1, k2, k3, World.cell?_alloc_lt, k0]) rfl ⟨rfl, ?_⟩
  repeat (first | exact V1.out | refine Below.setCell ?_ (by simp) _ | (refine Below.alloc ?_ (by have := V1.out.size; simp; omega) _))

set_option maxRecDepth 10000 in
set_option maxHeartbeats 2000000 in
theorem ref_sd (x y : Nat) (m z : Int) (hm : 0 ≤ m ∧ m ≤ 4) (hx : x < 18446744073709551616) (hy : y < 18446744073709551616) (hz : 0 ≤ z ∧ z < 18446744073709551616) (hn : anyN [(x : Int), (y : Int)] = false) (w : World) :
    Calls Tryz.prog 14 #[.agg #[.int .i64 9, .int .i64 m, .int .u64 (x : Int), .int .u64 (y : Int), .int .u64 z]] w fun e w' => e = .returned (.agg #[.int .u64 (sdB x y m), .int .i64 (sdF x y m), .bool false]) ∧ Below w.heap.size w w' := by
  have HN : Hid (∀ w, Calls Tryz.prog 19 #[.agg #[.int .i64 9, .int .i64 m, .int .u64 (x : Int), .int .u64 (y : Int), .int .u64 z]] w fun e w' => e = .returned (.tuple #[.agg #[.int .u64 (n9B x y), .int .i64 (nanFlag [(x : Int), (y : Int)]), .bool false], .bool false]) ∧ Below w.heap.size w w') := fun w => by
    have := nans9_any m x y z (by omega) (by omega) hz w
    rw [hn] at this
    exact this
  have HMU : Hid (∀ w, Calls Tryz.prog 24 #[.int .u64 (x : Int), .int .u64 (y : Int), .int .i64 m] w fun e w' => e = .returned (.agg #[.int .u64 (sdB x y m), .int .i64 (sdF x y m), .bool false]) ∧ Below w.heap.size w w') := fun w => sides_ref x y m hx hy hm w
  obtain ⟨hm1, hm2⟩ := hm
  clear hn hx hy hz
  generalize n9B (x : Int) (y : Int) = NB at *
  generalize nanFlag [(x : Int), (y : Int)] = NF at *
  generalize sdB x y m = PB at *
  generalize sdF x y m = PF at *
  have E0 : Hid (EmptyR ((w.alloc (.cells #[.int .i64 9, .int .i64 m, .int .u64 (x : Int), .int .u64 (y : Int), .int .u64 z] 41)).alloc (.cells #[.int .u64 0, .int .i64 0, .bool false] 39)) (w.heap.size + 1)) := ⟨by simp, by go_simp, by go_simp, by go_simp, by go_simp, by go_simp, by go_simp⟩
  have R0 : Hid (RecR ((w.alloc (.cells #[.int .i64 9, .int .i64 m, .int .u64 (x : Int), .int .u64 (y : Int), .int .u64 z] 41)).alloc (.cells #[.int .u64 0, .int .i64 0, .bool false] 39)) w.heap.size 9 m x y z) := ⟨by simp; omega, by go_simp, by go_simp, by go_simp, by go_simp, by go_simp⟩
  have B0 : Hid (Below w.heap.size w ((w.alloc (.cells #[.int .i64 9, .int .i64 m, .int .u64 (x : Int), .int .u64 (y : Int), .int .u64 z] 41)).alloc (.cells #[.int .u64 0, .int .i64 0, .bool false] 39))) := ((Below.refl _ _).alloc (Nat.le_refl _) _).alloc (by simp) _
  go_enter Tryz.func14, Tryz.ntmps14
  go_wp2_with fail
  refine (HN.out _).mono ?_
  rintro e w1 ⟨rfl, hb1⟩
  have V1 : Hid (Below w.heap.size w w1) := B0.out.trans (hb1.mono B0.out.size)
  have E1 : Hid (EmptyR w1 (w.heap.size + 1)) := E0.out.later hb1
  obtain ⟨r0, r1, r2, r3, r4, r5⟩ := R0.out.later hb1
  have hsz := E1.out.lt
  clear hb1
  go_wp2_with fail
  refine (HMU.out _).mono ?_
  rintro e w2 ⟨rfl, hb2⟩
  have V1a := V1.out.alloc V1.out.size (.cells #[.int .u64 NB, .int .i64 NF, .bool false] 39)
  have V2 : Hid (Below w.heap.size w w2) := V1a.trans (hb2.mono V1a.size)
  obtain ⟨k0, k1, k2, k3, k4, k5, k6⟩ := (E1.out.later ((Below.refl _ _).alloc (Nat.le_refl _) _)).later hb2
  clear hb2 V1a V1 E1
  go_wp2_with fail
  refine bodyPost_ret (v := .agg #[.int .u64 PB, .int .i64 PF, .bool false]) (by simp [results, Tryz.results14, go_sem, k1, k2, k3]) rfl ⟨rfl, ?_⟩
  repeat (first | exact V2.out | refine Below.setCell ?_ (by simp) _)

/-- hypot: the program and the document's answer say the same. -/
theorem done_sd (op m x y z : Int) (h : op % 256 = 9) (hx : 0 ≤ x ∧ x < 18446744073709551616) (hy : 0 ≤ y ∧ y < 18446744073709551616) (hz : 0 ≤ z ∧ z < 18446744073709551616) (w : World) (hT : Tab w) :
    Calls Tryz.prog 11 #[.agg #[.int .i64 op, .int .i64 m, .int .u64 x, .int .u64 y, .int .u64 z]] w fun e w' => e = .returned (.bool true) ∧ Below w.heap.size w w' := by
  by_cases hbad : 4 < m % 256
  · exact done_any op m x y z 0 0 true (by omega) w (fun w1 _ => soft_bad _ _ x y z (by omega) (by omega) (.inr (.inr hbad)) w1) (fun w1 _ => ref_bad _ _ x y z (.inr (.inr hbad)) w1)
  have hm : 0 ≤ m % 256 ∧ m % 256 ≤ 4 := by omega
  obtain ⟨X, rfl⟩ : ∃ X : Nat, x = X := ⟨x.toNat, by omega⟩
  obtain ⟨Y, rfl⟩ : ∃ Y : Nat, y = Y := ⟨y.toNat, by omega⟩
  have hX : X < 18446744073709551616 := by omega
  have hY : Y < 18446744073709551616 := by omega
  by_cases hn : anyN [(X : Int), (Y : Int)] = true
  · have hr := nanFlag_range [(X : Int), (Y : Int)]
    refine done_any op m X Y z (n9B X Y) (nanFlag [(X : Int), (Y : Int)]) false (by omega) w (fun w1 hb => ?_) (fun w1 _ => ?_)
    · rw [h]; exact soft_nanHy X Y (m % 256) z hX hY hz hm hn w1 (hT.later hb)
    · rw [h]; exact ref_nan9 (m % 256) X Y z (by omega) hx hy hz hn w1
  · have hn' : anyN [(X : Int), (Y : Int)] = false := by simpa using hn
    have hr := sdF_range X Y (m % 256)
    refine done_any op m X Y z (sdB X Y (m % 256)) (sdF X Y (m % 256)) false (by omega) w (fun w1 hb => ?_) (fun w1 _ => ?_)
    · rw [h]; exact soft_hyDo X Y (m % 256) z hX hY hz hm hn' w1 (hT.later hb)
    · rw [h]; exact ref_sd X Y (m % 256) z hm hX hY hz hn' w1

set_option maxHeartbeats 400000 in
theorem sides_walk (a0 : Option Addr) (b off len cap : Nat) (w : World) (hT : Tab w) (ha : 0 < len → a0 = some ⟨b, off, none⟩) (hb : 0 < len → b < w.heap.size)
    (hstep : ∀ i, i < len → ∃ k a op m x y z la ln lc, StepAt w b (off + i * 8) k a op m x y z la ln lc) :
    Calls Tryz.prog 8 #[.slice a0 len cap] w fun e w' => e = .returned (.bool true) ∧ Below w.heap.size w w' := by
  have HSt : Hid (∀ i, i < len → ∃ k a op m x y z la ln lc, StepAt w b (off + i * 8) k a op m x y z la ln lc) := hstep
  have HT : Hid (Tab w) := hT
  clear hstep hT
  go_enter Tryz.func8, Tryz.ntmps8
  go_wp2_with fail
  refine (of_any a0 b off len cap 9 9 w ha hb HSt.out (fun op m x y z h1 h2 hx hy hz w1 hb1 => done_sd op m x y z (by omega) hx hy hz w1 (HT.out.later hb1))).mono ?_
  rintro e w1 ⟨rfl, hb1⟩
  have HB1 : Hid (Below w.heap.size w w1) := hb1
  clear hb1
  go_wp2_with fail
  go_ret
  exact ⟨rfl, HB1.out⟩

end Go.Proofs.YtcjihaafohnbeaaGreatDoor
