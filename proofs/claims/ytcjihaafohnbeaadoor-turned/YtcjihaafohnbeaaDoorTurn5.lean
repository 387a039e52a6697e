import Derived.Test.YtcjihaafohnbeaaDoorTurn4
import Derived.Test.YtcjihaafohnbeaaDoorOf
namespace Go.Proofs.YtcjihaafohnbeaaDoor
open Go.RowKit

set_option maxRecDepth 10000 in
set_option maxHeartbeats 1000000 in
theorem turned_nan1 (op mo x y z : Int) (h : nanI x = true) (w : World) :
    Calls Tryd.prog 9 #[.agg #[.int .i64 op, .int .i64 mo, .int .u64 x, .int .u64 y, .int .u64 z]] w fun e w' => e = .returned (.bool true) ∧ Below w.heap.size w w' := by
  go_enter Tryd.func9, Tryd.ntmps9
  go_wp2_with (go_at_call 14; refine (nan_is h _).mono ?_; rintro e w' ⟨rfl, rfl⟩)
  go_ret
  exact ⟨rfl, (Below.refl _ _).alloc (Nat.le_refl _) _⟩
set_option maxRecDepth 10000 in
set_option maxHeartbeats 1000000 in
theorem turned_nan2 (op mo x y z : Int) (h0 : nanI x = false) (h : nanI y = true) (w : World) :
    Calls Tryd.prog 9 #[.agg #[.int .i64 op, .int .i64 mo, .int .u64 x, .int .u64 y, .int .u64 z]] w fun e w' => e = .returned (.bool true) ∧ Below w.heap.size w w' := by
  go_enter Tryd.func9, Tryd.ntmps9
  go_wp2_with (first | (go_at_call 14; refine (nan_is h0 _).mono ?_; rintro e w' ⟨rfl, rfl⟩) | (go_at_call 14; refine (nan_is h _).mono ?_; rintro e w' ⟨rfl, rfl⟩))
  go_ret
  exact ⟨rfl, (Below.refl _ _).alloc (Nat.le_refl _) _⟩

theorem kindN {x : Nat} (h : x < 18446744073709551616) (hk : kind (x : Int) < 4) : kind ((neg x : Nat) : Int) < 4 := by rw [kind_neg h]; exact hk
theorem turned_any (op mo x y z : Int) (hx : 0 ≤ x ∧ x < 18446744073709551616) (hy : 0 ≤ y ∧ y < 18446744073709551616) (w : World) (hT : Tab w) :
    Calls Tryd.prog 9 #[.agg #[.int .i64 op, .int .i64 mo, .int .u64 x, .int .u64 y, .int .u64 z]] w fun e w' => e = .returned (.bool true) ∧ Below w.heap.size w w' := by
  by_cases h1 : nanI x = true
  · exact turned_nan1 op mo x y z h1 w
  replace h1 : nanI x = false := by simpa using h1
  by_cases h2 : nanI y = true
  · exact turned_nan2 op mo x y z h1 h2 w
  replace h2 : nanI y = false := by simpa using h2
  obtain ⟨X, rfl⟩ : ∃ X : Nat, x = X := ⟨x.toNat, by omega⟩
  obtain ⟨Y, rfl⟩ : ∃ Y : Nat, y = Y := ⟨y.toNat, by omega⟩
  have hX : X < 18446744073709551616 := by omega
  have hY : Y < 18446744073709551616 := by omega
  have k1 := nanI_kind hX h1
  have k2 := nanI_kind hY h2
  have hm : 0 ≤ mo % 256 % 5 ∧ mo % 256 % 5 ≤ 4 := by omega
  have hm' := otherM_range hm
  have hc := sum_comm X Y (mo % 256 % 5)
  have hc' := prod_comm X Y (mo % 256 % 5)
  refine turned_clear op mo X Y z (mo % 256 % 5) (sumB X Y (mo % 256 % 5)) (sumF X Y (mo % 256 % 5)) (sumB (neg X) (neg Y) (otherM (mo % 256 % 5))) (prodB X Y (mo % 256 % 5)) (prodF X Y (mo % 256 % 5)) (prodB (neg X) Y (otherM (mo % 256 % 5))) rfl h1 h2 hx hy w
    (fun w1 hb => ?_) (fun w1 hb => ?_) (fun w1 hb => ?_) (fun w1 hb => ?_) (fun w1 hb => ?_) (fun w1 hb => ?_) (fun w1 hb => ?_)
    (sumB_flip hm hX hY _ _ rfl rfl) (prodB_flip hm hX _ _ rfl rfl) (sumB_lt (neg_lt hX) (neg_lt hY)) prodB_lt
  · exact soft_addS X Y _ 0 hX hY (by omega) hm k1 k2 w1 (hT.later hb)
  · rw [hc.1, hc.2]; exact soft_addS Y X _ 0 hY hX (by omega) hm k2 k1 w1 (hT.later hb)
  · have h := soft_subS X (neg Y) _ 0 hX (neg_lt hY) (by omega) hm k1 (kindN hY k2) w1 (hT.later hb)
    rw [neg_neg hY] at h
    rw [← neg_cast]; exact h
  · have h := soft_addS (neg X) (neg Y) _ 0 (neg_lt hX) (neg_lt hY) (by omega) hm' (kindN hX k1) (kindN hY k2) w1 (hT.later hb)
    rw [sumF_flip hm hX hY] at h
    rw [← neg_cast, ← neg_cast]; exact h
  · exact soft_mul X Y _ 0 hX hY (by omega) hm k1 k2 w1 (hT.later hb)
  · rw [hc'.1, hc'.2]; exact soft_mul Y X _ 0 hY hX (by omega) hm k2 k1 w1 (hT.later hb)
  · have h := soft_mul (neg X) Y _ 0 (neg_lt hX) hY (by omega) hm' (kindN hX k1) k2 w1 (hT.later hb)
    rw [prodF_flip hm hX] at h
    rw [← neg_cast]; exact h

set_option maxHeartbeats 1000000 in
theorem turned_walk (a0 : Option Addr) (b off len cap : Nat) (w : World) (hT : Tab w) (ha : 0 < len → a0 = some ⟨b, off, none⟩) (hb : 0 < len → b < w.heap.size)
    (hstep : ∀ i, i < len → ∃ k a op m x y z la ln lc, StepAt w b (off + i * 8) k a op m x y z la ln lc) :
    Calls Tryd.prog 4 #[.slice a0 len cap] w fun e w' => e = .returned (.bool true) ∧ Below w.heap.size w w' := by
  have HT : Hid (Tab w) := hT
  have HSt : Hid (∀ i, i < len → ∃ k a op m x y z la ln lc, StepAt w b (off + i * 8) k a op m x y z la ln lc) := hstep
  clear hstep hT
  go_enter Tryd.func4, Tryd.ntmps4
  go_wp2_with fail
  refine (lives_any w HT.out).mono ?_
  rintro e w0 ⟨rfl, hb0⟩
  have HB0 : Hid (Below w.heap.size w w0) := hb0
  clear hb0
  go_wp2_with fail
  go_loopw [4, 5] (fun i _ wr => ∃ k : Nat, k ≤ len ∧ i = .int .i64 k ∧ Below w.heap.size w wr) (fun i _ _ => len - (intOf i).toNat)
  case atStart => exact ⟨0, Nat.zero_le _, rfl, HB0.out⟩
  case round =>
    obtain ⟨k, hk, rfl, hbel⟩ := hrel
    have HB : Hid (Below w.heap.size w wr) := hbel
    by_cases hlt : k < len
    · obtain ⟨kk, aa, op, m, x, y, z, la, ln, lc, hst⟩ := HSt.out k hlt
      have hbb := hb (by omega)
      have := ha (by omega)
      subst this
      have c2 := (hbel.cell (p := ⟨b, off + k * 8 + 2, none⟩) hbb).trans hst.c2
      have c3 := (hbel.cell (p := ⟨b, off + k * 8 + 3, none⟩) hbb).trans hst.c3
      have c4 := (hbel.cell (p := ⟨b, off + k * 8 + 4, none⟩) hbb).trans hst.c4
      have c5 := (hbel.cell (p := ⟨b, off + k * 8 + 5, none⟩) hbb).trans hst.c5
      have c6 := (hbel.cell (p := ⟨b, off + k * 8 + 6, none⟩) hbb).trans hst.c6
      have HST : Hid (StepAt w b (off + k * 8) kk aa op m x y z la ln lc) := hst
      clear hst hbel
      by_cases h60 : (k : Int) < 1152921504606846976
      · go_wp2_with fail
        refine (turned_any op m x y z HST.out.rx HST.out.ry _ (HT.out.later HB.out)).mono ?_
        rintro e w1 ⟨rfl, hb1⟩
        have HB1 : Hid (Below w.heap.size w w1) := HB.out.trans (hb1.mono HB.out.size)
        clear hb1 c2 c3 c4 c5 c6
        go_wp2_with fail
        go_roundw
        case rel => exact ⟨k + 1, by omega, by go_num, HB1.out⟩
        case measure => simp [intOf]; omega
      · clear c2 c3 c4 c5 c6
        go_wp2
        go_ret
        exact ⟨rfl, HB.out⟩
    · go_wp2
      go_ret
      exact ⟨rfl, HB.out⟩
end Go.Proofs.YtcjihaafohnbeaaDoor
