import Derived.Test.YtfbdgecanfmgiaaDoorRefU
import Derived.Test.YtfbdgecanfmgiaaDoorOdd4
namespace Go.Proofs.YtfbdgecanfmgiaaDoor
open Go.RowKit

theorem sumF_range (x y : Nat) (m : Int) : 0 ≤ sumF x y m ∧ sumF x y m < 256 := by
  have := roundF_range (fsS x y m) (fsD x y) (fsP x y) m
  unfold sumF
  (repeat' split) <;> omega
/-- A sum: the program and the document's answer say the same. -/
theorem done_add (op m x y z : Int) (h : op % 256 = 1) (hx : 0 ≤ x ∧ x < 18446744073709551616) (hy : 0 ≤ y ∧ y < 18446744073709551616) (hz : 0 ≤ z ∧ z < 18446744073709551616) (w : World) (hT : Tab w) :
    Calls Tryd.prog 12 #[.agg #[.int .i64 op, .int .i64 m, .int .u64 x, .int .u64 y, .int .u64 z]] w fun e w' => e = .returned (.bool true) ∧ Below w.heap.size w w' := by
  by_cases hbad : 4 < m % 256
  · exact done_any op m x y z 0 0 true (by omega) w (fun w1 _ => soft_bad _ _ x y z (by omega) (by omega) (.inr (.inr hbad)) w1) (fun w1 _ => ref_bad _ _ x y z (.inr (.inr hbad)) w1)
  have hm : 0 ≤ m % 256 ∧ m % 256 ≤ 4 := by omega
  obtain ⟨X, rfl⟩ : ∃ X : Nat, x = X := ⟨x.toNat, by omega⟩
  obtain ⟨Y, rfl⟩ : ∃ Y : Nat, y = Y := ⟨y.toNat, by omega⟩
  have hX : X < 18446744073709551616 := by omega
  have hY : Y < 18446744073709551616 := by omega
  by_cases hn : anyN [(X : Int), (Y : Int)] = true
  · have hr := nanFlag_range [(X : Int), (Y : Int)]
    refine done_any op m X Y z (nanBits [(X : Int), (Y : Int)]) (nanFlag [(X : Int), (Y : Int)]) false (by omega) w (fun w1 _ => ?_) (fun w1 _ => ?_)
    · rw [h]; exact soft_nan 1 (m % 256) X Y z 2 _ (by omega) hm hx hy hz (by omega) index1 hn w1
    · rw [h]; exact ref_nan2 1 (m % 256) X Y z (by omega) (by omega) hx hy hz hn w1
  · have hn' : anyN [(X : Int), (Y : Int)] = false := by simpa using hn
    have hk : kind (X : Int) < 4 ∧ kind (Y : Int) < 4 := by
      simp [anyN, isN] at hn'
      omega
    have hr := sumF_range X Y (m % 256)
    have ea := add_sum X Y (m % 256) hX hY
    refine done_any op m X Y z (sumB X Y (m % 256)) (sumF X Y (m % 256)) false (by omega) w (fun w1 hb => ?_) (fun w1 _ => ?_)
    · rw [h]; exact soft_add X Y (m % 256) z hX hY hz hm hk.1 hk.2 w1 (hT.later hb)
    · rw [h, ← ea.1, ← ea.2]; exact ref_add X Y (m % 256) z hm hX hY hz hn' w1

/-- A sum: the program and the document's answer say the same. -/
theorem done_sub (op m x y z : Int) (h : op % 256 = 2) (hx : 0 ≤ x ∧ x < 18446744073709551616) (hy : 0 ≤ y ∧ y < 18446744073709551616) (hz : 0 ≤ z ∧ z < 18446744073709551616) (w : World) (hT : Tab w) :
    Calls Tryd.prog 12 #[.agg #[.int .i64 op, .int .i64 m, .int .u64 x, .int .u64 y, .int .u64 z]] w fun e w' => e = .returned (.bool true) ∧ Below w.heap.size w w' := by
  by_cases hbad : 4 < m % 256
  · exact done_any op m x y z 0 0 true (by omega) w (fun w1 _ => soft_bad _ _ x y z (by omega) (by omega) (.inr (.inr hbad)) w1) (fun w1 _ => ref_bad _ _ x y z (.inr (.inr hbad)) w1)
  have hm : 0 ≤ m % 256 ∧ m % 256 ≤ 4 := by omega
  obtain ⟨X, rfl⟩ : ∃ X : Nat, x = X := ⟨x.toNat, by omega⟩
  obtain ⟨Y, rfl⟩ : ∃ Y : Nat, y = Y := ⟨y.toNat, by omega⟩
  have hX : X < 18446744073709551616 := by omega
  have hY : Y < 18446744073709551616 := by omega
  by_cases hn : anyN [(X : Int), (Y : Int)] = true
  · have hr := nanFlag_range [(X : Int), (Y : Int)]
    refine done_any op m X Y z (nanBits [(X : Int), (Y : Int)]) (nanFlag [(X : Int), (Y : Int)]) false (by omega) w (fun w1 _ => ?_) (fun w1 _ => ?_)
    · rw [h]; exact soft_nan 2 (m % 256) X Y z 2 _ (by omega) hm hx hy hz (by omega) index2 hn w1
    · rw [h]; exact ref_nan2 2 (m % 256) X Y z (by omega) (by omega) hx hy hz hn w1
  · have hn' : anyN [(X : Int), (Y : Int)] = false := by simpa using hn
    have hk : kind (X : Int) < 4 ∧ kind (Y : Int) < 4 := by
      simp [anyN, isN] at hn'
      omega
    have hr := sumF_range X (neg Y) (m % 256)
    have ea := add_sum X (neg Y) (m % 256) hX (neg_lt hY)
    refine done_any op m X Y z (sumB X (neg Y) (m % 256)) (sumF X (neg Y) (m % 256)) false (by omega) w (fun w1 hb => ?_) (fun w1 _ => ?_)
    · rw [h]; exact soft_sub X Y (m % 256) z hX hY hz hm hk.1 hk.2 w1 (hT.later hb)
    · rw [h, ← ea.1, ← ea.2]; exact ref_sub X Y (m % 256) z hm hX hY hz hn' w1

theorem done_sums (op m x y z : Int) (h : op % 256 = 1 ∨ op % 256 = 2) (hx : 0 ≤ x ∧ x < 18446744073709551616) (hy : 0 ≤ y ∧ y < 18446744073709551616) (hz : 0 ≤ z ∧ z < 18446744073709551616) (w : World) (hT : Tab w) :
    Calls Tryd.prog 12 #[.agg #[.int .i64 op, .int .i64 m, .int .u64 x, .int .u64 y, .int .u64 z]] w fun e w' => e = .returned (.bool true) ∧ Below w.heap.size w w' :=
  h.elim (fun h => done_add op m x y z h hx hy hz w hT) (fun h => done_sub op m x y z h hx hy hz w hT)

set_option maxHeartbeats 400000 in
theorem sums_walk (a0 : Option Addr) (b off len cap : Nat) (w : World) (hT : Tab w) (ha : 0 < len → a0 = some ⟨b, off, none⟩) (hb : 0 < len → b < w.heap.size)
    (hstep : ∀ i, i < len → ∃ k a op m x y z la ln lc, StepAt w b (off + i * 8) k a op m x y z la ln lc) :
    Calls Tryd.prog 3 #[.slice a0 len cap] w fun e w' => e = .returned (.bool true) ∧ Below w.heap.size w w' := by
  have HSt : Hid (∀ i, i < len → ∃ k a op m x y z la ln lc, StepAt w b (off + i * 8) k a op m x y z la ln lc) := hstep
  have HT : Hid (Tab w) := hT
  clear hstep hT
  go_enter Tryd.func3, Tryd.ntmps3
  go_wp2_with fail
  refine (of_any a0 b off len cap 1 2 w ha hb HSt.out (fun op m x y z h1 h2 hx hy hz w1 hb1 => done_sums op m x y z (by omega) hx hy hz w1 (HT.out.later hb1))).mono ?_
  rintro e w1 ⟨rfl, hb1⟩
  have HB1 : Hid (Below w.heap.size w w1) := hb1
  clear hb1
  go_wp2_with fail
  go_ret
  exact ⟨rfl, HB1.out⟩
end Go.Proofs.YtfbdgecanfmgiaaDoor
