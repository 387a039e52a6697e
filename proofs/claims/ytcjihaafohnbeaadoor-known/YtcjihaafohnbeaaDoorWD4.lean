import Derived.Test.YtcjihaafohnbeaaDoorWA4
import Derived.Test.YtcjihaafohnbeaaDoorRtA
namespace Go.Proofs.YtcjihaafohnbeaaDoor.W4
open Go.RowKit

def timesAt (w : World) (x0 x1 x2 x3 o0 o1 o2 o3 : Int) : World :=
  ((w.alloc (.cells #[.int .u64 x0, .int .u64 x1, .int .u64 x2, .int .u64 x3] 71)).alloc (.cells #[.int .u64 0, .int .u64 0, .int .u64 0, .int .u64 0] 71)).alloc (.cells #[.int .u64 o0, .int .u64 o1, .int .u64 o2, .int .u64 o3] 71)

/-- One word's step: its product's two words, and what goes over. -/
theorem times_word (D y k : Nat) (hy : y < 18446744073709551616) : ∃ H L M : Int, (∀ w, Calls Tryd.prog 79 #[.int .u64 (wd D k : Nat), .int .u64 (y : Nat)] w fun e w' => e = .returned (.tuple #[.int .u64 H, .int .u64 L]) ∧ w' = w) ∧
    (∀ w, (callFunc 83 #[.int .u64 L, .int .u64 (tcar D y k : Nat), .int .u64 0]).run Tryd.prog w = .ok (.value (.tuple #[.int .u64 (wd (D * y) k : Nat), .int .u64 M])) w) ∧ IntKind.u64.wrap (H + M) = (tcar D y (k + 1) : Nat) ∧ 0 ≤ H ∧ 0 ≤ M ∧ H + M < 18446744073709551616 ∧ H + M = (tcar D y (k + 1) : Nat) := by
  obtain ⟨t1, t2⟩ := tcar_step D y k
  have hl := tcar_le D y (k + 1)
  refine ⟨((wd D k : Nat) : Int) * y / 18446744073709551616, ((wd D k : Nat) : Int) * y % 18446744073709551616, (((wd D k * y % 18446744073709551616 + tcar D y k) / 18446744073709551616 : Nat) : Int), fun w => mul64_any (wd D k : Nat) (y : Nat) ⟨by omega, by have := wd_lt D k; omega⟩ ⟨by omega, by omega⟩ w, fun w => ?_, ?_, ?_, ?_, ?_, ?_⟩
  · have e1 : ((wd D k : Nat) : Int) * y % 18446744073709551616 = ((wd D k * y % 18446744073709551616 : Nat) : Int) := by rw [← Int.natCast_mul]; omega
    rw [e1, add64_run _ _ 0 (by omega) (by omega) (by omega) (by omega)]
    rw [← t1]
    have e2 : (((wd D k * y % 18446744073709551616 : Nat) : Int) + (tcar D y k : Nat) + 0) % 18446744073709551616 = (((wd D k * y % 18446744073709551616 + tcar D y k) % 18446744073709551616 : Nat) : Int) := by omega
    have e3 : (((wd D k * y % 18446744073709551616 : Nat) : Int) + (tcar D y k : Nat) + 0) / 18446744073709551616 = (((wd D k * y % 18446744073709551616 + tcar D y k) / 18446744073709551616 : Nat) : Int) := by omega
    rw [e2, e3]
  all_goals
    (try rw [← Int.natCast_mul])
    generalize wd D k * y = a at *
    generalize tcar D y k = c at *
    generalize tcar D y (k + 1) = d at *
  · rw [Go.IntWalk.u64_in _ (by omega)]; omega
  · omega
  · omega
  · omega
  · omega

set_option maxHeartbeats 2000000 in
theorem times_any (D y : Nat) (hy : y < 18446744073709551616) (w : World) :
    Calls Tryd.prog 66 #[.agg #[.int .u64 (wd D 0), .int .u64 (wd D 1), .int .u64 (wd D 2), .int .u64 (wd D 3)], .int .u64 y] w fun e w' => e = .returned (.agg #[.int .u64 (wd (D * y) 0), .int .u64 (wd (D * y) 1), .int .u64 (wd (D * y) 2), .int .u64 (wd (D * y) 3)]) ∧ Below w.heap.size w w' := by
  obtain ⟨H0, L0, M0, hm0, ha0, hw0, p0, q0, r0, hs0⟩ := times_word D y 0 hy
  have HM0 : Hid (_) := hm0
  clear hm0
  obtain ⟨H1, L1, M1, hm1, ha1, hw1, p1, q1, r1, hs1⟩ := times_word D y 1 hy
  have HM1 : Hid (_) := hm1
  clear hm1
  obtain ⟨H2, L2, M2, hm2, ha2, hw2, p2, q2, r2, hs2⟩ := times_word D y 2 hy
  have HM2 : Hid (_) := hm2
  clear hm2
  obtain ⟨H3, L3, M3, hm3, ha3, hw3, p3, q3, r3, hs3⟩ := times_word D y 3 hy
  have HM3 : Hid (_) := hm3
  clear hm3
  rw [show ((tcar D y 0 : Nat) : Int) = 0 by rw [tcar_zero]; rfl] at ha0
  generalize wd (D * y) 0 = S0 at *
  generalize wd D 0 = x0 at *
  generalize tcar D y 1 = c1 at *
  generalize wd (D * y) 1 = S1 at *
  generalize wd D 1 = x1 at *
  generalize tcar D y 2 = c2 at *
  generalize wd (D * y) 2 = S2 at *
  generalize wd D 2 = x2 at *
  generalize tcar D y 3 = c3 at *
  generalize wd (D * y) 3 = S3 at *
  generalize wd D 3 = x3 at *
  generalize tcar D y 4 = c4 at *
  go_enter Tryd.func66, Tryd.ntmps66
  go_wp2
  go_loopw [6, 7, 8, 9, 10] (fun c _ i _ _ wr => (c = .int .u64 0 ∧ i = .int .i64 0 ∧ wr = (timesAt w x0 x1 x2 x3 0 0 0 0)) ∨ (c = .int .u64 (c1 : Nat) ∧ i = .int .i64 1 ∧ wr = (timesAt w x0 x1 x2 x3 S0 0 0 0)) ∨ (c = .int .u64 (c2 : Nat) ∧ i = .int .i64 2 ∧ wr = (timesAt w x0 x1 x2 x3 S0 S1 0 0)) ∨ (c = .int .u64 (c3 : Nat) ∧ i = .int .i64 3 ∧ wr = (timesAt w x0 x1 x2 x3 S0 S1 S2 0)) ∨ (i = .int .i64 4 ∧ wr = (timesAt w x0 x1 x2 x3 S0 S1 S2 S3))) (fun _ _ i _ _ _ => (4 - intOf i).toNat)
  case atStart => exact Or.inl ⟨rfl, rfl, rfl⟩
  case round =>
    rcases hrel with ⟨rfl, rfl, rfl⟩ | ⟨rfl, rfl, rfl⟩ | ⟨rfl, rfl, rfl⟩ | ⟨rfl, rfl, rfl⟩ | ⟨rfl, rfl⟩
    · unfold timesAt
      go_wp2_with (go_at_call 79; refine (HM0.out _).mono ?_; rintro e w' ⟨rfl, rfl⟩)
      go_roundw
      case rel => exact Or.inr (Or.inl ⟨by first | rfl | trivial, by first | rfl | trivial, by first | rfl | trivial⟩)
      case measure => simp [intOf]
    · unfold timesAt
      go_wp2_with (go_at_call 79; refine (HM1.out _).mono ?_; rintro e w' ⟨rfl, rfl⟩)
      go_roundw
      case rel => exact Or.inr (Or.inr (Or.inl ⟨by first | rfl | trivial, by first | rfl | trivial, by first | rfl | trivial⟩))
      case measure => simp [intOf]
    · unfold timesAt
      go_wp2_with (go_at_call 79; refine (HM2.out _).mono ?_; rintro e w' ⟨rfl, rfl⟩)
      go_roundw
      case rel => exact Or.inr (Or.inr (Or.inr (Or.inl ⟨by first | rfl | trivial, by first | rfl | trivial, by first | rfl | trivial⟩)))
      case measure => simp [intOf]
    · unfold timesAt
      go_wp2_with (go_at_call 79; refine (HM3.out _).mono ?_; rintro e w' ⟨rfl, rfl⟩)
      go_roundw
      case rel => exact Or.inr (Or.inr (Or.inr (Or.inr (⟨by first | rfl | trivial, by first | rfl | trivial⟩))))
      case measure => simp [intOf]
    · unfold timesAt
      go_wp2_with fail
      refine bodyPost_ret (v := .agg #[.int .u64 S0, .int .u64 S1, .int .u64 S2, .int .u64 S3]) (by simp [results, Tryd.results66, go_sem]) rfl ⟨rfl, ?_⟩
      exact ((((Below.refl _ _).alloc (Nat.le_refl _) _).alloc (by simp) _).alloc (by simp; omega) _)
end Go.Proofs.YtcjihaafohnbeaaDoor.W4
