import Derived.Test.YtcjihaafohnbeaaDoorWA4
import Derived.Test.YtcjihaafohnbeaaDoorWideB
namespace Go.Proofs.YtcjihaafohnbeaaDoor.W4
open Go.RowKit

def five (w : World) (x0 x1 x2 x3 y0 y1 y2 y3 o0 o1 o2 o3 : Int) : World :=
  (((w.alloc (.cells #[.int .u64 x0, .int .u64 x1, .int .u64 x2, .int .u64 x3] 71)).alloc (.cells #[.int .u64 y0, .int .u64 y1, .int .u64 y2, .int .u64 y3] 71)).alloc (.cells #[.int .u64 0, .int .u64 0, .int .u64 0, .int .u64 0] 71)).alloc (.cells #[.int .u64 o0, .int .u64 o1, .int .u64 o2, .int .u64 o3] 71)

set_option maxHeartbeats 2000000 in
theorem add_any (D E : Nat) (w : World) :
    Calls Tryd.prog 70 #[.agg #[.int .u64 (wd D 0), .int .u64 (wd D 1), .int .u64 (wd D 2), .int .u64 (wd D 3)], .agg #[.int .u64 (wd E 0), .int .u64 (wd E 1), .int .u64 (wd E 2), .int .u64 (wd E 3)]] w fun e w' => e = .returned (.agg #[.int .u64 (wd (D + E) 0), .int .u64 (wd (D + E) 1), .int .u64 (wd (D + E) 2), .int .u64 (wd (D + E) 3)]) ∧ Below w.heap.size w w' := by
  have ha0 := add64_run (wd D 0) (wd E 0) (car D E 0) (by omega) (by omega) (by omega) (by have := car_le D E 0; omega)
  have hs0 : (((wd D 0 : Nat) : Int) + (wd E 0 : Nat) + (car D E 0 : Nat)) % 18446744073709551616 = ((wd (D + E) 0 : Nat) : Int) := by have h := wd_add D E 0; rw [h]; omega
  have hc0 : (((wd D 0 : Nat) : Int) + (wd E 0 : Nat) + (car D E 0 : Nat)) / 18446744073709551616 = ((car D E 1 : Nat) : Int) := by have h : car D E 1 = (wd D 0 + wd E 0 + car D E 0) / 18446744073709551616 := car_next D E 0; rw [h]; omega
  rw [hs0, hc0] at ha0
  clear hs0 hc0
  have ha1 := add64_run (wd D 1) (wd E 1) (car D E 1) (by omega) (by omega) (by omega) (by have := car_le D E 1; omega)
  have hs1 : (((wd D 1 : Nat) : Int) + (wd E 1 : Nat) + (car D E 1 : Nat)) % 18446744073709551616 = ((wd (D + E) 1 : Nat) : Int) := by have h := wd_add D E 1; rw [h]; omega
  have hc1 : (((wd D 1 : Nat) : Int) + (wd E 1 : Nat) + (car D E 1 : Nat)) / 18446744073709551616 = ((car D E 2 : Nat) : Int) := by have h : car D E 2 = (wd D 1 + wd E 1 + car D E 1) / 18446744073709551616 := car_next D E 1; rw [h]; omega
  rw [hs1, hc1] at ha1
  clear hs1 hc1
  have ha2 := add64_run (wd D 2) (wd E 2) (car D E 2) (by omega) (by omega) (by omega) (by have := car_le D E 2; omega)
  have hs2 : (((wd D 2 : Nat) : Int) + (wd E 2 : Nat) + (car D E 2 : Nat)) % 18446744073709551616 = ((wd (D + E) 2 : Nat) : Int) := by have h := wd_add D E 2; rw [h]; omega
  have hc2 : (((wd D 2 : Nat) : Int) + (wd E 2 : Nat) + (car D E 2 : Nat)) / 18446744073709551616 = ((car D E 3 : Nat) : Int) := by have h : car D E 3 = (wd D 2 + wd E 2 + car D E 2) / 18446744073709551616 := car_next D E 2; rw [h]; omega
  rw [hs2, hc2] at ha2
  clear hs2 hc2
  have ha3 := add64_run (wd D 3) (wd E 3) (car D E 3) (by omega) (by omega) (by omega) (by have := car_le D E 3; omega)
  have hs3 : (((wd D 3 : Nat) : Int) + (wd E 3 : Nat) + (car D E 3 : Nat)) % 18446744073709551616 = ((wd (D + E) 3 : Nat) : Int) := by have h := wd_add D E 3; rw [h]; omega
  have hc3 : (((wd D 3 : Nat) : Int) + (wd E 3 : Nat) + (car D E 3 : Nat)) / 18446744073709551616 = ((car D E 4 : Nat) : Int) := by have h : car D E 4 = (wd D 3 + wd E 3 + car D E 3) / 18446744073709551616 := car_next D E 3; rw [h]; omega
  rw [hs3, hc3] at ha3
  clear hs3 hc3
  rw [show ((car D E 0 : Nat) : Int) = 0 by rw [car_zero]; rfl] at ha0
  generalize wd (D + E) 0 = S0 at *
  generalize wd D 0 = x0 at *
  generalize wd E 0 = y0 at *
  generalize car D E 1 = c1 at *
  generalize wd (D + E) 1 = S1 at *
  generalize wd D 1 = x1 at *
  generalize wd E 1 = y1 at *
  generalize car D E 2 = c2 at *
  generalize wd (D + E) 2 = S2 at *
  generalize wd D 2 = x2 at *
  generalize wd E 2 = y2 at *
  generalize car D E 3 = c3 at *
  generalize wd (D + E) 3 = S3 at *
  generalize wd D 3 = x3 at *
  generalize wd E 3 = y3 at *
  generalize car D E 4 = c4 at *
  go_enter Tryd.func70, Tryd.ntmps70
  go_wp2
  go_loopw [6, 7] (fun c i wr => (c = .int .u64 0 ∧ i = .int .i64 0 ∧ wr = (five w x0 x1 x2 x3 y0 y1 y2 y3 0 0 0 0)) ∨ (c = .int .u64 (c1 : Nat) ∧ i = .int .i64 1 ∧ wr = (five w x0 x1 x2 x3 y0 y1 y2 y3 S0 0 0 0).drew) ∨ (c = .int .u64 (c2 : Nat) ∧ i = .int .i64 2 ∧ wr = (five w x0 x1 x2 x3 y0 y1 y2 y3 S0 S1 0 0).drew.drew) ∨ (c = .int .u64 (c3 : Nat) ∧ i = .int .i64 3 ∧ wr = (five w x0 x1 x2 x3 y0 y1 y2 y3 S0 S1 S2 0).drew.drew.drew) ∨ (i = .int .i64 4 ∧ wr = (five w x0 x1 x2 x3 y0 y1 y2 y3 S0 S1 S2 S3).drew.drew.drew.drew)) (fun _ i _ => 4 - (intOf i).toNat)
  case atStart => exact Or.inl ⟨rfl, rfl, rfl⟩
  case round =>
    rcases hrel with ⟨rfl, rfl, rfl⟩ | ⟨rfl, rfl, rfl⟩ | ⟨rfl, rfl, rfl⟩ | ⟨rfl, rfl, rfl⟩ | ⟨rfl, rfl⟩
    · unfold five
      go_wp2_with fail
      go_region
      go_wp2_with fail
      go_roundw
      case rel => exact Or.inr (Or.inl ⟨by first | rfl | trivial, by first | rfl | trivial, by first | rfl | trivial⟩)
      case measure => simp [intOf]
    · unfold five
      go_wp2_with fail
      go_region
      go_wp2_with fail
      go_roundw
      case rel => exact Or.inr (Or.inr (Or.inl ⟨by first | rfl | trivial, by first | rfl | trivial, by first | rfl | trivial⟩))
      case measure => simp [intOf]
    · unfold five
      go_wp2_with fail
      go_region
      go_wp2_with fail
      go_roundw
      case rel => exact Or.inr (Or.inr (Or.inr (Or.inl ⟨by first | rfl | trivial, by first | rfl | trivial, by first | rfl | trivial⟩)))
      case measure => simp [intOf]
    · unfold five
      go_wp2_with fail
      go_region
      go_wp2_with fail
      go_roundw
      case rel => exact Or.inr (Or.inr (Or.inr (Or.inr (⟨by first | rfl | trivial, by first | rfl | trivial⟩))))
      case measure => simp [intOf]
    · unfold five
      go_wp2_with fail
      refine bodyPost_ret (v := .agg #[.int .u64 S0, .int .u64 S1, .int .u64 S2, .int .u64 S3]) (by simp [results, Tryd.results70, go_sem]) rfl ⟨rfl, ?_⟩
      exact (((((Below.refl _ _).alloc (Nat.le_refl _) _).alloc (by simp) _).alloc (by simp; omega) _).alloc (by simp; omega) _).drew.drew.drew.drew
set_option maxHeartbeats 2000000 in
theorem sub_any (D E : Nat) (hD : D < 18446744073709551616 ^ 4) (hE : E < 18446744073709551616 ^ 4) (w : World) :
    Calls Tryd.prog 71 #[.agg #[.int .u64 (wd D 0), .int .u64 (wd D 1), .int .u64 (wd D 2), .int .u64 (wd D 3)], .agg #[.int .u64 (wd E 0), .int .u64 (wd E 1), .int .u64 (wd E 2), .int .u64 (wd E 3)]] w fun e w' =>
      e = .returned (.tuple #[.agg #[.int .u64 (wd (difW 4 D E) 0), .int .u64 (wd (difW 4 D E) 1), .int .u64 (wd (difW 4 D E) 2), .int .u64 (wd (difW 4 D E) 3)], .bool (decide (D < E))]) ∧ Below w.heap.size w w' := by
  have ha0 := sub64_run (wd D 0) (wd E 0) (bor D E 0) (by omega) (by have := wd_lt D 0; omega) (by omega) (by have := wd_lt E 0; omega) (by omega) (by have := bor_le D E 0; omega)
  have hc0 : borrow ((wd D 0 : Nat) : Int) ((wd E 0 : Nat) : Int) ((bor D E 0 : Nat) : Int) = ((bor D E 1 : Nat) : Int) := by have h : bor D E 1 = (if wd D 0 < wd E 0 + bor D E 0 then 1 else 0) := bor_next D E 0; rw [h]; unfold borrow; split <;> split <;> omega
  rw [← wd_dif hE (show 0 < 4 by decide), hc0] at ha0
  clear hc0
  have ha1 := sub64_run (wd D 1) (wd E 1) (bor D E 1) (by omega) (by have := wd_lt D 1; omega) (by omega) (by have := wd_lt E 1; omega) (by omega) (by have := bor_le D E 1; omega)
  have hc1 : borrow ((wd D 1 : Nat) : Int) ((wd E 1 : Nat) : Int) ((bor D E 1 : Nat) : Int) = ((bor D E 2 : Nat) : Int) := by have h : bor D E 2 = (if wd D 1 < wd E 1 + bor D E 1 then 1 else 0) := bor_next D E 1; rw [h]; unfold borrow; split <;> split <;> omega
  rw [← wd_dif hE (show 1 < 4 by decide), hc1] at ha1
  clear hc1
  have ha2 := sub64_run (wd D 2) (wd E 2) (bor D E 2) (by omega) (by have := wd_lt D 2; omega) (by omega) (by have := wd_lt E 2; omega) (by omega) (by have := bor_le D E 2; omega)
  have hc2 : borrow ((wd D 2 : Nat) : Int) ((wd E 2 : Nat) : Int) ((bor D E 2 : Nat) : Int) = ((bor D E 3 : Nat) : Int) := by have h : bor D E 3 = (if wd D 2 < wd E 2 + bor D E 2 then 1 else 0) := bor_next D E 2; rw [h]; unfold borrow; split <;> split <;> omega
  rw [← wd_dif hE (show 2 < 4 by decide), hc2] at ha2
  clear hc2
  have ha3 := sub64_run (wd D 3) (wd E 3) (bor D E 3) (by omega) (by have := wd_lt D 3; omega) (by omega) (by have := wd_lt E 3; omega) (by omega) (by have := bor_le D E 3; omega)
  have hc3 : borrow ((wd D 3 : Nat) : Int) ((wd E 3 : Nat) : Int) ((bor D E 3 : Nat) : Int) = ((bor D E 4 : Nat) : Int) := by have h : bor D E 4 = (if wd D 3 < wd E 3 + bor D E 3 then 1 else 0) := bor_next D E 3; rw [h]; unfold borrow; split <;> split <;> omega
  rw [← wd_dif hE (show 3 < 4 by decide), hc3] at ha3
  clear hc3
  rw [show ((bor D E 0 : Nat) : Int) = 0 by rw [bor_zero]; rfl] at ha0
  have hfin : (((bor D E 4 : Nat) : Int) == 1) = decide (D < E) := by
    unfold bor
    rw [Nat.mod_eq_of_lt hD, Nat.mod_eq_of_lt hE]
    by_cases h : D < E
    · rw [if_pos h, decide_eq_true h]; rfl
    · rw [if_neg h, decide_eq_false h]; rfl
  clear hD hE
  rw [← hfin]
  clear hfin
  generalize wd (difW 4 D E) 0 = S0 at *
  generalize wd D 0 = x0 at *
  generalize wd E 0 = y0 at *
  generalize bor D E 1 = c1 at *
  generalize wd (difW 4 D E) 1 = S1 at *
  generalize wd D 1 = x1 at *
  generalize wd E 1 = y1 at *
  generalize bor D E 2 = c2 at *
  generalize wd (difW 4 D E) 2 = S2 at *
  generalize wd D 2 = x2 at *
  generalize wd E 2 = y2 at *
  generalize bor D E 3 = c3 at *
  generalize wd (difW 4 D E) 3 = S3 at *
  generalize wd D 3 = x3 at *
  generalize wd E 3 = y3 at *
  generalize bor D E 4 = c4 at *
  go_enter Tryd.func71, Tryd.ntmps71
  go_wp2
  go_loopw [7, 8] (fun c i wr => (c = .int .u64 0 ∧ i = .int .i64 0 ∧ wr = (five w x0 x1 x2 x3 y0 y1 y2 y3 0 0 0 0)) ∨ (c = .int .u64 (c1 : Nat) ∧ i = .int .i64 1 ∧ wr = (five w x0 x1 x2 x3 y0 y1 y2 y3 S0 0 0 0).drew) ∨ (c = .int .u64 (c2 : Nat) ∧ i = .int .i64 2 ∧ wr = (five w x0 x1 x2 x3 y0 y1 y2 y3 S0 S1 0 0).drew.drew) ∨ (c = .int .u64 (c3 : Nat) ∧ i = .int .i64 3 ∧ wr = (five w x0 x1 x2 x3 y0 y1 y2 y3 S0 S1 S2 0).drew.drew.drew) ∨ (c = .int .u64 (c4 : Nat) ∧ i = .int .i64 4 ∧ wr = (five w x0 x1 x2 x3 y0 y1 y2 y3 S0 S1 S2 S3).drew.drew.drew.drew)) (fun _ i _ => 4 - (intOf i).toNat)
  case atStart => exact Or.inl ⟨rfl, rfl, rfl⟩
  case round =>
    rcases hrel with ⟨rfl, rfl, rfl⟩ | ⟨rfl, rfl, rfl⟩ | ⟨rfl, rfl, rfl⟩ | ⟨rfl, rfl, rfl⟩ | ⟨rfl, rfl, rfl⟩
    · unfold five
      go_wp2_with fail
      go_region
      go_wp2_with fail
      go_roundw
      case rel => exact Or.inr (Or.inl ⟨by first | rfl | trivial, by first | rfl | trivial, by first | rfl | trivial⟩)
      case measure => simp [intOf]
    · unfold five
      go_wp2_with fail
      go_region
      go_wp2_with fail
      go_roundw
      case rel => exact Or.inr (Or.inr (Or.inl ⟨by first | rfl | trivial, by first | rfl | trivial, by first | rfl | trivial⟩))
      case measure => simp [intOf]
    · unfold five
      go_wp2_with fail
      go_region
      go_wp2_with fail
      go_roundw
      case rel => exact Or.inr (Or.inr (Or.inr (Or.inl ⟨by first | rfl | trivial, by first | rfl | trivial, by first | rfl | trivial⟩)))
      case measure => simp [intOf]
    · unfold five
      go_wp2_with fail
      go_region
      go_wp2_with fail
      go_roundw
      case rel => exact Or.inr (Or.inr (Or.inr (Or.inr (⟨by first | rfl | trivial, by first | rfl | trivial, by first | rfl | trivial⟩))))
      case measure => simp [intOf]
    · unfold five
      go_wp2_with fail
      refine bodyPost_ret (v := .tuple #[.agg #[.int .u64 S0, .int .u64 S1, .int .u64 S2, .int .u64 S3], .bool ((c4 : Int) == 1)]) (by simp [results, Tryd.results71, go_sem]) rfl ⟨rfl, ?_⟩
      exact (((((Below.refl _ _).alloc (Nat.le_refl _) _).alloc (by simp) _).alloc (by simp; omega) _).alloc (by simp; omega) _).drew.drew.drew.drew

set_option maxHeartbeats 1000000 in
theorem length_any (D : Nat) (hD : D < 18446744073709551616 ^ 4) (w : World) :
    Calls Tryd.prog 80 #[.agg #[.int .u64 (wd D 0), .int .u64 (wd D 1), .int .u64 (wd D 2), .int .u64 (wd D 3)]] w fun e w' => e = .returned (.int .i64 (Go.bitLen D)) ∧ w' = w.alloc (.cells #[.int .u64 (wd D 0), .int .u64 (wd D 1), .int .u64 (wd D 2), .int .u64 (wd D 3)] 71) := by
  have b0 := Lib.bitLen_le (wd D 0) 64 (by omega) (wd_lt D 0)
  have l0 := wd_lt D 0
  have A0 : Hid (D < 18446744073709551616 ^ 1 → wd D 0 ≠ 0 → (Go.bitLen D : Int) = 0 * 64 + (Lib.bitLen (wd D 0) : Int)) := fun h hn => by have := bitLen_at h hn; rw [libLen _ (wd_lt D 0)]; omega
  have B0 : Hid (D < 18446744073709551616 ^ 1 → wd D 0 = 0 → D < 18446744073709551616 ^ 0) := fun h hn => lt_down h hn
  have b1 := Lib.bitLen_le (wd D 1) 64 (by omega) (wd_lt D 1)
  have l1 := wd_lt D 1
  have A1 : Hid (D < 18446744073709551616 ^ 2 → wd D 1 ≠ 0 → (Go.bitLen D : Int) = 1 * 64 + (Lib.bitLen (wd D 1) : Int)) := fun h hn => by have := bitLen_at h hn; rw [libLen _ (wd_lt D 1)]; omega
  have B1 : Hid (D < 18446744073709551616 ^ 2 → wd D 1 = 0 → D < 18446744073709551616 ^ 1) := fun h hn => lt_down h hn
  have b2 := Lib.bitLen_le (wd D 2) 64 (by omega) (wd_lt D 2)
  have l2 := wd_lt D 2
  have A2 : Hid (D < 18446744073709551616 ^ 3 → wd D 2 ≠ 0 → (Go.bitLen D : Int) = 2 * 64 + (Lib.bitLen (wd D 2) : Int)) := fun h hn => by have := bitLen_at h hn; rw [libLen _ (wd_lt D 2)]; omega
  have B2 : Hid (D < 18446744073709551616 ^ 3 → wd D 2 = 0 → D < 18446744073709551616 ^ 2) := fun h hn => lt_down h hn
  have b3 := Lib.bitLen_le (wd D 3) 64 (by omega) (wd_lt D 3)
  have l3 := wd_lt D 3
  have A3 : Hid (D < 18446744073709551616 ^ 4 → wd D 3 ≠ 0 → (Go.bitLen D : Int) = 3 * 64 + (Lib.bitLen (wd D 3) : Int)) := fun h hn => by have := bitLen_at h hn; rw [libLen _ (wd_lt D 3)]; omega
  have B3 : Hid (D < 18446744073709551616 ^ 4 → wd D 3 = 0 → D < 18446744073709551616 ^ 3) := fun h hn => lt_down h hn
  have HD : Hid (D < 18446744073709551616 ^ 4) := hD
  clear hD
  generalize wd D 0 = x0 at *
  generalize wd D 1 = x1 at *
  generalize wd D 2 = x2 at *
  generalize wd D 3 = x3 at *
  go_enter Tryd.func80, Tryd.ntmps80
  go_wp2
  go_loop [3] (fun i => (i = .int .i64 3 ∧ Hid (D < 18446744073709551616 ^ 4)) ∨ (i = .int .i64 2 ∧ Hid (D < 18446744073709551616 ^ 3)) ∨ (i = .int .i64 1 ∧ Hid (D < 18446744073709551616 ^ 2)) ∨ (i = .int .i64 0 ∧ Hid (D < 18446744073709551616 ^ 1)) ∨ (i = .int .i64 (-1) ∧ Hid (D < 18446744073709551616 ^ 0))) (fun i => (intOf i + 1).toNat)
  case atStart => exact Or.inl ⟨rfl, HD⟩
  case round =>
    rcases hrel with ⟨rfl, hz⟩ | ⟨rfl, hz⟩ | ⟨rfl, hz⟩ | ⟨rfl, hz⟩ | ⟨rfl, hz⟩
    · by_cases h : x3 = 0
      · have hne : ((x3 : Int) != 0) = false := by simp [h]
        have HZ : Hid (D < 18446744073709551616 ^ 3) := B3.out hz.out h
        clear h
        go_wp2_with fail
        go_round
        case rel => exact Or.inr (Or.inl ⟨rfl, HZ⟩)
        case measure => simp [intOf]
      · have hne : ((x3 : Int) != 0) = true := by simp [h]
        have HL : Hid ((Go.bitLen D : Int) = 3 * 64 + (Lib.bitLen x3 : Int)) := A3.out hz.out h
        clear hz h
        go_wp2_with (go_at_call 76; refine (len64_any x3 (by omega) (by omega) _).mono ?_; rintro e w' ⟨rfl, rfl⟩)
        go_ret
        exact ⟨ret_int (by rw [HL.out]; simp), rfl⟩
    · by_cases h : x2 = 0
      · have hne : ((x2 : Int) != 0) = false := by simp [h]
        have HZ : Hid (D < 18446744073709551616 ^ 2) := B2.out hz.out h
        clear h
        go_wp2_with fail
        go_round
        case rel => exact Or.inr (Or.inr (Or.inl ⟨rfl, HZ⟩))
        case measure => simp [intOf]
      · have hne : ((x2 : Int) != 0) = true := by simp [h]
        have HL : Hid ((Go.bitLen D : Int) = 2 * 64 + (Lib.bitLen x2 : Int)) := A2.out hz.out h
        clear hz h
        go_wp2_with (go_at_call 76; refine (len64_any x2 (by omega) (by omega) _).mono ?_; rintro e w' ⟨rfl, rfl⟩)
        go_ret
        exact ⟨ret_int (by rw [HL.out]; simp), rfl⟩
    · by_cases h : x1 = 0
      · have hne : ((x1 : Int) != 0) = false := by simp [h]
        have HZ : Hid (D < 18446744073709551616 ^ 1) := B1.out hz.out h
        clear h
        go_wp2_with fail
        go_round
        case rel => exact Or.inr (Or.inr (Or.inr (Or.inl ⟨rfl, HZ⟩)))
        case measure => simp [intOf]
      · have hne : ((x1 : Int) != 0) = true := by simp [h]
        have HL : Hid ((Go.bitLen D : Int) = 1 * 64 + (Lib.bitLen x1 : Int)) := A1.out hz.out h
        clear hz h
        go_wp2_with (go_at_call 76; refine (len64_any x1 (by omega) (by omega) _).mono ?_; rintro e w' ⟨rfl, rfl⟩)
        go_ret
        exact ⟨ret_int (by rw [HL.out]; simp), rfl⟩
    · by_cases h : x0 = 0
      · have hne : ((x0 : Int) != 0) = false := by simp [h]
        have HZ : Hid (D < 18446744073709551616 ^ 0) := B0.out hz.out h
        clear h
        go_wp2_with fail
        go_round
        case rel => exact Or.inr (Or.inr (Or.inr (Or.inr (⟨rfl, HZ⟩))))
        case measure => simp [intOf]
      · have hne : ((x0 : Int) != 0) = true := by simp [h]
        have HL : Hid ((Go.bitLen D : Int) = 0 * 64 + (Lib.bitLen x0 : Int)) := A0.out hz.out h
        clear hz h
        go_wp2_with (go_at_call 76; refine (len64_any x0 (by omega) (by omega) _).mono ?_; rintro e w' ⟨rfl, rfl⟩)
        go_ret
        exact ⟨ret_int (by rw [HL.out]; simp), rfl⟩
    · have HZ : Hid ((Go.bitLen D : Int) = 0) := (by have h0 : D = 0 := by { have := hz.out; omega }; rw [h0]; rfl : (Go.bitLen D : Int) = 0)
      clear hz
      go_wp2_with fail
      go_ret
      exact ⟨ret_int (by rw [HZ.out]), rfl⟩

set_option maxHeartbeats 400000 in
theorem room_any (D : Nat) (hD : D < 18446744073709551616 ^ 4) (w : World) :
    Calls Tryd.prog 60 #[.agg #[.int .u64 (wd D 0), .int .u64 (wd D 1), .int .u64 (wd D 2), .int .u64 (wd D 3)]] w fun e w' => e = .returned (.int .i64 (256 - Go.bitLen D)) ∧ Below w.heap.size w w' := by
  have hb := bitLen_le (D := D) (n := 256) hD
  go_enter Tryd.func60, Tryd.ntmps60
  go_wp2_with fail
  go_region_held3 (fun w' => w'.cell? ⟨w.heap.size, 0, none⟩ = some (.int .u64 (wd D 0)) ∧ w'.cell? ⟨w.heap.size, 1, none⟩ = some (.int .u64 (wd D 1)) ∧ w'.cell? ⟨w.heap.size, 2, none⟩ = some (.int .u64 (wd D 2)) ∧ w'.cell? ⟨w.heap.size, 3, none⟩ = some (.int .u64 (wd D 3))) (go_keep) ((go_at_call 80; refine (length_any D hD _).mono ?_; rintro e w' ⟨rfl, rfl⟩))
  all_goals (try go_wp2_with fail)
  all_goals go_ret
  all_goals exact ⟨(ret_int (by rw [wrapI 256 (by omega) (by omega), wrapI _ (by omega) (by omega)]) : Ending.returned (.int .i64 (IntKind.i64.wrap (IntKind.i64.wrap 256 - (Go.bitLen D : Nat)))) = _), below_drewN (((Below.refl _ _).alloc (Nat.le_refl _) _).alloc (by simp) _) _⟩
end Go.Proofs.YtcjihaafohnbeaaDoor.W4
