import Derived.Test.YtcjihaafohnbeaaDoorWA2
import Derived.Test.YtcjihaafohnbeaaDoorWideB
namespace Go.Proofs.YtcjihaafohnbeaaDoor.W2
open Go.RowKit

def five (w : World) (x0 x1 y0 y1 o0 o1 : Int) : World :=
  (((w.alloc (.cells #[.int .u64 x0, .int .u64 x1] 57)).alloc (.cells #[.int .u64 y0, .int .u64 y1] 57)).alloc (.cells #[.int .u64 0, .int .u64 0] 57)).alloc (.cells #[.int .u64 o0, .int .u64 o1] 57)

set_option maxHeartbeats 2000000 in
theorem add_any (D E : Nat) (w : World) :
    Calls Tryd.prog 74 #[.agg #[.int .u64 (wd D 0), .int .u64 (wd D 1)], .agg #[.int .u64 (wd E 0), .int .u64 (wd E 1)]] w fun e w' => e = .returned (.agg #[.int .u64 (wd (D + E) 0), .int .u64 (wd (D + E) 1)]) ∧ Below w.heap.size w w' := by
  have ha0 := add64_run (wd D 0) (wd E 0) (car D E 0) (by omega) (by omega) (by omega) (by have := car_le D E 0; omega)
  have hs0 : (((wd D 0 : Nat) : Int) + (wd E 0 : Nat) + (car D E 0 : Nat)) % 18446744073709551616 = ((wd (D + E) 0 : Nat) : Int) := by have h := wd_add D E 0; rw [h]; omega
  have hc0 : (((wd D 0 : Nat) : Int) + (wd E 0 : Nat) + (car D E 0 : Nat)) / 18446744073709551616 = ((car D E 1 : Nat) : Int) := by have h : car D E 1 = (wd D 0 + wd E 0 + car D E 0) / 18446744073709551616 := car_next D E 0; rw [h]; omega
  rw [hs0, hc0] at ha0
  clear hs0 hc0
  have ha1 := add64_run (wd D 1) (wd E 1) (car D E 1) (by omega) (by omega) (by omega) (by have := car_le D E 1; omega)
  have hs1 : (((wd D 1 : Nat) : Int) + (wd E 1 : Nat) + (car D E 1 : Nat)) % 18446744073709551616 = ((wd (D + E) 1 : Nat) : Int) := by have h := wd_add D E 1; rw [h]; omega
  have hc1 : (((wd D 1 : Nat) : Int) + (wd E 1 : Nat) + (car D E 1 : Nat)) / 18446744073709551616 = ((car D E 2 : Nat) : Int) := by have h : car D E 2 = (wd D 1 + wd E 1 + car D E 1) / 18446744073709551616 := car_next D E 1; rw [h]; omega
  rw [hs1, hc1] at ha1
  clear hs1 hc1
  rw [show ((car D E 0 : Nat) : Int) = 0 by rw [car_zero]; rfl] at ha0
  generalize wd (D + E) 0 = S0 at *
  generalize wd D 0 = x0 at *
  generalize wd E 0 = y0 at *
  generalize car D E 1 = c1 at *
  generalize wd (D + E) 1 = S1 at *
  generalize wd D 1 = x1 at *
  generalize wd E 1 = y1 at *
  generalize car D E 2 = c2 at *
  go_enter Tryd.func74, Tryd.ntmps74
  go_wp2
  go_loopw [6, 7] (fun c i wr => (c = .int .u64 0 ∧ i = .int .i64 0 ∧ wr = (five w x0 x1 y0 y1 0 0)) ∨ (c = .int .u64 (c1 : Nat) ∧ i = .int .i64 1 ∧ wr = (five w x0 x1 y0 y1 S0 0).drew) ∨ (i = .int .i64 2 ∧ wr = (five w x0 x1 y0 y1 S0 S1).drew.drew)) (fun _ i _ => 2 - (intOf i).toNat)
  case atStart => exact Or.inl ⟨rfl, rfl, rfl⟩
  case round =>
    rcases hrel with ⟨rfl, rfl, rfl⟩ | ⟨rfl, rfl, rfl⟩ | ⟨rfl, rfl⟩
    · unfold five
      go_wp2_with fail
      go_region
      go_wp2_with fail
      go_roundw
      case rel => exact Or.inr (Or.inl ⟨by first | rfl | trivial, by first | rfl | trivial, by first | rfl | trivial⟩)
      case measure => simp [intOf]
    · unfold five
      go_wp2_with fail
      go_region
      go_wp2_with fail
      go_roundw
      case rel => exact Or.inr (Or.inr (⟨by first | rfl | trivial, by first | rfl | trivial⟩))
      case measure => simp [intOf]
    · unfold five
      go_wp2_with fail
      refine bodyPost_ret (v := .agg #[.int .u64 S0, .int .u64 S1]) (by simp [results, Tryd.results74, go_sem]) rfl ⟨rfl, ?_⟩
      exact (((((Below.refl _ _).alloc (Nat.le_refl _) _).alloc (by simp) _).alloc (by simp; omega) _).alloc (by simp; omega) _).drew.drew
set_option maxHeartbeats 2000000 in
theorem sub_any (D E : Nat) (hD : D < 18446744073709551616 ^ 2) (hE : E < 18446744073709551616 ^ 2) (w : World) :
    Calls Tryd.prog 75 #[.agg #[.int .u64 (wd D 0), .int .u64 (wd D 1)], .agg #[.int .u64 (wd E 0), .int .u64 (wd E 1)]] w fun e w' =>
      e = .returned (.tuple #[.agg #[.int .u64 (wd (difW 2 D E) 0), .int .u64 (wd (difW 2 D E) 1)], .bool (decide (D < E))]) ∧ Below w.heap.size w w' := by
  have ha0 := sub64_run (wd D 0) (wd E 0) (bor D E 0) (by omega) (by have := wd_lt D 0; omega) (by omega) (by have := wd_lt E 0; omega) (by omega) (by have := bor_le D E 0; omega)
  have hc0 : borrow ((wd D 0 : Nat) : Int) ((wd E 0 : Nat) : Int) ((bor D E 0 : Nat) : Int) = ((bor D E 1 : Nat) : Int) := by have h : bor D E 1 = (if wd D 0 < wd E 0 + bor D E 0 then 1 else 0) := bor_next D E 0; rw [h]; unfold borrow; split <;> split <;> omega
  rw [← wd_dif hE (show 0 < 2 by decide), hc0] at ha0
  clear hc0
  have ha1 := sub64_run (wd D 1) (wd E 1) (bor D E 1) (by omega) (by have := wd_lt D 1; omega) (by omega) (by have := wd_lt E 1; omega) (by omega) (by have := bor_le D E 1; omega)
  have hc1 : borrow ((wd D 1 : Nat) : Int) ((wd E 1 : Nat) : Int) ((bor D E 1 : Nat) : Int) = ((bor D E 2 : Nat) : Int) := by have h : bor D E 2 = (if wd D 1 < wd E 1 + bor D E 1 then 1 else 0) := bor_next D E 1; rw [h]; unfold borrow; split <;> split <;> omega
  rw [← wd_dif hE (show 1 < 2 by decide), hc1] at ha1
  clear hc1
  rw [show ((bor D E 0 : Nat) : Int) = 0 by rw [bor_zero]; rfl] at ha0
  have hfin : (((bor D E 2 : Nat) : Int) == 1) = decide (D < E) := by
    unfold bor
    rw [Nat.mod_eq_of_lt hD, Nat.mod_eq_of_lt hE]
    by_cases h : D < E
    · rw [if_pos h, decide_eq_true h]; rfl
    · rw [if_neg h, decide_eq_false h]; rfl
  clear hD hE
  rw [← hfin]
  clear hfin
  generalize wd (difW 2 D E) 0 = S0 at *
  generalize wd D 0 = x0 at *
  generalize wd E 0 = y0 at *
  generalize bor D E 1 = c1 at *
  generalize wd (difW 2 D E) 1 = S1 at *
  generalize wd D 1 = x1 at *
  generalize wd E 1 = y1 at *
  generalize bor D E 2 = c2 at *
  go_enter Tryd.func75, Tryd.ntmps75
  go_wp2
  go_loopw [7, 8] (fun c i wr => (c = .int .u64 0 ∧ i = .int .i64 0 ∧ wr = (five w x0 x1 y0 y1 0 0)) ∨ (c = .int .u64 (c1 : Nat) ∧ i = .int .i64 1 ∧ wr = (five w x0 x1 y0 y1 S0 0).drew) ∨ (c = .int .u64 (c2 : Nat) ∧ i = .int .i64 2 ∧ wr = (five w x0 x1 y0 y1 S0 S1).drew.drew)) (fun _ i _ => 2 - (intOf i).toNat)
  case atStart => exact Or.inl ⟨rfl, rfl, rfl⟩
  case round =>
    rcases hrel with ⟨rfl, rfl, rfl⟩ | ⟨rfl, rfl, rfl⟩ | ⟨rfl, rfl, rfl⟩
    · unfold five
      go_wp2_with fail
      go_region
      go_wp2_with fail
      go_roundw
      case rel => exact Or.inr (Or.inl ⟨by first | rfl | trivial, by first | rfl | trivial, by first | rfl | trivial⟩)
      case measure => simp [intOf]
    · unfold five
      go_wp2_with fail
      go_region
      go_wp2_with fail
      go_roundw
      case rel => exact Or.inr (Or.inr (⟨by first | rfl | trivial, by first | rfl | trivial, by first | rfl | trivial⟩))
      case measure => simp [intOf]
    · unfold five
      go_wp2_with fail
      refine bodyPost_ret (v := .tuple #[.agg #[.int .u64 S0, .int .u64 S1], .bool ((c2 : Int) == 1)]) (by simp [results, Tryd.results75, go_sem]) rfl ⟨rfl, ?_⟩
      exact (((((Below.refl _ _).alloc (Nat.le_refl _) _).alloc (by simp) _).alloc (by simp; omega) _).alloc (by simp; omega) _).drew.drew

set_option maxHeartbeats 1000000 in
theorem length_any (D : Nat) (hD : D < 18446744073709551616 ^ 2) (w : World) :
    Calls Tryd.prog 51 #[.agg #[.int .u64 (wd D 0), .int .u64 (wd D 1)]] w fun e w' => e = .returned (.int .i64 (Go.bitLen D)) ∧ w' = w.alloc (.cells #[.int .u64 (wd D 0), .int .u64 (wd D 1)] 57) := by
  have b0 := Lib.bitLen_le (wd D 0) 64 (by omega) (wd_lt D 0)
  have l0 := wd_lt D 0
  have A0 : Hid (D < 18446744073709551616 ^ 1 → wd D 0 ≠ 0 → (Go.bitLen D : Int) = 0 * 64 + (Lib.bitLen (wd D 0) : Int)) := fun h hn => by have := bitLen_at h hn; rw [libLen _ (wd_lt D 0)]; omega
  have B0 : Hid (D < 18446744073709551616 ^ 1 → wd D 0 = 0 → D < 18446744073709551616 ^ 0) := fun h hn => lt_down h hn
  have b1 := Lib.bitLen_le (wd D 1) 64 (by omega) (wd_lt D 1)
  have l1 := wd_lt D 1
  have A1 : Hid (D < 18446744073709551616 ^ 2 → wd D 1 ≠ 0 → (Go.bitLen D : Int) = 1 * 64 + (Lib.bitLen (wd D 1) : Int)) := fun h hn => by have := bitLen_at h hn; rw [libLen _ (wd_lt D 1)]; omega
  have B1 : Hid (D < 18446744073709551616 ^ 2 → wd D 1 = 0 → D < 18446744073709551616 ^ 1) := fun h hn => lt_down h hn
  have HD : Hid (D < 18446744073709551616 ^ 2) := hD
  clear hD
  generalize wd D 0 = x0 at *
  generalize wd D 1 = x1 at *
  go_enter Tryd.func51, Tryd.ntmps51
  go_wp2
  go_loop [3] (fun i => (i = .int .i64 1 ∧ Hid (D < 18446744073709551616 ^ 2)) ∨ (i = .int .i64 0 ∧ Hid (D < 18446744073709551616 ^ 1)) ∨ (i = .int .i64 (-1) ∧ Hid (D < 18446744073709551616 ^ 0))) (fun i => (intOf i + 1).toNat)
  case atStart => exact Or.inl ⟨rfl, HD⟩
  case round =>
    rcases hrel with ⟨rfl, hz⟩ | ⟨rfl, hz⟩ | ⟨rfl, hz⟩
    · by_cases h : x1 = 0
      · have hne : ((x1 : Int) != 0) = false := by simp [h]
        have HZ : Hid (D < 18446744073709551616 ^ 1) := B1.out hz.out h
        clear h
        go_wp2_with fail
        go_round
        case rel => exact Or.inr (Or.inl ⟨rfl, HZ⟩)
        case measure => simp [intOf]
      · have hne : ((x1 : Int) != 0) = true := by simp [h]
        have HL : Hid ((Go.bitLen D : Int) = 1 * 64 + (Lib.bitLen x1 : Int)) := A1.out hz.out h
        clear hz h
        go_wp2_with (go_at_call 76; refine (len64_any x1 (by omega) (by omega) _).mono ?_; rintro e w' ⟨rfl, rfl⟩)
        go_ret
        exact ⟨ret_int (by rw [HL.out]; simp), rfl⟩
    · by_cases h : x0 = 0
      · have hne : ((x0 : Int) != 0) = false := by simp [h]
        have HZ : Hid (D < 18446744073709551616 ^ 0) := B0.out hz.out h
        clear h
        go_wp2_with fail
        go_round
        case rel => exact Or.inr (Or.inr (⟨rfl, HZ⟩))
        case measure => simp [intOf]
      · have hne : ((x0 : Int) != 0) = true := by simp [h]
        have HL : Hid ((Go.bitLen D : Int) = 0 * 64 + (Lib.bitLen x0 : Int)) := A0.out hz.out h
        clear hz h
        go_wp2_with (go_at_call 76; refine (len64_any x0 (by omega) (by omega) _).mono ?_; rintro e w' ⟨rfl, rfl⟩)
        go_ret
        exact ⟨ret_int (by rw [HL.out]; simp), rfl⟩
    · have HZ : Hid ((Go.bitLen D : Int) = 0) := (by have h0 : D = 0 := by { have := hz.out; omega }; rw [h0]; rfl : (Go.bitLen D : Int) = 0)
      clear hz
      go_wp2_with fail
      go_ret
      exact ⟨ret_int (by rw [HZ.out]), rfl⟩

set_option maxHeartbeats 400000 in
theorem room_any (D : Nat) (hD : D < 18446744073709551616 ^ 2) (w : World) :
    Calls Tryd.prog 86 #[.agg #[.int .u64 (wd D 0), .int .u64 (wd D 1)]] w fun e w' => e = .returned (.int .i64 (128 - Go.bitLen D)) ∧ Below w.heap.size w w' := by
  have hb := bitLen_le (D := D) (n := 128) hD
  go_enter Tryd.func86, Tryd.ntmps86
  go_wp2_with fail
  go_region_held3 (fun w' => w'.cell? ⟨w.heap.size, 0, none⟩ = some (.int .u64 (wd D 0)) ∧ w'.cell? ⟨w.heap.size, 1, none⟩ = some (.int .u64 (wd D 1))) (go_keep) ((go_at_call 51; refine (length_any D hD _).mono ?_; rintro e w' ⟨rfl, rfl⟩))
  all_goals (try go_wp2_with fail)
  all_goals go_ret
  all_goals exact ⟨(ret_int (by rw [wrapI 128 (by omega) (by omega), wrapI _ (by omega) (by omega)]) : Ending.returned (.int .i64 (IntKind.i64.wrap (IntKind.i64.wrap 128 - (Go.bitLen D : Nat)))) = _), below_drewN (((Below.refl _ _).alloc (Nat.le_refl _) _).alloc (by simp) _) _⟩
end Go.Proofs.YtcjihaafohnbeaaDoor.W2
