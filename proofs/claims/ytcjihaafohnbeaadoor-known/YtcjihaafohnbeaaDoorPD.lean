import Derived.Test.YtcjihaafohnbeaaDoorPC
import Derived.Test.YtcjihaafohnbeaaDoorSC2
namespace Go.Proofs.YtcjihaafohnbeaaDoor
open Go.RowKit

theorem results_sum {tmps : Array Value} {U : World} {g : Nat} {a b c : Value} (h2 : tmps.getD 2 undef = .pointer (some ⟨g, 0, none⟩)) (h : Blk U g [a, b, c]) :
    (results Tryd.f21 tmps).run Tryd.prog U = .ok (.agg #[a, b, c]) U := by
  have c0 := h.cells 0 _ rfl
  have c1 := h.cells 1 _ rfl
  have c2 := h.cells 2 _ rfl
  have h2' : tmps[2]?.getD undef = .pointer (some ⟨g, 0, none⟩) := by simpa using h2
  simp [results, Tryd.results21, go_sem, h2', c0, c1, c2]
theorem bl_mant (x : Nat) : Go.bitLen (mant x) + 2 ≤ 128 := by
  have := bitLen_le (D := mant x) (n := 53) (mant_lt x)
  omega

/-- A sum's bits and flags, as the program reckons them, where neither is a NaN. -/
def psB (x y : Nat) (m : Int) : Int := if kind x = 3 ∧ kind y = 3 ∧ x ≠ y then 9221120237041090560 else if kind x = 3 then x else if kind y = 3 then y else rsB 128 (sgn x) (mant x) (pow x) (sgn y) (mant y) (pow y) m
def psF (x y : Nat) (m : Int) : Int := if kind x = 3 ∧ kind y = 3 ∧ x ≠ y then 16 else if kind x = 3 then 0 else if kind y = 3 then 0 else rsF 128 (sgn x) (mant x) (pow x) (sgn y) (mant y) (pow y) m

set_option maxHeartbeats 8000000 in
set_option maxRecDepth 10000 in
theorem soft_sum (x y : Nat) (op m z : Int) (hx : x < 18446744073709551616) (hy : y < 18446744073709551616) (hm : 0 ≤ m ∧ m ≤ 4) (w : World) (hT : Tab w) :
    Calls Tryd.prog 21 #[.agg #[.int .u8 op, .int .u8 m, .int .u64 x, .int .u64 y, .int .u64 z]] w fun e w' => e = .returned (.agg #[.int .u64 (psB x y m), .int .u8 (psF x y m), .bool false]) ∧ Below w.heap.size w w' := by
  have HX : Hid (∀ w, Calls Tryd.prog 33 #[.int .u64 x] w fun e w' => e = .returned (.int .i64 (kind x)) ∧ w' = w) := fun w => kindOf_any x (by omega) (by omega) w
  have HY : Hid (∀ w, Calls Tryd.prog 33 #[.int .u64 y] w fun e w' => e = .returned (.int .i64 (kind y)) ∧ w' = w) := fun w => kindOf_any y (by omega) (by omega) w
  have EX : Hid (∀ w, Calls Tryd.prog 36 #[.int .u64 x] w fun e w' => e = .returned (.agg #[.int .u64 (sgn x), .int .u64 (wd (mant x) 0), .int .u64 (wd (mant x) 1), .int .i64 (pow x)]) ∧ Below w.heap.size w w') := fun w => exactly_any x hx w
  have EY : Hid (∀ w, Calls Tryd.prog 36 #[.int .u64 y] w fun e w' => e = .returned (.agg #[.int .u64 (sgn y), .int .u64 (wd (mant y) 0), .int .u64 (wd (mant y) 1), .int .i64 (pow y)]) ∧ Below w.heap.size w w') := fun w => exactly_any y hy w
  have q3 := pow_range x
  have q4 := pow_range y
  have HRS : Hid (∀ w1, Below w.heap.size w w1 → Calls Tryd.prog 35 #[.agg #[.int .u64 (sgn x), .int .u64 (wd (mant x) 0), .int .u64 (wd (mant x) 1), .int .i64 (pow x)], .agg #[.int .u64 (sgn y), .int .u64 (wd (mant y) 0), .int .u64 (wd (mant y) 1), .int .i64 (pow y)], .int .u8 m] w1 fun e w' =>
      e = .returned (.agg #[.int .u64 (rsB 128 (sgn x) (mant x) (pow x) (sgn y) (mant y) (pow y) m), .int .u8 (rsF 128 (sgn x) (mant x) (pow x) (sgn y) (mant y) (pow y) m), .bool false]) ∧ Below w1.heap.size w1 w') := fun w1 hb => W2.roundedSum_any (sgn x) (sgn y) (mant x) (mant y) (pow x) (pow y) m (sgn_lt hx) (sgn_lt hy) (bl_mant x) (bl_mant y) (by omega) (by omega) hm w1 (hT.later hb)
  have H1 : Hid (kind x = 3 ∧ kind y = 3 ∧ x ≠ y → psB x y m = 9221120237041090560 ∧ psF x y m = 16) := fun h => by unfold psB psF; rw [if_pos h, if_pos h]; exact ⟨rfl, rfl⟩
  have H2 : Hid (¬ (kind x = 3 ∧ kind y = 3 ∧ x ≠ y) → kind x = 3 → psB x y m = x ∧ psF x y m = 0) := fun h g => by unfold psB psF; rw [if_neg h, if_neg h, if_pos g, if_pos g]; exact ⟨rfl, rfl⟩
  have H3 : Hid (¬ kind x = 3 → kind y = 3 → psB x y m = y ∧ psF x y m = 0) := fun h g => by have g1 : ¬ (kind x = 3 ∧ kind y = 3 ∧ x ≠ y) := fun k => h k.1; unfold psB psF; rw [if_neg g1, if_neg g1, if_neg h, if_neg h, if_pos g, if_pos g]; exact ⟨rfl, rfl⟩
  have H4 : Hid (¬ kind x = 3 → ¬ kind y = 3 → psB x y m = rsB 128 (sgn x) (mant x) (pow x) (sgn y) (mant y) (pow y) m ∧ psF x y m = rsF 128 (sgn x) (mant x) (pow x) (sgn y) (mant y) (pow y) m) := fun h g => by have g1 : ¬ (kind x = 3 ∧ kind y = 3 ∧ x ≠ y) := fun k => h k.1; unfold psB psF; rw [if_neg g1, if_neg g1, if_neg h, if_neg h, if_neg g, if_neg g]; exact ⟨rfl, rfl⟩
  clear q3 q4 hx hy hm hT
  generalize psB x y m = B at *
  generalize psF x y m = F at *
  generalize rsB 128 (sgn x) (mant x) (pow x) (sgn y) (mant y) (pow y) m = QB at *
  generalize rsF 128 (sgn x) (mant x) (pow x) (sgn y) (mant y) (pow y) m = QF at *
  generalize wd (mant x) 0 = x0 at *
  generalize wd (mant x) 1 = x1 at *
  generalize (sgn x : Int) = sx at *
  generalize pow x = px at *
  generalize kind x = Kx at *
  generalize wd (mant y) 0 = y0 at *
  generalize wd (mant y) 1 = y1 at *
  generalize (sgn y : Int) = sy at *
  generalize pow y = py at *
  generalize kind y = Ky at *
  by_cases kx : Kx = 3
  · have b1 : (Kx == 3) = true := by simp [kx]
    by_cases ky : Ky = 3
    · have b2 : (Ky == 3) = true := by simp [ky]
      by_cases hne : x = y
      rotate_left
      · have b3 : ((x : Int) != (y : Int)) = true := by simp; omega
        have HV : Hid (B = 9221120237041090560 ∧ F = 16) := H1.out ⟨kx, ky, hne⟩
        clear kx ky hne H1 H2 H3 H4
        go_enter Tryd.func21, Tryd.ntmps21
        go_wp2_with fail
        go_quiet (first | (go_at_call_of 33 (Value.int .u64 (x : Int)); exact Calls.quiet_of_same (HX.out _)) | (go_at_call_of 33 (Value.int .u64 (y : Int)); exact Calls.quiet_of_same (HY.out _)))
        go_wp2_with fail
        refine (wrong_any _).mono ?_
        rintro e w1 ⟨rfl, hb1⟩
        have K1 : Hid (Rows2 w w1 [.int .u8 op, .int .u8 m, .int .u64 x, .int .u64 y, .int .u64 z] [.int .u64 0, .int .u8 0, .bool false]) := (Rows2.start w _ _ _ _ (by simp) (by simp)).below' (B := w.heap.size + 2) ((below_drewN (Below.refl _ _) _).trans (hb1.mono (by simp))) (Nat.le_refl _)
        clear hb1
        have r0 := K1.out.r.cells 0 _ rfl
        have r1 := K1.out.r.cells 1 _ rfl
        have r2 := K1.out.r.cells 2 _ rfl
        have f0 := K1.out.r.live 0 _ rfl
        have f1 := K1.out.r.live 1 _ rfl
        have f2 := K1.out.r.live 2 _ rfl
        go_wp2_with fail
        go_light
        refine bodyPost_ret (v := .agg #[.int .u64 9221120237041090560, .int .u8 16, .bool false]) (results_sum rfl (((K1.out.r.set 0 _ (by simp)).set 1 _ (by simp)).set 2 _ (by simp))) rfl ⟨by rw [HV.out.1, HV.out.2], ?_⟩
        exact ((K1.out.below.setCell (by simp) _).setCell (by simp) _).setCell (by simp) _
      · have b3 : ((x : Int) != (y : Int)) = false := by simp; omega
        have HV : Hid (B = x ∧ F = 0) := H2.out (fun h => h.2.2 hne) kx
        clear hne
        clear kx ky H1 H2 H3 H4
        go_enter Tryd.func21, Tryd.ntmps21
        go_wp2_with fail
        go_quiet (first | (go_at_call_of 33 (Value.int .u64 (x : Int)); exact Calls.quiet_of_same (HX.out _)) | (go_at_call_of 33 (Value.int .u64 (y : Int)); exact Calls.quiet_of_same (HY.out _)))
        go_wp2_with fail
        refine bodyPost_ret (v := .agg #[.int .u64 x, .int .u8 0, .bool false]) (by simp [results, Tryd.results21, go_sem]) rfl ⟨by rw [HV.out.1, HV.out.2], ?_⟩
        exact ((((below_drewN (((Below.refl _ _).alloc (Nat.le_refl _) _).alloc (by simp) _) _).setCell (by simp) _).setCell (by simp) _).setCell (by simp) _)
    · have b2 : (Ky == 3) = false := by simp [ky]
      · have HV : Hid (B = x ∧ F = 0) := H2.out (fun h => ky h.2.1) kx
        clear kx ky H1 H2 H3 H4
        go_enter Tryd.func21, Tryd.ntmps21
        go_wp2_with fail
        go_quiet (first | (go_at_call_of 33 (Value.int .u64 (x : Int)); exact Calls.quiet_of_same (HX.out _)) | (go_at_call_of 33 (Value.int .u64 (y : Int)); exact Calls.quiet_of_same (HY.out _)))
        go_wp2_with fail
        refine bodyPost_ret (v := .agg #[.int .u64 x, .int .u8 0, .bool false]) (by simp [results, Tryd.results21, go_sem]) rfl ⟨by rw [HV.out.1, HV.out.2], ?_⟩
        exact ((((below_drewN (((Below.refl _ _).alloc (Nat.le_refl _) _).alloc (by simp) _) _).setCell (by simp) _).setCell (by simp) _).setCell (by simp) _)
  · have b1 : (Kx == 3) = false := by simp [kx]
    by_cases ky : Ky = 3
    · have b2 : (Ky == 3) = true := by simp [ky]
      · have HV : Hid (B = y ∧ F = 0) := H3.out kx ky
        clear kx ky H1 H2 H3 H4
        go_enter Tryd.func21, Tryd.ntmps21
        go_wp2_with fail
        go_quiet (first | (go_at_call_of 33 (Value.int .u64 (x : Int)); exact Calls.quiet_of_same (HX.out _)) | (go_at_call_of 33 (Value.int .u64 (y : Int)); exact Calls.quiet_of_same (HY.out _)))
        go_wp2_with fail
        refine bodyPost_ret (v := .agg #[.int .u64 y, .int .u8 0, .bool false]) (by simp [results, Tryd.results21, go_sem]) rfl ⟨by rw [HV.out.1, HV.out.2], ?_⟩
        exact ((((below_drewN (((Below.refl _ _).alloc (Nat.le_refl _) _).alloc (by simp) _) _).setCell (by simp) _).setCell (by simp) _).setCell (by simp) _)
    · have b2 : (Ky == 3) = false := by simp [ky]
      have HV : Hid (B = QB ∧ F = QF) := H4.out kx ky
      clear kx ky H1 H2 H3 H4
      have K0 : Hid (Rows2 w ((w.alloc (.cells #[.int .u8 op, .int .u8 m, .int .u64 x, .int .u64 y, .int .u64 z] 36)).alloc (.cells #[.int .u64 0, .int .u8 0, .bool false] 33)) [.int .u8 op, .int .u8 m, .int .u64 x, .int .u64 y, .int .u64 z] [.int .u64 0, .int .u8 0, .bool false]) := Rows2.start w _ _ _ _ (by simp) (by simp)
      go_enter Tryd.func21, Tryd.ntmps21
      go_wp2_with fail
      go_quiet (first | (go_at_call_of 33 (Value.int .u64 (x : Int)); exact Calls.quiet_of_same (HX.out _)) | (go_at_call_of 33 (Value.int .u64 (y : Int)); exact Calls.quiet_of_same (HY.out _)))
      go_wp2_with fail
      go_region_held3 (fun w' => w'.cell? ⟨w.heap.size, 1, none⟩ = some (.int .u8 m) ∧ w'.cell? ⟨w.heap.size, 2, none⟩ = some (.int .u64 x) ∧ w'.cell? ⟨w.heap.size, 3, none⟩ = some (.int .u64 y))
        (first | (go_keep; done) | (rw [cellSet3 _ _ _ _ _ _ (by simp), cellSet3 _ _ _ _ _ _ (by simp), cellSet3 _ _ _ _ _ _ (by simp)]; exact ⟨K0.out.x.cells 1 _ rfl, K0.out.x.cells 2 _ rfl, K0.out.x.cells 3 _ rfl⟩) | exact ⟨K0.out.x.cells 1 _ rfl, K0.out.x.cells 2 _ rfl, K0.out.x.cells 3 _ rfl⟩)
        (first | (go_at_call_of 36 (Value.int .u64 (x : Int)); refine (EX.out _).mono ?_; rintro e w' ⟨rfl, hb⟩; have K0 : Hid (Rows2 w w' [.int .u8 op, .int .u8 m, .int .u64 x, .int .u64 y, .int .u64 z] [.int .u64 0, .int .u8 0, .bool false]) := K0.out.later ⟨hb.os, hb.tape, hb.output, hb.size, hb.block⟩; clear hb) | (go_at_call_of 36 (Value.int .u64 (y : Int)); refine (EY.out _).mono ?_; rintro e w' ⟨rfl, hb⟩; have K0 : Hid (Rows2 w w' [.int .u8 op, .int .u8 m, .int .u64 x, .int .u64 y, .int .u64 z] [.int .u64 0, .int .u8 0, .bool false]) := K0.out.later ⟨hb.os, hb.tape, hb.output, hb.size, hb.block⟩; clear hb) | (go_at_call 35; refine (HRS.out _ K0.out.below).mono ?_; rintro e w2 ⟨rfl, hb2⟩; have K0 : Hid (Rows2 w w2 [.int .u8 op, .int .u8 m, .int .u64 x, .int .u64 y, .int .u64 z] [.int .u64 0, .int .u8 0, .bool false]) := K0.out.later ⟨hb2.os, hb2.tape, hb2.output, hb2.size, hb2.block⟩; have s0 := K0.out.r.cells 0 _ rfl; have s1 := K0.out.r.cells 1 _ rfl; have s2 := K0.out.r.cells 2 _ rfl; have t0 := K0.out.r.live 0 _ rfl; have t1 := K0.out.r.live 1 _ rfl; have t2 := K0.out.r.live 2 _ rfl; clear hb2))
      all_goals (try go_wp2_with fail)
      all_goals
        refine bodyPost_ret (v := .agg #[.int .u64 QB, .int .u8 QF, .bool false]) (results_sum rfl ?_) rfl ⟨by rw [HV.out.1, HV.out.2], ?_⟩
        · exact ((K0.out.r.set 0 _ (by simp)).set 1 _ (by simp)).set 2 _ (by simp)
        · exact ((K0.out.below.setCell (by simp) _).setCell (by simp) _).setCell (by simp) _
end Go.Proofs.YtcjihaafohnbeaaDoor
