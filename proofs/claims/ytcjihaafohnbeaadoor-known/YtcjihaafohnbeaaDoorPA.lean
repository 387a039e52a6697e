import Derived.Test.YtcjihaafohnbeaaDoorRA2
import Derived.Test.YtcjihaafohnbeaaDoorRefI
import Derived.Laws.StructEq
import Derived.Deep.RegionHeld3
namespace Go.Proofs.YtcjihaafohnbeaaDoor
open Go.RowKit

theorem one_word {d : Nat} (h : d < 18446744073709551616) : wd d 0 = d ∧ wd d 1 = 0 := by unfold wd; omega

set_option maxHeartbeats 1000000 in
theorem exactly_ex (x : Nat) (hx : x < 18446744073709551616) (w : World) :
    Calls Tryd.prog 36 #[.int .u64 x] w fun e w' => e = .returned (.agg #[.int .u64 (sgn x), .int .u64 (mant x), .int .u64 0, .int .i64 (pow x)]) ∧ w' = w.alloc (.cells #[.int .u64 (sgn x), .int .u64 (mant x), .int .u64 0, .int .i64 (pow x)] 59) := by
  have hE := and_2047 (x : Int) (by omega) (by omega)
  have hF := and_frac (x : Int) (by omega) (by omega)
  have hO : bits .or .u64 ((x : Int) % 4503599627370496) 4503599627370496 = (x : Int) % 4503599627370496 + 4503599627370496 := by
    have := bits_or_u64_nat (x % 4503599627370496) (1 * 2 ^ 52) (by omega) (by omega)
    rw [Nat.or_comm, ← Nat.shiftLeft_eq, ← Nat.shiftLeft_add_eq_or_of_lt (by omega)] at this
    simp at this
    rw [this]; omega
  by_cases h : x / 4503599627370496 % 2048 = 0
  · have h0 : (x : Int) / 4503599627370496 % 2048 = 0 := by omega
    have HV : Hid (((sgn x : Nat) : Int) = (x : Int) / 9223372036854775808 ∧ ((mant x : Nat) : Int) = (x : Int) % 4503599627370496 ∧ pow x = -1074) := ⟨by unfold sgn; omega, by unfold mant; rw [if_pos h]; omega, by unfold pow; rw [if_pos h]⟩
    go_enter Tryd.func36, Tryd.ntmps36
    go_wp2_with (first | (go_at_call 37; refine (signOf_any (x : Int) (by omega) (by omega) _).mono ?_; rintro e w' ⟨rfl, rfl⟩) | (go_at_call 49; refine (exponentOf_any (x : Int) (by omega) (by omega) _).mono ?_; rintro e w' ⟨rfl, rfl⟩))
    rw [HV.out.1, HV.out.2.1, HV.out.2.2]
    exact bodyPost_ret (v := .agg #[.int .u64 ((x : Int) / 9223372036854775808), .int .u64 ((x : Int) % 4503599627370496), .int .u64 0, .int .i64 (-1074)]) (by simp [results, Tryd.results36, go_sem]) rfl ⟨rfl, rfl⟩
  · have h0 : ((x : Int) / 4503599627370496 % 2048 == 0) = false := by simp; omega
    have HV : Hid (((sgn x : Nat) : Int) = (x : Int) / 9223372036854775808 ∧ ((mant x : Nat) : Int) = (x : Int) % 4503599627370496 + 4503599627370496 ∧ pow x = -1074 + (x : Int) / 4503599627370496 % 2048 - 1) := ⟨by unfold sgn; omega, by unfold mant; rw [if_neg h]; omega, by unfold pow; rw [if_neg h]; omega⟩
    have he := wrap64_small ((x : Int) / 4503599627370496 % 2048) (by omega) (by omega)
    go_enter Tryd.func36, Tryd.ntmps36
    go_wp2_with (first | (go_at_call 37; refine (signOf_any (x : Int) (by omega) (by omega) _).mono ?_; rintro e w' ⟨rfl, rfl⟩) | (go_at_call 49; refine (exponentOf_any (x : Int) (by omega) (by omega) _).mono ?_; rintro e w' ⟨rfl, rfl⟩))
    rw [HV.out.1, HV.out.2.1, HV.out.2.2]
    exact bodyPost_ret (v := .agg #[.int .u64 ((x : Int) / 9223372036854775808), .int .u64 ((x : Int) % 4503599627370496 + 4503599627370496), .int .u64 0, .int .i64 (-1074 + (x : Int) / 4503599627370496 % 2048 - 1)]) (by simp [results, Tryd.results36, go_sem]) rfl ⟨rfl, rfl⟩

theorem exactly_any (x : Nat) (hx : x < 18446744073709551616) (w : World) :
    Calls Tryd.prog 36 #[.int .u64 x] w fun e w' => e = .returned (.agg #[.int .u64 (sgn x), .int .u64 (wd (mant x) 0), .int .u64 (wd (mant x) 1), .int .i64 (pow x)]) ∧ Below w.heap.size w w' := by
  have hml := mant_lt x
  have ho := one_word (show mant x < 18446744073709551616 by omega)
  rw [ho.1, ho.2]
  refine (exactly_ex x hx w).mono ?_
  rintro e w' ⟨rfl, rfl⟩
  exact ⟨rfl, (Below.refl _ _).alloc (Nat.le_refl _) _⟩

set_option maxHeartbeats 1000000 in
theorem wide_wider (d : Nat) (hd : d < 18446744073709551616 ^ 2) (w : World) :
    Calls Tryd.prog 58 #[.agg #[.int .u64 (wd d 0), .int .u64 (wd d 1)]] w fun e w' => e = .returned (.agg #[.int .u64 (wd d 0), .int .u64 (wd d 1), .int .u64 (wd d 2), .int .u64 (wd d 3)]) ∧ Below w.heap.size w w' := by
  rw [wd_high 2 hd (by decide), wd_high 3 hd (by decide)]
  generalize wd d 0 = a
  generalize wd d 1 = b
  clear hd
  go_enter Tryd.func58, Tryd.ntmps58
  go_wp2
  exact bodyPost_ret (v := .agg #[.int .u64 a, .int .u64 b, .int .u64 0, .int .u64 0]) (by simp [results, Tryd.results58, go_sem]) rfl ⟨rfl, ((Below.refl _ _).alloc (Nat.le_refl _) _).alloc (by simp) _⟩

set_option maxHeartbeats 2000000 in
theorem wider_any (s d : Nat) (p : Int) (hd : d < 18446744073709551616 ^ 2) (w : World) :
    Calls Tryd.prog 45 #[.agg #[.int .u64 s, .int .u64 (wd d 0), .int .u64 (wd d 1), .int .i64 p]] w fun e w' => e = .returned (.agg #[.int .u64 s, .int .u64 (wd d 0), .int .u64 (wd d 1), .int .u64 (wd d 2), .int .u64 (wd d 3), .int .i64 p]) ∧ Below w.heap.size w w' := by
  have HW : Hid (∀ w, Calls Tryd.prog 58 #[.agg #[.int .u64 (wd d 0), .int .u64 (wd d 1)]] w fun e w' => e = .returned (.agg #[.int .u64 (wd d 0), .int .u64 (wd d 1), .int .u64 (wd d 2), .int .u64 (wd d 3)]) ∧ Below w.heap.size w w') := fun w => wide_wider d hd w
  generalize wd d 0 = a at *
  generalize wd d 1 = b at *
  generalize wd d 2 = c at *
  generalize wd d 3 = e at *
  clear hd
  go_enter Tryd.func45, Tryd.ntmps45
  go_wp2_with fail
  have K0 : Hid (Rows2 w ((w.alloc (.cells #[.int .u64 s, .int .u64 a, .int .u64 b, .int .i64 p] 59)).alloc (.cells #[.int .u64 0, .int .u64 0, .int .u64 0, .int .u64 0, .int .u64 0, .int .i64 0] 73)) [.int .u64 s, .int .u64 a, .int .u64 b, .int .i64 p] [.int .u64 0, .int .u64 0, .int .u64 0, .int .u64 0, .int .u64 0, .int .i64 0]) := Rows2.start w _ _ _ _ (by simp) (by simp)
  go_region_held3 (fun w' => w'.cell? ⟨w.heap.size, 0, none⟩ = some (.int .u64 s) ∧ w'.cell? ⟨w.heap.size, 1, none⟩ = some (.int .u64 a) ∧ w'.cell? ⟨w.heap.size, 2, none⟩ = some (.int .u64 b) ∧ w'.cell? ⟨w.heap.size, 3, none⟩ = some (.int .i64 p))
    (first | (go_keep; done) | exact ⟨K1.out.x.cells 0 _ rfl, K1.out.x.cells 1 _ rfl, K1.out.x.cells 2 _ rfl, K1.out.x.cells 3 _ rfl⟩ | (refine ⟨?_, ?_, ?_, ?_⟩ <;> (simp only [cellSet _ _ _ _ (show w.heap.size ≠ w.heap.size + 1 by omega)]; first | exact K1.out.x.cells 0 _ rfl | exact K1.out.x.cells 1 _ rfl | exact K1.out.x.cells 2 _ rfl | exact K1.out.x.cells 3 _ rfl)))
    ((go_at_call 58; refine (HW.out _).mono ?_; rintro e w' ⟨rfl, hb⟩; have K1 : Hid (Rows2 w w' [.int .u64 s, .int .u64 a, .int .u64 b, .int .i64 p] [.int .u64 0, .int .u64 0, .int .u64 0, .int .u64 0, .int .u64 0, .int .i64 0]) := K0.out.later ⟨hb.os, hb.tape, hb.output, hb.size, hb.block⟩; have k0 := K1.out.r.live 0 _ rfl; have k1 := K1.out.r.live 1 _ rfl; have k2 := K1.out.r.live 2 _ rfl; have k3 := K1.out.r.live 3 _ rfl; have k4 := K1.out.r.live 4 _ rfl; have k5 := K1.out.r.live 5 _ rfl; have j0 := K1.out.r.cells 0 _ rfl; have j1 := K1.out.r.cells 1 _ rfl; have j2 := K1.out.r.cells 2 _ rfl; have j3 := K1.out.r.cells 3 _ rfl; have j4 := K1.out.r.cells 4 _ rfl; have j5 := K1.out.r.cells 5 _ rfl))
  all_goals (try go_wp2_with fail)
  all_goals
    refine bodyPost_ret (v := .agg #[.int .u64 s, .int .u64 a, .int .u64 b, .int .u64 c, .int .u64 e, .int .i64 p]) (by simp [results, Tryd.results45, go_sem, *]) rfl ⟨rfl, ?_⟩
    exact (((((K1.out.below.setCell (by simp) _).setCell (by simp) _).setCell (by simp) _).setCell (by simp) _).setCell (by simp) _).setCell (by simp) _

theorem eq_pair (a b c d : Int) (w : World) : (Go.binOp .eql 62 (.agg #[.int .i64 a, .int .i64 b]) (.agg #[.int .i64 c, .int .i64 d])).run Tryd.prog w = .ok (.bool (a == c && b == d)) w := by
  have hu := Tryd.underlying62
  have h0 : ∀ (x y : Value) w, (part 3 #[x, y] 0).run Tryd.prog w = .ok x w := fun x y w => by kernel_rfl
  have h1 : ∀ (x y : Value) w, (part 3 #[x, y] 1).run Tryd.prog w = .ok y w := fun x y w => by kernel_rfl
  have e0 : ∀ x y : Int, (Op.equalIn 9999 3 (.int .i64 x) (.int .i64 y)).run Tryd.prog w = .ok (x == y) w := fun x y => run_equalIn_int (P := Tryd.prog) w 9998 3 .i64 .i64 x y Tryd.underlying3
  have hfs : Tryd.prog.underlying 62 = some (.struct (Tryd.prog.fieldsOf 62)) := by kernel_rfl
  simp only [Go.binOp, Op.equal, Op.maxDepth, Sem.run_bind]
  rw [show (10000 : Nat) = 9999 + 1 from rfl, run_equalIn_struct w 9999 _ _ _ hfs (by kernel_rfl)]
  simp only [Program.fieldsOf, hu, Op.eqFields]
  by_cases c0 : a = c
  · by_cases c1 : b = d
    · simp [h0, h1, e0, c0, c1]
    · simp [h0, h1, e0, c0, c1]
  · simp [h0, e0, c0]

set_option maxHeartbeats 2000000 in
theorem kindsOf_any (x y : Nat) (op m z : Int) (hx : x < 18446744073709551616) (hy : y < 18446744073709551616) (w : World) :
    Calls Tryd.prog 38 #[.agg #[.int .u8 op, .int .u8 m, .int .u64 x, .int .u64 y, .int .u64 z]] w fun e w' => e = .returned (.agg #[.int .i64 (kind x), .int .i64 (kind y)]) ∧ Below w.heap.size w w' := by
  have HX : Hid (∀ w, Calls Tryd.prog 33 #[.int .u64 x] w fun e w' => e = .returned (.int .i64 (kind x)) ∧ w' = w) := fun w => kindOf_any x (by omega) (by omega) w
  have HY : Hid (∀ w, Calls Tryd.prog 33 #[.int .u64 y] w fun e w' => e = .returned (.int .i64 (kind y)) ∧ w' = w) := fun w => kindOf_any y (by omega) (by omega) w
  generalize kind x = KX at *
  generalize kind y = KY at *
  clear hx hy
  go_enter Tryd.func38, Tryd.ntmps38
  go_wp2_with fail
  go_region_held3 (fun w' => w'.cell? ⟨w.heap.size, 2, none⟩ = some (.int .u64 x) ∧ w'.cell? ⟨w.heap.size, 3, none⟩ = some (.int .u64 y)) (go_keep)
    (first | (go_at_call_of 33 (Value.int .u64 (x : Int)); refine (HX.out _).mono ?_; rintro e w' ⟨rfl, rfl⟩) | (go_at_call_of 33 (Value.int .u64 (y : Int)); refine (HY.out _).mono ?_; rintro e w' ⟨rfl, rfl⟩))
  all_goals (try go_wp2_with fail)
  all_goals exact bodyPost_ret (v := .agg #[.int .i64 KX, .int .i64 KY]) (by simp [results, Tryd.results38, go_sem]) rfl ⟨rfl, below_drewN (((Below.refl _ _).alloc (Nat.le_refl _) _).alloc (by simp) _) _⟩

set_option maxHeartbeats 1000000 in
theorem has_any (a b k : Int) (w : World) :
    Calls Tryd.prog 39 #[.agg #[.int .i64 a, .int .i64 b], .int .i64 k] w fun e w' => e = .returned (.bool (a == k || b == k)) ∧ Below w.heap.size w w' := by
  rcases Bool.eq_false_or_eq_true (a == k) with h | h
  · have H : Hid ((a == k || b == k) = true) := (by rw [h]; rfl : (a == k || b == k) = true)
    go_enter Tryd.func39, Tryd.ntmps39
    go_wp2
    go_ret
    exact ⟨by rw [H.out]; rfl, (Below.refl _ _).alloc (Nat.le_refl _) _⟩
  · have H : Hid ((a == k || b == k) = (b == k)) := (by rw [h]; rfl : (a == k || b == k) = (b == k))
    go_enter Tryd.func39, Tryd.ntmps39
    go_wp2
    go_ret
    exact ⟨by rw [H.out]; rfl, (Below.refl _ _).alloc (Nat.le_refl _) _⟩

/-- Zero times infinity, either way round. -/
def zti (a b : Int) : Bool := (a == 0 && b == 3) || (a == 3 && b == 0)
set_option maxHeartbeats 2000000 in
theorem zti_any (x y : Nat) (op m z : Int) (hx : x < 18446744073709551616) (hy : y < 18446744073709551616) (w : World) :
    Calls Tryd.prog 26 #[.agg #[.int .u8 op, .int .u8 m, .int .u64 x, .int .u64 y, .int .u64 z]] w fun e w' => e = .returned (.bool (zti (kind x) (kind y))) ∧ Below w.heap.size w w' := by
  have HK : Hid (∀ w, Calls Tryd.prog 38 #[.agg #[.int .u8 op, .int .u8 m, .int .u64 x, .int .u64 y, .int .u64 z]] w fun e w' => e = .returned (.agg #[.int .i64 (kind x), .int .i64 (kind y)]) ∧ Below w.heap.size w w') := fun w => kindsOf_any x y op m z hx hy w
  clear hx hy
  generalize kind x = KX at *
  generalize kind y = KY at *
  have e1 := eq_pair KX KY 0 3
  have e2 := eq_pair KX KY 3 0
  have HZ : Hid (zti KX KY = ((KX == 0 && KY == 3) || (KX == 3 && KY == 0))) := rfl
  generalize (KX == 3 && KY == 0) = b2 at *
  generalize (KX == 0 && KY == 3) = b1 at *
  go_enter Tryd.func26, Tryd.ntmps26
  go_wp2_with fail
  refine (HK.out _).mono ?_
  rintro e w1 ⟨rfl, hb1⟩
  have HB : Hid (Below w.heap.size w w1) := ((Below.refl _ _).alloc (Nat.le_refl _) _).trans (hb1.mono (by simp))
  have hz := hb1.size
  simp only [World.size_alloc] at hz
  clear hb1
  cases b1
  · cases b2
    · go_wp2_with fail
      go_ret
      exact ⟨by rw [HZ.out]; rfl, HB.out.alloc (by omega) _⟩
    · go_wp2_with fail
      go_ret
      exact ⟨by rw [HZ.out]; rfl, HB.out.alloc (by omega) _⟩
  · cases b2
    · go_wp2_with fail
      go_ret
      exact ⟨by rw [HZ.out]; rfl, HB.out.alloc (by omega) _⟩
    · go_wp2_with fail
      go_ret
      exact ⟨by rw [HZ.out]; rfl, HB.out.alloc (by omega) _⟩
end Go.Proofs.YtcjihaafohnbeaaDoor
