import Derived.Test.YtcjihaafohnbeaaDoorRefX
namespace Go.Proofs.YtcjihaafohnbeaaDoor
open Go.RowKit

theorem bl_m53 (x : Nat) : Go.bitLen (mant x) ≤ 53 := bitLen_le (D := mant x) (n := 53) (mant_lt x)
/-- The program's quotient: its power. -/
def eqP (x y : Nat) : Int := pow x - (64 - Go.bitLen (mant x) - 1) - 64 - (pow y - (64 - Go.bitLen (mant y)))
theorem eqW_lt {d1 d2 : Nat} (h1 : d1 ≠ 0) (h2 : d2 ≠ 0) (b1 : Go.bitLen d1 ≤ 53) (b2 : Go.bitLen d2 ≤ 53) : eqU d1 * 18446744073709551616 / eqV d2 < 18446744073709551616 ∧ eqW d1 d2 < 18446744073709551616 := by
  have r1 := eqU_range h1 b1
  have r2 := eqV_range h2 b2
  have hq : eqU d1 * 18446744073709551616 / eqV d2 < 18446744073709551616 := by
    rw [Nat.div_lt_iff_lt_mul (by omega), Nat.mul_comm]
    exact Nat.mul_lt_mul_of_pos_left (by omega) (by decide)
  refine ⟨hq, ?_⟩
  unfold eqW
  split <;> omega
theorem exactQuotient_any (x y : Nat) (hx : x < 18446744073709551616) (hy : y < 18446744073709551616) (h1 : mant x ≠ 0) (h2 : mant y ≠ 0) (w : World) :
    Calls Tryd.prog 43 #[.agg #[.int .u64 (sgn x), .int .u64 (wd (mant x) 0), .int .u64 (wd (mant x) 1), .int .i64 (pow x)], .agg #[.int .u64 (sgn y), .int .u64 (wd (mant y) 0), .int .u64 (wd (mant y) 1), .int .i64 (pow y)]] w fun e w' => e = .returned (.agg #[.int .u64 (xs x y), .int .u64 (wd (eqW (mant x) (mant y)) 0), .int .u64 (wd (eqW (mant x) (mant y)) 1), .int .i64 (eqP x y)]) ∧ Below w.heap.size w w' := by
  have b1 := bl_m53 x
  have b2 := bl_m53 y
  have r1 := eqU_range h1 b1
  have r2 := eqV_range h2 b2
  have lw := eqW_lt h1 h2 b1 b2
  have ox := one_word (show mant x < 18446744073709551616 by have := mant_lt x; omega)
  have oy := one_word (show mant y < 18446744073709551616 by have := mant_lt y; omega)
  have oe := one_word lw.2
  have px := pow_range x
  have py := pow_range y
  have c1 := bl_posQ h1
  have c2 := bl_posQ h2
  rw [ox.1, ox.2, oy.1, oy.2, oe.1, oe.2]
  have hW := or_one (eqU (mant x) * 18446744073709551616 / eqV (mant y)) lw.1
  have s1 : IntKind.u64.wrap ((mant x : Int) * 2 ^ ((64 - (Go.bitLen (mant x) : Int)).toNat - 1)) = (eqU (mant x) : Int) := by
    have := shl_wrap (mant x) (63 - (Go.bitLen (mant x) : Int)) (63 - Go.bitLen (mant x)) (by omega) (by unfold eqU at r1; omega)
    rw [show (64 - (Go.bitLen (mant x) : Int)).toNat - 1 = (63 - (Go.bitLen (mant x) : Int)).toNat by omega]
    exact this
  have s2 : IntKind.u64.wrap ((mant y : Int) * 2 ^ (64 - (Go.bitLen (mant y) : Int)).toNat) = (eqV (mant y) : Int) := shl_wrap (mant y) (64 - (Go.bitLen (mant y) : Int)) (64 - Go.bitLen (mant y)) (by omega) (by unfold eqV at r2; omega)
  exact exactQuotient_walk (sgn x) (sgn y) (xs x y) (mant x) (mant y) (eqU (mant x)) (eqV (mant y)) ((eqU (mant x) * 18446744073709551616 / eqV (mant y) : Nat) : Int) ((eqU (mant x) * 18446744073709551616 % eqV (mant y) : Nat) : Int) (Go.bitLen (mant x)) (Go.bitLen (mant y)) (pow x) (pow y) (eqW (mant x) (mant y)) (xor_small _ _ (sgn_lt hx) (sgn_lt hy))
    (fun w => lz64_any (mant x) (by have := mant_lt x; omega) w) (fun w => lz64_any (mant y) (by have := mant_lt y; omega) w) (fun w => div64_any _ _ r2.1 r2.2 (by omega) (by omega) w) s1 s2 (by omega) (by omega) (by omega) (by omega) (by omega) (by omega) (by omega) (by omega)
    (fun h => by unfold eqW; rw [if_pos (by omega)]) (fun h => by rw [hW]; unfold eqW; rw [if_neg (by omega)]) w

theorem results_quot {tmps : Array Value} {U : World} {g : Nat} {a b c : Value} (h2 : tmps.getD 2 undef = .pointer (some ⟨g, 0, none⟩)) (h : Blk U g [a, b, c]) :
    (results Tryd.f24 tmps).run Tryd.prog U = .ok (.agg #[a, b, c]) U := by
  have c0 := h.cells 0 _ rfl
  have c1 := h.cells 1 _ rfl
  have c2 := h.cells 2 _ rfl
  have h2' : tmps[2]?.getD undef = .pointer (some ⟨g, 0, none⟩) := by simpa using h2
  simp [results, Tryd.results24, go_sem, h2', c0, c1, c2]

set_option maxHeartbeats 8000000 in
set_option maxRecDepth 10000 in
theorem quotient_walk (x y : Nat) (op m z : Int) (hx : x < 18446744073709551616) (hy : y < 18446744073709551616) (hm : 0 ≤ m ∧ m ≤ 4) (w : World) (hT : Tab w) (B F : Int)
    (h1 : (kind x = 3 ∧ kind y = 3) ∨ (kind x = 0 ∧ kind y = 0) → B = 9221120237041090560 ∧ F = 16)
    (h2 : kind x = 3 → kind y ≠ 3 → B = xs x y * 9223372036854775808 + 9218868437227405312 ∧ F = 0)
    (h3 : kind x ≠ 3 → (kind x = 0 ∧ kind y ≠ 0) ∨ kind y = 3 → B = xs x y * 9223372036854775808 ∧ F = 0)
    (h4 : kind x ≠ 3 → kind x ≠ 0 → kind y = 0 → B = xs x y * 9223372036854775808 + 9218868437227405312 ∧ F = 8)
    (h5 : kind x ≠ 3 → kind x ≠ 0 → kind y ≠ 3 → kind y ≠ 0 → B = roundB (xs x y) (eqW (mant x) (mant y)) (eqP x y) m ∧ F = roundF (xs x y) (eqW (mant x) (mant y)) (eqP x y) m)
    (hnx : kind x ≠ 0 → mant x ≠ 0) (hny : kind y ≠ 0 → mant y ≠ 0) :
    Calls Tryd.prog 24 #[.agg #[.int .u8 op, .int .u8 m, .int .u64 x, .int .u64 y, .int .u64 z]] w fun e w' => e = .returned (.agg #[.int .u64 B, .int .u8 F, .bool false]) ∧ Below w.heap.size w w' := by
  have hxor := xor_sgn x y hx hy
  have HX : Hid (∀ w, Calls Tryd.prog 37 #[.int .u64 x] w fun e w' => e = .returned (.int .u64 ((x : Int) / 9223372036854775808)) ∧ w' = w) := fun w => signOf_any x (by omega) (by omega) w
  have HY : Hid (∀ w, Calls Tryd.prog 37 #[.int .u64 y] w fun e w' => e = .returned (.int .u64 ((y : Int) / 9223372036854775808)) ∧ w' = w) := fun w => signOf_any y (by omega) (by omega) w
  have HK : Hid (∀ w, Calls Tryd.prog 38 #[.agg #[.int .u8 op, .int .u8 m, .int .u64 x, .int .u64 y, .int .u64 z]] w fun e w' => e = .returned (.agg #[.int .i64 (kind x), .int .i64 (kind y)]) ∧ Below w.heap.size w w') := fun w => kindsOf_any x y op m z hx hy w
  have EX : Hid (∀ w, Calls Tryd.prog 36 #[.int .u64 x] w fun e w' => e = .returned (.agg #[.int .u64 (sgn x), .int .u64 (wd (mant x) 0), .int .u64 (wd (mant x) 1), .int .i64 (pow x)]) ∧ Below w.heap.size w w') := fun w => exactly_any x hx w
  have EY : Hid (∀ w, Calls Tryd.prog 36 #[.int .u64 y] w fun e w' => e = .returned (.agg #[.int .u64 (sgn y), .int .u64 (wd (mant y) 0), .int .u64 (wd (mant y) 1), .int .i64 (pow y)]) ∧ Below w.heap.size w w') := fun w => exactly_any y hy w
  have HEQ : Hid (mant x ≠ 0 → mant y ≠ 0 → ∀ w, Calls Tryd.prog 43 #[.agg #[.int .u64 (sgn x), .int .u64 (wd (mant x) 0), .int .u64 (wd (mant x) 1), .int .i64 (pow x)], .agg #[.int .u64 (sgn y), .int .u64 (wd (mant y) 0), .int .u64 (wd (mant y) 1), .int .i64 (pow y)]] w fun e w' => e = .returned (.agg #[.int .u64 (xs x y), .int .u64 (wd (eqW (mant x) (mant y)) 0), .int .u64 (wd (eqW (mant x) (mant y)) 1), .int .i64 (eqP x y)]) ∧ Below w.heap.size w w') := fun n1 n2 w => exactQuotient_any x y hx hy n1 n2 w
  have HRD : Hid (mant x ≠ 0 → mant y ≠ 0 → ∀ w1, Below w.heap.size w w1 → Calls Tryd.prog 41 #[.agg #[.int .u64 (xs x y), .int .u64 (wd (eqW (mant x) (mant y)) 0), .int .u64 (wd (eqW (mant x) (mant y)) 1), .int .i64 (eqP x y)], .int .u8 m] w1 fun e w' =>
      e = .returned (.agg #[.int .u64 (roundB (xs x y) (eqW (mant x) (mant y)) (eqP x y) m), .int .u8 (roundF (xs x y) (eqW (mant x) (mant y)) (eqP x y) m), .bool false]) ∧ Below w1.heap.size w1 w') := fun n1 n2 w1 hb => by
    have lw := eqW_lt n1 n2 (bl_m53 x) (bl_m53 y)
    have px := pow_range x
    have py := pow_range y
    have b1 := bl_m53 x
    have b2 := bl_m53 y
    exact W2.round_any (xs x y) (eqW (mant x) (mant y)) (eqP x y) m (xs_lt x y) (by omega) hm (by unfold eqP; omega) w1 (hT.later hb)
  have HS : Hid ((xs x y : Int) = 0 ∨ (xs x y : Int) = 1) := (by have := xs_lt x y; omega : (xs x y : Int) = 0 ∨ (xs x y : Int) = 1)
  have H1 : Hid ((kind x = 3 ∧ kind y = 3) ∨ (kind x = 0 ∧ kind y = 0) → B = 9221120237041090560 ∧ F = 16) := h1
  have H2 : Hid (kind x = 3 → kind y ≠ 3 → B = xs x y * 9223372036854775808 + 9218868437227405312 ∧ F = 0) := h2
  have H3 : Hid (kind x ≠ 3 → (kind x = 0 ∧ kind y ≠ 0) ∨ kind y = 3 → B = xs x y * 9223372036854775808 ∧ F = 0) := h3
  have H4 : Hid (kind x ≠ 3 → kind x ≠ 0 → kind y = 0 → B = xs x y * 9223372036854775808 + 9218868437227405312 ∧ F = 8) := h4
  have H5 : Hid (kind x ≠ 3 → kind x ≠ 0 → kind y ≠ 3 → kind y ≠ 0 → B = roundB (xs x y) (eqW (mant x) (mant y)) (eqP x y) m ∧ F = roundF (xs x y) (eqW (mant x) (mant y)) (eqP x y) m) := h5
  have NX : Hid (kind x ≠ 0 → mant x ≠ 0) := hnx
  have NY : Hid (kind y ≠ 0 → mant y ≠ 0) := hny
  clear h1 h2 h3 h4 h5 hnx hny hx hy hm hT
  generalize roundB (xs x y) (eqW (mant x) (mant y)) (eqP x y) m = QB at *
  generalize roundF (xs x y) (eqW (mant x) (mant y)) (eqP x y) m = QF at *
  generalize wd (eqW (mant x) (mant y)) 0 = R0 at *
  generalize wd (eqW (mant x) (mant y)) 1 = R1 at *
  generalize eqP x y = PP at *
  generalize (xs x y : Int) = S at *
  generalize wd (mant x) 0 = x0 at *
  generalize wd (mant x) 1 = x1 at *
  generalize (sgn x : Int) = sx at *
  generalize pow x = px at *
  generalize kind x = Kx at *
  generalize (x : Int) / 9223372036854775808 = gx at *
  generalize wd (mant y) 0 = y0 at *
  generalize wd (mant y) 1 = y1 at *
  generalize (sgn y : Int) = sy at *
  generalize pow y = py at *
  generalize kind y = Ky at *
  generalize (y : Int) / 9223372036854775808 = gy at *
  have e1 := eq_pair Kx Ky 0 0
  have e2 := eq_pair Kx Ky 3 3
  by_cases c0 : (Kx = 3) ∧ (Ky = 3)
  · have bx3 : (Kx == 3) = true := by rw [beq_iff_eq]; omega
    have bx0 : (Kx == 0) = false := by rw [beq_eq_false_iff_ne]; omega
    have by3 : (Ky == 3) = true := by rw [beq_iff_eq]; omega
    have by0 : (Ky == 0) = false := by rw [beq_eq_false_iff_ne]; omega
    rw [bx0, by0] at e1
    rw [bx3, by3] at e2
    have HV : Hid (B = 9221120237041090560 ∧ F = 16) := H1.out (by omega)
    clear c0 H1 H2 H3 H4 H5 NX NY
    go_enter Tryd.func24, Tryd.ntmps24
    go_wp2_with fail
    go_quiet (first | (go_at_call_of 37 (Value.int .u64 (x : Int)); exact Calls.quiet_of_same (HX.out _)) | (go_at_call_of 37 (Value.int .u64 (y : Int)); exact Calls.quiet_of_same (HY.out _)))
    go_wp2_with fail
    refine (HK.out _).mono ?_
    rintro e w1 ⟨rfl, hb1⟩
    have K1 : Hid (Rows2 w w1 [.int .u8 op, .int .u8 m, .int .u64 x, .int .u64 y, .int .u64 z] [.int .u64 0, .int .u8 0, .bool false]) := (Rows2.start w _ _ _ _ (by simp) (by simp)).below' (B := w.heap.size + 2) ((below_drewN (Below.refl _ _) _).trans (hb1.mono (by simp))) (Nat.le_refl _)
    have K2 : Hid (Rows2 w (w1.alloc (.cells #[.int .i64 Kx, .int .i64 Ky] 62)) [.int .u8 op, .int .u8 m, .int .u64 x, .int .u64 y, .int .u64 z] [.int .u64 0, .int .u8 0, .bool false]) := K1.out.below' ((Below.refl _ _).alloc (Nat.le_refl _) _) (by have := K1.out.size; omega)
    have P2 : Hid (Blk (w1.alloc (.cells #[.int .i64 Kx, .int .i64 Ky] 62)) w1.heap.size [.int .i64 Kx, .int .i64 Ky]) := Blk.new _ _ _ (by simp)
    clear hb1
    have c0 := K1.out.x.cells 0 _ rfl
    have c1 := K1.out.x.cells 1 _ rfl
    have c2 := K1.out.x.cells 2 _ rfl
    have c3 := K1.out.x.cells 3 _ rfl
    have c4 := K1.out.x.cells 4 _ rfl
    have r0 := K1.out.r.cells 0 _ rfl
    have r1 := K1.out.r.cells 1 _ rfl
    have r2 := K1.out.r.cells 2 _ rfl
    have f0 := K1.out.r.live 0 _ rfl
    have f1 := K1.out.r.live 1 _ rfl
    have f2 := K1.out.r.live 2 _ rfl
    have z1 := K1.out.size
    have z0 : w.heap.size < _ := K1.out.x.lt
    go_wp2_with fail
    refine (wrong_any _).mono ?_
    rintro e w3 ⟨rfl, hb3⟩
    have K3 : Hid (Rows2 w w3 [.int .u8 op, .int .u8 m, .int .u64 x, .int .u64 y, .int .u64 z] [.int .u64 0, .int .u8 0, .bool false]) := K2.out.later hb3
    clear hb3 c0 c1 c2 c3 c4 r0 r1 r2 f0 f1 f2 z1 z0
    have r0 := K3.out.r.cells 0 _ rfl
    have r1 := K3.out.r.cells 1 _ rfl
    have r2 := K3.out.r.cells 2 _ rfl
    have f0 := K3.out.r.live 0 _ rfl
    have f1 := K3.out.r.live 1 _ rfl
    have f2 := K3.out.r.live 2 _ rfl
    go_wp2_with fail
    go_light
    refine bodyPost_ret (v := .agg #[.int .u64 9221120237041090560, .int .u8 16, .bool false]) (results_quot rfl (((K3.out.r.set 0 _ (by simp)).set 1 _ (by simp)).set 2 _ (by simp))) rfl ⟨by rw [HV.out.1, HV.out.2], ?_⟩
    exact ((K3.out.below.setCell (by simp) _).setCell (by simp) _).setCell (by simp) _
  by_cases c1 : (Kx = 3) ∧ (Ky = 0)
  · have bx3 : (Kx == 3) = true := by rw [beq_iff_eq]; omega
    have bx0 : (Kx == 0) = false := by rw [beq_eq_false_iff_ne]; omega
    have by3 : (Ky == 3) = false := by rw [beq_eq_false_iff_ne]; omega
    have by0 : (Ky == 0) = true := by rw [beq_iff_eq]; omega
    rw [bx0, by0] at e1
    rw [bx3, by3] at e2
    have HV : Hid (B = S * 9223372036854775808 + 9218868437227405312 ∧ F = 0) := H2.out (by omega) (by omega)
    clear c1 c0 H1 H2 H3 H4 H5 NX NY
    go_enter Tryd.func24, Tryd.ntmps24
    go_wp2_with fail
    go_quiet (first | (go_at_call_of 37 (Value.int .u64 (x : Int)); exact Calls.quiet_of_same (HX.out _)) | (go_at_call_of 37 (Value.int .u64 (y : Int)); exact Calls.quiet_of_same (HY.out _)))
    go_wp2_with fail
    refine (HK.out _).mono ?_
    rintro e w1 ⟨rfl, hb1⟩
    have K1 : Hid (Rows2 w w1 [.int .u8 op, .int .u8 m, .int .u64 x, .int .u64 y, .int .u64 z] [.int .u64 0, .int .u8 0, .bool false]) := (Rows2.start w _ _ _ _ (by simp) (by simp)).below' (B := w.heap.size + 2) ((below_drewN (Below.refl _ _) _).trans (hb1.mono (by simp))) (Nat.le_refl _)
    have K2 : Hid (Rows2 w (w1.alloc (.cells #[.int .i64 Kx, .int .i64 Ky] 62)) [.int .u8 op, .int .u8 m, .int .u64 x, .int .u64 y, .int .u64 z] [.int .u64 0, .int .u8 0, .bool false]) := K1.out.below' ((Below.refl _ _).alloc (Nat.le_refl _) _) (by have := K1.out.size; omega)
    have P2 : Hid (Blk (w1.alloc (.cells #[.int .i64 Kx, .int .i64 Ky] 62)) w1.heap.size [.int .i64 Kx, .int .i64 Ky]) := Blk.new _ _ _ (by simp)
    clear hb1
    have c0 := K1.out.x.cells 0 _ rfl
    have c1 := K1.out.x.cells 1 _ rfl
    have c2 := K1.out.x.cells 2 _ rfl
    have c3 := K1.out.x.cells 3 _ rfl
    have c4 := K1.out.x.cells 4 _ rfl
    have r0 := K1.out.r.cells 0 _ rfl
    have r1 := K1.out.r.cells 1 _ rfl
    have r2 := K1.out.r.cells 2 _ rfl
    have f0 := K1.out.r.live 0 _ rfl
    have f1 := K1.out.r.live 1 _ rfl
    have f2 := K1.out.r.live 2 _ rfl
    have z1 := K1.out.size
    have z0 : w.heap.size < _ := K1.out.x.lt
    go_wp2_with (go_at_call 40; refine (signed_any _ _ HS.out (by omega) _).mono ?_; rintro e w' ⟨rfl, rfl⟩)
    go_light
    refine bodyPost_ret (v := .agg #[.int .u64 (S * 9223372036854775808 + 9218868437227405312), .int .u8 0, .bool false]) (results_quot rfl ?_) rfl ⟨by rw [HV.out.1, HV.out.2], ?_⟩
    · first
        | exact (((K1.out.r.set 0 _ (by simp)).set 1 _ (by simp)).set 2 _ (by simp)).alloc _
        | exact ((K2.out.r.set 0 _ (by simp)).set 1 _ (by simp)).set 2 _ (by simp)
    · first
        | exact (((K1.out.below.setCell (by simp) _).setCell (by simp) _).setCell (by simp) _).alloc (by simp; omega) _
        | exact ((K2.out.below.setCell (by simp) _).setCell (by simp) _).setCell (by simp) _
  by_cases c2 : (Kx = 3) ∧ (Ky ≠ 3 ∧ Ky ≠ 0)
  · have bx3 : (Kx == 3) = true := by rw [beq_iff_eq]; omega
    have bx0 : (Kx == 0) = false := by rw [beq_eq_false_iff_ne]; omega
    have by3 : (Ky == 3) = false := by rw [beq_eq_false_iff_ne]; omega
    have by0 : (Ky == 0) = false := by rw [beq_eq_false_iff_ne]; omega
    rw [bx0, by0] at e1
    rw [bx3, by3] at e2
    have HV : Hid (B = S * 9223372036854775808 + 9218868437227405312 ∧ F = 0) := H2.out (by omega) (by omega)
    clear c2 c0 c1 H1 H2 H3 H4 H5 NX NY
    go_enter Tryd.func24, Tryd.ntmps24
    go_wp2_with fail
    go_quiet (first | (go_at_call_of 37 (Value.int .u64 (x : Int)); exact Calls.quiet_of_same (HX.out _)) | (go_at_call_of 37 (Value.int .u64 (y : Int)); exact Calls.quiet_of_same (HY.out _)))
    go_wp2_with fail
    refine (HK.out _).mono ?_
    rintro e w1 ⟨rfl, hb1⟩
    have K1 : Hid (Rows2 w w1 [.int .u8 op, .int .u8 m, .int .u64 x, .int .u64 y, .int .u64 z] [.int .u64 0, .int .u8 0, .bool false]) := (Rows2.start w _ _ _ _ (by simp) (by simp)).below' (B := w.heap.size + 2) ((below_drewN (Below.refl _ _) _).trans (hb1.mono (by simp))) (Nat.le_refl _)
    have K2 : Hid (Rows2 w (w1.alloc (.cells #[.int .i64 Kx, .int .i64 Ky] 62)) [.int .u8 op, .int .u8 m, .int .u64 x, .int .u64 y, .int .u64 z] [.int .u64 0, .int .u8 0, .bool false]) := K1.out.below' ((Below.refl _ _).alloc (Nat.le_refl _) _) (by have := K1.out.size; omega)
    have P2 : Hid (Blk (w1.alloc (.cells #[.int .i64 Kx, .int .i64 Ky] 62)) w1.heap.size [.int .i64 Kx, .int .i64 Ky]) := Blk.new _ _ _ (by simp)
    clear hb1
    have c0 := K1.out.x.cells 0 _ rfl
    have c1 := K1.out.x.cells 1 _ rfl
    have c2 := K1.out.x.cells 2 _ rfl
    have c3 := K1.out.x.cells 3 _ rfl
    have c4 := K1.out.x.cells 4 _ rfl
    have r0 := K1.out.r.cells 0 _ rfl
    have r1 := K1.out.r.cells 1 _ rfl
    have r2 := K1.out.r.cells 2 _ rfl
    have f0 := K1.out.r.live 0 _ rfl
    have f1 := K1.out.r.live 1 _ rfl
    have f2 := K1.out.r.live 2 _ rfl
    have z1 := K1.out.size
    have z0 : w.heap.size < _ := K1.out.x.lt
    go_wp2_with (go_at_call 40; refine (signed_any _ _ HS.out (by omega) _).mono ?_; rintro e w' ⟨rfl, rfl⟩)
    go_light
    refine bodyPost_ret (v := .agg #[.int .u64 (S * 9223372036854775808 + 9218868437227405312), .int .u8 0, .bool false]) (results_quot rfl ?_) rfl ⟨by rw [HV.out.1, HV.out.2], ?_⟩
    · first
        | exact (((K1.out.r.set 0 _ (by simp)).set 1 _ (by simp)).set 2 _ (by simp)).alloc _
        | exact ((K2.out.r.set 0 _ (by simp)).set 1 _ (by simp)).set 2 _ (by simp)
    · first
        | exact (((K1.out.below.setCell (by simp) _).setCell (by simp) _).setCell (by simp) _).alloc (by simp; omega) _
        | exact ((K2.out.below.setCell (by simp) _).setCell (by simp) _).setCell (by simp) _
  by_cases c3 : (Kx = 0) ∧ (Ky = 3)
  · have bx3 : (Kx == 3) = false := by rw [beq_eq_false_iff_ne]; omega
    have bx0 : (Kx == 0) = true := by rw [beq_iff_eq]; omega
    have by3 : (Ky == 3) = true := by rw [beq_iff_eq]; omega
    have by0 : (Ky == 0) = false := by rw [beq_eq_false_iff_ne]; omega
    rw [bx0, by0] at e1
    rw [bx3, by3] at e2
    have HV : Hid (B = S * 9223372036854775808 ∧ F = 0) := H3.out (by omega) (by omega)
    clear c3 c0 c1 c2 H1 H2 H3 H4 H5 NX NY
    go_enter Tryd.func24, Tryd.ntmps24
    go_wp2_with fail
    go_quiet (first | (go_at_call_of 37 (Value.int .u64 (x : Int)); exact Calls.quiet_of_same (HX.out _)) | (go_at_call_of 37 (Value.int .u64 (y : Int)); exact Calls.quiet_of_same (HY.out _)))
    go_wp2_with fail
    refine (HK.out _).mono ?_
    rintro e w1 ⟨rfl, hb1⟩
    have K1 : Hid (Rows2 w w1 [.int .u8 op, .int .u8 m, .int .u64 x, .int .u64 y, .int .u64 z] [.int .u64 0, .int .u8 0, .bool false]) := (Rows2.start w _ _ _ _ (by simp) (by simp)).below' (B := w.heap.size + 2) ((below_drewN (Below.refl _ _) _).trans (hb1.mono (by simp))) (Nat.le_refl _)
    have K2 : Hid (Rows2 w (w1.alloc (.cells #[.int .i64 Kx, .int .i64 Ky] 62)) [.int .u8 op, .int .u8 m, .int .u64 x, .int .u64 y, .int .u64 z] [.int .u64 0, .int .u8 0, .bool false]) := K1.out.below' ((Below.refl _ _).alloc (Nat.le_refl _) _) (by have := K1.out.size; omega)
    have P2 : Hid (Blk (w1.alloc (.cells #[.int .i64 Kx, .int .i64 Ky] 62)) w1.heap.size [.int .i64 Kx, .int .i64 Ky]) := Blk.new _ _ _ (by simp)
    clear hb1
    have c0 := K1.out.x.cells 0 _ rfl
    have c1 := K1.out.x.cells 1 _ rfl
    have c2 := K1.out.x.cells 2 _ rfl
    have c3 := K1.out.x.cells 3 _ rfl
    have c4 := K1.out.x.cells 4 _ rfl
    have r0 := K1.out.r.cells 0 _ rfl
    have r1 := K1.out.r.cells 1 _ rfl
    have r2 := K1.out.r.cells 2 _ rfl
    have f0 := K1.out.r.live 0 _ rfl
    have f1 := K1.out.r.live 1 _ rfl
    have f2 := K1.out.r.live 2 _ rfl
    have z1 := K1.out.size
    have z0 : w.heap.size < _ := K1.out.x.lt
    go_wp2_with (go_at_call 40; refine (signed_any _ _ HS.out (by omega) _).mono ?_; rintro e w' ⟨rfl, rfl⟩)
    go_light
    refine bodyPost_ret (v := .agg #[.int .u64 (S * 9223372036854775808), .int .u8 0, .bool false]) (results_quot rfl ?_) rfl ⟨by rw [HV.out.1, HV.out.2], ?_⟩
    · first
        | exact (((K1.out.r.set 0 _ (by simp)).set 1 _ (by simp)).set 2 _ (by simp)).alloc _
        | exact ((K2.out.r.set 0 _ (by simp)).set 1 _ (by simp)).set 2 _ (by simp)
    · first
        | exact (((K1.out.below.setCell (by simp) _).setCell (by simp) _).setCell (by simp) _).alloc (by simp; omega) _
        | exact ((K2.out.below.setCell (by simp) _).setCell (by simp) _).setCell (by simp) _
  by_cases c4 : (Kx = 0) ∧ (Ky = 0)
  · have bx3 : (Kx == 3) = false := by rw [beq_eq_false_iff_ne]; omega
    have bx0 : (Kx == 0) = true := by rw [beq_iff_eq]; omega
    have by3 : (Ky == 3) = false := by rw [beq_eq_false_iff_ne]; omega
    have by0 : (Ky == 0) = true := by rw [beq_iff_eq]; omega
    rw [bx0, by0] at e1
    rw [bx3, by3] at e2
    have HV : Hid (B = 9221120237041090560 ∧ F = 16) := H1.out (by omega)
    clear c4 c0 c1 c2 c3 H1 H2 H3 H4 H5 NX NY
    go_enter Tryd.func24, Tryd.ntmps24
    go_wp2_with fail
    go_quiet (first | (go_at_call_of 37 (Value.int .u64 (x : Int)); exact Calls.quiet_of_same (HX.out _)) | (go_at_call_of 37 (Value.int .u64 (y : Int)); exact Calls.quiet_of_same (HY.out _)))
    go_wp2_with fail
    refine (HK.out _).mono ?_
    rintro e w1 ⟨rfl, hb1⟩
    have K1 : Hid (Rows2 w w1 [.int .u8 op, .int .u8 m, .int .u64 x, .int .u64 y, .int .u64 z] [.int .u64 0, .int .u8 0, .bool false]) := (Rows2.start w _ _ _ _ (by simp) (by simp)).below' (B := w.heap.size + 2) ((below_drewN (Below.refl _ _) _).trans (hb1.mono (by simp))) (Nat.le_refl _)
    have K2 : Hid (Rows2 w (w1.alloc (.cells #[.int .i64 Kx, .int .i64 Ky] 62)) [.int .u8 op, .int .u8 m, .int .u64 x, .int .u64 y, .int .u64 z] [.int .u64 0, .int .u8 0, .bool false]) := K1.out.below' ((Below.refl _ _).alloc (Nat.le_refl _) _) (by have := K1.out.size; omega)
    have P2 : Hid (Blk (w1.alloc (.cells #[.int .i64 Kx, .int .i64 Ky] 62)) w1.heap.size [.int .i64 Kx, .int .i64 Ky]) := Blk.new _ _ _ (by simp)
    clear hb1
    have c0 := K1.out.x.cells 0 _ rfl
    have c1 := K1.out.x.cells 1 _ rfl
    have c2 := K1.out.x.cells 2 _ rfl
    have c3 := K1.out.x.cells 3 _ rfl
    have c4 := K1.out.x.cells 4 _ rfl
    have r0 := K1.out.r.cells 0 _ rfl
    have r1 := K1.out.r.cells 1 _ rfl
    have r2 := K1.out.r.cells 2 _ rfl
    have f0 := K1.out.r.live 0 _ rfl
    have f1 := K1.out.r.live 1 _ rfl
    have f2 := K1.out.r.live 2 _ rfl
    have z1 := K1.out.size
    have z0 : w.heap.size < _ := K1.out.x.lt
    go_wp2_with fail
    refine (wrong_any _).mono ?_
    rintro e w3 ⟨rfl, hb3⟩
    have K3 : Hid (Rows2 w w3 [.int .u8 op, .int .u8 m, .int .u64 x, .int .u64 y, .int .u64 z] [.int .u64 0, .int .u8 0, .bool false]) := K2.out.later hb3
    clear hb3 c0 c1 c2 c3 c4 r0 r1 r2 f0 f1 f2 z1 z0
    have r0 := K3.out.r.cells 0 _ rfl
    have r1 := K3.out.r.cells 1 _ rfl
    have r2 := K3.out.r.cells 2 _ rfl
    have f0 := K3.out.r.live 0 _ rfl
    have f1 := K3.out.r.live 1 _ rfl
    have f2 := K3.out.r.live 2 _ rfl
    go_wp2_with fail
    go_light
    refine bodyPost_ret (v := .agg #[.int .u64 9221120237041090560, .int .u8 16, .bool false]) (results_quot rfl (((K3.out.r.set 0 _ (by simp)).set 1 _ (by simp)).set 2 _ (by simp))) rfl ⟨by rw [HV.out.1, HV.out.2], ?_⟩
    exact ((K3.out.below.setCell (by simp) _).setCell (by simp) _).setCell (by simp) _
  by_cases c5 : (Kx = 0) ∧ (Ky ≠ 3 ∧ Ky ≠ 0)
  · have bx3 : (Kx == 3) = false := by rw [beq_eq_false_iff_ne]; omega
    have bx0 : (Kx == 0) = true := by rw [beq_iff_eq]; omega
    have by3 : (Ky == 3) = false := by rw [beq_eq_false_iff_ne]; omega
    have by0 : (Ky == 0) = false := by rw [beq_eq_false_iff_ne]; omega
    rw [bx0, by0] at e1
    rw [bx3, by3] at e2
    have HV : Hid (B = S * 9223372036854775808 ∧ F = 0) := H3.out (by omega) (by omega)
    clear c5 c0 c1 c2 c3 c4 H1 H2 H3 H4 H5 NX NY
    go_enter Tryd.func24, Tryd.ntmps24
    go_wp2_with fail
    go_quiet (first | (go_at_call_of 37 (Value.int .u64 (x : Int)); exact Calls.quiet_of_same (HX.out _)) | (go_at_call_of 37 (Value.int .u64 (y : Int)); exact Calls.quiet_of_same (HY.out _)))
    go_wp2_with fail
    refine (HK.out _).mono ?_
    rintro e w1 ⟨rfl, hb1⟩
    have K1 : Hid (Rows2 w w1 [.int .u8 op, .int .u8 m, .int .u64 x, .int .u64 y, .int .u64 z] [.int .u64 0, .int .u8 0, .bool false]) := (Rows2.start w _ _ _ _ (by simp) (by simp)).below' (B := w.heap.size + 2) ((below_drewN (Below.refl _ _) _).trans (hb1.mono (by simp))) (Nat.le_refl _)
    have K2 : Hid (Rows2 w (w1.alloc (.cells #[.int .i64 Kx, .int .i64 Ky] 62)) [.int .u8 op, .int .u8 m, .int .u64 x, .int .u64 y, .int .u64 z] [.int .u64 0, .int .u8 0, .bool false]) := K1.out.below' ((Below.refl _ _).alloc (Nat.le_refl _) _) (by have := K1.out.size; omega)
    have P2 : Hid (Blk (w1.alloc (.cells #[.int .i64 Kx, .int .i64 Ky] 62)) w1.heap.size [.int .i64 Kx, .int .i64 Ky]) := Blk.new _ _ _ (by simp)
    clear hb1
    have c0 := K1.out.x.cells 0 _ rfl
    have c1 := K1.out.x.cells 1 _ rfl
    have c2 := K1.out.x.cells 2 _ rfl
    have c3 := K1.out.x.cells 3 _ rfl
    have c4 := K1.out.x.cells 4 _ rfl
    have r0 := K1.out.r.cells 0 _ rfl
    have r1 := K1.out.r.cells 1 _ rfl
    have r2 := K1.out.r.cells 2 _ rfl
    have f0 := K1.out.r.live 0 _ rfl
    have f1 := K1.out.r.live 1 _ rfl
    have f2 := K1.out.r.live 2 _ rfl
    have z1 := K1.out.size
    have z0 : w.heap.size < _ := K1.out.x.lt
    go_wp2_with (go_at_call 40; refine (signed_any _ _ HS.out (by omega) _).mono ?_; rintro e w' ⟨rfl, rfl⟩)
    go_light
    refine bodyPost_ret (v := .agg #[.int .u64 (S * 9223372036854775808), .int .u8 0, .bool false]) (results_quot rfl ?_) rfl ⟨by rw [HV.out.1, HV.out.2], ?_⟩
    · first
        | exact (((K1.out.r.set 0 _ (by simp)).set 1 _ (by simp)).set 2 _ (by simp)).alloc _
        | exact ((K2.out.r.set 0 _ (by simp)).set 1 _ (by simp)).set 2 _ (by simp)
    · first
        | exact (((K1.out.below.setCell (by simp) _).setCell (by simp) _).setCell (by simp) _).alloc (by simp; omega) _
        | exact ((K2.out.below.setCell (by simp) _).setCell (by simp) _).setCell (by simp) _
  by_cases c6 : (Kx ≠ 3 ∧ Kx ≠ 0) ∧ (Ky = 3)
  · have bx3 : (Kx == 3) = false := by rw [beq_eq_false_iff_ne]; omega
    have bx0 : (Kx == 0) = false := by rw [beq_eq_false_iff_ne]; omega
    have by3 : (Ky == 3) = true := by rw [beq_iff_eq]; omega
    have by0 : (Ky == 0) = false := by rw [beq_eq_false_iff_ne]; omega
    rw [bx0, by0] at e1
    rw [bx3, by3] at e2
    have HV : Hid (B = S * 9223372036854775808 ∧ F = 0) := H3.out (by omega) (by omega)
    clear c6 c0 c1 c2 c3 c4 c5 H1 H2 H3 H4 H5 NX NY
    go_enter Tryd.func24, Tryd.ntmps24
    go_wp2_with fail
    go_quiet (first | (go_at_call_of 37 (Value.int .u64 (x : Int)); exact Calls.quiet_of_same (HX.out _)) | (go_at_call_of 37 (Value.int .u64 (y : Int)); exact Calls.quiet_of_same (HY.out _)))
    go_wp2_with fail
    refine (HK.out _).mono ?_
    rintro e w1 ⟨rfl, hb1⟩
    have K1 : Hid (Rows2 w w1 [.int .u8 op, .int .u8 m, .int .u64 x, .int .u64 y, .int .u64 z] [.int .u64 0, .int .u8 0, .bool false]) := (Rows2.start w _ _ _ _ (by simp) (by simp)).below' (B := w.heap.size + 2) ((below_drewN (Below.refl _ _) _).trans (hb1.mono (by simp))) (Nat.le_refl _)
    have K2 : Hid (Rows2 w (w1.alloc (.cells #[.int .i64 Kx, .int .i64 Ky] 62)) [.int .u8 op, .int .u8 m, .int .u64 x, .int .u64 y, .int .u64 z] [.int .u64 0, .int .u8 0, .bool false]) := K1.out.below' ((Below.refl _ _).alloc (Nat.le_refl _) _) (by have := K1.out.size; omega)
    have P2 : Hid (Blk (w1.alloc (.cells #[.int .i64 Kx, .int .i64 Ky] 62)) w1.heap.size [.int .i64 Kx, .int .i64 Ky]) := Blk.new _ _ _ (by simp)
    clear hb1
    have c0 := K1.out.x.cells 0 _ rfl
    have c1 := K1.out.x.cells 1 _ rfl
    have c2 := K1.out.x.cells 2 _ rfl
    have c3 := K1.out.x.cells 3 _ rfl
    have c4 := K1.out.x.cells 4 _ rfl
    have r0 := K1.out.r.cells 0 _ rfl
    have r1 := K1.out.r.cells 1 _ rfl
    have r2 := K1.out.r.cells 2 _ rfl
    have f0 := K1.out.r.live 0 _ rfl
    have f1 := K1.out.r.live 1 _ rfl
    have f2 := K1.out.r.live 2 _ rfl
    have z1 := K1.out.size
    have z0 : w.heap.size < _ := K1.out.x.lt
    go_wp2_with (go_at_call 40; refine (signed_any _ _ HS.out (by omega) _).mono ?_; rintro e w' ⟨rfl, rfl⟩)
    go_light
    refine bodyPost_ret (v := .agg #[.int .u64 (S * 9223372036854775808), .int .u8 0, .bool false]) (results_quot rfl ?_) rfl ⟨by rw [HV.out.1, HV.out.2], ?_⟩
    · first
        | exact (((K1.out.r.set 0 _ (by simp)).set 1 _ (by simp)).set 2 _ (by simp)).alloc _
        | exact ((K2.out.r.set 0 _ (by simp)).set 1 _ (by simp)).set 2 _ (by simp)
    · first
        | exact (((K1.out.below.setCell (by simp) _).setCell (by simp) _).setCell (by simp) _).alloc (by simp; omega) _
        | exact ((K2.out.below.setCell (by simp) _).setCell (by simp) _).setCell (by simp) _
  by_cases c7 : (Kx ≠ 3 ∧ Kx ≠ 0) ∧ (Ky = 0)
  · have bx3 : (Kx == 3) = false := by rw [beq_eq_false_iff_ne]; omega
    have bx0 : (Kx == 0) = false := by rw [beq_eq_false_iff_ne]; omega
    have by3 : (Ky == 3) = false := by rw [beq_eq_false_iff_ne]; omega
    have by0 : (Ky == 0) = true := by rw [beq_iff_eq]; omega
    rw [bx0, by0] at e1
    rw [bx3, by3] at e2
    have HV : Hid (B = S * 9223372036854775808 + 9218868437227405312 ∧ F = 8) := H4.out (by omega) (by omega) (by omega)
    clear c7 c0 c1 c2 c3 c4 c5 c6 H1 H2 H3 H4 H5 NX NY
    go_enter Tryd.func24, Tryd.ntmps24
    go_wp2_with fail
    go_quiet (first | (go_at_call_of 37 (Value.int .u64 (x : Int)); exact Calls.quiet_of_same (HX.out _)) | (go_at_call_of 37 (Value.int .u64 (y : Int)); exact Calls.quiet_of_same (HY.out _)))
    go_wp2_with fail
    refine (HK.out _).mono ?_
    rintro e w1 ⟨rfl, hb1⟩
    have K1 : Hid (Rows2 w w1 [.int .u8 op, .int .u8 m, .int .u64 x, .int .u64 y, .int .u64 z] [.int .u64 0, .int .u8 0, .bool false]) := (Rows2.start w _ _ _ _ (by simp) (by simp)).below' (B := w.heap.size + 2) ((below_drewN (Below.refl _ _) _).trans (hb1.mono (by simp))) (Nat.le_refl _)
    have K2 : Hid (Rows2 w (w1.alloc (.cells #[.int .i64 Kx, .int .i64 Ky] 62)) [.int .u8 op, .int .u8 m, .int .u64 x, .int .u64 y, .int .u64 z] [.int .u64 0, .int .u8 0, .bool false]) := K1.out.below' ((Below.refl _ _).alloc (Nat.le_refl _) _) (by have := K1.out.size; omega)
    have P2 : Hid (Blk (w1.alloc (.cells #[.int .i64 Kx, .int .i64 Ky] 62)) w1.heap.size [.int .i64 Kx, .int .i64 Ky]) := Blk.new _ _ _ (by simp)
    clear hb1
    have c0 := K1.out.x.cells 0 _ rfl
    have c1 := K1.out.x.cells 1 _ rfl
    have c2 := K1.out.x.cells 2 _ rfl
    have c3 := K1.out.x.cells 3 _ rfl
    have c4 := K1.out.x.cells 4 _ rfl
    have r0 := K1.out.r.cells 0 _ rfl
    have r1 := K1.out.r.cells 1 _ rfl
    have r2 := K1.out.r.cells 2 _ rfl
    have f0 := K1.out.r.live 0 _ rfl
    have f1 := K1.out.r.live 1 _ rfl
    have f2 := K1.out.r.live 2 _ rfl
    have z1 := K1.out.size
    have z0 : w.heap.size < _ := K1.out.x.lt
    go_wp2_with (go_at_call 40; refine (signed_any _ _ HS.out (by omega) _).mono ?_; rintro e w' ⟨rfl, rfl⟩)
    go_light
    refine bodyPost_ret (v := .agg #[.int .u64 (S * 9223372036854775808 + 9218868437227405312), .int .u8 8, .bool false]) (results_quot rfl ?_) rfl ⟨by rw [HV.out.1, HV.out.2], ?_⟩
    · first
        | exact (((K1.out.r.set 0 _ (by simp)).set 1 _ (by simp)).set 2 _ (by simp)).alloc _
        | exact ((K2.out.r.set 0 _ (by simp)).set 1 _ (by simp)).set 2 _ (by simp)
    · first
        | exact (((K1.out.below.setCell (by simp) _).setCell (by simp) _).setCell (by simp) _).alloc (by simp; omega) _
        | exact ((K2.out.below.setCell (by simp) _).setCell (by simp) _).setCell (by simp) _
  by_cases c8 : (Kx ≠ 3 ∧ Kx ≠ 0) ∧ (Ky ≠ 3 ∧ Ky ≠ 0)
  · have bx3 : (Kx == 3) = false := by rw [beq_eq_false_iff_ne]; omega
    have bx0 : (Kx == 0) = false := by rw [beq_eq_false_iff_ne]; omega
    have by3 : (Ky == 3) = false := by rw [beq_eq_false_iff_ne]; omega
    have by0 : (Ky == 0) = false := by rw [beq_eq_false_iff_ne]; omega
    rw [bx0, by0] at e1
    rw [bx3, by3] at e2
    have HV : Hid (B = QB ∧ F = QF) := H5.out (by omega) (by omega) (by omega) (by omega)
    have HMX : Hid (mant x ≠ 0) := NX.out (by omega)
    have HMY : Hid (mant y ≠ 0) := NY.out (by omega)
    clear c8 c0 c1 c2 c3 c4 c5 c6 c7 H1 H2 H3 H4 H5 NX NY
    go_enter Tryd.func24, Tryd.ntmps24
    go_wp2_with fail
    go_quiet (first | (go_at_call_of 37 (Value.int .u64 (x : Int)); exact Calls.quiet_of_same (HX.out _)) | (go_at_call_of 37 (Value.int .u64 (y : Int)); exact Calls.quiet_of_same (HY.out _)))
    go_wp2_with fail
    refine (HK.out _).mono ?_
    rintro e w1 ⟨rfl, hb1⟩
    have K1 : Hid (Rows2 w w1 [.int .u8 op, .int .u8 m, .int .u64 x, .int .u64 y, .int .u64 z] [.int .u64 0, .int .u8 0, .bool false]) := (Rows2.start w _ _ _ _ (by simp) (by simp)).below' (B := w.heap.size + 2) ((below_drewN (Below.refl _ _) _).trans (hb1.mono (by simp))) (Nat.le_refl _)
    have K2 : Hid (Rows2 w (w1.alloc (.cells #[.int .i64 Kx, .int .i64 Ky] 62)) [.int .u8 op, .int .u8 m, .int .u64 x, .int .u64 y, .int .u64 z] [.int .u64 0, .int .u8 0, .bool false]) := K1.out.below' ((Below.refl _ _).alloc (Nat.le_refl _) _) (by have := K1.out.size; omega)
    have P2 : Hid (Blk (w1.alloc (.cells #[.int .i64 Kx, .int .i64 Ky] 62)) w1.heap.size [.int .i64 Kx, .int .i64 Ky]) := Blk.new _ _ _ (by simp)
    clear hb1
    have c0 := K1.out.x.cells 0 _ rfl
    have c1 := K1.out.x.cells 1 _ rfl
    have c2 := K1.out.x.cells 2 _ rfl
    have c3 := K1.out.x.cells 3 _ rfl
    have c4 := K1.out.x.cells 4 _ rfl
    have r0 := K1.out.r.cells 0 _ rfl
    have r1 := K1.out.r.cells 1 _ rfl
    have r2 := K1.out.r.cells 2 _ rfl
    have f0 := K1.out.r.live 0 _ rfl
    have f1 := K1.out.r.live 1 _ rfl
    have f2 := K1.out.r.live 2 _ rfl
    have z1 := K1.out.size
    have z0 : w.heap.size < _ := K1.out.x.lt
    go_wp2_with fail
    generalize w1.alloc (.cells #[.int .i64 Kx, .int .i64 Ky] 62) = w2 at *
    have K0 := K2
    clear c0 c1 c2 c3 c4 r0 r1 r2 f0 f1 f2 z1 z0 K1
    have c0 := K0.out.x.cells 0 _ rfl
    have c1 := K0.out.x.cells 1 _ rfl
    have c2 := K0.out.x.cells 2 _ rfl
    have c3 := K0.out.x.cells 3 _ rfl
    have c4 := K0.out.x.cells 4 _ rfl
    have z1 := K0.out.size
    have z0 := K0.out.x.lt
    go_region_held3 (fun w' => w'.cell? ⟨w.heap.size, 1, none⟩ = some (.int .u8 m) ∧ w'.cell? ⟨w.heap.size, 2, none⟩ = some (.int .u64 x) ∧ w'.cell? ⟨w.heap.size, 3, none⟩ = some (.int .u64 y))
      (first | (go_keep; done) | (rw [cellSet3 _ _ _ _ _ _ (by simp), cellSet3 _ _ _ _ _ _ (by simp), cellSet3 _ _ _ _ _ _ (by simp)]; exact ⟨K0.out.x.cells 1 _ rfl, K0.out.x.cells 2 _ rfl, K0.out.x.cells 3 _ rfl⟩) | exact ⟨K0.out.x.cells 1 _ rfl, K0.out.x.cells 2 _ rfl, K0.out.x.cells 3 _ rfl⟩)
      (first | (go_at_call_of 36 (Value.int .u64 (x : Int)); refine (EX.out _).mono ?_; rintro e w' ⟨rfl, hb⟩; have K0 : Hid (Rows2 w w' [.int .u8 op, .int .u8 m, .int .u64 x, .int .u64 y, .int .u64 z] [.int .u64 0, .int .u8 0, .bool false]) := K0.out.later ⟨hb.os, hb.tape, hb.output, hb.size, hb.block⟩; clear hb) | (go_at_call_of 36 (Value.int .u64 (y : Int)); refine (EY.out _).mono ?_; rintro e w' ⟨rfl, hb⟩; have K0 : Hid (Rows2 w w' [.int .u8 op, .int .u8 m, .int .u64 x, .int .u64 y, .int .u64 z] [.int .u64 0, .int .u8 0, .bool false]) := K0.out.later ⟨hb.os, hb.tape, hb.output, hb.size, hb.block⟩; clear hb) | (go_at_call 43; refine (HEQ.out HMX.out HMY.out _).mono ?_; rintro e w' ⟨rfl, hb⟩; have K0 : Hid (Rows2 w w' [.int .u8 op, .int .u8 m, .int .u64 x, .int .u64 y, .int .u64 z] [.int .u64 0, .int .u8 0, .bool false]) := K0.out.later ⟨hb.os, hb.tape, hb.output, hb.size, hb.block⟩; clear hb) | (go_at_call 41; refine (HRD.out HMX.out HMY.out _ K0.out.below).mono ?_; rintro e w3 ⟨rfl, hb2⟩; have K0 : Hid (Rows2 w w3 [.int .u8 op, .int .u8 m, .int .u64 x, .int .u64 y, .int .u64 z] [.int .u64 0, .int .u8 0, .bool false]) := K0.out.later ⟨hb2.os, hb2.tape, hb2.output, hb2.size, hb2.block⟩; have s0 := K0.out.r.cells 0 _ rfl; have s1 := K0.out.r.cells 1 _ rfl; have s2 := K0.out.r.cells 2 _ rfl; have t0 := K0.out.r.live 0 _ rfl; have t1 := K0.out.r.live 1 _ rfl; have t2 := K0.out.r.live 2 _ rfl; clear hb2))
    all_goals (try go_wp2_with fail)
    all_goals
      refine bodyPost_ret (v := .agg #[.int .u64 QB, .int .u8 QF, .bool false]) (results_quot rfl ?_) rfl ⟨by rw [HV.out.1, HV.out.2], ?_⟩
      · exact ((K0.out.r.set 0 _ (by simp)).set 1 _ (by simp)).set 2 _ (by simp)
      · exact ((K0.out.below.setCell (by simp) _).setCell (by simp) _).setCell (by simp) _
  exfalso
  omega
end Go.Proofs.YtcjihaafohnbeaaDoor
