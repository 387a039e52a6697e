import Derived.Test.YtcjihaafohnbeaaDoorRefK
namespace Go.Proofs.YtcjihaafohnbeaaDoor
open Go.RowKit

theorem results_product {tmps : Array Value} {U : World} {g : Nat} {a b c : Value} (h2 : tmps.getD 2 undef = .pointer (some ⟨g, 0, none⟩)) (h : Blk U g [a, b, c]) :
    (results Tryd.f23 tmps).run Tryd.prog U = .ok (.agg #[a, b, c]) U := by
  have c0 := h.cells 0 _ rfl
  have c1 := h.cells 1 _ rfl
  have c2 := h.cells 2 _ rfl
  have h2' : tmps[2]?.getD undef = .pointer (some ⟨g, 0, none⟩) := by simpa using h2
  simp [results, Tryd.results23, go_sem, h2', c0, c1, c2]

set_option maxHeartbeats 8000000 in
set_option maxRecDepth 10000 in
theorem product_walk (x y : Nat) (op m z : Int) (hx : x < 18446744073709551616) (hy : y < 18446744073709551616) (hm : 0 ≤ m ∧ m ≤ 4) (w : World) (hT : Tab w) (B F : Int)
    (h1 : zti (kind x) (kind y) = true → B = 9221120237041090560 ∧ F = 16)
    (h2 : zti (kind x) (kind y) = false → (kind x == 3 || kind y == 3) = true → B = xs x y * 9223372036854775808 + 9218868437227405312 ∧ F = 0)
    (h3 : zti (kind x) (kind y) = false → (kind x == 3 || kind y == 3) = false → (kind x == 0 || kind y == 0) = true → B = xs x y * 9223372036854775808 ∧ F = 0)
    (h4 : zti (kind x) (kind y) = false → (kind x == 3 || kind y == 3) = false → (kind x == 0 || kind y == 0) = false → B = roundB (xs x y) (mant x * mant y) (pow x + pow y) m ∧ F = roundF (xs x y) (mant x * mant y) (pow x + pow y) m) :
    Calls Tryd.prog 23 #[.agg #[.int .u8 op, .int .u8 m, .int .u64 x, .int .u64 y, .int .u64 z]] w fun e w' => e = .returned (.agg #[.int .u64 B, .int .u8 F, .bool false]) ∧ Below w.heap.size w w' := by
  have hxor := xor_sgn x y hx hy
  have HX : Hid (∀ w, Calls Tryd.prog 37 #[.int .u64 x] w fun e w' => e = .returned (.int .u64 ((x : Int) / 9223372036854775808)) ∧ w' = w) := fun w => signOf_any x (by omega) (by omega) w
  have HY : Hid (∀ w, Calls Tryd.prog 37 #[.int .u64 y] w fun e w' => e = .returned (.int .u64 ((y : Int) / 9223372036854775808)) ∧ w' = w) := fun w => signOf_any y (by omega) (by omega) w
  have HK : Hid (∀ w, Calls Tryd.prog 38 #[.agg #[.int .u8 op, .int .u8 m, .int .u64 x, .int .u64 y, .int .u64 z]] w fun e w' => e = .returned (.agg #[.int .i64 (kind x), .int .i64 (kind y)]) ∧ Below w.heap.size w w') := fun w => kindsOf_any x y op m z hx hy w
  have HZ : Hid (∀ w, Calls Tryd.prog 26 #[.agg #[.int .u8 op, .int .u8 m, .int .u64 x, .int .u64 y, .int .u64 z]] w fun e w' => e = .returned (.bool (zti (kind x) (kind y))) ∧ Below w.heap.size w w') := fun w => zti_any x y op m z hx hy w
  have HH3 : Hid (∀ w, Calls Tryd.prog 39 #[.agg #[.int .i64 (kind x), .int .i64 (kind y)], .int .i64 3] w fun e w' => e = .returned (.bool (kind x == 3 || kind y == 3)) ∧ Below w.heap.size w w') := fun w => has_any _ _ _ w
  have HH0 : Hid (∀ w, Calls Tryd.prog 39 #[.agg #[.int .i64 (kind x), .int .i64 (kind y)], .int .i64 0] w fun e w' => e = .returned (.bool (kind x == 0 || kind y == 0)) ∧ Below w.heap.size w w') := fun w => has_any _ _ _ w
  have HEP : Hid (∀ w, Calls Tryd.prog 42 #[.agg #[.int .u8 op, .int .u8 m, .int .u64 x, .int .u64 y, .int .u64 z]] w fun e w' => e = .returned (.agg #[.int .u64 (xs x y), .int .u64 (wd (mant x * mant y) 0), .int .u64 (wd (mant x * mant y) 1), .int .i64 (pow x + pow y)]) ∧ Below w.heap.size w w') := fun w => exactProduct_any x y op m z hx hy w
  have q1 := mant_lt x
  have q2 := mant_lt y
  have q3 := pow_range x
  have q4 := pow_range y
  have hlt : mant x * mant y < 9007199254740992 * 9007199254740992 := Nat.mul_lt_mul'' q1 q2
  have HRD : Hid (∀ w1, Below w.heap.size w w1 → Calls Tryd.prog 41 #[.agg #[.int .u64 (xs x y), .int .u64 (wd (mant x * mant y) 0), .int .u64 (wd (mant x * mant y) 1), .int .i64 (pow x + pow y)], .int .u8 m] w1 fun e w' =>
      e = .returned (.agg #[.int .u64 (roundB (xs x y) (mant x * mant y) (pow x + pow y) m), .int .u8 (roundF (xs x y) (mant x * mant y) (pow x + pow y) m), .bool false]) ∧ Below w1.heap.size w1 w') := fun w1 hb => W2.round_any (xs x y) (mant x * mant y) (pow x + pow y) m (xs_lt x y) (by omega) hm (by omega) w1 (hT.later hb)
  have HS : Hid ((xs x y : Int) = 0 ∨ (xs x y : Int) = 1) := (by have := xs_lt x y; omega : (xs x y : Int) = 0 ∨ (xs x y : Int) = 1)
  have H1 : Hid (zti (kind x) (kind y) = true → B = 9221120237041090560 ∧ F = 16) := h1
  have H2 : Hid (zti (kind x) (kind y) = false → (kind x == 3 || kind y == 3) = true → B = xs x y * 9223372036854775808 + 9218868437227405312 ∧ F = 0) := h2
  have H3 : Hid (zti (kind x) (kind y) = false → (kind x == 3 || kind y == 3) = false → (kind x == 0 || kind y == 0) = true → B = xs x y * 9223372036854775808 ∧ F = 0) := h3
  have H4 : Hid (zti (kind x) (kind y) = false → (kind x == 3 || kind y == 3) = false → (kind x == 0 || kind y == 0) = false → B = roundB (xs x y) (mant x * mant y) (pow x + pow y) m ∧ F = roundF (xs x y) (mant x * mant y) (pow x + pow y) m) := h4
  clear h1 h2 h3 h4 q1 q2 q3 q4 hlt hx hy hm hT
  generalize roundB (xs x y) (mant x * mant y) (pow x + pow y) m = QB at *
  generalize roundF (xs x y) (mant x * mant y) (pow x + pow y) m = QF at *
  generalize wd (mant x * mant y) 0 = R0 at *
  generalize wd (mant x * mant y) 1 = R1 at *
  generalize pow x + pow y = PP at *
  generalize (xs x y : Int) = S at *
  generalize zti (kind x) (kind y) = bz at *
  generalize (kind x == 3 || kind y == 3) = b3 at *
  generalize (kind x == 0 || kind y == 0) = b0 at *
  generalize kind x = KX at *
  generalize kind y = KY at *
  generalize (x : Int) / 9223372036854775808 = sx at *
  generalize (y : Int) / 9223372036854775808 = sy at *
  go_enter Tryd.func23, Tryd.ntmps23
  go_wp2_with fail
  go_quiet (first | (go_at_call_of 37 (Value.int .u64 (x : Int)); exact Calls.quiet_of_same (HX.out _)) | (go_at_call_of 37 (Value.int .u64 (y : Int)); exact Calls.quiet_of_same (HY.out _)))
  go_wp2_with fail
  refine (HK.out _).mono ?_
  rintro e w1 ⟨rfl, hb1⟩
  have K1 : Hid (Rows2 w w1 [.int .u8 op, .int .u8 m, .int .u64 x, .int .u64 y, .int .u64 z] [.int .u64 0, .int .u8 0, .bool false]) := (Rows2.start w _ _ _ _ (by simp) (by simp)).below' (B := w.heap.size + 2) ((below_drewN (Below.refl _ _) _).trans (hb1.mono (by simp))) (Nat.le_refl _)
  clear hb1
  have c0 := K1.out.x.cells 0 _ rfl
  have c1 := K1.out.x.cells 1 _ rfl
  have c2 := K1.out.x.cells 2 _ rfl
  have c3 := K1.out.x.cells 3 _ rfl
  have c4 := K1.out.x.cells 4 _ rfl
  have r0 := K1.out.r.cells 0 _ rfl
  have r1 := K1.out.r.cells 1 _ rfl
  have r2 := K1.out.r.cells 2 _ rfl
  have f0 := K1.out.r.live 0 _ rfl
  have f1 := K1.out.r.live 1 _ rfl
  have f2 := K1.out.r.live 2 _ rfl
  have z1 := K1.out.size
  have z0 : w.heap.size < _ := K1.out.x.lt
  go_wp2_with fail
  refine (HZ.out _).mono ?_
  rintro e w2 ⟨rfl, hb2⟩
  have K2 : Hid (Rows2 w w2 [.int .u8 op, .int .u8 m, .int .u64 x, .int .u64 y, .int .u64 z] [.int .u64 0, .int .u8 0, .bool false]) := K1.out.below' (B := w1.heap.size) (((Below.refl _ _).alloc (Nat.le_refl _) _).trans (hb2.mono (by simp))) (by have := K1.out.size; omega)
  have P2 : Hid (Blk w2 w1.heap.size [.int .i64 KX, .int .i64 KY]) := (Blk.new _ _ _ (by simp)).below hb2 (by simp)
  have l1 := K1.out.size
  clear hb2 c0 c1 c2 c3 c4 r0 r1 r2 f0 f1 f2 z1 z0 K1
  have c0 := K2.out.x.cells 0 _ rfl
  have c1 := K2.out.x.cells 1 _ rfl
  have c2 := K2.out.x.cells 2 _ rfl
  have c3 := K2.out.x.cells 3 _ rfl
  have c4 := K2.out.x.cells 4 _ rfl
  have r0 := K2.out.r.cells 0 _ rfl
  have r1 := K2.out.r.cells 1 _ rfl
  have r2 := K2.out.r.cells 2 _ rfl
  have f0 := K2.out.r.live 0 _ rfl
  have f1 := K2.out.r.live 1 _ rfl
  have f2 := K2.out.r.live 2 _ rfl
  have z1 := K2.out.size
  have z0 : w.heap.size < _ := K2.out.x.lt
  have p0 := P2.out.cells 0 _ rfl
  have p1 := P2.out.cells 1 _ rfl
  cases bz
  rotate_left
  · have HV : Hid (B = 9221120237041090560 ∧ F = 16) := (by have h := H1.out; simpa using h : B = 9221120237041090560 ∧ F = 16)
    clear H1 H2 H3 H4
    go_wp2_with fail
    refine (wrong_any _).mono ?_
    rintro e w3 ⟨rfl, hb3⟩
    have K3 : Hid (Rows2 w w3 [.int .u8 op, .int .u8 m, .int .u64 x, .int .u64 y, .int .u64 z] [.int .u64 0, .int .u8 0, .bool false]) := K2.out.later hb3
    clear hb3 c0 c1 c2 c3 c4 r0 r1 r2 f0 f1 f2 z1 z0 p0 p1
    have c0 := K3.out.x.cells 0 _ rfl
    have c1 := K3.out.x.cells 1 _ rfl
    have c2 := K3.out.x.cells 2 _ rfl
    have c3 := K3.out.x.cells 3 _ rfl
    have c4 := K3.out.x.cells 4 _ rfl
    have r0 := K3.out.r.cells 0 _ rfl
    have r1 := K3.out.r.cells 1 _ rfl
    have r2 := K3.out.r.cells 2 _ rfl
    have f0 := K3.out.r.live 0 _ rfl
    have f1 := K3.out.r.live 1 _ rfl
    have f2 := K3.out.r.live 2 _ rfl
    have z1 := K3.out.size
    have z0 : w.heap.size < _ := K3.out.x.lt
    go_wp2_with fail
    go_light
    refine bodyPost_ret (v := .agg #[.int .u64 9221120237041090560, .int .u8 16, .bool false]) (results_product rfl (((K3.out.r.set 0 _ (by simp)).set 1 _ (by simp)).set 2 _ (by simp))) rfl ⟨by rw [HV.out.1, HV.out.2], ?_⟩
    exact ((K3.out.below.setCell (by simp) _).setCell (by simp) _).setCell (by simp) _
  go_wp2_with fail
  refine (HH3.out _).mono ?_
  rintro e w3 ⟨rfl, hb3⟩
  have K3 : Hid (Rows2 w w3 [.int .u8 op, .int .u8 m, .int .u64 x, .int .u64 y, .int .u64 z] [.int .u64 0, .int .u8 0, .bool false]) := K2.out.later hb3
  have P3 : Hid (Blk w3 w1.heap.size [.int .i64 KX, .int .i64 KY]) := P2.out.later hb3
  clear hb3 c0 c1 c2 c3 c4 r0 r1 r2 f0 f1 f2 z1 z0 p0 p1 K2 P2
  have c0 := K3.out.x.cells 0 _ rfl
  have c1 := K3.out.x.cells 1 _ rfl
  have c2 := K3.out.x.cells 2 _ rfl
  have c3 := K3.out.x.cells 3 _ rfl
  have c4 := K3.out.x.cells 4 _ rfl
  have r0 := K3.out.r.cells 0 _ rfl
  have r1 := K3.out.r.cells 1 _ rfl
  have r2 := K3.out.r.cells 2 _ rfl
  have f0 := K3.out.r.live 0 _ rfl
  have f1 := K3.out.r.live 1 _ rfl
  have f2 := K3.out.r.live 2 _ rfl
  have z1 := K3.out.size
  have z0 : w.heap.size < _ := K3.out.x.lt
  have p0 := P3.out.cells 0 _ rfl
  have p1 := P3.out.cells 1 _ rfl
  cases b3
  rotate_left
  · have HV : Hid (B = S * 9223372036854775808 + 9218868437227405312 ∧ F = 0) := (by have h := H2.out; simpa using h : B = S * 9223372036854775808 + 9218868437227405312 ∧ F = 0)
    clear H1 H2 H3 H4
    go_wp2_with (go_at_call 40; refine (signed_any _ _ HS.out (by omega) _).mono ?_; rintro e w' ⟨rfl, rfl⟩)
    go_light
    refine bodyPost_ret (v := .agg #[.int .u64 (S * 9223372036854775808 + 9218868437227405312), .int .u8 0, .bool false]) (results_product rfl (((K3.out.r.set 0 _ (by simp)).set 1 _ (by simp)).set 2 _ (by simp))) rfl ⟨by rw [HV.out.1, HV.out.2], ?_⟩
    exact ((K3.out.below.setCell (by simp) _).setCell (by simp) _).setCell (by simp) _
  go_wp2_with fail
  refine (HH0.out _).mono ?_
  rintro e w4 ⟨rfl, hb4⟩
  have K4 : Hid (Rows2 w w4 [.int .u8 op, .int .u8 m, .int .u64 x, .int .u64 y, .int .u64 z] [.int .u64 0, .int .u8 0, .bool false]) := K3.out.later hb4
  clear hb4 c0 c1 c2 c3 c4 r0 r1 r2 f0 f1 f2 z1 z0 p0 p1 K3 P3
  have c0 := K4.out.x.cells 0 _ rfl
  have c1 := K4.out.x.cells 1 _ rfl
  have c2 := K4.out.x.cells 2 _ rfl
  have c3 := K4.out.x.cells 3 _ rfl
  have c4 := K4.out.x.cells 4 _ rfl
  have r0 := K4.out.r.cells 0 _ rfl
  have r1 := K4.out.r.cells 1 _ rfl
  have r2 := K4.out.r.cells 2 _ rfl
  have f0 := K4.out.r.live 0 _ rfl
  have f1 := K4.out.r.live 1 _ rfl
  have f2 := K4.out.r.live 2 _ rfl
  have z1 := K4.out.size
  have z0 : w.heap.size < _ := K4.out.x.lt
  cases b0
  rotate_left
  · have HV : Hid (B = S * 9223372036854775808 ∧ F = 0) := (by have h := H3.out; simpa using h : B = S * 9223372036854775808 ∧ F = 0)
    clear H1 H2 H3 H4
    go_wp2_with (go_at_call 40; refine (signed_any _ _ HS.out (by omega) _).mono ?_; rintro e w' ⟨rfl, rfl⟩)
    go_light
    refine bodyPost_ret (v := .agg #[.int .u64 (S * 9223372036854775808), .int .u8 0, .bool false]) (results_product rfl (((K4.out.r.set 0 _ (by simp)).set 1 _ (by simp)).set 2 _ (by simp))) rfl ⟨by rw [HV.out.1, HV.out.2], ?_⟩
    exact ((K4.out.below.setCell (by simp) _).setCell (by simp) _).setCell (by simp) _
  · have HV : Hid (B = QB ∧ F = QF) := (by have h := H4.out; simpa using h : B = QB ∧ F = QF)
    clear H1 H2 H3 H4
    go_wp2_with fail
    go_region_held3 (fun w' => w'.cell? ⟨w.heap.size, 0, none⟩ = some (.int .u8 op) ∧ w'.cell? ⟨w.heap.size, 1, none⟩ = some (.int .u8 m) ∧ w'.cell? ⟨w.heap.size, 2, none⟩ = some (.int .u64 x) ∧ w'.cell? ⟨w.heap.size, 3, none⟩ = some (.int .u64 y) ∧ w'.cell? ⟨w.heap.size, 4, none⟩ = some (.int .u64 z))
      (first | (go_keep; done) | (rw [cellSet3 _ _ _ _ _ _ (by simp), cellSet3 _ _ _ _ _ _ (by simp), cellSet3 _ _ _ _ _ _ (by simp), cellSet3 _ _ _ _ _ _ (by simp), cellSet3 _ _ _ _ _ _ (by simp)]; exact ⟨K5.out.x.cells 0 _ rfl, K5.out.x.cells 1 _ rfl, K5.out.x.cells 2 _ rfl, K5.out.x.cells 3 _ rfl, K5.out.x.cells 4 _ rfl⟩) | exact ⟨K5.out.x.cells 0 _ rfl, K5.out.x.cells 1 _ rfl, K5.out.x.cells 2 _ rfl, K5.out.x.cells 3 _ rfl, K5.out.x.cells 4 _ rfl⟩)
      (first | (go_at_call 42; refine (HEP.out _).mono ?_; rintro e w' ⟨rfl, hb⟩; have K5 : Hid (Rows2 w w' [.int .u8 op, .int .u8 m, .int .u64 x, .int .u64 y, .int .u64 z] [.int .u64 0, .int .u8 0, .bool false]) := K4.out.later ⟨hb.os, hb.tape, hb.output, hb.size, hb.block⟩) | (go_at_call 41; refine (HRD.out _ K5.out.below).mono ?_; rintro e w2 ⟨rfl, hb2⟩; have K5 : Hid (Rows2 w w2 [.int .u8 op, .int .u8 m, .int .u64 x, .int .u64 y, .int .u64 z] [.int .u64 0, .int .u8 0, .bool false]) := K5.out.later ⟨hb2.os, hb2.tape, hb2.output, hb2.size, hb2.block⟩; have s0 := K5.out.r.cells 0 _ rfl; have s1 := K5.out.r.cells 1 _ rfl; have s2 := K5.out.r.cells 2 _ rfl; have t0 := K5.out.r.live 0 _ rfl; have t1 := K5.out.r.live 1 _ rfl; have t2 := K5.out.r.live 2 _ rfl))
    all_goals (try go_wp2_with fail)
    all_goals
      refine bodyPost_ret (v := .agg #[.int .u64 QB, .int .u8 QF, .bool false]) (results_product rfl ?_) rfl ⟨by rw [HV.out.1, HV.out.2], ?_⟩
      · exact ((K5.out.r.set 0 _ (by simp)).set 1 _ (by simp)).set 2 _ (by simp)
      · exact ((K5.out.below.setCell (by simp) _).setCell (by simp) _).setCell (by simp) _

theorem kind_nat (x : Nat) : kind x = 0 ∨ kind x = 1 ∨ kind x = 2 ∨ kind x = 3 ∨ kind x = 4 ∨ kind x = 5 := by have := kind_range x; omega
theorem soft_product (x y : Nat) (op m z : Int) (hx : x < 18446744073709551616) (hy : y < 18446744073709551616) (hm : 0 ≤ m ∧ m ≤ 4) (w : World) (hT : Tab w) :
    Calls Tryd.prog 23 #[.agg #[.int .u8 op, .int .u8 m, .int .u64 x, .int .u64 y, .int .u64 z]] w fun e w' => e = .returned (.agg #[.int .u64 (prodB x y m), .int .u8 (prodF x y m), .bool false]) ∧ Below w.heap.size w w' := by
  refine product_walk x y op m z hx hy hm w hT _ _ (fun h => ?_) (fun h g => ?_) (fun h g k => ?_) (fun h g k => ?_)
  all_goals simp only [zti, Bool.or_eq_true, Bool.and_eq_true, Bool.or_eq_false_iff, Bool.and_eq_false_iff, beq_iff_eq, beq_eq_false_iff_ne, ne_eq] at *
  · have h1 : (kind x = 3 ∨ kind y = 3) ∧ (kind x = 0 ∨ kind y = 0) := by omega
    unfold prodB prodF; rw [if_pos h1, if_pos h1]; exact ⟨rfl, rfl⟩
  · have h1 : ¬ ((kind x = 3 ∨ kind y = 3) ∧ (kind x = 0 ∨ kind y = 0)) := by omega
    unfold prodB prodF; rw [if_neg h1, if_neg h1, if_pos g, if_pos g]; exact ⟨rfl, rfl⟩
  · have h1 : ¬ ((kind x = 3 ∨ kind y = 3) ∧ (kind x = 0 ∨ kind y = 0)) := by omega
    have h2 : ¬ (kind x = 3 ∨ kind y = 3) := by omega
    unfold prodB prodF; rw [if_neg h1, if_neg h1, if_neg h2, if_neg h2, if_pos k, if_pos k]; exact ⟨rfl, rfl⟩
  · have h1 : ¬ ((kind x = 3 ∨ kind y = 3) ∧ (kind x = 0 ∨ kind y = 0)) := by omega
    have h2 : ¬ (kind x = 3 ∨ kind y = 3) := by omega
    have h3 : ¬ (kind x = 0 ∨ kind y = 0) := by omega
    unfold prodB prodF; rw [if_neg h1, if_neg h1, if_neg h2, if_neg h2, if_neg h3, if_neg h3]; exact ⟨rfl, rfl⟩
end Go.Proofs.YtcjihaafohnbeaaDoor
