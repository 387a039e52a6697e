import Derived.Test.YtcjihaafohnbeaaDoorRtB
import Derived.Test.YtcjihaafohnbeaaDoorRefT
namespace Go.Proofs.YtcjihaafohnbeaaDoor
open Go.RowKit

theorem mant_bl (x : Nat) : Go.bitLen (mant x) ≤ 53 := bitLen_le (n := 53) (mant_lt x)
theorem mantL {d below : Int} (x : Nat) (hd : 2 ≤ d ∧ d ≤ 3) : 0 ≤ rtL d below (mant x) (pow x) := by
  have h1 := liftN_le (d := d) (p := pow x + below) (r := 256 - (Go.bitLen (mant x) : Int)) (by omega)
  have h2 := mant_bl x
  unfold rtL
  omega
theorem kind0_bits {x : Nat} (_hx : x < 18446744073709551616) (h : kind x = 0) : (x : Int) = sgn x * 9223372036854775808 := by
  have : (x : Int) % 9223372036854775808 = 0 := by
    unfold kind kindB at h
    by_cases c : (x : Int) / 4503599627370496 % 2048 = 0 ∧ (x : Int) % 4503599627370496 = 0
    · omega
    · rw [if_neg c] at h
      exfalso
      revert h
      (repeat' split) <;> decide
  unfold sgn
  omega

theorem results_sq {tmps : Array Value} {U : World} {g : Nat} {a b c : Value} (h2 : tmps.getD 2 undef = .pointer (some ⟨g, 0, none⟩)) (h : Blk U g [a, b, c]) :
    (results Tryd.f27 tmps).run Tryd.prog U = .ok (.agg #[a, b, c]) U := by
  have c0 := h.cells 0 _ rfl
  have c1 := h.cells 1 _ rfl
  have c2 := h.cells 2 _ rfl
  have h2' : tmps[2]?.getD undef = .pointer (some ⟨g, 0, none⟩) := by simpa using h2
  simp [results, Tryd.results27, go_sem, h2', c0, c1, c2]

theorem results_rq {tmps : Array Value} {U : World} {g : Nat} {a b c : Value} (h2 : tmps.getD 2 undef = .pointer (some ⟨g, 0, none⟩)) (h : Blk U g [a, b, c]) :
    (results Tryd.f28 tmps).run Tryd.prog U = .ok (.agg #[a, b, c]) U := by
  have c0 := h.cells 0 _ rfl
  have c1 := h.cells 1 _ rfl
  have c2 := h.cells 2 _ rfl
  have h2' : tmps[2]?.getD undef = .pointer (some ⟨g, 0, none⟩) := by simpa using h2
  simp [results, Tryd.results28, go_sem, h2', c0, c1, c2]

theorem results_cb {tmps : Array Value} {U : World} {g : Nat} {a b c : Value} (h2 : tmps.getD 2 undef = .pointer (some ⟨g, 0, none⟩)) (h : Blk U g [a, b, c]) :
    (results Tryd.f29 tmps).run Tryd.prog U = .ok (.agg #[a, b, c]) U := by
  have c0 := h.cells 0 _ rfl
  have c1 := h.cells 1 _ rfl
  have c2 := h.cells 2 _ rfl
  have h2' : tmps[2]?.getD undef = .pointer (some ⟨g, 0, none⟩) := by simpa using h2
  simp [results, Tryd.results29, go_sem, h2', c0, c1, c2]

set_option maxHeartbeats 8000000 in
set_option maxRecDepth 10000 in
theorem soft_sq (x : Nat) (op m y z : Int) (hx : x < 18446744073709551616) (hm : 0 ≤ m ∧ m ≤ 4) (w : World) (hT : Tab w) :
    Calls Tryd.prog 27 #[.agg #[.int .u8 op, .int .u8 m, .int .u64 x, .int .u64 y, .int .u64 z]] w fun e w' => e = .returned (.agg #[.int .u64 (sqB x m), .int .u8 (sqF x m), .bool false]) ∧ Below w.heap.size w w' := by
  have HX : Hid (∀ w, Calls Tryd.prog 37 #[.int .u64 x] w fun e w' => e = .returned (.int .u64 (sgn x : Nat)) ∧ w' = w) := fun w => by
    have h := signOf_any x (by omega) (by omega) w
    rw [show (x : Int) / 9223372036854775808 = ((sgn x : Nat) : Int) by unfold sgn; omega] at h
    exact h
  have HK : Hid (∀ w, Calls Tryd.prog 33 #[.int .u64 x] w fun e w' => e = .returned (.int .i64 (kind x)) ∧ w' = w) := fun w => kindOf_any x (by omega) (by omega) w
  have HE : Hid (∀ w, Calls Tryd.prog 36 #[.int .u64 x] w fun e w' => e = .returned (.agg #[.int .u64 (sgn x : Nat), .int .u64 (wd (mant x) 0 : Nat), .int .u64 (wd (mant x) 1 : Nat), .int .i64 (pow x)]) ∧ Below w.heap.size w w') := fun w => exactly_any x hx w
  have HWI : Hid (∀ w, Calls Tryd.prog 45 #[.agg #[.int .u64 (sgn x : Nat), .int .u64 (wd (mant x) 0 : Nat), .int .u64 (wd (mant x) 1 : Nat), .int .i64 (pow x)]] w fun e w' => e = .returned (.agg #[.int .u64 (sgn x : Nat), .int .u64 (wd (mant x) 0 : Nat), .int .u64 (wd (mant x) 1 : Nat), .int .u64 (wd (mant x) 2 : Nat), .int .u64 (wd (mant x) 3 : Nat), .int .i64 (pow x)]) ∧ Below w.heap.size w w') := fun w => wider_any (sgn x) (mant x) (pow x) (by have := mant_lt x; omega) w
  have qx := pow_range x
  have lx := mant_lt x
  have sx := sgn_lt hx
  have HER : Hid (¬ kind x = 0 → sgn x = 0 → ∀ w1, Calls Tryd.prog 46 #[.agg #[.int .u64 (sgn x : Nat), .int .u64 (wd (mant x) 0 : Nat), .int .u64 (wd (mant x) 1 : Nat), .int .u64 (wd (mant x) 2 : Nat), .int .u64 (wd (mant x) 3 : Nat), .int .i64 (pow x)], .int .i64 2] w1 fun e w' => ∃ O : Nat, Hid (∀ w2, Below w.heap.size w w2 → Calls Tryd.prog 41 #[.agg #[.int .u64 (sgn x : Nat), .int .u64 (O : Nat), .int .u64 0, .int .i64 (rtP 2 128 (mant x) (pow x))], .int .u8 m] w2 fun e w' => e = .returned (.agg #[.int .u64 (roundB 0 (sqD (mant x) (pow x)) (sqP (pow x)) m), .int .u8 (roundF 0 (sqD (mant x) (pow x)) (sqP (pow x)) m), .bool false]) ∧ Below w2.heap.size w2 w') ∧ e = .returned (.agg #[.int .u64 (sgn x : Nat), .int .u64 (O : Nat), .int .u64 0, .int .i64 (rtP 2 128 (mant x) (pow x))]) ∧ Below w1.heap.size w1 w') := fun hk hs w1 => by
    have h0 := mant_some hx hk
    have hL := mantL (d := 2) (below := 128) x (by decide)
    refine (exactRoot2 (sgn x) (mant x) (pow x) h0 (by omega) hL (by omega) w1).mono ?_
    rintro e w' ⟨W, g1, g2, g3, rfl, hb⟩
    refine ⟨_, fun w2 hb2 => ?_, rfl, hb⟩
    obtain ⟨r1, r2⟩ := sq_round (s := 0) (m := m) h0 hL g2 g3
    have hO := odd_lt (decide (pw2 W = rtG 2 128 (mant x) (pow x))) g1
    have ow := one_word hO
    have hLr := rtL_range (d := 2) (below := 128) (p := pow x) (by decide) h0 (by omega : mant x < 18446744073709551616 ^ 4)
    have := W2.round_any (sgn x) (odd W (decide (pw2 W = rtG 2 128 (mant x) (pow x)))) (rtP 2 128 (mant x) (pow x)) m (by omega) (by omega) hm (by unfold rtP; omega) w2 (hT.later hb2)
    rw [ow.1, ow.2, hs] at this
    rw [r1, r2, hs]
    exact this
  have HPB : Hid (sqB x m = (if kind x = 0 then (x : Int) else if sgn x = 1 then 9221120237041090560 else if kind x = 3 then (x : Int) else roundB 0 (sqD (mant x) (pow x)) (sqP (pow x)) m)) := rfl
  have HPF : Hid (sqF x m = (if kind x = 0 then 0 else if sgn x = 1 then 16 else if kind x = 3 then 0 else roundF 0 (sqD (mant x) (pow x)) (sqP (pow x)) m)) := rfl
  have HB0 : Hid (kind x = 0 → (x : Int) = (sgn x : Nat) * 9223372036854775808) := kind0_bits hx
  have HS : Hid (((sgn x : Nat) : Int) = 0 ∨ ((sgn x : Nat) : Int) = 1) := (by omega : ((sgn x : Nat) : Int) = 0 ∨ ((sgn x : Nat) : Int) = 1)
  clear hx hm hT qx lx
  generalize sqB x m = B at *
  generalize sqF x m = F at *
  generalize roundB 0 (sqD (mant x) (pow x)) (sqP (pow x)) m = RB at *
  generalize roundF 0 (sqD (mant x) (pow x)) (sqP (pow x)) m = RF at *
  generalize rtP 2 128 (mant x) (pow x) = PP at *
  generalize wd (mant x) 0 = a0 at *
  generalize wd (mant x) 1 = a1 at *
  generalize wd (mant x) 2 = a2 at *
  generalize wd (mant x) 3 = a3 at *
  generalize pow x = px at *
  generalize kind (x : Int) = KX at *
  generalize sgn x = s at *
  have K0 : Hid (Rows2 w ((w.alloc (.cells #[.int .u8 op, .int .u8 m, .int .u64 x, .int .u64 y, .int .u64 z] 36)).alloc (.cells #[.int .u64 0, .int .u8 0, .bool false] 33)) [.int .u8 op, .int .u8 m, .int .u64 x, .int .u64 y, .int .u64 z] [.int .u64 0, .int .u8 0, .bool false]) := Rows2.start w _ _ _ _ (by simp) (by simp)
  by_cases c0 : KX = 0
  · have HV : Hid (B = (x : Int) ∧ F = 0) := ⟨by rw [HPB.out, if_pos c0], by rw [HPF.out, if_pos c0]⟩
    have k3 : (KX == 3) = false := by rw [beq_eq_false_iff_ne]; omega
    have k0 : (KX == 0) = true := by rw [beq_iff_eq]; omega
    have k0' : (KX != 0) = false := by rw [bne_eq_false_iff_eq]; omega
    clear c0 HPB HPF HER sx
    go_enter Tryd.func27, Tryd.ntmps27
    go_wp2_with (first | (go_at_call 33; refine (HK.out _).mono ?_; rintro e w' ⟨rfl, rfl⟩) | (go_at_call 37; refine (HX.out _).mono ?_; rintro e w' ⟨rfl, rfl⟩) | (go_at_call 40; refine (signed_any _ _ HS.out (by omega) _).mono ?_; rintro e w' ⟨rfl, rfl⟩))
    go_light
    refine bodyPost_ret (v := .agg #[.int .u64 ((x : Int)), .int .u8 0, .bool false]) (by simp [results, Tryd.results27, go_sem]) rfl ⟨by rw [HV.out.1, HV.out.2], ?_⟩
    repeat (with_reducible first | exact Below.refl _ _ | refine Below.alloc ?_ (by first | (simp; done) | (simp; omega)) _ | refine Below.setCell ?_ (by simp) _ | refine Below.drew ?_)
    all_goals (try exact below_drewN (((Below.refl _ _).alloc (Nat.le_refl _) _).alloc (by simp) _) _)
  by_cases c1 : KX ≠ 0 ∧ s = 1
  · have HV : Hid (B = 9221120237041090560 ∧ F = 16) := ⟨by rw [HPB.out, if_neg c1.1, if_pos c1.2], by rw [HPF.out, if_neg c1.1, if_pos c1.2]⟩
    have k0 : (KX == 0) = false := by rw [beq_eq_false_iff_ne]; omega
    have k0' : (KX != 0) = true := by rw [bne_iff_ne]; omega
    have k1 : (((s : Nat) : Int) == 1) = true := by rw [beq_iff_eq]; omega
    clear c0 c1 HPB HPF HER sx
    go_enter Tryd.func27, Tryd.ntmps27
    go_wp2_with (first | (go_at_call 33; refine (HK.out _).mono ?_; rintro e w' ⟨rfl, rfl⟩) | (go_at_call 37; refine (HX.out _).mono ?_; rintro e w' ⟨rfl, rfl⟩) | (go_at_call 40; refine (signed_any _ _ HS.out (by omega) _).mono ?_; rintro e w' ⟨rfl, rfl⟩))
    refine (wrong_any _).mono ?_
    rintro e w1 ⟨rfl, hb1⟩
    have K1 : Hid (Rows2 w w1 [.int .u8 op, .int .u8 m, .int .u64 x, .int .u64 y, .int .u64 z] [.int .u64 0, .int .u8 0, .bool false]) := K0.out.later hb1
    clear hb1 K0
    have c0 := K1.out.x.cells 0 _ rfl
    have c1 := K1.out.x.cells 1 _ rfl
    have c2 := K1.out.x.cells 2 _ rfl
    have c3 := K1.out.x.cells 3 _ rfl
    have c4 := K1.out.x.cells 4 _ rfl
    have r0 := K1.out.r.cells 0 _ rfl
    have r1 := K1.out.r.cells 1 _ rfl
    have r2 := K1.out.r.cells 2 _ rfl
    have f0 := K1.out.r.live 0 _ rfl
    have f1 := K1.out.r.live 1 _ rfl
    have f2 := K1.out.r.live 2 _ rfl
    have z1 := K1.out.size
    have z0 : w.heap.size < _ := K1.out.x.lt
    go_wp2_with fail
    go_light
    refine bodyPost_ret (v := .agg #[.int .u64 9221120237041090560, .int .u8 16, .bool false]) (results_sq rfl (((K1.out.r.set 0 _ (by simp)).set 1 _ (by simp)).set 2 _ (by simp))) rfl ⟨by rw [HV.out.1, HV.out.2], ?_⟩
    exact ((K1.out.below.setCell (by simp) _).setCell (by simp) _).setCell (by simp) _
  by_cases c2 : KX = 3 ∧ s ≠ 1
  · have HV : Hid (B = (x : Int) ∧ F = 0) := ⟨by rw [HPB.out, if_neg (by omega), if_neg c2.2, if_pos c2.1], by rw [HPF.out, if_neg (by omega), if_neg c2.2, if_pos c2.1]⟩
    have k3 : (KX == 3) = true := by rw [beq_iff_eq]; omega
    have k0 : (KX == 0) = false := by rw [beq_eq_false_iff_ne]; omega
    have k0' : (KX != 0) = true := by rw [bne_iff_ne]; omega
    have k1 : (((s : Nat) : Int) == 1) = false := by rw [beq_eq_false_iff_ne]; omega
    clear c0 c1 c2 HPB HPF HER sx
    go_enter Tryd.func27, Tryd.ntmps27
    go_wp2_with (first | (go_at_call 33; refine (HK.out _).mono ?_; rintro e w' ⟨rfl, rfl⟩) | (go_at_call 37; refine (HX.out _).mono ?_; rintro e w' ⟨rfl, rfl⟩) | (go_at_call 40; refine (signed_any _ _ HS.out (by omega) _).mono ?_; rintro e w' ⟨rfl, rfl⟩))
    go_light
    refine bodyPost_ret (v := .agg #[.int .u64 ((x : Int)), .int .u8 0, .bool false]) (by simp [results, Tryd.results27, go_sem]) rfl ⟨by rw [HV.out.1, HV.out.2], ?_⟩
    repeat (with_reducible first | exact Below.refl _ _ | refine Below.alloc ?_ (by first | (simp; done) | (simp; omega)) _ | refine Below.setCell ?_ (by simp) _ | refine Below.drew ?_)
    all_goals (try exact below_drewN (((Below.refl _ _).alloc (Nat.le_refl _) _).alloc (by simp) _) _)
  by_cases c3 : KX ≠ 0 ∧ KX ≠ 3 ∧ s ≠ 1
  · have HV : Hid (B = RB ∧ F = RF) := ⟨by rw [HPB.out, if_neg c3.1, if_neg c3.2.2, if_neg c3.2.1], by rw [HPF.out, if_neg c3.1, if_neg c3.2.2, if_neg c3.2.1]⟩
    have k3 : (KX == 3) = false := by rw [beq_eq_false_iff_ne]; omega
    have k0 : (KX == 0) = false := by rw [beq_eq_false_iff_ne]; omega
    have k0' : (KX != 0) = true := by rw [bne_iff_ne]; omega
    have k1 : (((s : Nat) : Int) == 1) = false := by rw [beq_eq_false_iff_ne]; omega
    have HERX := HER.out c3.1 (by omega)
    have HERY : Hid (_) := HERX
    clear HERX
    clear c0 c1 c2 c3 HPB HPF HER sx
    go_enter Tryd.func27, Tryd.ntmps27
    go_wp2_with (first | (go_at_call 33; refine (HK.out _).mono ?_; rintro e w' ⟨rfl, rfl⟩) | (go_at_call 37; refine (HX.out _).mono ?_; rintro e w' ⟨rfl, rfl⟩) | (go_at_call 40; refine (signed_any _ _ HS.out (by omega) _).mono ?_; rintro e w' ⟨rfl, rfl⟩))
    go_region_held3 (fun w' => w'.cell? ⟨w.heap.size, 1, none⟩ = some (.int .u8 m) ∧ w'.cell? ⟨w.heap.size, 2, none⟩ = some (.int .u64 x))
      (first | (with_reducible exact ⟨xK4, yK4⟩) | (with_reducible exact ⟨xK3, yK3⟩) | (with_reducible exact ⟨xK2, yK2⟩) | (with_reducible exact ⟨xK1, yK1⟩) | (rw [cellSet3 _ _ _ _ _ _ (by simp), cellSet3 _ _ _ _ _ _ (by simp)]; exact ⟨xK4, yK4⟩) | (go_keep; done))
      (first | (go_at_call 36; refine (HE.out _).mono ?_; rintro e w' ⟨rfl, hb⟩; have K1 : Hid (Rows2 w w' [.int .u8 op, .int .u8 m, .int .u64 x, .int .u64 y, .int .u64 z] [.int .u64 0, .int .u8 0, .bool false]) := Rows2.later (by repeat (with_reducible first | exact K0.out | refine Rows2.drew ?_ | exact K0.out.below' (below_drewN (Below.refl (w.heap.size + 2) _) _) (Nat.le_refl _))) hb; have xK1 := K1.out.x.cells 1 _ rfl; have yK1 := K1.out.x.cells 2 _ rfl; clear hb) | (go_at_call 45; refine (HWI.out _).mono ?_; rintro e w' ⟨rfl, hb⟩; have K2 : Hid (Rows2 w w' [.int .u8 op, .int .u8 m, .int .u64 x, .int .u64 y, .int .u64 z] [.int .u64 0, .int .u8 0, .bool false]) := Rows2.later (by repeat (with_reducible first | exact K1.out | refine Rows2.drew ?_)) hb; have xK2 := K2.out.x.cells 1 _ rfl; have yK2 := K2.out.x.cells 2 _ rfl; clear hb) | (go_at_call 46; refine (HERY.out _).mono ?_; rintro e w' ⟨O, HR, rfl, hb⟩; have K3 : Hid (Rows2 w w' [.int .u8 op, .int .u8 m, .int .u64 x, .int .u64 y, .int .u64 z] [.int .u64 0, .int .u8 0, .bool false]) := Rows2.later (by repeat (with_reducible first | exact K2.out | refine Rows2.drew ?_)) hb; have xK3 := K3.out.x.cells 1 _ rfl; have yK3 := K3.out.x.cells 2 _ rfl; clear hb) | (go_at_call 41; refine (HR.out _ (by exact Rows2.below (xs := [.int .u8 op, .int .u8 m, .int .u64 x, .int .u64 y, .int .u64 z]) (rs := [.int .u64 0, .int .u8 0, .bool false]) (by repeat (with_reducible first | exact K3.out | refine Rows2.drew ?_)))).mono ?_; rintro e w' ⟨rfl, hb⟩; have K4 : Hid (Rows2 w w' [.int .u8 op, .int .u8 m, .int .u64 x, .int .u64 y, .int .u64 z] [.int .u64 0, .int .u8 0, .bool false]) := Rows2.later (by repeat (with_reducible first | exact K3.out | refine Rows2.drew ?_)) hb; have xK4 := K4.out.x.cells 1 _ rfl; have yK4 := K4.out.x.cells 2 _ rfl; have s0 := K4.out.r.cells 0 _ rfl; have t0 := K4.out.r.live 0 _ rfl; have s1 := K4.out.r.cells 1 _ rfl; have t1 := K4.out.r.live 1 _ rfl; have s2 := K4.out.r.cells 2 _ rfl; have t2 := K4.out.r.live 2 _ rfl; clear hb))
    all_goals (try go_wp2_with fail)
    all_goals go_light
    all_goals refine bodyPost_ret (v := .agg #[.int .u64 RB, .int .u8 RF, .bool false]) (results_sq rfl (((K4.out.r.set 0 _ (by simp)).set 1 _ (by simp)).set 2 _ (by simp))) rfl ⟨by rw [HV.out.1, HV.out.2], ?_⟩
    all_goals repeat (with_reducible first | exact (((K4.out.below.setCell (by simp) _).setCell (by simp) _).setCell (by simp) _) | refine Below.drew ?_)
  exfalso
  omega

set_option maxHeartbeats 8000000 in
set_option maxRecDepth 10000 in
theorem soft_cb (x : Nat) (op m y z : Int) (hx : x < 18446744073709551616) (hm : 0 ≤ m ∧ m ≤ 4) (w : World) (hT : Tab w) :
    Calls Tryd.prog 29 #[.agg #[.int .u8 op, .int .u8 m, .int .u64 x, .int .u64 y, .int .u64 z]] w fun e w' => e = .returned (.agg #[.int .u64 (cbB x m), .int .u8 (cbF x m), .bool false]) ∧ Below w.heap.size w w' := by
  have HX : Hid (∀ w, Calls Tryd.prog 37 #[.int .u64 x] w fun e w' => e = .returned (.int .u64 (sgn x : Nat)) ∧ w' = w) := fun w => by
    have h := signOf_any x (by omega) (by omega) w
    rw [show (x : Int) / 9223372036854775808 = ((sgn x : Nat) : Int) by unfold sgn; omega] at h
    exact h
  have HK : Hid (∀ w, Calls Tryd.prog 33 #[.int .u64 x] w fun e w' => e = .returned (.int .i64 (kind x)) ∧ w' = w) := fun w => kindOf_any x (by omega) (by omega) w
  have HE : Hid (∀ w, Calls Tryd.prog 36 #[.int .u64 x] w fun e w' => e = .returned (.agg #[.int .u64 (sgn x : Nat), .int .u64 (wd (mant x) 0 : Nat), .int .u64 (wd (mant x) 1 : Nat), .int .i64 (pow x)]) ∧ Below w.heap.size w w') := fun w => exactly_any x hx w
  have HWI : Hid (∀ w, Calls Tryd.prog 45 #[.agg #[.int .u64 (sgn x : Nat), .int .u64 (wd (mant x) 0 : Nat), .int .u64 (wd (mant x) 1 : Nat), .int .i64 (pow x)]] w fun e w' => e = .returned (.agg #[.int .u64 (sgn x : Nat), .int .u64 (wd (mant x) 0 : Nat), .int .u64 (wd (mant x) 1 : Nat), .int .u64 (wd (mant x) 2 : Nat), .int .u64 (wd (mant x) 3 : Nat), .int .i64 (pow x)]) ∧ Below w.heap.size w w') := fun w => wider_any (sgn x) (mant x) (pow x) (by have := mant_lt x; omega) w
  have qx := pow_range x
  have lx := mant_lt x
  have sx := sgn_lt hx
  have HER : Hid (¬ kind x = 0 → ∀ w1, Calls Tryd.prog 46 #[.agg #[.int .u64 (sgn x : Nat), .int .u64 (wd (mant x) 0 : Nat), .int .u64 (wd (mant x) 1 : Nat), .int .u64 (wd (mant x) 2 : Nat), .int .u64 (wd (mant x) 3 : Nat), .int .i64 (pow x)], .int .i64 3] w1 fun e w' => ∃ O : Nat, Hid (∀ w2, Below w.heap.size w w2 → Calls Tryd.prog 41 #[.agg #[.int .u64 (sgn x : Nat), .int .u64 (O : Nat), .int .u64 0, .int .i64 (rtP 3 64 (mant x) (pow x))], .int .u8 m] w2 fun e w' => e = .returned (.agg #[.int .u64 (roundB (sgn x) (cbD (mant x) (pow x)) (cbP (pow x)) m), .int .u8 (roundF (sgn x) (cbD (mant x) (pow x)) (cbP (pow x)) m), .bool false]) ∧ Below w2.heap.size w2 w') ∧ e = .returned (.agg #[.int .u64 (sgn x : Nat), .int .u64 (O : Nat), .int .u64 0, .int .i64 (rtP 3 64 (mant x) (pow x))]) ∧ Below w1.heap.size w1 w') := fun hk w1 => by
    have h0 := mant_some hx hk
    have hL := mantL (d := 3) (below := 64) x (by decide)
    refine (exactRoot3 (sgn x) (mant x) (pow x) h0 (by omega) hL (by omega) w1).mono ?_
    rintro e w' ⟨W, g1, g2, g3, rfl, hb⟩
    refine ⟨_, fun w2 hb2 => ?_, rfl, hb⟩
    obtain ⟨r1, r2⟩ := cb_round (s := (sgn x : Nat)) (m := m) h0 hL g2 g3
    have hO := odd_lt (decide (pw3 W = rtG 3 64 (mant x) (pow x))) g1
    have ow := one_word hO
    have hLr := rtL_range (d := 3) (below := 64) (p := pow x) (by decide) h0 (by omega : mant x < 18446744073709551616 ^ 4)
    have := W2.round_any (sgn x) (odd W (decide (pw3 W = rtG 3 64 (mant x) (pow x)))) (rtP 3 64 (mant x) (pow x)) m (by omega) (by omega) hm (by unfold rtP; omega) w2 (hT.later hb2)
    rw [ow.1, ow.2] at this
    rw [r1, r2]
    exact this
  have HPB : Hid (cbB x m = (if kind x = 3 ∨ kind x = 0 then (x : Int) else roundB (sgn x) (cbD (mant x) (pow x)) (cbP (pow x)) m)) := rfl
  have HPF : Hid (cbF x m = (if kind x = 3 ∨ kind x = 0 then 0 else roundF (sgn x) (cbD (mant x) (pow x)) (cbP (pow x)) m)) := rfl
  have HB0 : Hid (kind x = 0 → (x : Int) = (sgn x : Nat) * 9223372036854775808) := kind0_bits hx
  have HS : Hid (((sgn x : Nat) : Int) = 0 ∨ ((sgn x : Nat) : Int) = 1) := (by omega : ((sgn x : Nat) : Int) = 0 ∨ ((sgn x : Nat) : Int) = 1)
  clear hx hm hT qx lx
  generalize cbB x m = B at *
  generalize cbF x m = F at *
  generalize roundB (sgn x) (cbD (mant x) (pow x)) (cbP (pow x)) m = RB at *
  generalize roundF (sgn x) (cbD (mant x) (pow x)) (cbP (pow x)) m = RF at *
  generalize rtP 3 64 (mant x) (pow x) = PP at *
  generalize wd (mant x) 0 = a0 at *
  generalize wd (mant x) 1 = a1 at *
  generalize wd (mant x) 2 = a2 at *
  generalize wd (mant x) 3 = a3 at *
  generalize pow x = px at *
  generalize kind (x : Int) = KX at *
  generalize sgn x = s at *
  have K0 : Hid (Rows2 w ((w.alloc (.cells #[.int .u8 op, .int .u8 m, .int .u64 x, .int .u64 y, .int .u64 z] 36)).alloc (.cells #[.int .u64 0, .int .u8 0, .bool false] 33)) [.int .u8 op, .int .u8 m, .int .u64 x, .int .u64 y, .int .u64 z] [.int .u64 0, .int .u8 0, .bool false]) := Rows2.start w _ _ _ _ (by simp) (by simp)
  by_cases c0 : KX = 0
  · have HV : Hid (B = (x : Int) ∧ F = 0) := ⟨by rw [HPB.out, if_pos (Or.inr c0)], by rw [HPF.out, if_pos (Or.inr c0)]⟩
    have k3 : (KX == 3) = false := by rw [beq_eq_false_iff_ne]; omega
    have k0 : (KX == 0) = true := by rw [beq_iff_eq]; omega
    have k0' : (KX != 0) = false := by rw [bne_eq_false_iff_eq]; omega
    clear c0 HPB HPF HER sx
    go_enter Tryd.func29, Tryd.ntmps29
    go_wp2_with (first | (go_at_call 33; refine (HK.out _).mono ?_; rintro e w' ⟨rfl, rfl⟩) | (go_at_call 37; refine (HX.out _).mono ?_; rintro e w' ⟨rfl, rfl⟩) | (go_at_call 40; refine (signed_any _ _ HS.out (by omega) _).mono ?_; rintro e w' ⟨rfl, rfl⟩))
    go_light
    refine bodyPost_ret (v := .agg #[.int .u64 ((x : Int)), .int .u8 0, .bool false]) (by simp [results, Tryd.results29, go_sem]) rfl ⟨by rw [HV.out.1, HV.out.2], ?_⟩
    repeat (with_reducible first | exact Below.refl _ _ | refine Below.alloc ?_ (by first | (simp; done) | (simp; omega)) _ | refine Below.setCell ?_ (by simp) _ | refine Below.drew ?_)
    all_goals (try exact below_drewN (((Below.refl _ _).alloc (Nat.le_refl _) _).alloc (by simp) _) _)
  by_cases c1 : KX = 3
  · have HV : Hid (B = (x : Int) ∧ F = 0) := ⟨by rw [HPB.out, if_pos (Or.inl c1)], by rw [HPF.out, if_pos (Or.inl c1)]⟩
    have k3 : (KX == 3) = true := by rw [beq_iff_eq]; omega
    have k0 : (KX == 0) = false := by rw [beq_eq_false_iff_ne]; omega
    have k0' : (KX != 0) = true := by rw [bne_iff_ne]; omega
    clear c0 c1 HPB HPF HER sx
    go_enter Tryd.func29, Tryd.ntmps29
    go_wp2_with (first | (go_at_call 33; refine (HK.out _).mono ?_; rintro e w' ⟨rfl, rfl⟩) | (go_at_call 37; refine (HX.out _).mono ?_; rintro e w' ⟨rfl, rfl⟩) | (go_at_call 40; refine (signed_any _ _ HS.out (by omega) _).mono ?_; rintro e w' ⟨rfl, rfl⟩))
    go_light
    refine bodyPost_ret (v := .agg #[.int .u64 ((x : Int)), .int .u8 0, .bool false]) (by simp [results, Tryd.results29, go_sem]) rfl ⟨by rw [HV.out.1, HV.out.2], ?_⟩
    repeat (with_reducible first | exact Below.refl _ _ | refine Below.alloc ?_ (by first | (simp; done) | (simp; omega)) _ | refine Below.setCell ?_ (by simp) _ | refine Below.drew ?_)
    all_goals (try exact below_drewN (((Below.refl _ _).alloc (Nat.le_refl _) _).alloc (by simp) _) _)
  by_cases c2 : KX ≠ 0 ∧ KX ≠ 3
  · have HV : Hid (B = RB ∧ F = RF) := ⟨by rw [HPB.out, if_neg (by omega)], by rw [HPF.out, if_neg (by omega)]⟩
    have k3 : (KX == 3) = false := by rw [beq_eq_false_iff_ne]; omega
    have k0 : (KX == 0) = false := by rw [beq_eq_false_iff_ne]; omega
    have k0' : (KX != 0) = true := by rw [bne_iff_ne]; omega
    have HERX := HER.out c2.1
    have HERY : Hid (_) := HERX
    clear HERX
    clear c0 c1 c2 HPB HPF HER sx
    go_enter Tryd.func29, Tryd.ntmps29
    go_wp2_with (first | (go_at_call 33; refine (HK.out _).mono ?_; rintro e w' ⟨rfl, rfl⟩) | (go_at_call 37; refine (HX.out _).mono ?_; rintro e w' ⟨rfl, rfl⟩) | (go_at_call 40; refine (signed_any _ _ HS.out (by omega) _).mono ?_; rintro e w' ⟨rfl, rfl⟩))
    go_region_held3 (fun w' => w'.cell? ⟨w.heap.size, 1, none⟩ = some (.int .u8 m) ∧ w'.cell? ⟨w.heap.size, 2, none⟩ = some (.int .u64 x))
      (first | (with_reducible exact ⟨xK4, yK4⟩) | (with_reducible exact ⟨xK3, yK3⟩) | (with_reducible exact ⟨xK2, yK2⟩) | (with_reducible exact ⟨xK1, yK1⟩) | (rw [cellSet3 _ _ _ _ _ _ (by simp), cellSet3 _ _ _ _ _ _ (by simp)]; exact ⟨xK4, yK4⟩) | (go_keep; done))
      (first | (go_at_call 36; refine (HE.out _).mono ?_; rintro e w' ⟨rfl, hb⟩; have K1 : Hid (Rows2 w w' [.int .u8 op, .int .u8 m, .int .u64 x, .int .u64 y, .int .u64 z] [.int .u64 0, .int .u8 0, .bool false]) := Rows2.later (by repeat (with_reducible first | exact K0.out | refine Rows2.drew ?_ | exact K0.out.below' (below_drewN (Below.refl (w.heap.size + 2) _) _) (Nat.le_refl _))) hb; have xK1 := K1.out.x.cells 1 _ rfl; have yK1 := K1.out.x.cells 2 _ rfl; clear hb) | (go_at_call 45; refine (HWI.out _).mono ?_; rintro e w' ⟨rfl, hb⟩; have K2 : Hid (Rows2 w w' [.int .u8 op, .int .u8 m, .int .u64 x, .int .u64 y, .int .u64 z] [.int .u64 0, .int .u8 0, .bool false]) := Rows2.later (by repeat (with_reducible first | exact K1.out | refine Rows2.drew ?_)) hb; have xK2 := K2.out.x.cells 1 _ rfl; have yK2 := K2.out.x.cells 2 _ rfl; clear hb) | (go_at_call 46; refine (HERY.out _).mono ?_; rintro e w' ⟨O, HR, rfl, hb⟩; have K3 : Hid (Rows2 w w' [.int .u8 op, .int .u8 m, .int .u64 x, .int .u64 y, .int .u64 z] [.int .u64 0, .int .u8 0, .bool false]) := Rows2.later (by repeat (with_reducible first | exact K2.out | refine Rows2.drew ?_)) hb; have xK3 := K3.out.x.cells 1 _ rfl; have yK3 := K3.out.x.cells 2 _ rfl; clear hb) | (go_at_call 41; refine (HR.out _ (by exact Rows2.below (xs := [.int .u8 op, .int .u8 m, .int .u64 x, .int .u64 y, .int .u64 z]) (rs := [.int .u64 0, .int .u8 0, .bool false]) (by repeat (with_reducible first | exact K3.out | refine Rows2.drew ?_)))).mono ?_; rintro e w' ⟨rfl, hb⟩; have K4 : Hid (Rows2 w w' [.int .u8 op, .int .u8 m, .int .u64 x, .int .u64 y, .int .u64 z] [.int .u64 0, .int .u8 0, .bool false]) := Rows2.later (by repeat (with_reducible first | exact K3.out | refine Rows2.drew ?_)) hb; have xK4 := K4.out.x.cells 1 _ rfl; have yK4 := K4.out.x.cells 2 _ rfl; have s0 := K4.out.r.cells 0 _ rfl; have t0 := K4.out.r.live 0 _ rfl; have s1 := K4.out.r.cells 1 _ rfl; have t1 := K4.out.r.live 1 _ rfl; have s2 := K4.out.r.cells 2 _ rfl; have t2 := K4.out.r.live 2 _ rfl; clear hb))
    all_goals (try go_wp2_with fail)
    all_goals go_light
    all_goals refine bodyPost_ret (v := .agg #[.int .u64 RB, .int .u8 RF, .bool false]) (results_cb rfl (((K4.out.r.set 0 _ (by simp)).set 1 _ (by simp)).set 2 _ (by simp))) rfl ⟨by rw [HV.out.1, HV.out.2], ?_⟩
    all_goals repeat (with_reducible first | exact (((K4.out.below.setCell (by simp) _).setCell (by simp) _).setCell (by simp) _) | refine Below.drew ?_)
  exfalso
  omega

set_option maxHeartbeats 8000000 in
set_option maxRecDepth 10000 in
theorem soft_rq (x : Nat) (op m y z : Int) (hx : x < 18446744073709551616) (hm : 0 ≤ m ∧ m ≤ 4) (w : World) (hT : Tab w) :
    Calls Tryd.prog 28 #[.agg #[.int .u8 op, .int .u8 m, .int .u64 x, .int .u64 y, .int .u64 z]] w fun e w' => e = .returned (.agg #[.int .u64 (rqB x m), .int .u8 (rqF x m), .bool false]) ∧ Below w.heap.size w w' := by
  have HX : Hid (∀ w, Calls Tryd.prog 37 #[.int .u64 x] w fun e w' => e = .returned (.int .u64 (sgn x : Nat)) ∧ w' = w) := fun w => by
    have h := signOf_any x (by omega) (by omega) w
    rw [show (x : Int) / 9223372036854775808 = ((sgn x : Nat) : Int) by unfold sgn; omega] at h
    exact h
  have HK : Hid (∀ w, Calls Tryd.prog 33 #[.int .u64 x] w fun e w' => e = .returned (.int .i64 (kind x)) ∧ w' = w) := fun w => kindOf_any x (by omega) (by omega) w
  have HE : Hid (∀ w, Calls Tryd.prog 36 #[.int .u64 x] w fun e w' => e = .returned (.agg #[.int .u64 (sgn x : Nat), .int .u64 (mant x : Nat), .int .u64 0, .int .i64 (pow x)]) ∧ Below w.heap.size w w') := fun w => (exactly_ex x hx w).mono fun e w' ⟨he, hw⟩ => ⟨he, by rw [hw]; exact (Below.refl _ _).alloc (Nat.le_refl _) _⟩
  have qx := pow_range x
  have lx := mant_lt x
  have sx := sgn_lt hx
  have HER : Hid (¬ kind x = 0 → ∀ w1, Calls Tryd.prog 47 #[.agg #[.int .u64 (sgn x : Nat), .int .u64 (mant x : Nat), .int .u64 0, .int .i64 (pow x)]] w1 fun e w' => ∃ O : Nat, Hid (∀ w2, Below w.heap.size w w2 → Calls Tryd.prog 41 #[.agg #[.int .u64 0, .int .u64 (O : Nat), .int .u64 0, .int .i64 (ivP (mant x) (pow x))], .int .u8 m] w2 fun e w' => e = .returned (.agg #[.int .u64 (roundB 0 (rqD (mant x) (pow x)) (rqP (mant x) (pow x)) m), .int .u8 (roundF 0 (rqD (mant x) (pow x)) (rqP (mant x) (pow x)) m), .bool false]) ∧ Below w2.heap.size w2 w') ∧ e = .returned (.agg #[.int .u64 0, .int .u64 (O : Nat), .int .u64 0, .int .i64 (ivP (mant x) (pow x))]) ∧ Below w1.heap.size w1 w') := fun hk w1 => by
    have h0 := mant_some hx hk
    refine (exactInverseRoot_any (sgn x) (mant x) (pow x) h0 lx (by omega) w1).mono ?_
    rintro e w' ⟨W, g1, g2, g3, rfl, hb⟩
    refine ⟨_, fun w2 hb2 => ?_, rfl, hb⟩
    obtain ⟨r1, r2⟩ := rq_round (s := 0) (m := m) h0 lx g2 g3
    have hO := odd_lt (decide (W * W * ivE (mant x) (pow x) = 2 ^ 188)) g1
    have ow := one_word hO
    have hLr := ivL_range (p := pow x) h0 lx
    have := W2.round_any 0 (odd W (decide (W * W * ivE (mant x) (pow x) = 2 ^ 188))) (ivP (mant x) (pow x)) m (by omega) (by omega) hm (by unfold ivP; omega) w2 (hT.later hb2)
    rw [ow.1, ow.2] at this
    rw [r1, r2]
    exact this
  have HPB : Hid (rqB x m = (if kind x = 0 then (x : Int) + 9218868437227405312 else if sgn x = 1 then 9221120237041090560 else if kind x = 3 then 0 else roundB 0 (rqD (mant x) (pow x)) (rqP (mant x) (pow x)) m)) := rfl
  have HPF : Hid (rqF x m = (if kind x = 0 then 8 else if sgn x = 1 then 16 else if kind x = 3 then 0 else roundF 0 (rqD (mant x) (pow x)) (rqP (mant x) (pow x)) m)) := rfl
  have HB0 : Hid (kind x = 0 → (x : Int) = (sgn x : Nat) * 9223372036854775808) := kind0_bits hx
  have HS : Hid (((sgn x : Nat) : Int) = 0 ∨ ((sgn x : Nat) : Int) = 1) := (by omega : ((sgn x : Nat) : Int) = 0 ∨ ((sgn x : Nat) : Int) = 1)
  clear hx hm hT qx lx
  generalize rqB x m = B at *
  generalize rqF x m = F at *
  generalize roundB 0 (rqD (mant x) (pow x)) (rqP (mant x) (pow x)) m = RB at *
  generalize roundF 0 (rqD (mant x) (pow x)) (rqP (mant x) (pow x)) m = RF at *
  generalize ivP (mant x) (pow x) = PP at *
  generalize mant x = mx at *
  generalize pow x = px at *
  generalize kind (x : Int) = KX at *
  generalize sgn x = s at *
  have K0 : Hid (Rows2 w ((w.alloc (.cells #[.int .u8 op, .int .u8 m, .int .u64 x, .int .u64 y, .int .u64 z] 36)).alloc (.cells #[.int .u64 0, .int .u8 0, .bool false] 33)) [.int .u8 op, .int .u8 m, .int .u64 x, .int .u64 y, .int .u64 z] [.int .u64 0, .int .u8 0, .bool false]) := Rows2.start w _ _ _ _ (by simp) (by simp)
  by_cases c0 : KX = 0
  · have HV : Hid (B = ((s : Nat) : Int) * 9223372036854775808 + 9218868437227405312 ∧ F = 8) := ⟨by rw [HPB.out, if_pos c0]; rw [HB0.out c0], by rw [HPF.out, if_pos c0]⟩
    have k3 : (KX == 3) = false := by rw [beq_eq_false_iff_ne]; omega
    have k0 : (KX == 0) = true := by rw [beq_iff_eq]; omega
    have k0' : (KX != 0) = false := by rw [bne_eq_false_iff_eq]; omega
    clear c0 HPB HPF HER sx
    go_enter Tryd.func28, Tryd.ntmps28
    go_wp2_with fail
    go_quiet (first | (go_at_call 33; exact Calls.quiet_of_same (HK.out _)) | (go_at_call 37; exact Calls.quiet_of_same (HX.out _)))
    go_wp2_with (first | (go_at_call 33; refine (HK.out _).mono ?_; rintro e w' ⟨rfl, rfl⟩) | (go_at_call 37; refine (HX.out _).mono ?_; rintro e w' ⟨rfl, rfl⟩) | (go_at_call 40; refine (signed_any _ _ HS.out (by omega) _).mono ?_; rintro e w' ⟨rfl, rfl⟩))
    go_light
    refine bodyPost_ret (v := .agg #[.int .u64 (((s : Nat) : Int) * 9223372036854775808 + 9218868437227405312), .int .u8 8, .bool false]) (by simp [results, Tryd.results28, go_sem]) rfl ⟨by rw [HV.out.1, HV.out.2], ?_⟩
    repeat (with_reducible first | exact Below.refl _ _ | refine Below.alloc ?_ (by first | (simp; done) | (simp; omega)) _ | refine Below.setCell ?_ (by simp) _ | refine Below.drew ?_)
    all_goals (try exact below_drewN (((Below.refl _ _).alloc (Nat.le_refl _) _).alloc (by simp) _) _)
  by_cases c1 : KX ≠ 0 ∧ s = 1
  · have HV : Hid (B = 9221120237041090560 ∧ F = 16) := ⟨by rw [HPB.out, if_neg c1.1, if_pos c1.2], by rw [HPF.out, if_neg c1.1, if_pos c1.2]⟩
    have k0 : (KX == 0) = false := by rw [beq_eq_false_iff_ne]; omega
    have k0' : (KX != 0) = true := by rw [bne_iff_ne]; omega
    have k1 : (((s : Nat) : Int) == 1) = true := by rw [beq_iff_eq]; omega
    clear c0 c1 HPB HPF HER sx
    go_enter Tryd.func28, Tryd.ntmps28
    go_wp2_with fail
    go_quiet (first | (go_at_call 33; exact Calls.quiet_of_same (HK.out _)) | (go_at_call 37; exact Calls.quiet_of_same (HX.out _)))
    go_wp2_with (first | (go_at_call 33; refine (HK.out _).mono ?_; rintro e w' ⟨rfl, rfl⟩) | (go_at_call 37; refine (HX.out _).mono ?_; rintro e w' ⟨rfl, rfl⟩) | (go_at_call 40; refine (signed_any _ _ HS.out (by omega) _).mono ?_; rintro e w' ⟨rfl, rfl⟩))
    refine (wrong_any _).mono ?_
    rintro e w1 ⟨rfl, hb1⟩
    have K1 : Hid (Rows2 w w1 [.int .u8 op, .int .u8 m, .int .u64 x, .int .u64 y, .int .u64 z] [.int .u64 0, .int .u8 0, .bool false]) := K0.out.below' (B := w.heap.size + 2) ((below_drewN (Below.refl _ _) _).trans (hb1.mono (by simp))) (Nat.le_refl _)
    clear hb1 K0
    have c0 := K1.out.x.cells 0 _ rfl
    have c1 := K1.out.x.cells 1 _ rfl
    have c2 := K1.out.x.cells 2 _ rfl
    have c3 := K1.out.x.cells 3 _ rfl
    have c4 := K1.out.x.cells 4 _ rfl
    have r0 := K1.out.r.cells 0 _ rfl
    have r1 := K1.out.r.cells 1 _ rfl
    have r2 := K1.out.r.cells 2 _ rfl
    have f0 := K1.out.r.live 0 _ rfl
    have f1 := K1.out.r.live 1 _ rfl
    have f2 := K1.out.r.live 2 _ rfl
    have z1 := K1.out.size
    have z0 : w.heap.size < _ := K1.out.x.lt
    go_wp2_with fail
    go_light
    refine bodyPost_ret (v := .agg #[.int .u64 9221120237041090560, .int .u8 16, .bool false]) (results_rq rfl (((K1.out.r.set 0 _ (by simp)).set 1 _ (by simp)).set 2 _ (by simp))) rfl ⟨by rw [HV.out.1, HV.out.2], ?_⟩
    exact ((K1.out.below.setCell (by simp) _).setCell (by simp) _).setCell (by simp) _
  by_cases c2 : KX = 3 ∧ s ≠ 1
  · have HV : Hid (B = 0 ∧ F = 0) := ⟨by rw [HPB.out, if_neg (by omega), if_neg c2.2, if_pos c2.1], by rw [HPF.out, if_neg (by omega), if_neg c2.2, if_pos c2.1]⟩
    have k3 : (KX == 3) = true := by rw [beq_iff_eq]; omega
    have k0 : (KX == 0) = false := by rw [beq_eq_false_iff_ne]; omega
    have k0' : (KX != 0) = true := by rw [bne_iff_ne]; omega
    have k1 : (((s : Nat) : Int) == 1) = false := by rw [beq_eq_false_iff_ne]; omega
    clear c0 c1 c2 HPB HPF HER sx
    go_enter Tryd.func28, Tryd.ntmps28
    go_wp2_with fail
    go_quiet (first | (go_at_call 33; exact Calls.quiet_of_same (HK.out _)) | (go_at_call 37; exact Calls.quiet_of_same (HX.out _)))
    go_wp2_with (first | (go_at_call 33; refine (HK.out _).mono ?_; rintro e w' ⟨rfl, rfl⟩) | (go_at_call 37; refine (HX.out _).mono ?_; rintro e w' ⟨rfl, rfl⟩) | (go_at_call 40; refine (signed_any _ _ HS.out (by omega) _).mono ?_; rintro e w' ⟨rfl, rfl⟩))
    go_light
    refine bodyPost_ret (v := .agg #[.int .u64 (0), .int .u8 0, .bool false]) (by simp [results, Tryd.results28, go_sem]) rfl ⟨by rw [HV.out.1, HV.out.2], ?_⟩
    repeat (with_reducible first | exact Below.refl _ _ | refine Below.alloc ?_ (by first | (simp; done) | (simp; omega)) _ | refine Below.setCell ?_ (by simp) _ | refine Below.drew ?_)
    all_goals (try exact below_drewN (((Below.refl _ _).alloc (Nat.le_refl _) _).alloc (by simp) _) _)
  by_cases c3 : KX ≠ 0 ∧ KX ≠ 3 ∧ s ≠ 1
  · have HV : Hid (B = RB ∧ F = RF) := ⟨by rw [HPB.out, if_neg c3.1, if_neg c3.2.2, if_neg c3.2.1], by rw [HPF.out, if_neg c3.1, if_neg c3.2.2, if_neg c3.2.1]⟩
    have k3 : (KX == 3) = false := by rw [beq_eq_false_iff_ne]; omega
    have k0 : (KX == 0) = false := by rw [beq_eq_false_iff_ne]; omega
    have k0' : (KX != 0) = true := by rw [bne_iff_ne]; omega
    have k1 : (((s : Nat) : Int) == 1) = false := by rw [beq_eq_false_iff_ne]; omega
    have HERX := HER.out c3.1
    have HERY : Hid (_) := HERX
    clear HERX
    clear c0 c1 c2 c3 HPB HPF HER sx
    go_enter Tryd.func28, Tryd.ntmps28
    go_wp2_with fail
    go_quiet (first | (go_at_call 33; exact Calls.quiet_of_same (HK.out _)) | (go_at_call 37; exact Calls.quiet_of_same (HX.out _)))
    go_wp2_with (first | (go_at_call 33; refine (HK.out _).mono ?_; rintro e w' ⟨rfl, rfl⟩) | (go_at_call 37; refine (HX.out _).mono ?_; rintro e w' ⟨rfl, rfl⟩) | (go_at_call 40; refine (signed_any _ _ HS.out (by omega) _).mono ?_; rintro e w' ⟨rfl, rfl⟩))
    go_region_held3 (fun w' => w'.cell? ⟨w.heap.size, 1, none⟩ = some (.int .u8 m) ∧ w'.cell? ⟨w.heap.size, 2, none⟩ = some (.int .u64 x))
      (first | (with_reducible exact ⟨xK4, yK4⟩) | (with_reducible exact ⟨xK3, yK3⟩) | (with_reducible exact ⟨xK2, yK2⟩) | (with_reducible exact ⟨xK1, yK1⟩) | (rw [cellSet3 _ _ _ _ _ _ (by simp), cellSet3 _ _ _ _ _ _ (by simp)]; exact ⟨xK4, yK4⟩) | (go_keep; done))
      (first | (go_at_call 36; refine (HE.out _).mono ?_; rintro e w' ⟨rfl, hb⟩; have K2 : Hid (Rows2 w w' [.int .u8 op, .int .u8 m, .int .u64 x, .int .u64 y, .int .u64 z] [.int .u64 0, .int .u8 0, .bool false]) := Rows2.later (by repeat (with_reducible first | exact K0.out | refine Rows2.drew ?_ | exact K0.out.below' (below_drewN (Below.refl (w.heap.size + 2) _) _) (Nat.le_refl _))) hb; have xK2 := K2.out.x.cells 1 _ rfl; have yK2 := K2.out.x.cells 2 _ rfl; clear hb) | (go_at_call 47; refine (HERY.out _).mono ?_; rintro e w' ⟨O, HR, rfl, hb⟩; have K3 : Hid (Rows2 w w' [.int .u8 op, .int .u8 m, .int .u64 x, .int .u64 y, .int .u64 z] [.int .u64 0, .int .u8 0, .bool false]) := Rows2.later (by repeat (with_reducible first | exact K2.out | refine Rows2.drew ?_)) hb; have xK3 := K3.out.x.cells 1 _ rfl; have yK3 := K3.out.x.cells 2 _ rfl; clear hb) | (go_at_call 41; refine (HR.out _ (by exact Rows2.below (xs := [.int .u8 op, .int .u8 m, .int .u64 x, .int .u64 y, .int .u64 z]) (rs := [.int .u64 0, .int .u8 0, .bool false]) (by repeat (with_reducible first | exact K3.out | refine Rows2.drew ?_)))).mono ?_; rintro e w' ⟨rfl, hb⟩; have K4 : Hid (Rows2 w w' [.int .u8 op, .int .u8 m, .int .u64 x, .int .u64 y, .int .u64 z] [.int .u64 0, .int .u8 0, .bool false]) := Rows2.later (by repeat (with_reducible first | exact K3.out | refine Rows2.drew ?_)) hb; have xK4 := K4.out.x.cells 1 _ rfl; have yK4 := K4.out.x.cells 2 _ rfl; have s0 := K4.out.r.cells 0 _ rfl; have t0 := K4.out.r.live 0 _ rfl; have s1 := K4.out.r.cells 1 _ rfl; have t1 := K4.out.r.live 1 _ rfl; have s2 := K4.out.r.cells 2 _ rfl; have t2 := K4.out.r.live 2 _ rfl; clear hb))
    all_goals (try go_wp2_with fail)
    all_goals go_light
    all_goals refine bodyPost_ret (v := .agg #[.int .u64 RB, .int .u8 RF, .bool false]) (results_rq rfl (((K4.out.r.set 0 _ (by simp)).set 1 _ (by simp)).set 2 _ (by simp))) rfl ⟨by rw [HV.out.1, HV.out.2], ?_⟩
    all_goals repeat (with_reducible first | exact (((K4.out.below.setCell (by simp) _).setCell (by simp) _).setCell (by simp) _) | refine Below.drew ?_)
  exfalso
  omega


theorem anyN1_false {x : Nat} {y z : Int} (h1 : kind x < 4) : ([(x : Int), y, z].take 1).any isN = false := by simp [isN]; omega
theorem index6 (w : World) : (Instr.index 48 (.agg opsCells) (.int .u8 6)).run Tryd.prog w = .ok (.agg #[.int .i64 ((1 : Nat) : Int), .func (.func 27) #[] #[], .nilFunc]) w := by kernel_rfl
theorem soft_sqDo (x : Nat) (m y z : Int) (hx : x < 18446744073709551616) (hy : 0 ≤ y ∧ y < 18446744073709551616) (hz : 0 ≤ z ∧ z < 18446744073709551616) (hm : 0 ≤ m ∧ m ≤ 4) (h1 : kind x < 4) (w : World) (hT : Tab w) :
    Calls Tryd.prog 12 #[.agg #[.int .u8 6, .int .u8 m, .int .u64 x, .int .u64 y, .int .u64 z]] w fun e w' => e = .returned (.agg #[.int .u64 (sqB x m), .int .u8 (sqF x m), .bool false]) ∧ Below w.heap.size w w' := by
  obtain ⟨Y, rfl⟩ := Int.eq_ofNat_of_zero_le hy.1
  obtain ⟨Z, rfl⟩ := Int.eq_ofNat_of_zero_le hz.1
  exact soft_do 6 m x Y Z 1 27 (by omega) hm hx (by omega) (by omega) (by omega) index6 (anyN1_false h1) w _ _ false (enters_of Tryd.func27 (by kernel_rfl) rfl) (fun w1 hb => soft_sq x 6 m Y Z hx hm w1 (hT.later hb))
theorem index7 (w : World) : (Instr.index 48 (.agg opsCells) (.int .u8 7)).run Tryd.prog w = .ok (.agg #[.int .i64 ((1 : Nat) : Int), .func (.func 28) #[] #[], .nilFunc]) w := by kernel_rfl
theorem soft_rqDo (x : Nat) (m y z : Int) (hx : x < 18446744073709551616) (hy : 0 ≤ y ∧ y < 18446744073709551616) (hz : 0 ≤ z ∧ z < 18446744073709551616) (hm : 0 ≤ m ∧ m ≤ 4) (h1 : kind x < 4) (w : World) (hT : Tab w) :
    Calls Tryd.prog 12 #[.agg #[.int .u8 7, .int .u8 m, .int .u64 x, .int .u64 y, .int .u64 z]] w fun e w' => e = .returned (.agg #[.int .u64 (rqB x m), .int .u8 (rqF x m), .bool false]) ∧ Below w.heap.size w w' := by
  obtain ⟨Y, rfl⟩ := Int.eq_ofNat_of_zero_le hy.1
  obtain ⟨Z, rfl⟩ := Int.eq_ofNat_of_zero_le hz.1
  exact soft_do 7 m x Y Z 1 28 (by omega) hm hx (by omega) (by omega) (by omega) index7 (anyN1_false h1) w _ _ false (enters_of Tryd.func28 (by kernel_rfl) rfl) (fun w1 hb => soft_rq x 7 m Y Z hx hm w1 (hT.later hb))
theorem index8 (w : World) : (Instr.index 48 (.agg opsCells) (.int .u8 8)).run Tryd.prog w = .ok (.agg #[.int .i64 ((1 : Nat) : Int), .func (.func 29) #[] #[], .nilFunc]) w := by kernel_rfl
theorem soft_cbDo (x : Nat) (m y z : Int) (hx : x < 18446744073709551616) (hy : 0 ≤ y ∧ y < 18446744073709551616) (hz : 0 ≤ z ∧ z < 18446744073709551616) (hm : 0 ≤ m ∧ m ≤ 4) (h1 : kind x < 4) (w : World) (hT : Tab w) :
    Calls Tryd.prog 12 #[.agg #[.int .u8 8, .int .u8 m, .int .u64 x, .int .u64 y, .int .u64 z]] w fun e w' => e = .returned (.agg #[.int .u64 (cbB x m), .int .u8 (cbF x m), .bool false]) ∧ Below w.heap.size w w' := by
  obtain ⟨Y, rfl⟩ := Int.eq_ofNat_of_zero_le hy.1
  obtain ⟨Z, rfl⟩ := Int.eq_ofNat_of_zero_le hz.1
  exact soft_do 8 m x Y Z 1 29 (by omega) hm hx (by omega) (by omega) (by omega) index8 (anyN1_false h1) w _ _ false (enters_of Tryd.func29 (by kernel_rfl) rfl) (fun w1 hb => soft_cb x 8 m Y Z hx hm w1 (hT.later hb))

end Go.Proofs.YtcjihaafohnbeaaDoor
