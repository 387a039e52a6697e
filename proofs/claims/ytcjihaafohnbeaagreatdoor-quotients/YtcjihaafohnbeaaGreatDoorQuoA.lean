import Derived.Test.YtcjihaafohnbeaaGreatDoorPH
import Derived.Test.YtcjihaafohnbeaaGreatDoorRefDv
import Derived.Test.YtcjihaafohnbeaaGreatDoorOdd1
import Derived.Test.YtcjihaafohnbeaaGreatDoorRefP
namespace Go.Proofs.YtcjihaafohnbeaaGreatDoor
open Go.RowKit

/-- A quotient with more places, marked, and cut to fewer: the quotient with fewer. -/
theorem quo_cut {N d j : Nat} (hd : d ≠ 0) :
    (2 * (N * 2 ^ j / d)) / 2 ^ (j + 1) = N / d ∧ (2 * (N * 2 ^ j / d) + 1) / 2 ^ (j + 1) = N / d ∧
    (N % d = 0 → N * 2 ^ j % d = 0 ∧ (2 * (N * 2 ^ j / d)) % 2 ^ (j + 1) = 0) ∧
    (N % d ≠ 0 → N * 2 ^ j % d = 0 → (2 * (N * 2 ^ j / d)) % 2 ^ (j + 1) ≠ 0) ∧
    (2 * (N * 2 ^ j / d) + 1) % 2 ^ (j + 1) ≠ 0 ∧ (N * 2 ^ j % d ≠ 0 → N % d ≠ 0) := by
  have hp := Nat.two_pow_pos j
  have h1 : N * 2 ^ j / d / 2 ^ j = N / d := by
    rw [Nat.div_div_eq_div_mul, Nat.mul_div_mul_right _ _ hp]
  have h2 : (2 : Nat) ^ (j + 1) = 2 * 2 ^ j := by rw [Nat.pow_succ, Nat.mul_comm]
  rw [h2]
  generalize hM : N * 2 ^ j / d = M at *
  have hexact : N % d = 0 → N * 2 ^ j % d = 0 := fun h => by
    rw [Nat.mul_mod, h, Nat.zero_mul, Nat.zero_mod]
  refine ⟨?_, ?_, fun h => ⟨hexact h, ?_⟩, fun h g e => h ?_, ?_, fun h g => h (hexact g)⟩
  · rw [Nat.mul_div_mul_left _ _ (by decide), h1]
  · rw [← Nat.div_div_eq_div_mul, show (2 * M + 1) / 2 = M by omega, h1]
  · rw [Nat.mul_mod_mul_left]
    have hN : N = d * (N / d) := by have := Nat.div_add_mod N d; omega
    have hMq : M = N / d * 2 ^ j := by
      rw [← hM]
      conv => lhs; rw [hN, Nat.mul_assoc]
      exact Nat.mul_div_cancel_left _ (Nat.pos_of_ne_zero hd)
    rw [hMq, Nat.mul_mod_left]
  · rw [Nat.mul_mod_mul_left] at e
    have e1 : M % 2 ^ j = 0 := by omega
    have e2 : M = 2 ^ j * (N / d) := by have := Nat.div_add_mod M (2 ^ j); rw [h1] at this; omega
    have e3 : N * 2 ^ j = d * M := by have := Nat.div_add_mod (N * 2 ^ j) d; rw [hM] at this; omega
    rw [e2, ← Nat.mul_assoc, Nat.mul_comm d, Nat.mul_assoc, Nat.mul_comm] at e3
    have e4 := Nat.eq_of_mul_eq_mul_left hp e3
    rw [e4, Nat.mul_mod_right]
  · intro h
    have h3 : (2 * M + 1) % (2 * 2 ^ j) % 2 = (2 * M + 1) % 2 := Nat.mod_mul_right_mod _ _ _
    rw [h] at h3
    omega

theorem quo_round {s m px py : Int} {d1 d2 : Nat} (h1 : d1 ≠ 0) (h2 : d2 ≠ 0) (b1 : Go.bitLen d1 ≤ 53) (b2 : Go.bitLen d2 ≤ 53) :
    roundB s (quD d1 d2) (px - 120 - py - 1) m = roundB s (eqW d1 d2) (px - (64 - Go.bitLen d1 - 1) - 64 - (py - (64 - Go.bitLen d2))) m ∧
    roundF s (quD d1 d2) (px - 120 - py - 1) m = roundF s (eqW d1 d2) (px - (64 - Go.bitLen d1 - 1) - 64 - (py - (64 - Go.bitLen d2))) m := by
  have c1 := bl_pos h1
  have c2 := bl_pos h2
  have k1 := (Go.bitLen_spec d1).2 h1
  have k2 := (Go.bitLen_spec d2).1
  unfold eqW quD eqU eqV
  generalize Go.bitLen d1 = a at *
  generalize Go.bitLen d2 = b at *
  obtain ⟨N, hN⟩ : ∃ N, N = d1 * 2 ^ (63 - a + b) := ⟨_, rfl⟩
  obtain ⟨j, hj⟩ : ∃ j : Nat, j + b = 57 + a := ⟨57 + a - b, by omega⟩
  have g1 : d1 * 2 ^ 120 = N * 2 ^ j := by
    rw [hN, Nat.mul_assoc, ← Nat.pow_add, show 63 - a + b + j = 120 by omega]
  have g2 : d1 * 2 ^ (63 - a) * 18446744073709551616 = N * 2 ^ (64 - b) := by
    rw [hN, Nat.mul_assoc, Nat.mul_assoc, show (18446744073709551616 : Nat) = 2 ^ 64 by decide, ← Nat.pow_add, ← Nat.pow_add, show 63 - a + b + (64 - b) = 63 - a + 64 by omega]
  have hb : 2 ^ 60 ≤ N / d2 := by
    rw [Nat.le_div_iff_mul_le (Nat.pos_of_ne_zero h2)]
    have s1 : 2 ^ 60 * d2 ≤ 2 ^ 60 * 2 ^ b := Nat.mul_le_mul_left _ (by omega)
    have s2 : (2 : Nat) ^ 60 * 2 ^ b ≤ 2 ^ (a - 1) * 2 ^ (63 - a + b) := by
      rw [← Nat.pow_add, ← Nat.pow_add]
      exact Nat.pow_le_pow_right (by decide) (by omega)
    have s3 : 2 ^ (a - 1) * 2 ^ (63 - a + b) ≤ N := by rw [hN]; exact Nat.mul_le_mul_right _ k1
    omega
  rw [g1, g2, Nat.mul_div_mul_right _ _ (Nat.two_pow_pos _), Nat.mul_mod_mul_right]
  obtain ⟨q1, q2, q3, q4, q5, q6⟩ := quo_cut (N := N) (j := j) h2
  have hz : N % d2 * 2 ^ (64 - b) = 0 ↔ N % d2 = 0 := by
    have := Nat.two_pow_pos (64 - b)
    constructor
    · intro h
      rcases Nat.mul_eq_zero.1 h with h | h
      · exact h
      · omega
    · intro h; rw [h, Nat.zero_mul]
  have hp : px - (64 - (a : Int) - 1) - 64 - (py - (64 - (b : Int))) = px - 120 - py - 1 + ((j + 1 : Nat) : Int) := by omega
  rw [hp]
  unfold mkQ
  by_cases hr : N % d2 = 0
  · rw [if_pos (hz.2 hr), if_pos (decide_eq_true (q3 hr).1)]
    exact mark_round (.inl ⟨(q3 hr).2, q1.symm⟩) (by rw [q1]; exact hb)
  · rw [if_neg (fun h => hr (hz.1 h))]
    by_cases hx : N * 2 ^ j % d2 = 0
    · rw [if_pos (decide_eq_true hx)]
      exact mark_round (.inr ⟨q4 hr hx, by rw [q1]⟩) (by rw [q1]; exact hb)
    · rw [if_neg (by simpa using hx)]
      exact mark_round (.inr ⟨q5, by rw [q2]⟩) (by rw [q2]; exact hb)


theorem divF_range (x y : Nat) (m : Int) : 0 ≤ divF x y m ∧ divF x y m < 256 := by
  have := roundF_range (xs x y) (quD (mant x) (mant y)) (pow x - 120 - pow y - 1) m
  unfold divF
  (repeat' split) <;> omega
theorem soft_quotient (x y : Nat) (op m z : Int) (hx : x < 18446744073709551616) (hy : y < 18446744073709551616) (hm : 0 ≤ m ∧ m ≤ 4) (w : World) (hT : Tab w) :
    Calls Tryz.prog 29 #[.agg #[.int .u8 op, .int .u8 m, .int .u64 x, .int .u64 y, .int .u64 z]] w fun e w' => e = .returned (.agg #[.int .u64 (divB x y m), .int .u8 (divF x y m), .bool false]) ∧ Below w.heap.size w w' := by
  refine quotient_walk x y op m z hx hy hm w hT _ _ (fun h => ?_) (fun h g => ?_) (fun h g => ?_) (fun h g k => ?_) (fun h g k l => ?_) (fun h => mant_some hx h) (fun h => mant_some hy h)
  · unfold divB divF
    rw [if_pos h, if_pos h]
    exact ⟨rfl, rfl⟩
  · have n1 : ¬ ((kind x = 3 ∧ kind y = 3) ∨ (kind x = 0 ∧ kind y = 0)) := by omega
    unfold divB divF
    rw [if_neg n1, if_neg n1, if_pos h, if_pos h]
    exact ⟨rfl, rfl⟩
  · have n1 : ¬ ((kind x = 3 ∧ kind y = 3) ∨ (kind x = 0 ∧ kind y = 0)) := by omega
    have n2 : kind y = 3 ∨ kind x = 0 := by omega
    unfold divB divF
    rw [if_neg n1, if_neg n1, if_neg h, if_neg h, if_pos n2, if_pos n2]
    exact ⟨rfl, rfl⟩
  · have n1 : ¬ ((kind x = 3 ∧ kind y = 3) ∨ (kind x = 0 ∧ kind y = 0)) := by omega
    have n2 : ¬ (kind y = 3 ∨ kind x = 0) := by omega
    unfold divB divF
    rw [if_neg n1, if_neg n1, if_neg h, if_neg h, if_neg n2, if_neg n2, if_pos k, if_pos k]
    exact ⟨rfl, rfl⟩
  · have n1 : ¬ ((kind x = 3 ∧ kind y = 3) ∨ (kind x = 0 ∧ kind y = 0)) := by omega
    have n2 : ¬ (kind y = 3 ∨ kind x = 0) := by omega
    unfold divB divF
    rw [if_neg n1, if_neg n1, if_neg h, if_neg h, if_neg n2, if_neg n2, if_neg l, if_neg l]
    exact quo_round (mant_some hx g) (mant_some hy l) (bl_m53 x) (bl_m53 y)
theorem soft_div (x y : Nat) (m z : Int) (hx : x < 18446744073709551616) (hy : y < 18446744073709551616) (hz : 0 ≤ z ∧ z < 18446744073709551616) (hm : 0 ≤ m ∧ m ≤ 4) (h1 : kind x < 4) (h2 : kind y < 4) (w : World) (hT : Tab w) :
    Calls Tryz.prog 13 #[.agg #[.int .u8 4, .int .u8 m, .int .u64 x, .int .u64 y, .int .u64 z]] w fun e w' => e = .returned (.agg #[.int .u64 (divB x y m), .int .u8 (divF x y m), .bool false]) ∧ Below w.heap.size w w' := by
  obtain ⟨Z, rfl⟩ := Int.eq_ofNat_of_zero_le hz.1
  exact soft_do 4 m x y Z 2 29 (by omega) hm hx hy (by omega) (by omega) index4 (anyN_false h1 h2) w _ _ false (enters_of Tryz.func29 (by kernel_rfl) rfl) (fun w1 hb => soft_quotient x y 4 m Z hx hy hm w1 (hT.later hb))

set_option maxRecDepth 10000 in
set_option maxHeartbeats 2000000 in
theorem ref_div (x y : Nat) (m z : Int) (hm : 0 ≤ m ∧ m ≤ 4) (hx : x < 18446744073709551616) (hy : y < 18446744073709551616) (hz : 0 ≤ z ∧ z < 18446744073709551616) (hn : anyN [(x : Int), (y : Int)] = false) (w : World) :
    Calls Tryz.prog 14 #[.agg #[.int .i64 4, .int .i64 m, .int .u64 (x : Int), .int .u64 (y : Int), .int .u64 z]] w fun e w' => e = .returned (.agg #[.int .u64 (divB x y m), .int .i64 (divF x y m), .bool false]) ∧ Below w.heap.size w w' := by
  have HN : Hid (∀ w, Calls Tryz.prog 19 #[.agg #[.int .i64 4, .int .i64 m, .int .u64 (x : Int), .int .u64 (y : Int), .int .u64 z]] w fun e w' => e = .returned (.tuple #[.agg #[.int .u64 (nanBits [(x : Int), (y : Int)]), .int .i64 (nanFlag [(x : Int), (y : Int)]), .bool false], .bool false]) ∧ Below w.heap.size w w') := fun w => by
    have := nans2_any 4 m x y z (by omega) (by omega) (by omega) hz w
    rw [hn] at this
    exact this
  have HMU : Hid (∀ w, Calls Tryz.prog 22 #[.int .u64 (x : Int), .int .u64 (y : Int), .int .i64 m] w fun e w' => e = .returned (.agg #[.int .u64 (divB x y m), .int .i64 (divF x y m), .bool false]) ∧ Below w.heap.size w w') := fun w => division_ref x y m hx hy hm w
  obtain ⟨hm1, hm2⟩ := hm
  clear hn hx hy hz
  generalize nanBits [(x : Int), (y : Int)] = NB at *
  generalize nanFlag [(x : Int), (y : Int)] = NF at *
  generalize divB x y m = PB at *
  generalize divF x y m = PF at *
  have E0 : Hid (EmptyR ((w.alloc (.cells #[.int .i64 4, .int .i64 m, .int .u64 (x : Int), .int .u64 (y : Int), .int .u64 z] 41)).alloc (.cells #[.int .u64 0, .int .i64 0, .bool false] 39)) (w.heap.size + 1)) := ⟨by simp, by go_simp, by go_simp, by go_simp, by go_simp, by go_simp, by go_simp⟩
  have R0 : Hid (RecR ((w.alloc (.cells #[.int .i64 4, .int .i64 m, .int .u64 (x : Int), .int .u64 (y : Int), .int .u64 z] 41)).alloc (.cells #[.int .u64 0, .int .i64 0, .bool false] 39)) w.heap.size 4 m x y z) := ⟨by simp; omega, by go_simp, by go_simp, by go_simp, by go_simp, by go_simp⟩
  have B0 : Hid (Below w.heap.size w ((w.alloc (.cells #[.int .i64 4, .int .i64 m, .int .u64 (x : Int), .int .u64 (y : Int), .int .u64 z] 41)).alloc (.cells #[.int .u64 0, .int .i64 0, .bool false] 39))) := ((Below.refl _ _).alloc (Nat.le_refl _) _).alloc (by simp) _
  go_enter Tryz.func14, Tryz.ntmps14
  go_wp2_with fail
  refine (HN.out _).mono ?_
  rintro e w1 ⟨rfl, hb1⟩
  have V1 : Hid (Below w.heap.size w w1) := B0.out.trans (hb1.mono B0.out.size)
  have E1 : Hid (EmptyR w1 (w.heap.size + 1)) := E0.out.later hb1
  obtain ⟨r0, r1, r2, r3, r4, r5⟩ := R0.out.later hb1
  have hsz := E1.out.lt
  clear hb1
  go_wp2_with fail
  refine (HMU.out _).mono ?_
  rintro e w2 ⟨rfl, hb2⟩
  have V1a := V1.out.alloc V1.out.size (.cells #[.int .u64 NB, .int .i64 NF, .bool false] 39)
  have V2 : Hid (Below w.heap.size w w2) := V1a.trans (hb2.mono V1a.size)
  obtain ⟨k0, k1, k2, k3, k4, k5, k6⟩ := (E1.out.later ((Below.refl _ _).alloc (Nat.le_refl _) _)).later hb2
  clear hb2 V1a V1 E1
  go_wp2_with fail
  refine bodyPost_ret (v := .agg #[.int .u64 PB, .int .i64 PF, .bool false]) (by simp [results, Tryz.results14, go_sem, k1, k2, k3]) rfl ⟨rfl, ?_⟩
  repeat (first | exact V2.out | refine Below.setCell ?_ (by simp) _)

/-- A quotient: the program and the document's answer say the same. -/
theorem done_div (op m x y z : Int) (h : op % 256 = 4) (hx : 0 ≤ x ∧ x < 18446744073709551616) (hy : 0 ≤ y ∧ y < 18446744073709551616) (hz : 0 ≤ z ∧ z < 18446744073709551616) (w : World) (hT : Tab w) :
    Calls Tryz.prog 11 #[.agg #[.int .i64 op, .int .i64 m, .int .u64 x, .int .u64 y, .int .u64 z]] w fun e w' => e = .returned (.bool true) ∧ Below w.heap.size w w' := by
  by_cases hbad : 4 < m % 256
  · exact done_any op m x y z 0 0 true (by omega) w (fun w1 _ => soft_bad _ _ x y z (by omega) (by omega) (.inr (.inr hbad)) w1) (fun w1 _ => ref_bad _ _ x y z (.inr (.inr hbad)) w1)
  have hm : 0 ≤ m % 256 ∧ m % 256 ≤ 4 := by omega
  obtain ⟨X, rfl⟩ : ∃ X : Nat, x = X := ⟨x.toNat, by omega⟩
  obtain ⟨Y, rfl⟩ : ∃ Y : Nat, y = Y := ⟨y.toNat, by omega⟩
  have hX : X < 18446744073709551616 := by omega
  have hY : Y < 18446744073709551616 := by omega
  by_cases hn : anyN [(X : Int), (Y : Int)] = true
  · have hr := nanFlag_range [(X : Int), (Y : Int)]
    refine done_any op m X Y z (nanBits [(X : Int), (Y : Int)]) (nanFlag [(X : Int), (Y : Int)]) false (by omega) w (fun w1 _ => ?_) (fun w1 _ => ?_)
    · rw [h]; exact soft_nans 4 (m % 256) X Y z 2 _ (by omega) hm hx hy hz (by omega) index4 hn w1
    · rw [h]; exact ref_nan2 4 (m % 256) X Y z (by omega) (by omega) hx hy hz hn w1
  · have hn' : anyN [(X : Int), (Y : Int)] = false := by simpa using hn
    have hk : kind (X : Int) < 4 ∧ kind (Y : Int) < 4 := by
      simp [anyN, isN] at hn'
      omega
    have hr := divF_range X Y (m % 256)
    refine done_any op m X Y z (divB X Y (m % 256)) (divF X Y (m % 256)) false (by omega) w (fun w1 hb => ?_) (fun w1 _ => ?_)
    · rw [h]; exact soft_div X Y (m % 256) z hX hY hz hm hk.1 hk.2 w1 (hT.later hb)
    · rw [h]; exact ref_div X Y (m % 256) z hm hX hY hz hn' w1

set_option maxHeartbeats 400000 in
theorem quotients_walk (a0 : Option Addr) (b off len cap : Nat) (w : World) (hT : Tab w) (ha : 0 < len → a0 = some ⟨b, off, none⟩) (hb : 0 < len → b < w.heap.size)
    (hstep : ∀ i, i < len → ∃ k a op m x y z la ln lc, StepAt w b (off + i * 8) k a op m x y z la ln lc) :
    Calls Tryz.prog 5 #[.slice a0 len cap] w fun e w' => e = .returned (.bool true) ∧ Below w.heap.size w w' := by
  have HSt : Hid (∀ i, i < len → ∃ k a op m x y z la ln lc, StepAt w b (off + i * 8) k a op m x y z la ln lc) := hstep
  have HT : Hid (Tab w) := hT
  clear hstep hT
  go_enter Tryz.func5, Tryz.ntmps5
  go_wp2_with fail
  refine (of_any a0 b off len cap 4 4 w ha hb HSt.out (fun op m x y z h1 h2 hx hy hz w1 hb1 => done_div op m x y z (by omega) hx hy hz w1 (HT.out.later hb1))).mono ?_
  rintro e w1 ⟨rfl, hb1⟩
  have HB1 : Hid (Below w.heap.size w w1) := hb1
  clear hb1
  go_wp2_with fail
  go_ret
  exact ⟨rfl, HB1.out⟩

end Go.Proofs.YtcjihaafohnbeaaGreatDoor
