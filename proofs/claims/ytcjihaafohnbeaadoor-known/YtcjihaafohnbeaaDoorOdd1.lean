import Derived.Test.YtcjihaafohnbeaaDoorPE
import Derived.Test.YtcjihaafohnbeaaDoorRefT
import Derived.Test.YtcjihaafohnbeaaDoorRound0
import Derived.Test.YtcjihaafohnbeaaDoorRefI
namespace Go.Proofs.YtcjihaafohnbeaaDoor
open Go.RowKit

/-- The other sign. -/
def neg (y : Nat) : Nat := if y < 9223372036854775808 then y + 9223372036854775808 else y - 9223372036854775808
theorem neg_lt {y : Nat} (h : y < 18446744073709551616) : neg y < 18446744073709551616 := by unfold neg; split <;> omega
theorem neg_neg {y : Nat} (h : y < 18446744073709551616) : neg (neg y) = y := by unfold neg; (repeat' split) <;> omega
theorem xor_low (y : Nat) (h : y < 9223372036854775808) : y ^^^ 2 ^ 63 = 2 ^ 63 + y := by
  apply Nat.eq_of_testBit_eq
  intro i
  rw [Nat.testBit_xor, Nat.testBit_two_pow]
  by_cases h1 : i < 63
  · rw [Nat.testBit_two_pow_add_gt h1]
    have : ¬ 63 = i := by omega
    simp [this]
  · by_cases h2 : i = 63
    · subst h2
      rw [Nat.testBit_two_pow_add_eq]
      simp
    · have hp : 2 ^ 64 ≤ 2 ^ i := Nat.pow_le_pow_right (by decide) (by omega)
      rw [Nat.testBit_lt_two_pow (show y < 2 ^ i by omega), Nat.testBit_lt_two_pow (show 2 ^ 63 + y < 2 ^ i by omega)]
      have : ¬ 63 = i := by omega
      simp [this]
theorem xor_top (y : Nat) (h : y < 18446744073709551616) : bits .xor .u64 (y : Int) 9223372036854775808 = (neg y : Int) := by
  have h1 := bits_xor_u64_nat y (2 ^ 63) h (by decide)
  rw [show ((2 ^ 63 : Nat) : Int) = 9223372036854775808 by decide] at h1
  rw [h1]
  congr 1
  unfold neg
  by_cases hl : y < 9223372036854775808
  · rw [if_pos hl, xor_low y hl]; omega
  · rw [if_neg hl]
    have h2 := xor_low (y - 9223372036854775808) (by omega)
    have h3 : y = (y - 9223372036854775808) ^^^ 2 ^ 63 := by rw [h2]; omega
    have h4 : y ^^^ 2 ^ 63 = ((y - 9223372036854775808) ^^^ 2 ^ 63) ^^^ 2 ^ 63 := by rw [← h3]
    rw [h4, Nat.xor_assoc, Nat.xor_self, Nat.xor_zero]

set_option maxHeartbeats 1000000 in
theorem soft_difference (x y : Nat) (op m z : Int) (hx : x < 18446744073709551616) (hy : y < 18446744073709551616) (hm : 0 ≤ m ∧ m ≤ 4) (w : World) (hT : Tab w) :
    Calls Tryd.prog 22 #[.agg #[.int .u8 op, .int .u8 m, .int .u64 x, .int .u64 y, .int .u64 z]] w fun e w' =>
      e = .returned (.agg #[.int .u64 (psB x (neg y) m), .int .u8 (psF x (neg y) m), .bool false]) ∧ Below w.heap.size w w' := by
  have hxor := xor_top y hy
  have HS : Hid (∀ w1, Below w.heap.size w w1 → Calls Tryd.prog 21 #[.agg #[.int .u8 op, .int .u8 m, .int .u64 x, .int .u64 (neg y), .int .u64 z]] w1 fun e w' =>
      e = .returned (.agg #[.int .u64 (psB x (neg y) m), .int .u8 (psF x (neg y) m), .bool false]) ∧ Below w1.heap.size w1 w') := fun w1 hb => soft_sum x (neg y) op m z hx (neg_lt hy) hm w1 (hT.later hb)
  clear hx hy hm hT
  generalize psB x (neg y) m = B at *
  generalize psF x (neg y) m = F at *
  go_enter Tryd.func22, Tryd.ntmps22
  go_wp2_with fail
  refine (HS.out _ (((Below.refl _ _).alloc (Nat.le_refl _) _).alloc (by simp) _)).mono ?_
  rintro e w1 ⟨rfl, hb1⟩
  have KR : Hid (Rows2 w w1 [.int .u8 op, .int .u8 m, .int .u64 x, .int .u64 (neg y), .int .u64 z] [.int .u64 0, .int .u8 0, .bool false]) := (Rows2.start w _ _ _ _ (by simp) (by simp)).later hb1
  have r0 := KR.out.r.cells 0 _ rfl
  have r1 := KR.out.r.cells 1 _ rfl
  have r2 := KR.out.r.cells 2 _ rfl
  have f0 := KR.out.r.live 0 _ rfl
  have f1 := KR.out.r.live 1 _ rfl
  have f2 := KR.out.r.live 2 _ rfl
  clear hb1
  go_wp2_with fail
  refine bodyPost_ret (v := .agg #[.int .u64 B, .int .u8 F, .bool false]) (by simp [results, Tryd.results22, go_sem, *]) rfl ⟨rfl, ?_⟩
  exact ((KR.out.below.setCell (by simp) _).setCell (by simp) _).setCell (by simp) _

theorem index1 (w : World) : (Instr.index 48 (.agg opsCells) (.int .u8 1)).run Tryd.prog w = .ok (.agg #[.int .i64 ((2 : Nat) : Int), .func (.func 21) #[] #[], .nilFunc]) w := by kernel_rfl
theorem index2 (w : World) : (Instr.index 48 (.agg opsCells) (.int .u8 2)).run Tryd.prog w = .ok (.agg #[.int .i64 ((2 : Nat) : Int), .func (.func 22) #[] #[], .nilFunc]) w := by kernel_rfl
theorem index3 (w : World) : (Instr.index 48 (.agg opsCells) (.int .u8 3)).run Tryd.prog w = .ok (.agg #[.int .i64 ((2 : Nat) : Int), .func (.func 23) #[] #[], .nilFunc]) w := by kernel_rfl
theorem index4 (w : World) : (Instr.index 48 (.agg opsCells) (.int .u8 4)).run Tryd.prog w = .ok (.agg #[.int .i64 ((2 : Nat) : Int), .func (.func 24) #[] #[], .nilFunc]) w := by kernel_rfl
theorem index5 (w : World) : (Instr.index 48 (.agg opsCells) (.int .u8 5)).run Tryd.prog w = .ok (.agg #[.int .i64 ((3 : Nat) : Int), .func (.func 25) #[] #[], .func (.func 26) #[] #[]]) w := by kernel_rfl
theorem soft_add (x y : Nat) (m z : Int) (hx : x < 18446744073709551616) (hy : y < 18446744073709551616) (hz : 0 ≤ z ∧ z < 18446744073709551616) (hm : 0 ≤ m ∧ m ≤ 4) (h1 : kind x < 4) (h2 : kind y < 4) (w : World) (hT : Tab w) :
    Calls Tryd.prog 12 #[.agg #[.int .u8 1, .int .u8 m, .int .u64 x, .int .u64 y, .int .u64 z]] w fun e w' => e = .returned (.agg #[.int .u64 (psB x y m), .int .u8 (psF x y m), .bool false]) ∧ Below w.heap.size w w' := by
  obtain ⟨Z, rfl⟩ := Int.eq_ofNat_of_zero_le hz.1
  exact soft_do 1 m x y Z 2 21 (by omega) hm hx hy (by omega) (by omega) index1 (anyN_false h1 h2) w _ _ false (enters_of Tryd.func21 (by kernel_rfl) rfl) (fun w1 hb => soft_sum x y 1 m Z hx hy hm w1 (hT.later hb))
theorem soft_sub (x y : Nat) (m z : Int) (hx : x < 18446744073709551616) (hy : y < 18446744073709551616) (hz : 0 ≤ z ∧ z < 18446744073709551616) (hm : 0 ≤ m ∧ m ≤ 4) (h1 : kind x < 4) (h2 : kind y < 4) (w : World) (hT : Tab w) :
    Calls Tryd.prog 12 #[.agg #[.int .u8 2, .int .u8 m, .int .u64 x, .int .u64 y, .int .u64 z]] w fun e w' => e = .returned (.agg #[.int .u64 (psB x (neg y) m), .int .u8 (psF x (neg y) m), .bool false]) ∧ Below w.heap.size w w' := by
  obtain ⟨Z, rfl⟩ := Int.eq_ofNat_of_zero_le hz.1
  exact soft_do 2 m x y Z 2 22 (by omega) hm hx hy (by omega) (by omega) index2 (anyN_false h1 h2) w _ _ false (enters_of Tryd.func22 (by kernel_rfl) rfl) (fun w1 hb => soft_difference x y 2 m Z hx hy hm w1 (hT.later hb))
theorem soft_mul (x y : Nat) (m z : Int) (hx : x < 18446744073709551616) (hy : y < 18446744073709551616) (hz : 0 ≤ z ∧ z < 18446744073709551616) (hm : 0 ≤ m ∧ m ≤ 4) (h1 : kind x < 4) (h2 : kind y < 4) (w : World) (hT : Tab w) :
    Calls Tryd.prog 12 #[.agg #[.int .u8 3, .int .u8 m, .int .u64 x, .int .u64 y, .int .u64 z]] w fun e w' => e = .returned (.agg #[.int .u64 (prodB x y m), .int .u8 (prodF x y m), .bool false]) ∧ Below w.heap.size w w' := by
  obtain ⟨Z, rfl⟩ := Int.eq_ofNat_of_zero_le hz.1
  exact soft_do 3 m x y Z 2 23 (by omega) hm hx hy (by omega) (by omega) index3 (anyN_false h1 h2) w _ _ false (enters_of Tryd.func23 (by kernel_rfl) rfl) (fun w1 hb => soft_product x y 3 m Z hx hy hm w1 (hT.later hb))


theorem rest_bit {D j : Nat} (h : D % 2 ^ j ≠ 0) : restN D (j + 1) = if D / 2 ^ j % 2 = 0 then 1 else 3 := by
  have hp := Nat.two_pow_pos j
  have e1 : D % 2 ^ (j + 1) = D % 2 ^ j + 2 ^ j * (D / 2 ^ j % 2) := by rw [Nat.pow_succ, Nat.mod_mul]
  have h2 := Nat.mod_lt D hp
  unfold restN
  rw [e1, Nat.pow_succ]
  have h3 : D / 2 ^ j % 2 = 0 ∨ D / 2 ^ j % 2 = 1 := by omega
  rcases h3 with h3 | h3
  · rw [h3, Nat.mul_zero, Nat.add_zero, if_neg h, if_pos (by omega), if_pos rfl]
  · rw [h3, Nat.mul_one, if_neg (by omega), if_neg (by omega), if_neg (by omega), if_neg (by decide)]
theorem mod_low {E t K : Nat} (ht : t ≤ K) (h : E % 2 ^ t ≠ 0) : E % 2 ^ K ≠ 0 := by
  intro h0
  apply h
  have : E % 2 ^ K % 2 ^ t = E % 2 ^ t := Nat.mod_mod_of_dvd _ (Nat.pow_dvd_pow 2 ht)
  rw [← this, h0, Nat.zero_mod]
/-- What is cut off leaves an odd digit: the number is rounded as it was. -/
theorem odd_cut {E t k D : Nat} (hne : E % 2 ^ t ≠ 0) (hD : D = E / 2 ^ t + (1 - E / 2 ^ t % 2)) (hk : 2 ≤ k) : D / 2 ^ k = E / 2 ^ (k + t) ∧ restN D k = restN E (k + t) := by
  obtain ⟨j, rfl⟩ : ∃ j, k = j + 1 := ⟨k - 1, by omega⟩
  have hodd : D % 2 = 1 := by omega
  have hhalf : D / 2 = E / 2 ^ t / 2 := by omega
  have hq : ∀ i, 1 ≤ i → D / 2 ^ i = E / 2 ^ (i + t) := by
    intro i hi
    obtain ⟨i', rfl⟩ : ∃ i', i = i' + 1 := ⟨i - 1, by omega⟩
    rw [show i' + 1 + t = t + (1 + i') by omega, Nat.pow_add 2 t, ← Nat.div_div_eq_div_mul, Nat.pow_add 2 1, ← Nat.div_div_eq_div_mul, Nat.pow_succ, Nat.mul_comm (2 ^ i') 2, ← Nat.div_div_eq_div_mul, Nat.pow_one, hhalf]
  refine ⟨hq _ (by omega), ?_⟩
  have h1 : D % 2 ^ j ≠ 0 := mod_low (t := 1) (by omega) (by omega)
  rw [rest_bit h1, show j + 1 + t = (j + t) + 1 by omega, rest_bit (mod_low (by omega) hne), hq j (by omega)]
/-- Nothing is cut off. -/
theorem even_cut {E t k D : Nat} (he : E % 2 ^ t = 0) (hD : D = E / 2 ^ t) : D / 2 ^ k = E / 2 ^ (k + t) ∧ restN D k = restN E (k + t) := by
  have hE : E = D * 2 ^ t := by rw [hD, Nat.div_mul_cancel (Nat.dvd_of_mod_eq_zero he)]
  have hp := Nat.two_pow_pos t
  refine ⟨by rw [hD, Nat.div_div_eq_div_mul, ← Nat.pow_add, Nat.add_comm], ?_⟩
  unfold restN
  have e1 : E % 2 ^ (k + t) = D % 2 ^ k * 2 ^ t := by rw [hE, Nat.pow_add, Nat.mul_mod_mul_right]
  rw [e1, Nat.pow_add]
  have c1 : D % 2 ^ k * 2 ^ t = 0 ↔ D % 2 ^ k = 0 := by
    constructor
    · intro h; rcases Nat.mul_eq_zero.1 h with h | h <;> omega
    · intro h; rw [h, Nat.zero_mul]
  have c2 : 2 * (D % 2 ^ k * 2 ^ t) < 2 ^ k * 2 ^ t ↔ 2 * (D % 2 ^ k) < 2 ^ k := by
    rw [← Nat.mul_assoc]
    exact Nat.mul_lt_mul_right hp
  have c3 : 2 * (D % 2 ^ k * 2 ^ t) = 2 ^ k * 2 ^ t ↔ 2 * (D % 2 ^ k) = 2 ^ k := by
    rw [← Nat.mul_assoc]
    exact Nat.mul_left_inj (by omega)
  simp only [c1, c2, c3]
theorem cut_same {s m : Int} {E D t k : Nat} (hk : 0 < k) (h : D / 2 ^ k = E / 2 ^ (k + t) ∧ restN D k = restN E (k + t)) : cutQ s m E ((k : Int) + t) = cutQ s m D k ∧ cutCh E ((k : Int) + t) = cutCh D k := by
  unfold cutQ cutCh
  rw [if_neg (by omega), if_neg (by omega), if_neg (by omega), if_neg (by omega), show ((k : Int) + t).toNat = k + t by omega, Int.toNat_natCast, h.1, h.2]
  exact ⟨rfl, rfl⟩
/-- Two amounts that are cut alike are rounded alike. -/
theorem round_same {s m p : Int} {E D t : Nat} (hbl : Go.bitLen E = Go.bitLen D + t) (hD : 55 ≤ Go.bitLen D) (h : ∀ k, 2 ≤ k → D / 2 ^ k = E / 2 ^ (k + t) ∧ restN D k = restN E (k + t)) : roundB s E p m = roundB s D (p + t) m ∧ roundF s E p m = roundF s D (p + t) m := by
  obtain ⟨k, hk⟩ : ∃ k : Nat, (Go.bitLen D : Int) - 53 = k := ⟨Go.bitLen D - 53, by omega⟩
  have c := cut_same (s := s) (m := m) (show 0 < k by omega) (h k (by omega))
  have e1 : (Go.bitLen E : Int) - 53 = (k : Int) + t := by omega
  have tiny : ∀ u : Int, u < -1074 → (u = p + Go.bitLen E - 53 ∨ u = p + Go.bitLen E - 52) → cutQ s m E (-1074 - p) = cutQ s m D (-1074 - (p + t)) ∧ cutCh E (-1074 - p) = cutCh D (-1074 - (p + t)) := by
    intro u hu hor
    obtain ⟨j, hj⟩ : ∃ j : Nat, -1074 - (p + t) = (j : Int) := ⟨(-1074 - (p + t)).toNat, by omega⟩
    have := cut_same (s := s) (m := m) (show 0 < j by omega) (h j (by omega))
    rw [hj, show -1074 - p = (j : Int) + t by omega]
    exact this
  unfold roundB roundF
  rw [e1, c.1, c.2, hk]
  simp only
  rw [show p + (Go.bitLen E : Int) - 52 = p + t + Go.bitLen D - 52 by omega, show p + (Go.bitLen E : Int) - 53 = p + t + Go.bitLen D - 53 by omega]
  by_cases hy : cutQ s m D k = 9007199254740992
  · simp only [if_pos hy]
    by_cases h1 : 971 < p + t + Go.bitLen D - 52
    · simp only [if_pos h1]; exact ⟨trivial, trivial⟩
    · simp only [if_neg h1]
      by_cases h2 : p + t + Go.bitLen D - 52 < -1074
      · have := tiny (p + t + Go.bitLen D - 52) h2 (by omega)
        simp only [if_pos h2, this.1, this.2]; exact ⟨trivial, trivial⟩
      · simp only [if_neg h2]; exact ⟨trivial, trivial⟩
  · simp only [if_neg hy]
    by_cases h1 : 971 < p + t + Go.bitLen D - 53
    · simp only [if_pos h1]; exact ⟨trivial, trivial⟩
    · simp only [if_neg h1]
      by_cases h2 : p + t + Go.bitLen D - 53 < -1074
      · have := tiny (p + t + Go.bitLen D - 53) h2 (by omega)
        simp only [if_pos h2, this.1, this.2]; exact ⟨trivial, trivial⟩
      · simp only [if_neg h2]; exact ⟨trivial, trivial⟩


theorem bl_near {F D : Nat} (h : D / 2 = F / 2) (h0 : 2 ≤ F) : Go.bitLen D = Go.bitLen F := by
  have h1 := Go.bitLen_shift D 1 (by simp; omega)
  have h2 := Go.bitLen_shift F 1 (by simp; omega)
  rw [Nat.pow_one] at h1 h2
  rw [h1, h2, h]
/-- The exact amount E and the program's D, made of it by t digits fewer and a mark. -/
theorem mark_round {s m p : Int} {E D t : Nat} (hD : (E % 2 ^ t = 0 ∧ D = E / 2 ^ t) ∨ (E % 2 ^ t ≠ 0 ∧ D = E / 2 ^ t + (1 - E / 2 ^ t % 2))) (hb : 2 ^ 60 ≤ E / 2 ^ t) : roundB s E p m = roundB s D (p + t) m ∧ roundF s E p m = roundF s D (p + t) m := by
  have hF : 2 ≤ E / 2 ^ t := Nat.le_trans (by decide) hb
  have hbE := Go.bitLen_shift E t (by omega)
  have hbD : Go.bitLen D = Go.bitLen (E / 2 ^ t) := by
    rcases hD with ⟨_, rfl⟩ | ⟨_, h⟩
    · rfl
    · exact bl_near (by omega) hF
  have h60 : 61 ≤ Go.bitLen (E / 2 ^ t) := by
    have := (Go.bitLen_spec (E / 2 ^ t)).1
    have : (2 : Nat) ^ 60 < 2 ^ Go.bitLen (E / 2 ^ t) := Nat.lt_of_le_of_lt hb this
    have := (Nat.pow_lt_pow_iff_right (by decide : 1 < 2)).1 this
    omega
  refine round_same (by omega) (by omega) fun k hk => ?_
  rcases hD with ⟨h1, h2⟩ | ⟨h1, h2⟩
  · exact even_cut h1 h2
  · exact odd_cut h1 h2 hk

theorem far_plus {A d t : Nat} (hA : A % 2 = 0) : ((A * 2 ^ t + d) % 2 ^ t = 0 ∧ A + mk d t = (A * 2 ^ t + d) / 2 ^ t) ∨ ((A * 2 ^ t + d) % 2 ^ t ≠ 0 ∧ A + mk d t = (A * 2 ^ t + d) / 2 ^ t + (1 - (A * 2 ^ t + d) / 2 ^ t % 2)) := by
  have hp := Nat.two_pow_pos t
  have e1 : (A * 2 ^ t + d) % 2 ^ t = d % 2 ^ t := by rw [Nat.add_comm, Nat.add_mul_mod_self_right]
  have e2 : (A * 2 ^ t + d) / 2 ^ t = A + d / 2 ^ t := by rw [Nat.add_comm, Nat.add_mul_div_right _ _ hp, Nat.add_comm]
  rw [e1, e2]
  unfold mk
  by_cases h : d % 2 ^ t = 0
  · left; rw [if_pos h]; exact ⟨h, rfl⟩
  · right; rw [if_neg h]; exact ⟨h, by omega⟩
theorem far_minus {A d t : Nat} (hA : A % 2 = 0) (hd : d / 2 ^ t + 2 ≤ A) : ((A * 2 ^ t - d) % 2 ^ t = 0 ∧ A - mk d t = (A * 2 ^ t - d) / 2 ^ t) ∨ ((A * 2 ^ t - d) % 2 ^ t ≠ 0 ∧ A - mk d t = (A * 2 ^ t - d) / 2 ^ t + (1 - (A * 2 ^ t - d) / 2 ^ t % 2)) := by
  have hp := Nat.two_pow_pos t
  have hdm := Nat.div_add_mod d (2 ^ t)
  have hr := Nat.mod_lt d hp
  unfold mk
  generalize d / 2 ^ t = q at *
  generalize d % 2 ^ t = r at *
  obtain ⟨B, rfl⟩ : ∃ B, A = q + 1 + B := ⟨A - q - 1, by omega⟩
  have eA : (q + 1 + B) * 2 ^ t = 2 ^ t * q + 2 ^ t + B * 2 ^ t := by rw [Nat.add_mul, Nat.add_mul, Nat.one_mul, Nat.mul_comm q]
  by_cases h : r = 0
  · left
    have e : (q + 1 + B) * 2 ^ t - d = (B + 1) * 2 ^ t := by rw [eA, Nat.add_mul, Nat.one_mul]; omega
    rw [e, if_pos h, Nat.mul_mod_left, Nat.mul_div_cancel _ hp]
    exact ⟨rfl, by omega⟩
  · right
    have e : (q + 1 + B) * 2 ^ t - d = (2 ^ t - r) + B * 2 ^ t := by rw [eA]; omega
    rw [e, if_neg h, Nat.add_mul_mod_self_right, Nat.add_mul_div_right _ _ hp, Nat.mod_eq_of_lt (by omega), Nat.div_eq_of_lt (by omega)]
    exact ⟨by omega, by omega⟩


end Go.Proofs.YtcjihaafohnbeaaDoor
