import Derived.Test.YtcjihaafohnbeaaDoorKn2
namespace Go.Proofs.YtcjihaafohnbeaaDoor
open Go.RowKit

theorem i64_and16 (n : Int) : bits .and .i64 n 65535 = n % 65536 := by
  have h1 : (BitVec.ofInt 64 65535).toNat = 2 ^ 16 - 1 := by decide
  have key : (BitVec.ofInt 64 n &&& BitVec.ofInt 64 65535).toNat = (n % ((2 ^ 64 : Nat) : Int)).toNat % 2 ^ 16 := by
    rw [BitVec.toNat_and, BitVec.toNat_ofInt, h1, Nat.and_two_pow_sub_one_eq_mod]
  show IntKind.i64.wrap ((BitVec.ofInt 64 n &&& BitVec.ofInt 64 65535).toNat : Nat) = n % 65536
  rw [key, IntKind.wrap_i64]
  omega
theorem i64_and20 (n : Int) : bits .and .i64 n 1048575 = n % 1048576 := by
  have h1 : (BitVec.ofInt 64 1048575).toNat = 2 ^ 20 - 1 := by decide
  have key : (BitVec.ofInt 64 n &&& BitVec.ofInt 64 1048575).toNat = (n % ((2 ^ 64 : Nat) : Int)).toNat % 2 ^ 20 := by
    rw [BitVec.toNat_and, BitVec.toNat_ofInt, h1, Nat.and_two_pow_sub_one_eq_mod]
  show IntKind.i64.wrap ((BitVec.ofInt 64 n &&& BitVec.ofInt 64 1048575).toNat : Nat) = n % 1048576
  rw [key, IntKind.wrap_i64]
  omega
theorem and_26 (x : Int) (h0 : 0 ≤ x) (h1 : x < 18446744073709551616) : bits .and .u64 x 67108863 = x % 67108864 := and_low _ 26 h0 h1 (by decide)

/-- A whole number's bits, 0 among them. -/
structure WN (x : Nat) (n : Int) : Prop where
  lt : x < 18446744073709551616
  bits : (x : Int) = wI n
  zero : n = 0 → x = 0
  some : n ≠ 0 → Whole x (if n < 0 then 1 else 0) n.natAbs (53 - Go.bitLen n.natAbs)
theorem wn_of (n : Int) (h : n.natAbs < 9007199254740992) : ∃ x : Nat, WN x n := by
  by_cases h0 : n = 0
  · exact ⟨0, by decide, by rw [h0]; rfl, fun _ => rfl, fun g => absurd h0 g⟩
  · obtain ⟨x, hx⟩ := whole_parts (s := if n < 0 then 1 else 0) (N := n.natAbs) (by split <;> decide) h (by omega)
    refine ⟨x, hx.lt, ?_, fun g => absurd g h0, fun _ => hx⟩
    rw [hx.bits]
    unfold wI
    rw [if_neg h0]
    split <;> rfl
theorem WN.parts {x : Nat} {n : Int} (h : WN x n) : ∃ s N t : Nat, s < 2 ∧ sgn x = s ∧ mant x = N * 2 ^ t ∧ pow x = -(t : Int) ∧ n = sv s N ∧ t ≤ 1074 ∧ ¬ kind x = 3 ∧ kind x < 4 := by
  by_cases h0 : n = 0
  · have := h.zero h0
    subst this h0
    obtain ⟨t, ht⟩ : ∃ t : Nat, t = 1074 := ⟨_, rfl⟩
    exact ⟨0, 0, t, by decide, by decide, (show mant 0 = 0 by decide).trans (Nat.zero_mul _).symm, by rw [ht]; decide, by decide, by omega, by decide, by decide⟩
  · have hw := h.some h0
    have k := hw.kd
    exact ⟨_, _, _, by split <;> decide, hw.sg, hw.mt, hw.pw, by unfold sv; split <;> simp <;> omega, by omega, by omega, by omega⟩
theorem WN.kind0 {x : Nat} {n : Int} (h : WN x n) : (n = 0 → kind x = 0) ∧ (n ≠ 0 → kind x = 2) := ⟨fun g => by rw [h.zero g]; decide, fun g => (h.some g).kd⟩
theorem neg_parts {x : Nat} (hx : x < 18446744073709551616) : sgn (neg x) = 1 - sgn x ∧ mant (neg x) = mant x ∧ pow (neg x) = pow x ∧ kind (neg x) = kind x := by
  have e1 : neg x / 4503599627370496 % 2048 = x / 4503599627370496 % 2048 := by unfold neg; split <;> omega
  have e2 : neg x % 4503599627370496 = x % 4503599627370496 := by unfold neg; split <;> omega
  have f1 : ((neg x : Nat) : Int) / 4503599627370496 % 2048 = (x : Int) / 4503599627370496 % 2048 := by omega
  have f2 : ((neg x : Nat) : Int) % 4503599627370496 = (x : Int) % 4503599627370496 := by omega
  refine ⟨?_, ?_, ?_, ?_⟩
  · unfold sgn neg; split <;> omega
  · unfold mant; rw [e1, e2]
  · unfold pow; rw [e1]
  · unfold kind; rw [f1, f2]
theorem sm_bl (x : Nat) : Go.bitLen (mant x) ≤ 53 := bitLen_le (n := 53) (mant_lt x)
theorem kn_add {x y : Nat} {a b m : Int} (hx : WN x a) (hy : WN y b) (h0 : a + b ≠ 0) (hl : (a + b).natAbs < 9007199254740992) : psB x y m = wI (a + b) ∧ psF x y m = 0 := by
  obtain ⟨s1, N1, t1, g1, e1, e2, e3, e4, e5, k1, _⟩ := hx.parts
  obtain ⟨s2, N2, t2, g2, f1, f2, f3, f4, f5, k2, _⟩ := hy.parts
  have b1 := sm_bl x
  have b2 := sm_bl y
  unfold psB psF
  rw [if_neg (fun h => k1 h.1), if_neg k1, if_neg k2, if_neg (fun h => k1 h.1), if_neg k1, if_neg k2]
  refine sum_whole (by omega) (by omega) (by decide) (by omega) (by omega) (fun h => mant_high (by omega)) (fun h => mant_high (by omega)) e2 e3 f2 f3 ?_ h0 hl
  rw [e1, f1, e4, f4]
theorem kn_sub {x y : Nat} {a b m : Int} (hx : WN x a) (hy : WN y b) (h0 : a - b ≠ 0) (hl : (a - b).natAbs < 9007199254740992) : psB x (neg y) m = wI (a - b) ∧ psF x (neg y) m = 0 := by
  obtain ⟨s1, N1, t1, g1, e1, e2, e3, e4, e5, k1, _⟩ := hx.parts
  obtain ⟨s2, N2, t2, g2, f1, f2, f3, f4, f5, k2, _⟩ := hy.parts
  obtain ⟨n1, n2, n3, n4⟩ := neg_parts hy.lt
  have b1 := sm_bl x
  have b2 := sm_bl (neg y)
  have k2' : ¬ kind (neg y) = 3 := by rw [n4]; exact k2
  unfold psB psF
  rw [if_neg (fun h => k1 h.1), if_neg k1, if_neg k2', if_neg (fun h => k1 h.1), if_neg k1, if_neg k2']
  refine sum_whole (N1 := N1) (N2 := N2) (by omega) (by omega) (by decide) (by omega) (by omega) (fun h => mant_high (by omega)) (fun h => mant_high (by omega)) e2 e3 (by rw [n2]; exact f2) (by rw [n3]; exact f3) ?_ h0 hl
  rw [e1, n1, f1, e4, f4]
  have : (s2 = 0) ∨ (s2 = 1) := by omega
  unfold sv
  rcases this with rfl | rfl <;> simp <;> split <;> omega
theorem sgn_mul {a b : Int} (ha : a ≠ 0) (hb : b ≠ 0) : (if a * b < 0 then 1 else 0 : Nat) = ((if a < 0 then 1 else 0 : Nat) + (if b < 0 then 1 else 0 : Nat)) % 2 := by
  rcases Int.lt_or_lt_of_ne ha with h1 | h1 <;> rcases Int.lt_or_lt_of_ne hb with h2 | h2
  · have := Int.mul_pos_of_neg_of_neg h1 h2; rw [if_neg (by omega), if_pos h1, if_pos h2]
  · have := Int.mul_neg_of_neg_of_pos h1 h2; rw [if_pos this, if_pos h1, if_neg (by omega)]
  · have := Int.mul_neg_of_pos_of_neg h1 h2; rw [if_pos this, if_neg (by omega), if_pos h2]
  · have := Int.mul_pos h1 h2; rw [if_neg (by omega), if_neg (by omega), if_neg (by omega)]
theorem wI_ne {n : Int} (h : n ≠ 0) : wI n = wholeB ((if n < 0 then 1 else 0 : Nat) : Int) n.natAbs := by
  unfold wI
  rw [if_neg h]
  split <;> rfl
theorem kn_mulI {x y : Nat} {a b m : Int} (hx : WN x a) (hy : WN y b) (ha : a ≠ 0) (hb : b ≠ 0) (hl : (a * b).natAbs < 9007199254740992) : prodB x y m = wI (a * b) ∧ prodF x y m = 0 := by
  have h := kn_mul (m := m) (hx.some ha) (hy.some hb) (by omega) (by omega) (by rw [← Int.natAbs_mul]; exact hl)
  rw [wI_ne (Int.mul_ne_zero ha hb), sgn_mul ha hb, Int.natAbs_mul]
  exact h
theorem kn_divI {x y : Nat} {a b m : Int} (hx : WN x (a * b)) (hy : WN y b) (ha : a ≠ 0) (hb : b ≠ 0) (hl : a.natAbs < 9007199254740992) : divB x y m = wI a ∧ divF x y m = 0 := by
  have h1 := hx.some (Int.mul_ne_zero ha hb)
  rw [Int.natAbs_mul] at h1
  have h := kn_div (m := m) h1 (hy.some hb) (by omega) (by omega) (by omega) hl
  rw [wI_ne ha]
  have e : ((if a * b < 0 then 1 else 0 : Nat) + (if b < 0 then 1 else 0 : Nat)) % 2 = (if a < 0 then 1 else 0 : Nat) := by
    rw [sgn_mul ha hb]
    (repeat' split) <;> rfl
  rw [e] at h
  exact h
theorem kn_sqI {x : Nat} {a m : Int} (hx : WN x (a * a)) (ha : a ≠ 0) (hl : a.natAbs < 9007199254740992) : sqB x m = wI (a.natAbs : Int) ∧ sqF x m = 0 := by
  have h1 := hx.some (Int.mul_ne_zero ha ha)
  have hp : ¬ a * a < 0 := by have := @Int.natAbs_mul_self a; omega
  rw [Int.natAbs_mul, if_neg hp] at h1
  have h := kn_sq (m := m) h1 (by omega) hl
  rw [wI_ne (by omega), if_neg (by omega), Int.natAbs_natCast]
  exact h
theorem kn_cbI {x : Nat} {m : Int} (k : Nat) (hx : WN x ((k : Int) * k * k)) (hl : k < 65536) : cbB x m = wI (k : Int) ∧ cbF x m = 0 := by
  by_cases h0 : k = 0
  · subst h0
    have := hx.zero (by decide)
    subst this
    unfold cbB cbF
    rw [if_pos (by decide), if_pos (by decide)]
    exact ⟨by decide, rfl⟩
  · have e : ((k : Int) * k * k) = ((k * (k * k) : Nat) : Int) := by rw [Int.natCast_mul, Int.natCast_mul, Int.mul_assoc]
    have hk : k * (k * k) ≠ 0 := fun g => by rcases Nat.mul_eq_zero.1 g with g | g; exact h0 g; rcases Nat.mul_eq_zero.1 g with g | g <;> exact h0 g
    rw [e] at hx
    have h1 := hx.some (by omega)
    rw [Int.natAbs_natCast] at h1
    have h := kn_cb (m := m) h1 h0 (by omega)
    rw [wI_ne (by omega), if_neg (by omega), Int.natAbs_natCast]
    rw [if_neg (by omega)] at h
    exact h
theorem kn_sdI {x y : Nat} {m : Int} (q : Nat) (hx : WN x (3 * (q : Int))) (hy : WN y (-4 * (q : Int))) (hl : q < 1048576) : sdB x y m = wI (5 * (q : Int)) ∧ sdF x y m = 0 := by
  by_cases h0 : q = 0
  · subst h0
    have h1 := hx.zero (by decide)
    have h2 := hy.zero (by decide)
    subst h1 h2
    unfold sdB sdF
    rw [if_neg (by decide), if_pos (by decide), if_neg (by decide), if_pos (by decide)]
    exact ⟨by decide, rfl⟩
  · have h1 := hx.some (by omega)
    have h2 := hy.some (by omega)
    have n1 : (3 * (q : Int)).natAbs = 3 * q := by omega
    have n2 : (-4 * (q : Int)).natAbs = 4 * q := by omega
    rw [n1] at h1
    rw [n2] at h2
    have h := kn_sd (m := m) (N := 5 * q) h1 h2 (by omega) (by omega) (by
      rw [Nat.mul_mul_mul_comm, Nat.mul_mul_mul_comm 4, Nat.mul_mul_mul_comm 5, ← Nat.add_mul])
    rw [wI_ne (by omega), if_neg (by omega), show (5 * (q : Int)).natAbs = 5 * q by omega]
    exact h
theorem kn_fmI {x y z : Nat} {a b c m : Int} (hx : WN x a) (hy : WN y b) (hz : WN z c) (ha : a ≠ 0) (hb : b ≠ 0) (la : a.natAbs ≤ 33554432) (lb : b.natAbs ≤ 33554432) (lc : c.natAbs ≤ 33554432) (h0 : a * b + c ≠ 0) : fmB x y z m = wI (a * b + c) ∧ fmF x y z m = 0 := by
  have lab : (a * b).natAbs ≤ 1125899906842624 := by rw [Int.natAbs_mul]; exact Nat.mul_le_mul la lb
  have kx := hx.kind0.2 ha
  have ky := hy.kind0.2 hb
  have hz1 := hz.kind0
  have h1 : ¬ zti (kind x) (kind y) = true := by rw [kx, ky]; decide
  have h2 : ¬ ((kind x = 3 ∨ kind y = 3) ∨ (kind x = 0 ∨ kind y = 0)) := by omega
  by_cases hc : c = 0
  · have k := hz1.1 hc
    unfold fmB fmF
    have h3 : ¬ kind z = 3 := by omega
    rw [if_neg h1, if_neg h1, if_neg h2, if_neg h2, if_neg h3, if_neg h3, if_pos k, if_pos k, hc, Int.add_zero]
    exact kn_mulI hx hy ha hb (by omega)
  · have k := hz1.2 hc
    unfold fmB fmF
    have h3 : ¬ kind z = 3 := by omega
    have h4 : ¬ kind z = 0 := by omega
    rw [if_neg h1, if_neg h1, if_neg h2, if_neg h2, if_neg h3, if_neg h3, if_neg h4, if_neg h4]
    have wx := hx.some ha
    have wy := hy.some hb
    have wz := hz.some hc
    have bz := sm_bl z
    have bxy : Go.bitLen (mant x * mant y) ≤ 106 := bitLen_le (n := 106) (Nat.lt_of_lt_of_le (Nat.mul_lt_mul'' (mant_lt x) (mant_lt y)) (by decide))
    have px := wx.pw
    have py := wy.pw
    have pz := wz.pw
    refine sum_whole (N1 := a.natAbs * b.natAbs) (N2 := c.natAbs) (t1 := (53 - Go.bitLen a.natAbs) + (53 - Go.bitLen b.natAbs)) (t2 := 53 - Go.bitLen c.natAbs) (xs_lt x y) (by rw [wz.sg]; split <;> decide) (by decide) (by omega) (by omega) (fun h => by omega) (fun h => by omega) (by rw [wx.mt, wy.mt, Nat.pow_add, Nat.mul_mul_mul_comm]) (by rw [px, py]; omega) wz.mt pz ?_ h0 (by omega)
    rw [xs_of wx wy, wz.sg, ← sgn_mul ha hb]
    have ea : a * b = sv (if a * b < 0 then 1 else 0) (a.natAbs * b.natAbs) := by
      rw [← Int.natAbs_mul]
      unfold sv
      split <;> simp <;> omega
    have ec : c = sv (if c < 0 then 1 else 0) c.natAbs := by unfold sv; split <;> simp <;> omega
    omega
end Go.Proofs.YtcjihaafohnbeaaDoor
