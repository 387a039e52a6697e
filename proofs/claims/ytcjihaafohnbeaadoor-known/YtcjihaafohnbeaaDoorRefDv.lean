import Derived.Test.YtcjihaafohnbeaaDoorOdd1
import Derived.Test.YtcjihaafohnbeaaDoorRefX
namespace Go.Proofs.YtcjihaafohnbeaaDoor
open Go.RowKit

/-- A sum's sign, amount and exponent. -/
def fsS (x y : Nat) (m : Int) : Nat := gsS 128 (sgn x) (mant x) (pow x) (sgn y) (mant y) (pow y) m
def fsD (x y : Nat) : Nat := gsD 128 (sgn x) (mant x) (pow x) (sgn y) (mant y) (pow y)
def fsP (x y : Nat) : Int := gsP 128 (sgn x) (mant x) (pow x) (sgn y) (mant y) (pow y)
def sumB (x y : Nat) (m : Int) : Int :=
  if kind x = 3 ∧ kind y = 3 ∧ x ≠ y then 9221120237041090560
  else if kind x = 3 then x else if kind y = 3 then y
  else if fsD x y = 0 then fsS x y m * 9223372036854775808 else roundB (fsS x y m) (fsD x y) (fsP x y) m
def sumF (x y : Nat) (m : Int) : Int :=
  if kind x = 3 ∧ kind y = 3 ∧ x ≠ y then 16
  else if kind x = 3 then 0 else if kind y = 3 then 0
  else if fsD x y = 0 then 0 else roundF (fsS x y m) (fsD x y) (fsP x y) m
theorem ps_sum (x y : Nat) (m : Int) : psB x y m = sumB x y m ∧ psF x y m = sumF x y m := by
  unfold psB psF sumB sumF rsB rsF fsD fsS fsP
  exact ⟨rfl, rfl⟩
theorem fsS_lt {x y : Nat} {m : Int} (hx : x < 18446744073709551616) (hy : y < 18446744073709551616) : fsS x y m < 2 := gsS_lt (sgn_lt hx) (sgn_lt hy)
theorem lift_none {n d : Nat} (h : Go.bitLen d + 2 ≤ n) : lift n d 0 = 0 := by unfold lift; omega
theorem mk_whole (d : Nat) : mk d 0 = d := by unfold mk; simp [Nat.mod_one]
theorem su_comm (s1 X s2 Y : Nat) (m P : Int) : suS s1 X s2 Y m = suS s2 Y s1 X m ∧ suD s1 X s2 Y = suD s2 Y s1 X ∧ suP s1 X s2 Y P = suP s2 Y s1 X P := by
  unfold suS suD suP
  refine ⟨?_, ?_, ?_⟩ <;> (repeat' split) <;> omega
theorem gs_comm {n s1 d1 s2 d2 : Nat} {p1 p2 m : Int} (b1 : Go.bitLen d1 + 2 ≤ n) (b2 : Go.bitLen d2 + 2 ≤ n) :
    gsS n s1 d1 p1 s2 d2 p2 m = gsS n s2 d2 p2 s1 d1 p1 m ∧ gsD n s1 d1 p1 s2 d2 p2 = gsD n s2 d2 p2 s1 d1 p1 ∧ gsP n s1 d1 p1 s2 d2 p2 = gsP n s2 d2 p2 s1 d1 p1 := by
  unfold gsS gsD gsP
  by_cases h1 : p2 ≤ p1 <;> by_cases h2 : p1 ≤ p2
  · have e : p1 = p2 := by omega
    subst e
    simp only [if_pos h1, Int.sub_self, lift_none b1, lift_none b2, Int.toNat_zero, Nat.pow_zero, Nat.mul_one, mk_whole]
    exact su_comm _ _ _ _ _ _
  · simp only [if_pos h1, if_neg h2]
    exact ⟨trivial, trivial, trivial⟩
  · simp only [if_neg h1, if_pos h2]
    exact ⟨trivial, trivial, trivial⟩
  · omega
theorem sum_comm (x y : Nat) (m : Int) : sumB x y m = sumB y x m ∧ sumF x y m = sumF y x m := by
  have e := gs_comm (n := 128) (s1 := sgn x) (d1 := mant x) (p1 := pow x) (s2 := sgn y) (d2 := mant y) (p2 := pow y) (m := m) (bl_mant x) (bl_mant y)
  have e1 : fsS x y m = fsS y x m := e.1
  have e2 : fsD x y = fsD y x := e.2.1
  have e3 : fsP x y = fsP y x := e.2.2
  unfold sumB sumF
  rw [e1, e2, e3]
  by_cases h1 : kind x = 3 <;> by_cases h2 : kind y = 3 <;> by_cases h3 : x = y <;> simp [h1, h2, h3, eq_comm] <;> omega
theorem soft_addS (x y : Nat) (m z : Int) (hx : x < 18446744073709551616) (hy : y < 18446744073709551616) (hz : 0 ≤ z ∧ z < 18446744073709551616) (hm : 0 ≤ m ∧ m ≤ 4) (h1 : kind x < 4) (h2 : kind y < 4) (w : World) (hT : Tab w) :
    Calls Tryd.prog 12 #[.agg #[.int .u8 1, .int .u8 m, .int .u64 x, .int .u64 y, .int .u64 z]] w fun e w' => e = .returned (.agg #[.int .u64 (sumB x y m), .int .u8 (sumF x y m), .bool false]) ∧ Below w.heap.size w w' := by
  rw [← (ps_sum x y m).1, ← (ps_sum x y m).2]
  exact soft_add x y m z hx hy hz hm h1 h2 w hT
theorem soft_subS (x y : Nat) (m z : Int) (hx : x < 18446744073709551616) (hy : y < 18446744073709551616) (hz : 0 ≤ z ∧ z < 18446744073709551616) (hm : 0 ≤ m ∧ m ≤ 4) (h1 : kind x < 4) (h2 : kind y < 4) (w : World) (hT : Tab w) :
    Calls Tryd.prog 12 #[.agg #[.int .u8 2, .int .u8 m, .int .u64 x, .int .u64 y, .int .u64 z]] w fun e w' => e = .returned (.agg #[.int .u64 (sumB x (neg y) m), .int .u8 (sumF x (neg y) m), .bool false]) ∧ Below w.heap.size w w' := by
  rw [← (ps_sum x (neg y) m).1, ← (ps_sum x (neg y) m).2]
  exact soft_sub x y m z hx hy hz hm h1 h2 w hT
theorem live1 : sumB 4607182418800017408 4611686018427387904 0 = 4613937818241073152 ∧ sumF 4607182418800017408 4611686018427387904 0 = 0 := by decide +kernel
theorem live2 : sumB 4607182418800017408 4336966441157787648 0 = 4607182418800017408 ∧ sumF 4607182418800017408 4336966441157787648 0 = 1 := by decide +kernel
theorem live3 : sumB 4607182418800017408 4336966441157787648 3 = 4607182418800017409 ∧ sumF 4607182418800017408 4336966441157787648 3 = 1 := by decide +kernel
theorem live4 : prodB 4613937818241073152 4613937818241073152 0 = 4621256167635550208 ∧ prodF 4613937818241073152 4613937818241073152 0 = 0 := by decide +kernel


/-- The mode for numbers of the other sign. -/
def otherM (m : Int) : Int := if m = 3 then 4 else if m = 4 then 3 else m
theorem otherM_range {m : Int} (h : 0 ≤ m ∧ m ≤ 4) : 0 ≤ otherM m ∧ otherM m ≤ 4 := by unfold otherM; (repeat' split) <;> omega

theorem sgn_neg {x : Nat} (h : x < 18446744073709551616) : sgn (neg x) = 1 - sgn x := by unfold sgn neg; split <;> omega
theorem mant_neg {x : Nat} (h : x < 18446744073709551616) : mant (neg x) = mant x := by
  unfold mant neg
  have e1 : (if x < 9223372036854775808 then x + 9223372036854775808 else x - 9223372036854775808) / 4503599627370496 % 2048 = x / 4503599627370496 % 2048 := by split <;> omega
  have e2 : (if x < 9223372036854775808 then x + 9223372036854775808 else x - 9223372036854775808) % 4503599627370496 = x % 4503599627370496 := by split <;> omega
  rw [e1, e2]
theorem pow_neg {x : Nat} (h : x < 18446744073709551616) : pow (neg x) = pow x := by
  unfold pow neg
  have e1 : (if x < 9223372036854775808 then x + 9223372036854775808 else x - 9223372036854775808) / 4503599627370496 % 2048 = x / 4503599627370496 % 2048 := by split <;> omega
  rw [e1]
theorem kind_neg {x : Nat} (h : x < 18446744073709551616) : kind (neg x) = kind x := by
  unfold kind neg
  have e1 : (((if x < 9223372036854775808 then x + 9223372036854775808 else x - 9223372036854775808 : Nat) : Int)) / 4503599627370496 % 2048 = (x : Int) / 4503599627370496 % 2048 := by split <;> omega
  have e2 : (((if x < 9223372036854775808 then x + 9223372036854775808 else x - 9223372036854775808 : Nat) : Int)) % 4503599627370496 = (x : Int) % 4503599627370496 := by split <;> omega
  rw [e1, e2]

theorem grow_flip {m s r : Int} (hm : 0 ≤ m ∧ m ≤ 4) (hs : s = 0 ∨ s = 1) : grow (otherM m) (1 - s) r = grow m s r := by
  obtain h | h | h | h | h : m = 0 ∨ m = 1 ∨ m = 2 ∨ m = 3 ∨ m = 4 := by omega
  all_goals subst h
  all_goals rcases hs with rfl | rfl
  all_goals simp [grow, otherM]
theorem cutQ_flip {m s : Int} (hm : 0 ≤ m ∧ m ≤ 4) (hs : s = 0 ∨ s = 1) (D : Nat) (k : Int) : cutQ (1 - s) (otherM m) D k = cutQ s m D k := by
  unfold cutQ; rw [grow_flip hm hs]
theorem roundF_flip {m s : Int} (hm : 0 ≤ m ∧ m ≤ 4) (hs : s = 0 ∨ s = 1) (D : Nat) (p : Int) : roundF (1 - s) D p (otherM m) = roundF s D p m := by
  unfold roundF; rw [cutQ_flip hm hs]
/-- Bits of the other sign: told without their sign they are the same. -/
theorem roundB_flip {m s : Int} (hm : 0 ≤ m ∧ m ≤ 4) (hs : s = 0 ∨ s = 1) (D : Nat) (p : Int) : roundB (1 - s) D p (otherM m) - (1 - s) * 9223372036854775808 = roundB s D p m - s * 9223372036854775808 := by
  unfold roundB overB
  simp only [cutQ_flip hm hs, grow_flip hm hs]
  (repeat' split) <;> omega
theorem roundB_range {m s : Int} (_hs : s = 0 ∨ s = 1) (D : Nat) (p : Int) : 0 ≤ roundB s D p m - s * 9223372036854775808 ∧ roundB s D p m - s * 9223372036854775808 ≤ 9218868437227405312 := by
  have h1 := cutQ_le s m (D := D) (k := (Go.bitLen D : Int) - 53) (Int.le_refl _)
  have h2 : p + Go.bitLen D - 53 < -1074 → cutQ s m D (-1074 - p) ≤ 9007199254740992 := fun h => cutQ_le s m (by omega)
  unfold roundB overB
  simp only
  generalize cutQ s m D ((Go.bitLen D : Int) - 53) = q at *
  generalize cutQ s m D (-1074 - p) = q2 at *
  (repeat' split) <;> omega

theorem prod_comm (x y : Nat) (m : Int) : prodB x y m = prodB y x m ∧ prodF x y m = prodF y x m := by
  have e : xs x y = xs y x := by unfold xs; rw [Nat.add_comm]
  unfold prodB prodF
  rw [e, Nat.mul_comm (mant x), Int.add_comm (pow x)]
  by_cases h1 : kind x = 3 <;> by_cases h2 : kind y = 3 <;> by_cases h3 : kind x = 0 <;> by_cases h4 : kind y = 0 <;> simp [h1, h2, h3, h4]

/-- The other sign, of bits that were reckoned. -/
def negI (z : Int) : Int := if z < 9223372036854775808 then z + 9223372036854775808 else z - 9223372036854775808
theorem neg_cast (y : Nat) : (neg y : Int) = negI y := by unfold neg negI; (repeat' split) <;> omega
/-- Is it a NaN? -/
def nanI (z : Int) : Bool := decide (18437736874454810624 < z * 2 % 18446744073709551616)
theorem nanI_kind {x : Nat} (_hx : x < 18446744073709551616) (h : nanI x = false) : kind x < 4 := by
  unfold nanI at h
  rw [decide_eq_false_iff_not] at h
  unfold kind kindB
  (repeat' split) <;> omega

theorem roundB_neg {m s : Int} (hm : 0 ≤ m ∧ m ≤ 4) (hs : s = 0 ∨ s = 1) (D : Nat) (p : Int) : negI (roundB (1 - s) D p (otherM m)) = roundB s D p m := by
  have h1 := roundB_flip hm hs D p
  have h2 := roundB_range (m := m) hs D p
  have h3 := roundB_range (m := otherM m) (s := 1 - s) (by omega) D p
  unfold negI
  rcases hs with rfl | rfl
  · rw [if_neg (by omega)]; omega
  · rw [if_pos (by omega)]; omega

theorem suS_flip {s1 X s2 Y : Nat} {m : Int} (h1 : s1 < 2) (h2 : s2 < 2) (h : ¬ suD s1 X s2 Y = 0) : suS (1 - s1) X (1 - s2) Y (otherM m) = 1 - suS s1 X s2 Y m := by
  unfold suD at h
  unfold suS
  by_cases e : s1 = s2
  · subst e; simp
  · have e' : ¬ 1 - s1 = 1 - s2 := by omega
    rw [if_neg e] at h
    rw [if_neg e, if_neg e']
    by_cases g : X = Y
    · subst g; simp at h
    · rw [if_neg g, if_neg g]; split <;> rfl
theorem suD_flip {s1 X s2 Y : Nat} (h1 : s1 < 2) (h2 : s2 < 2) : suD (1 - s1) X (1 - s2) Y = suD s1 X s2 Y := by
  unfold suD
  by_cases e : s1 = s2
  · subst e; simp
  · rw [if_neg e, if_neg (by omega)]
theorem suP_flip {s1 X s2 Y : Nat} {P : Int} (h1 : s1 < 2) (h2 : s2 < 2) : suP (1 - s1) X (1 - s2) Y P = suP s1 X s2 Y P := by
  unfold suP
  by_cases e : s1 = s2
  · subst e; simp
  · rw [if_neg e, if_neg (by omega)]
theorem fsD_flip {x y : Nat} (hx : x < 18446744073709551616) (hy : y < 18446744073709551616) : fsD (neg x) (neg y) = fsD x y := by
  unfold fsD gsD
  rw [pow_neg hx, pow_neg hy, mant_neg hx, mant_neg hy, sgn_neg hx, sgn_neg hy, suD_flip (sgn_lt hx) (sgn_lt hy), suD_flip (sgn_lt hy) (sgn_lt hx)]
theorem fsP_flip {x y : Nat} (hx : x < 18446744073709551616) (hy : y < 18446744073709551616) : fsP (neg x) (neg y) = fsP x y := by
  unfold fsP gsP
  rw [pow_neg hx, pow_neg hy, mant_neg hx, mant_neg hy, sgn_neg hx, sgn_neg hy, suP_flip (sgn_lt hx) (sgn_lt hy), suP_flip (sgn_lt hy) (sgn_lt hx)]
theorem fsS_flip {x y : Nat} {m : Int} (hx : x < 18446744073709551616) (hy : y < 18446744073709551616) (h : ¬ fsD x y = 0) : fsS (neg x) (neg y) (otherM m) = 1 - fsS x y m := by
  unfold fsD gsD at h
  unfold fsS gsS
  rw [pow_neg hx, pow_neg hy, mant_neg hx, mant_neg hy, sgn_neg hx, sgn_neg hy]
  by_cases g : pow y ≤ pow x
  · rw [if_pos g] at h; rw [if_pos g, if_pos g]; exact suS_flip (sgn_lt hx) (sgn_lt hy) h
  · rw [if_neg g] at h; rw [if_neg g, if_neg g]; exact suS_flip (sgn_lt hy) (sgn_lt hx) h

theorem kind_negI {x : Nat} (h : x < 18446744073709551616) : kind ((neg x : Nat) : Int) = kind (x : Int) := kind_neg h
theorem neg_inj {x y : Nat} (hx : x < 18446744073709551616) (hy : y < 18446744073709551616) : neg x = neg y ↔ x = y :=
  ⟨fun h => by rw [← neg_neg hx, ← neg_neg hy, h], fun h => by rw [h]⟩
theorem sumF_flip {x y : Nat} {m : Int} (hm : 0 ≤ m ∧ m ≤ 4) (hx : x < 18446744073709551616) (hy : y < 18446744073709551616) : sumF (neg x) (neg y) (otherM m) = sumF x y m := by
  unfold sumF
  rw [kind_negI hx, kind_negI hy, fsD_flip hx hy, fsP_flip hx hy]
  simp only [ne_eq, neg_inj hx hy]
  by_cases h : fsD x y = 0
  · rw [if_pos h, if_pos h]
  · have hs := fsS_lt (m := m) hx hy
    rw [if_neg h, if_neg h, fsS_flip hx hy h]
    have e : ((1 - fsS x y m : Nat) : Int) = 1 - (fsS x y m : Int) := by omega
    rw [e, roundF_flip hm (by omega)]
/-- A sum of numbers of the other sign. -/
theorem sumB_flip {x y : Nat} {m : Int} (hm : 0 ≤ m ∧ m ≤ 4) (hx : x < 18446744073709551616) (hy : y < 18446744073709551616) (a b : Int) (ha : a = sumB x y m) (hb : b = sumB (neg x) (neg y) (otherM m)) : nanI a = true ∨ negI b = a ∨ (a * 2 % 18446744073709551616 = 0 ∧ b * 2 % 18446744073709551616 = 0) := by
  unfold sumB at ha hb
  rw [kind_negI hx, kind_negI hy, fsD_flip hx hy, fsP_flip hx hy] at hb
  simp only [ne_eq, neg_inj hx hy] at ha hb
  by_cases h1 : kind x = 3 ∧ kind y = 3 ∧ ¬ x = y
  · rw [if_pos h1] at ha; subst ha; left; decide
  rw [if_neg h1] at ha hb
  by_cases h2 : kind x = 3
  · rw [if_pos h2] at ha hb
    right; left; rw [ha, hb, ← neg_cast, neg_neg hx]
  rw [if_neg h2] at ha hb
  by_cases h3 : kind y = 3
  · rw [if_pos h3] at ha hb
    right; left; rw [ha, hb, ← neg_cast, neg_neg hy]
  rw [if_neg h3] at ha hb
  by_cases h : fsD x y = 0
  · rw [if_pos h] at ha hb
    have hs := fsS_lt (m := m) hx hy
    have hs' := fsS_lt (m := otherM m) (neg_lt hx) (neg_lt hy)
    right; right; omega
  · have hs := fsS_lt (m := m) hx hy
    rw [if_neg h] at ha hb
    rw [fsS_flip hx hy h, show ((1 - fsS x y m : Nat) : Int) = 1 - (fsS x y m : Int) by omega] at hb
    right; left; rw [ha, hb, roundB_neg hm (by omega)]
theorem xs_flip {x y : Nat} (hx : x < 18446744073709551616) : (xs (neg x) y : Int) = 1 - (xs x y : Int) := by
  have := sgn_lt hx
  unfold xs
  rw [sgn_neg hx]
  omega
theorem prodF_flip {x y : Nat} {m : Int} (hm : 0 ≤ m ∧ m ≤ 4) (hx : x < 18446744073709551616) : prodF (neg x) y (otherM m) = prodF x y m := by
  have := xs_lt x y
  unfold prodF
  rw [kind_negI hx, mant_neg hx, pow_neg hx, xs_flip hx, roundF_flip hm (by omega)]
theorem prodB_flip {x y : Nat} {m : Int} (hm : 0 ≤ m ∧ m ≤ 4) (hx : x < 18446744073709551616) (a b : Int) (ha : a = prodB x y m) (hb : b = prodB (neg x) y (otherM m)) : nanI a = true ∨ negI b = a := by
  have hs := xs_lt x y
  unfold prodB at ha hb
  rw [kind_negI hx, mant_neg hx, pow_neg hx, xs_flip hx] at hb
  by_cases h1 : (kind x = 3 ∨ kind y = 3) ∧ (kind x = 0 ∨ kind y = 0)
  · rw [if_pos h1] at ha; subst ha; left; decide
  rw [if_neg h1] at ha hb
  by_cases h2 : kind x = 3 ∨ kind y = 3
  · rw [if_pos h2] at ha hb
    right; rw [ha, hb]; unfold negI; split <;> omega
  rw [if_neg h2] at ha hb
  by_cases h3 : kind x = 0 ∨ kind y = 0
  · rw [if_pos h3] at ha hb
    right; rw [ha, hb]; unfold negI; split <;> omega
  rw [if_neg h3] at ha hb
  right; rw [ha, hb, roundB_neg hm (by omega)]
theorem sumB_lt {x y : Nat} {m : Int} (hx : x < 18446744073709551616) (hy : y < 18446744073709551616) : 0 ≤ sumB x y m ∧ sumB x y m < 18446744073709551616 := by
  have hs := fsS_lt (m := m) hx hy
  have := roundB_range (m := m) (s := fsS x y m) (by omega) (fsD x y) (fsP x y)
  unfold sumB
  (repeat' split) <;> omega
theorem prodB_lt {x y : Nat} {m : Int} : 0 ≤ prodB x y m ∧ prodB x y m < 18446744073709551616 := by
  have hs := xs_lt x y
  have := roundB_range (m := m) (s := xs x y) (by omega) (mant x * mant y) (pow x + pow y)
  unfold prodB
  (repeat' split) <;> omega


theorem grow_none (m s : Int) : grow m s 0 = 0 := by unfold grow; (repeat' split) <;> omega
theorem cut_scale (s m : Int) (D t : Nat) (k : Int) : cutQ s m (D * 2 ^ t) (k + t) = cutQ s m D k ∧ cutCh (D * 2 ^ t) (k + t) = cutCh D k := by
  by_cases h : k ≤ 0
  · by_cases h2 : k + t ≤ 0
    · unfold cutQ cutCh
      rw [if_pos h, if_pos h2, if_pos h, if_pos h2, Nat.mul_assoc, ← Nat.pow_add, show t + (-(k + t)).toNat = (-k).toNat by omega]
      exact ⟨rfl, rfl⟩
    · obtain ⟨j, hj⟩ : ∃ j : Nat, k + t = j := ⟨(k + t).toNat, by omega⟩
      have e : D * 2 ^ t = D * 2 ^ (-k).toNat * 2 ^ j := by rw [Nat.mul_assoc, ← Nat.pow_add, show (-k).toNat + j = t by omega]
      have hr : restN (D * 2 ^ (-k).toNat * 2 ^ j) j = 0 := by unfold restN; rw [if_pos (Nat.mul_mod_left _ _)]
      unfold cutQ cutCh
      rw [if_pos h, if_pos h, if_neg h2, if_neg h2, hj, Int.toNat_natCast, e, hr, grow_none, Nat.mul_div_cancel _ (Nat.two_pow_pos j)]
      exact ⟨rfl, rfl⟩
  · obtain ⟨j, hj⟩ : ∃ j : Nat, k = j := ⟨k.toNat, by omega⟩
    subst hj
    exact cut_same (by omega) (even_cut (E := D * 2 ^ t) (t := t) (Nat.mul_mod_left _ _) (Nat.mul_div_cancel _ (Nat.two_pow_pos t)).symm)
theorem bitLen_scale {D : Nat} (t : Nat) (h : D ≠ 0) : Go.bitLen (D * 2 ^ t) = Go.bitLen D + t := by
  have e : D * 2 ^ t / 2 ^ t = D := Nat.mul_div_cancel _ (Nat.two_pow_pos t)
  have := Go.bitLen_shift (D * 2 ^ t) t (by rw [e]; exact h)
  rw [e] at this
  omega
theorem round_scale {s m p : Int} {D : Nat} (t : Nat) (h : D ≠ 0) : roundB s (D * 2 ^ t) p m = roundB s D (p + t) m ∧ roundF s (D * 2 ^ t) p m = roundF s D (p + t) m := by
  have hb := bitLen_scale t h
  have c := cut_scale s m D t (Go.bitLen D - 53)
  have c2 := cut_scale s m D t (-1074 - (p + t))
  rw [show -1074 - (p + (t : Int)) + t = -1074 - p by omega] at c2
  unfold roundB roundF
  rw [show ((Go.bitLen (D * 2 ^ t) : Nat) : Int) - 53 = (Go.bitLen D : Int) - 53 + t by omega, c.1, c.2, c2.1, c2.2,
    show p + ((Go.bitLen (D * 2 ^ t) : Nat) : Int) - 52 = p + t + Go.bitLen D - 52 by omega, show p + ((Go.bitLen (D * 2 ^ t) : Nat) : Int) - 53 = p + t + Go.bitLen D - 53 by omega]
  exact ⟨rfl, rfl⟩


/-- The document's quotient, where neither is a NaN. -/
def divB (x y : Nat) (m : Int) : Int :=
  if (kind x = 3 ∧ kind y = 3) ∨ (kind x = 0 ∧ kind y = 0) then 9221120237041090560
  else if kind x = 3 then xs x y * 9223372036854775808 + 9218868437227405312
  else if kind y = 3 ∨ kind x = 0 then xs x y * 9223372036854775808
  else if kind y = 0 then xs x y * 9223372036854775808 + 9218868437227405312
  else roundB (xs x y) (quD (mant x) (mant y)) (pow x - 120 - pow y - 1) m
def divF (x y : Nat) (m : Int) : Int :=
  if (kind x = 3 ∧ kind y = 3) ∨ (kind x = 0 ∧ kind y = 0) then 16
  else if kind x = 3 then 0
  else if kind y = 3 ∨ kind x = 0 then 0
  else if kind y = 0 then 8
  else roundF (xs x y) (quD (mant x) (mant y)) (pow x - 120 - pow y - 1) m
theorem mkQ_le (q : Nat) (b : Bool) : mkQ q b ≤ 2 * q + 1 := by unfold mkQ; split <;> omega
theorem mkQ_zero {q : Nat} {b : Bool} (h : mkQ q b = 0) : q = 0 ∧ b = true := by
  unfold mkQ at h
  cases b with
  | false => exact absurd h (Nat.succ_ne_zero _)
  | true => exact ⟨by rw [if_pos rfl] at h; omega, rfl⟩
theorem quD_some {D1 D2 : Nat} (h1 : D1 ≠ 0) : quD D1 D2 ≠ 0 := by
  have hN : D1 * 2 ^ 120 ≠ 0 := Nat.mul_ne_zero h1 (Nat.pos_iff_ne_zero.1 (Nat.two_pow_pos 120))
  unfold quD
  generalize D1 * 2 ^ 120 = N at *
  intro e
  obtain ⟨hz, hd⟩ := mkQ_zero e
  have h : N % D2 = 0 := of_decide_eq_true hd
  have := Nat.div_add_mod N D2
  rw [h, hz, Nat.mul_zero] at this
  exact hN this.symm
theorem nd_quD {D1 D2 : Nat} (h : nd D1 ≤ 500) : nd (quD D1 D2) ≤ 1000 := by
  have h6 : nd (2 ^ 120) ≤ 6 := nd_of_lt (by decide)
  have hA : nd (D1 * 2 ^ 120) ≤ 506 := Nat.le_trans (nd_mul_le _ _) (by omega)
  have hle : quD D1 D2 ≤ 2 * (D1 * 2 ^ 120) + 1 := by
    unfold quD
    refine Nat.le_trans (mkQ_le _ _) ?_
    have := Nat.div_le_self (D1 * 2 ^ 120) D2
    omega
  refine Nat.le_trans (nd_mono hle) (Nat.le_trans (nd_add_le _ _) ?_)
  have h2 : nd 2 = 1 := (by decide)
  have h1 : nd 1 = 1 := (by decide)
  have := nd_mul_le 2 (D1 * 2 ^ 120)
  omega


end Go.Proofs.YtcjihaafohnbeaaDoor
