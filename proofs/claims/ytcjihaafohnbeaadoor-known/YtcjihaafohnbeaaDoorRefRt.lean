import Derived.Test.YtcjihaafohnbeaaDoorFair1
import Derived.Test.YtcjihaafohnbeaaDoorTurn3
import Derived.Laws.BitsAllLaws
import Derived.Laws.OwnMore
import Derived.Deep.AppendLies
import Derived.Test.YtcjihaafohnbeaaDoorPH
import Derived.Test.YtcjihaafohnbeaaDoorRefDv
import Derived.Test.YtcjihaafohnbeaaDoorOdd1
import Derived.Test.YtcjihaafohnbeaaDoorRefX
import Derived.Deep.RegionHeld3
namespace Go.Proofs.YtcjihaafohnbeaaDoor
open Go.RowKit

theorem and_top (z : Int) (h0 : 9223372036854775808 ≤ z) (h1 : z < 18446744073709551616) : bits .and .u64 z 9223372036854775807 = z - 9223372036854775808 := by
  have h := bits_and_u64_nat z.toNat (2 ^ 63 - 1) (by omega) (by decide)
  rw [Nat.and_two_pow_sub_one_eq_mod, show ((2 ^ 63 - 1 : Nat) : Int) = 9223372036854775807 by decide, show (z.toNat : Int) = z by omega] at h
  rw [h]
  omega
theorem and_one (f : Int) (h0 : 0 ≤ f) (h1 : f < 256) : bits .and .u8 f 1 = f % 2 := by
  have h := u8_and f 1 h0 h1 (by decide) (by decide)
  rw [h, show (1 : Int).toNat = 2 ^ 1 - 1 by decide, Nat.and_two_pow_sub_one_eq_mod]
  omega

set_option maxHeartbeats 400000 in
theorem order_any (z : Int) (h : 0 ≤ z ∧ z < 18446744073709551616) (w : World) :
    Calls Tryd.prog 15 #[.int .u64 z] w fun e w' => e = .returned (.int .i64 (ordI z)) ∧ w' = w := by
  unfold ordI
  by_cases hz : 9223372036854775808 ≤ z
  · have ha := and_top z hz h.2
    have h1 : z / 9223372036854775808 = 1 := by omega
    have hw := wrap64_small (z - 9223372036854775808) (by omega) (by omega)
    have hw2 : wrap64 (-(z - 9223372036854775808)) = -(z - 9223372036854775808) := by unfold wrap64; omega
    rw [if_pos hz]
    go_enter Tryd.func15, Tryd.ntmps15
    go_wp2
    go_ret
    exact ⟨ret_int (by first | rfl | assumption | omega), rfl⟩
  · have h1 : (z / 9223372036854775808 == 1) = false := by simp; omega
    have hw := wrap64_small z (by omega) (by omega)
    rw [if_neg hz]
    go_enter Tryd.func15, Tryd.ntmps15
    go_wp2
    go_ret
    exact ⟨rfl, rfl⟩

/-- The law's record as it lies in its block, whole. -/
structure ARec (w : World) (g : Nat) (op mo x y z : Int) : Prop where
  lt : g < w.heap.size
  c0 : w.cell? ⟨g, 0, none⟩ = some (.int .i64 op)
  c1 : w.cell? ⟨g, 1, none⟩ = some (.int .i64 mo)
  c2 : w.cell? ⟨g, 2, none⟩ = some (.int .u64 x)
  c3 : w.cell? ⟨g, 3, none⟩ = some (.int .u64 y)
  c4 : w.cell? ⟨g, 4, none⟩ = some (.int .u64 z)
theorem ARec.later {w w' : World} {g : Nat} {op mo x y z : Int} (h : ARec w g op mo x y z) (hb : Below w.heap.size w w') : ARec w' g op mo x y z :=
  ⟨Nat.lt_of_lt_of_le h.lt hb.size, (hb.cell (p := ⟨g, 0, none⟩) h.lt).trans h.c0, (hb.cell (p := ⟨g, 1, none⟩) h.lt).trans h.c1, (hb.cell (p := ⟨g, 2, none⟩) h.lt).trans h.c2, (hb.cell (p := ⟨g, 3, none⟩) h.lt).trans h.c3, (hb.cell (p := ⟨g, 4, none⟩) h.lt).trans h.c4⟩
theorem ARec.grown {w w' : World} {g : Nat} {op mo x y z : Int} {row : Option Nat} (h : ARec w g op mo x y z) (hg : w.grownBy w' row) (hr : some g ≠ row) : ARec w' g op mo x y z := by
  have e := hg.block g h.lt hr
  exact ⟨Nat.lt_of_lt_of_le h.lt hg.size, (World.cell?_of_block (a := ⟨g, 0, none⟩) e).trans h.c0, (World.cell?_of_block (a := ⟨g, 1, none⟩) e).trans h.c1, (World.cell?_of_block (a := ⟨g, 2, none⟩) e).trans h.c2, (World.cell?_of_block (a := ⟨g, 3, none⟩) e).trans h.c3, (World.cell?_of_block (a := ⟨g, 4, none⟩) e).trans h.c4⟩

theorem own_later {w w' : World} {base : Nat} {e : TypeId} {size : Nat} {v : Value} {n : Nat} {xs : List Value} (h : w.ownsRow base e size v n xs) (hb : Below w.heap.size w w') : w'.ownsRow base e size v n xs := by
  refine ⟨h.1, ?_⟩
  rcases h.2 with hn | ⟨g, cap, cur, hv, hbg, hg, rest⟩
  · exact .inl hn
  · have hl : g < w.heap.size := (h.lt g (by rw [hv]; rfl)).2
    exact .inr ⟨g, cap, cur, hv, hbg, (hb.block g hl).trans hg, rest⟩

/-- The first k results, as they lie one behind the other. -/
def resRow (B F : Int → Int) : Nat → List Value
  | 0 => []
  | k + 1 => resRow B F k ++ [.int .u64 (B k), .int .u8 (F k), .bool false]
theorem resRow_five (B F : Int → Int) : resRow B F 5 = [.int .u64 (B 0), .int .u8 (F 0), .bool false, .int .u64 (B 1), .int .u8 (F 1), .bool false, .int .u64 (B 2), .int .u8 (F 2), .bool false, .int .u64 (B 3), .int .u8 (F 3), .bool false, .int .u64 (B 4), .int .u8 (F 4), .bool false] := rfl


/-- A quotient with more places, marked, and cut to fewer: the quotient with fewer. -/
theorem quo_cut {N d j : Nat} (hd : d ≠ 0) :
    (2 * (N * 2 ^ j / d)) / 2 ^ (j + 1) = N / d ∧ (2 * (N * 2 ^ j / d) + 1) / 2 ^ (j + 1) = N / d ∧
    (N % d = 0 → N * 2 ^ j % d = 0 ∧ (2 * (N * 2 ^ j / d)) % 2 ^ (j + 1) = 0) ∧
    (N % d ≠ 0 → N * 2 ^ j % d = 0 → (2 * (N * 2 ^ j / d)) % 2 ^ (j + 1) ≠ 0) ∧
    (2 * (N * 2 ^ j / d) + 1) % 2 ^ (j + 1) ≠ 0 ∧ (N * 2 ^ j % d ≠ 0 → N % d ≠ 0) := by
  have hp := Nat.two_pow_pos j
  have h1 : N * 2 ^ j / d / 2 ^ j = N / d := by
    rw [Nat.div_div_eq_div_mul, Nat.mul_div_mul_right _ _ hp]
  have h2 : (2 : Nat) ^ (j + 1) = 2 * 2 ^ j := by rw [Nat.pow_succ, Nat.mul_comm]
  rw [h2]
  generalize hM : N * 2 ^ j / d = M at *
  have hexact : N % d = 0 → N * 2 ^ j % d = 0 := fun h => by
    rw [Nat.mul_mod, h, Nat.zero_mul, Nat.zero_mod]
  refine ⟨?_, ?_, fun h => ⟨hexact h, ?_⟩, fun h g e => h ?_, ?_, fun h g => h (hexact g)⟩
  · rw [Nat.mul_div_mul_left _ _ (by decide), h1]
  · rw [← Nat.div_div_eq_div_mul, show (2 * M + 1) / 2 = M by omega, h1]
  · rw [Nat.mul_mod_mul_left]
    have hN : N = d * (N / d) := by have := Nat.div_add_mod N d; omega
    have hMq : M = N / d * 2 ^ j := by
      rw [← hM]
      conv => lhs; rw [hN, Nat.mul_assoc]
      exact Nat.mul_div_cancel_left _ (Nat.pos_of_ne_zero hd)
    rw [hMq, Nat.mul_mod_left]
  · rw [Nat.mul_mod_mul_left] at e
    have e1 : M % 2 ^ j = 0 := by omega
    have e2 : M = 2 ^ j * (N / d) := by have := Nat.div_add_mod M (2 ^ j); rw [h1] at this; omega
    have e3 : N * 2 ^ j = d * M := by have := Nat.div_add_mod (N * 2 ^ j) d; rw [hM] at this; omega
    rw [e2, ← Nat.mul_assoc, Nat.mul_comm d, Nat.mul_assoc, Nat.mul_comm] at e3
    have e4 := Nat.eq_of_mul_eq_mul_left hp e3
    rw [e4, Nat.mul_mod_right]
  · intro h
    have h3 : (2 * M + 1) % (2 * 2 ^ j) % 2 = (2 * M + 1) % 2 := Nat.mod_mul_right_mod _ _ _
    rw [h] at h3
    omega

theorem quo_round {s m px py : Int} {d1 d2 : Nat} (h1 : d1 ≠ 0) (h2 : d2 ≠ 0) (b1 : Go.bitLen d1 ≤ 53) (b2 : Go.bitLen d2 ≤ 53) :
    roundB s (quD d1 d2) (px - 120 - py - 1) m = roundB s (eqW d1 d2) (px - (64 - Go.bitLen d1 - 1) - 64 - (py - (64 - Go.bitLen d2))) m ∧
    roundF s (quD d1 d2) (px - 120 - py - 1) m = roundF s (eqW d1 d2) (px - (64 - Go.bitLen d1 - 1) - 64 - (py - (64 - Go.bitLen d2))) m := by
  have c1 := bl_posQ h1
  have c2 := bl_posQ h2
  have k1 := (Go.bitLen_spec d1).2 h1
  have k2 := (Go.bitLen_spec d2).1
  unfold eqW quD eqU eqV
  generalize Go.bitLen d1 = a at *
  generalize Go.bitLen d2 = b at *
  obtain ⟨N, hN⟩ : ∃ N, N = d1 * 2 ^ (63 - a + b) := ⟨_, rfl⟩
  obtain ⟨j, hj⟩ : ∃ j : Nat, j + b = 57 + a := ⟨57 + a - b, by omega⟩
  have g1 : d1 * 2 ^ 120 = N * 2 ^ j := by
    rw [hN, Nat.mul_assoc, ← Nat.pow_add, show 63 - a + b + j = 120 by omega]
  have g2 : d1 * 2 ^ (63 - a) * 18446744073709551616 = N * 2 ^ (64 - b) := by
    rw [hN, Nat.mul_assoc, Nat.mul_assoc, show (18446744073709551616 : Nat) = 2 ^ 64 by decide, ← Nat.pow_add, ← Nat.pow_add, show 63 - a + b + (64 - b) = 63 - a + 64 by omega]
  have hb : 2 ^ 60 ≤ N / d2 := by
    rw [Nat.le_div_iff_mul_le (Nat.pos_of_ne_zero h2)]
    have s1 : 2 ^ 60 * d2 ≤ 2 ^ 60 * 2 ^ b := Nat.mul_le_mul_left _ (by omega)
    have s2 : (2 : Nat) ^ 60 * 2 ^ b ≤ 2 ^ (a - 1) * 2 ^ (63 - a + b) := by
      rw [← Nat.pow_add, ← Nat.pow_add]
      exact Nat.pow_le_pow_right (by decide) (by omega)
    have s3 : 2 ^ (a - 1) * 2 ^ (63 - a + b) ≤ N := by rw [hN]; exact Nat.mul_le_mul_right _ k1
    omega
  rw [g1, g2, Nat.mul_div_mul_right _ _ (Nat.two_pow_pos _), Nat.mul_mod_mul_right]
  obtain ⟨q1, q2, q3, q4, q5, q6⟩ := quo_cut (N := N) (j := j) h2
  have hz : N % d2 * 2 ^ (64 - b) = 0 ↔ N % d2 = 0 := by
    have := Nat.two_pow_pos (64 - b)
    constructor
    · intro h
      rcases Nat.mul_eq_zero.1 h with h | h
      · exact h
      · omega
    · intro h; rw [h, Nat.zero_mul]
  have hp : px - (64 - (a : Int) - 1) - 64 - (py - (64 - (b : Int))) = px - 120 - py - 1 + ((j + 1 : Nat) : Int) := by omega
  rw [hp]
  unfold mkQ
  by_cases hr : N % d2 = 0
  · rw [if_pos (hz.2 hr), if_pos (decide_eq_true (q3 hr).1)]
    exact mark_round (.inl ⟨(q3 hr).2, q1.symm⟩) (by rw [q1]; exact hb)
  · rw [if_neg (fun h => hr (hz.1 h))]
    by_cases hx : N * 2 ^ j % d2 = 0
    · rw [if_pos (decide_eq_true hx)]
      exact mark_round (.inr ⟨q4 hr hx, by rw [q1]⟩) (by rw [q1]; exact hb)
    · rw [if_neg (by simpa using hx)]
      exact mark_round (.inr ⟨q5, by rw [q2]⟩) (by rw [q2]; exact hb)


theorem divF_range (x y : Nat) (m : Int) : 0 ≤ divF x y m ∧ divF x y m < 256 := by
  have := roundF_range (xs x y) (quD (mant x) (mant y)) (pow x - 120 - pow y - 1) m
  unfold divF
  (repeat' split) <;> omega
theorem soft_quotient (x y : Nat) (op m z : Int) (hx : x < 18446744073709551616) (hy : y < 18446744073709551616) (hm : 0 ≤ m ∧ m ≤ 4) (w : World) (hT : Tab w) :
    Calls Tryd.prog 24 #[.agg #[.int .u8 op, .int .u8 m, .int .u64 x, .int .u64 y, .int .u64 z]] w fun e w' => e = .returned (.agg #[.int .u64 (divB x y m), .int .u8 (divF x y m), .bool false]) ∧ Below w.heap.size w w' := by
  refine quotient_walk x y op m z hx hy hm w hT _ _ (fun h => ?_) (fun h g => ?_) (fun h g => ?_) (fun h g k => ?_) (fun h g k l => ?_) (fun h => mant_some hx h) (fun h => mant_some hy h)
  · unfold divB divF
    rw [if_pos h, if_pos h]
    exact ⟨rfl, rfl⟩
  · have n1 : ¬ ((kind x = 3 ∧ kind y = 3) ∨ (kind x = 0 ∧ kind y = 0)) := by omega
    unfold divB divF
    rw [if_neg n1, if_neg n1, if_pos h, if_pos h]
    exact ⟨rfl, rfl⟩
  · have n1 : ¬ ((kind x = 3 ∧ kind y = 3) ∨ (kind x = 0 ∧ kind y = 0)) := by omega
    have n2 : kind y = 3 ∨ kind x = 0 := by omega
    unfold divB divF
    rw [if_neg n1, if_neg n1, if_neg h, if_neg h, if_pos n2, if_pos n2]
    exact ⟨rfl, rfl⟩
  · have n1 : ¬ ((kind x = 3 ∧ kind y = 3) ∨ (kind x = 0 ∧ kind y = 0)) := by omega
    have n2 : ¬ (kind y = 3 ∨ kind x = 0) := by omega
    unfold divB divF
    rw [if_neg n1, if_neg n1, if_neg h, if_neg h, if_neg n2, if_neg n2, if_pos k, if_pos k]
    exact ⟨rfl, rfl⟩
  · have n1 : ¬ ((kind x = 3 ∧ kind y = 3) ∨ (kind x = 0 ∧ kind y = 0)) := by omega
    have n2 : ¬ (kind y = 3 ∨ kind x = 0) := by omega
    unfold divB divF
    rw [if_neg n1, if_neg n1, if_neg h, if_neg h, if_neg n2, if_neg n2, if_neg l, if_neg l]
    exact quo_round (mant_some hx g) (mant_some hy l) (bl_m53 x) (bl_m53 y)
theorem soft_div (x y : Nat) (m z : Int) (hx : x < 18446744073709551616) (hy : y < 18446744073709551616) (hz : 0 ≤ z ∧ z < 18446744073709551616) (hm : 0 ≤ m ∧ m ≤ 4) (h1 : kind x < 4) (h2 : kind y < 4) (w : World) (hT : Tab w) :
    Calls Tryd.prog 12 #[.agg #[.int .u8 4, .int .u8 m, .int .u64 x, .int .u64 y, .int .u64 z]] w fun e w' => e = .returned (.agg #[.int .u64 (divB x y m), .int .u8 (divF x y m), .bool false]) ∧ Below w.heap.size w w' := by
  obtain ⟨Z, rfl⟩ := Int.eq_ofNat_of_zero_le hz.1
  exact soft_do 4 m x y Z 2 24 (by omega) hm hx hy (by omega) (by omega) index4 (anyN_false h1 h2) w _ _ false (enters_of Tryd.func24 (by kernel_rfl) rfl) (fun w1 hb => soft_quotient x y 4 m Z hx hy hm w1 (hT.later hb))



/-- Between a digit and the next: the root's amount lies from x up to x + 2^k. -/
theorem root_step {a x p : Nat} (h1 : x * x ≤ a) (h2 : a < (x + 2 * p) * (x + 2 * p)) : ((x + p) * (x + p) ≤ a → (x + p) * (x + p) ≤ a ∧ a < (x + p + p) * (x + p + p)) ∧ (a < (x + p) * (x + p) → x * x ≤ a ∧ a < (x + p) * (x + p)) :=
  ⟨fun h => ⟨h, by rw [Nat.add_assoc, ← Nat.two_mul]; exact h2⟩, fun h => ⟨h1, h⟩⟩
theorem root_start (a : Nat) : a < (0 + 2 ^ ((Go.bitLen a + 1) / 2 + 1)) * (0 + 2 ^ ((Go.bitLen a + 1) / 2 + 1)) := by
  rw [Nat.zero_add, ← Nat.pow_add]
  exact Nat.lt_of_lt_of_le (Go.bitLen_spec a).1 (Nat.pow_le_pow_right (by decide) (by omega))
theorem root_nd {a x : Nat} (h : x * x ≤ a) : nd x ≤ nd a := nd_mono (Nat.le_trans (Nat.le_mul_self x) h)

/-- There is one root. -/
theorem root_one {a R S : Nat} (h1 : R * R ≤ a) (h2 : a < (R + 1) * (R + 1)) (k1 : S * S ≤ a) (k2 : a < (S + 1) * (S + 1)) : R = S := by
  have g1 : ¬ R < S := fun h => by have := Nat.mul_le_mul (show R + 1 ≤ S from h) (show R + 1 ≤ S from h); omega
  have g2 : ¬ S < R := fun h => by have := Nat.mul_le_mul (show S + 1 ≤ R from h) (show S + 1 ≤ R from h); omega
  omega
theorem cube_one {a R S : Nat} (h1 : R * (R * R) ≤ a) (h2 : a < (R + 1) * ((R + 1) * (R + 1))) (k1 : S * (S * S) ≤ a) (k2 : a < (S + 1) * ((S + 1) * (S + 1))) : R = S := by
  have g1 : ¬ R < S := fun h => by
    have h' : R + 1 ≤ S := h
    have := Nat.mul_le_mul h' (Nat.mul_le_mul h' h'); omega
  have g2 : ¬ S < R := fun h => by
    have h' : S + 1 ≤ R := h
    have := Nat.mul_le_mul h' (Nat.mul_le_mul h' h'); omega
  omega


/-- The document's square root: how many digits are laid behind, for an even exponent. -/
def sqK (p : Int) : Nat := if p % 2 = 0 then 130 else 131
theorem sqK_even {p : Int} (h : p % 2 = 0) : sqK p = 130 := by unfold sqK; rw [if_pos h]
theorem sqK_odd {p : Int} (h : ¬ p % 2 = 0) : sqK p = 131 := by unfold sqK; rw [if_neg h]

/-- The document's reciprocal of a root: 2^rqK is divided. -/
def rqK (D : Nat) (p : Int) : Nat := if (p + (240 + (Go.bitLen D : Int))) % 2 = 0 then 240 + Go.bitLen D else 240 + Go.bitLen D + 1
theorem rqK_even {D : Nat} {p : Int} (h : (p + (240 + (Go.bitLen D : Int))) % 2 = 0) : rqK D p = 240 + Go.bitLen D := by unfold rqK; rw [if_pos h]
theorem rqK_odd {D : Nat} {p : Int} (h : ¬ (p + (240 + (Go.bitLen D : Int))) % 2 = 0) : rqK D p = 240 + Go.bitLen D + 1 := by unfold rqK; rw [if_neg h]

/-- The document's cube root: how many digits are laid behind. -/
def cbJ (p : Int) : Nat := ((p - 190) % 3).toNat
def cbK (p : Int) : Nat := 190 + cbJ p
theorem cbJ_lt (p : Int) : cbJ p ≤ 2 := by unfold cbJ; omega
theorem cbJ_dvd (p : Int) : (3 : Int) ∣ p - (190 + cbJ p) := by unfold cbJ; omega
theorem cbJ_not {p : Int} {j : Nat} (h : j < cbJ p) : ¬ (3 : Int) ∣ p - (190 + j) := by unfold cbJ at h; omega
theorem cube_start (a : Nat) : a < (0 + 2 ^ (Go.bitLen a / 3 + 2)) * ((0 + 2 ^ (Go.bitLen a / 3 + 2)) * (0 + 2 ^ (Go.bitLen a / 3 + 2))) := by
  rw [Nat.zero_add, ← Nat.pow_add, ← Nat.pow_add]
  exact Nat.lt_of_lt_of_le (Go.bitLen_spec a).1 (Nat.pow_le_pow_right (by decide) (by omega))
theorem cube_nd {a x : Nat} (h : x * (x * x) ≤ a) : nd x ≤ nd a := by
  by_cases h0 : x = 0
  · subst h0; rw [nd_zero]; omega
  · refine nd_mono (Nat.le_trans ?_ h)
    have h1 : x * 1 ≤ x * (x * x) := Nat.mul_le_mul_left _ (Nat.mul_pos (Nat.pos_of_ne_zero h0) (Nat.pos_of_ne_zero h0))
    rw [Nat.mul_one] at h1
    exact h1
theorem cube_step {a x p : Nat} (h1 : x * (x * x) ≤ a) (h2 : a < (x + 2 * p) * ((x + 2 * p) * (x + 2 * p))) : ((x + p) * ((x + p) * (x + p)) ≤ a → (x + p) * ((x + p) * (x + p)) ≤ a ∧ a < (x + p + p) * ((x + p + p) * (x + p + p))) ∧ (a < (x + p) * ((x + p) * (x + p)) → x * (x * x) ≤ a ∧ a < (x + p) * ((x + p) * (x + p))) :=
  ⟨fun h => ⟨h, by rw [Nat.add_assoc, ← Nat.two_mul]; exact h2⟩, fun h => ⟨h1, h⟩⟩

/-- What lies, ahead of the last call. -/
structure CbAt (w0 w1 : World) (n : Bool) (va : Value) (D : Nat) (p : Int) (vs : Value) (S : Nat) (vx : Value) (x : Nat) (vA : Value) (A : Nat) : Prop where
  s : IsNat w1 vs S
  x : IsNat w1 vx x
  a : IsNat w1 vA A
  num : NumAt w1 w0.heap.size n va D p
  emp : Empty3 w1 (w0.heap.size + 1)
  below : Below w0.heap.size w0 w1
theorem CbAt.later {w0 w1 w2 : World} {n : Bool} {va : Value} {D : Nat} {p : Int} {vs : Value} {S : Nat} {vx : Value} {x : Nat} {vA : Value} {A : Nat} (h : CbAt w0 w1 n va D p vs S vx x vA A) (hb : Below w1.heap.size w1 w2) : CbAt w0 w2 n va D p vs S vx x vA A :=
  ⟨h.s.later hb, h.x.later hb, h.a.later hb, h.num.later hb, h.emp.later hb, h.below.trans (hb.mono h.below.size)⟩


end Go.Proofs.YtcjihaafohnbeaaDoor
