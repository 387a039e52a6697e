import Derived.Test.YtcjihaafohnbeaaDoorScript
import Derived.Test.YtcjihaafohnbeaaDoorRefF
import Derived.Deep.Light
import Derived.Deep.Cut
import Derived.Deep.CutRange
import Derived.Test.YtcjihaafohnbeaaDoorWideB
namespace Go.Proofs.YtcjihaafohnbeaaDoor
open Go.RowKit

theorem bcell {W w1 : World} (hb : Below W.heap.size W w1) : (∀ b o, b < W.heap.size → w1.cell? ⟨b, o, none⟩ = W.cell? ⟨b, o, none⟩) ∧ (∀ b o, b < W.heap.size → w1.frozen? ⟨b, o, none⟩ = W.frozen? ⟨b, o, none⟩) :=
  ⟨fun b o h => hb.cell (p := ⟨b, o, none⟩) h, fun b o h => hb.frozen (p := ⟨b, o, none⟩) h⟩

/-- A record as the law has it, as the program has it, as the document's answer has it. -/
def lrec (op m x y z : Int) : Value := .agg #[.int .i64 op, .int .i64 m, .int .u64 x, .int .u64 y, .int .u64 z]
def srec (op m x y z : Int) : Value := .agg #[.int .u8 op, .int .u8 m, .int .u64 x, .int .u64 y, .int .u64 z]
def sres (b f : Int) (bad : Bool) : Value := .agg #[.int .u64 b, .int .u8 f, .bool bad]
def rres (b f : Int) (bad : Bool) : Value := .agg #[.int .u64 b, .int .i64 f, .bool bad]

set_option maxHeartbeats 400000 in
theorem given_any (op m x y z : Int) (w : World) :
    Calls Tryd.prog 13 #[.agg #[.int .i64 op, .int .i64 m, .int .u64 x, .int .u64 y, .int .u64 z]] w fun e w' =>
      e = .returned (.agg #[.int .u8 (op % 256), .int .u8 (m % 256), .int .u64 x, .int .u64 y, .int .u64 z]) ∧ Below w.heap.size w w' := by
  go_enter Tryd.func13, Tryd.ntmps13
  go_wp2
  exact bodyPost_ret (v := .agg #[.int .u8 (op % 256), .int .u8 (m % 256), .int .u64 x, .int .u64 y, .int .u64 z]) (by simp [results, Tryd.results13, go_sem]) rfl ⟨rfl, ((Below.refl _ _).alloc (Nat.le_refl _) _).alloc (by simp) _⟩

set_option maxHeartbeats 400000 in
theorem zeros_any (op m x y z : Int) (w : World) :
    Calls Tryd.prog 32 #[.agg #[.int .u8 op, .int .u8 m, .int .u64 x, .int .u64 y, .int .u64 z]] w fun e w' =>
      e = .returned (.agg #[.int .u64 0, .int .u8 0, .bool false]) ∧ Below w.heap.size w w' := by
  go_enter Tryd.func32, Tryd.ntmps32
  go_wp2
  exact bodyPost_ret (v := .agg #[.int .u64 0, .int .u8 0, .bool false]) (by simp [results, Tryd.results32, go_sem]) rfl ⟨rfl, ((Below.refl _ _).alloc (Nat.le_refl _) _).alloc (by simp) _⟩



theorem zero_step {a j X : Nat} (hX : X = a / 2 ^ (24 * j) % 16777216) : (a % 2 ^ (24 * (j + 1)) = 0) ↔ (a % 2 ^ (24 * j) = 0 ∧ X = 0) := by
  rw [mod_pow_succ, ← hX]
  have hp := Nat.two_pow_pos (24 * j)
  constructor
  · intro h
    refine ⟨by omega, ?_⟩
    apply Classical.byContradiction
    intro hn
    have := Nat.le_mul_of_pos_right (2 ^ (24 * j)) (Nat.pos_of_ne_zero hn)
    omega
  · rintro ⟨h1, h2⟩
    rw [h1, h2, Nat.mul_zero]
theorem zero_last {a k X P : Nat} (hX : X = a / 2 ^ (24 * (k / 24)) % 16777216) (hP : P = 2 ^ (k % 24)) : (a % 2 ^ k = 0) ↔ (a % 2 ^ (24 * (k / 24)) = 0 ∧ X % P = 0) := by
  have e : 2 ^ k = 2 ^ (24 * (k / 24)) * P := by rw [hP, Nat.mul_comm, split24]
  have hm : X % P = a / 2 ^ (24 * (k / 24)) % P := by
    rw [hX]
    apply Nat.mod_mod_of_dvd
    rw [hP]
    exact Nat.pow_dvd_pow 2 (show k % 24 ≤ 24 by omega)
  rw [e, Nat.mod_mul, ← hm]
  have hp := Nat.two_pow_pos (24 * (k / 24))
  constructor
  · intro h
    refine ⟨by omega, ?_⟩
    apply Classical.byContradiction
    intro hn
    have := Nat.le_mul_of_pos_right (2 ^ (24 * (k / 24))) (Nat.pos_of_ne_zero hn)
    omega
  · rintro ⟨h1, h2⟩
    rw [h1, h2, Nat.mul_zero]
/-- A digit of what is shifted down. -/
theorem down_dig {a k t X Y P R : Nat} (hX : X = a / 2 ^ (24 * (k / 24 + t)) % 16777216) (hY : Y = a / 2 ^ (24 * (k / 24 + t + 1)) % 16777216) (hP : P = 2 ^ (k % 24)) (hR : R = 2 ^ (24 - k % 24)) : a / 2 ^ k / 2 ^ (24 * t) % 16777216 = X / P + Y % P * R := by
  have hPR : P * R = 16777216 := by rw [hP, hR, ← Nat.pow_add]; rw [show k % 24 + (24 - k % 24) = 24 by omega]
  have hP0 : 0 < P := by rw [hP]; exact Nat.two_pow_pos _
  have e1 : a / 2 ^ k / 2 ^ (24 * t) = a / 2 ^ (24 * (k / 24 + t)) / P := by
    rw [Nat.div_div_eq_div_mul, Nat.div_div_eq_div_mul, ← Nat.pow_add, hP, ← Nat.pow_add]
    congr 2
    omega
  have e2 : a / 2 ^ (24 * (k / 24 + t + 1)) = a / 2 ^ (24 * (k / 24 + t)) / 16777216 := by
    rw [pow24, Nat.mul_comm, Nat.div_div_eq_div_mul]
  rw [e1]
  rw [e2] at hY
  generalize a / 2 ^ (24 * (k / 24 + t)) = Z at *
  have h1 : Z = X + 16777216 * (Z / 16777216) := by omega
  have hR0 : 0 < R := Nat.pos_of_ne_zero (by intro h; rw [h] at hPR; omega)
  have h2 : Z / P = X / P + R * (Z / 16777216) := by
    have : Z / P = (X + P * (R * (Z / 16777216))) / P := by
      congr 1
      rw [← Nat.mul_assoc, hPR]
      exact h1
    rw [this, Nat.add_mul_div_left _ _ hP0]
  have h3 : X / P < R := by
    rw [Nat.div_lt_iff_lt_mul hP0, Nat.mul_comm, hPR]
    omega
  have hdv : P ∣ 16777216 := ⟨R, hPR.symm⟩
  have h4 : Y % P = Z / 16777216 % P := by rw [hY]; exact Nat.mod_mod_of_dvd _ hdv
  rw [h2, h4]
  generalize Z / 16777216 = T at *
  have h5 := Nat.div_add_mod T P
  have h6 : R * T = 16777216 * (T / P) + T % P * R := by
    have : R * T = R * (P * (T / P) + T % P) := by rw [h5]
    rw [this, Nat.mul_add, ← Nat.mul_assoc, Nat.mul_comm R P, hPR, Nat.mul_comm R]
  have h7 : T % P * R ≤ (P - 1) * R := Nat.mul_le_mul_right _ (by have := Nat.mod_lt T hP0; omega)
  have h8 : (P - 1) * R + R = 16777216 := by
    rw [← hPR]
    have : P = (P - 1) + 1 := by omega
    conv => rhs; rw [this, Nat.add_mul, Nat.one_mul]
  rw [h6]
  have h9 : X / P + T % P * R < 16777216 := by omega
  generalize X / P = u at *
  generalize T % P * R = y at *
  generalize T / P = v at *
  rw [show u + (16777216 * v + y) = (u + y) + 16777216 * v by omega, Nat.add_mul_mod_self_left, Nat.mod_eq_of_lt h9]

/-- What a round of down reckons, as the walk has it: 'R' the power for the digit above. -/
theorem low_fact {k : Nat} : ∃ P R : Nat, wrap64 ((2 : Int) ^ (k % 24)) = (P : Int) ∧ Hid (P = 2 ^ (k % 24) ∧ R = 2 ^ (24 - k % 24)) ∧ 0 < P ∧ P ≤ 16777216 := by
  obtain ⟨P, h1, h2, h3, h4⟩ := shl_fact (k % 24) (by omega)
  exact ⟨P, _, h1, ⟨h2.out, rfl⟩, h3, h4⟩

theorem down_none {a k l : Nat} (h : a < 2 ^ (24 * l)) (hl : l ≤ k / 24) : decide (a % 2 ^ (24 * l) = 0) = decide (a % 2 ^ k = 0) ∧ a / 2 ^ k = 0 := by
  have h2 : a < 2 ^ k := Nat.lt_of_lt_of_le h (Nat.pow_le_pow_right (by decide) (by omega))
  rw [Nat.mod_eq_of_lt h, Nat.mod_eq_of_lt h2, Nat.div_eq_of_lt h2]
  exact ⟨rfl, rfl⟩
theorem rem_fact {X P : Nat} {W Z : Bool} {A B : Prop} [Decidable A] [Decidable B] (hP : 0 < P) (h : A ↔ (B ∧ X % P = 0)) (hW : decide A = W) (hZ : decide B = Z) : ∃ x p : Int, (X : Int) = x ∧ (P : Int) = p ∧ 0 < p ∧ Hid (Z = true → (x.tmod p == 0) = W) ∧ Hid (Z = false → W = false) := by
  refine ⟨X, P, rfl, rfl, by omega, fun hz => ?_, fun hz => ?_⟩
  · show (((X : Int).tmod (P : Int)) == 0) = W
    rw [Int.tmod_eq_emod_of_nonneg (by omega), ← Int.natCast_emod, ← hW]
    subst hz
    have hB := of_decide_eq_true hZ
    by_cases hA : A
    · have := (h.1 hA).2
      rw [decide_eq_true hA, this]
      rfl
    · rw [decide_eq_false hA, beq_eq_false_iff_ne]
      intro h0
      exact hA (h.2 ⟨hB, by omega⟩)
  · show W = false
    rw [← hW]
    subst hz
    exact decide_eq_false (fun hA => of_decide_eq_false hZ (h.1 hA).1)
theorem pow_int (S : Nat) : (2 : Int) ^ S = ((2 ^ S : Nat) : Int) := by rw [Int.natCast_pow]; rfl
theorem dig_bound {X Y P R : Nat} (hX : X < 16777216) (hP : 0 < P) (hPR : P * R = 16777216) : X / P + Y % P * R < 16777216 := by
  have h3 : X / P < R := by
    rw [Nat.div_lt_iff_lt_mul hP, Nat.mul_comm, hPR]
    exact hX
  have h7 : Y % P * R ≤ (P - 1) * R := Nat.mul_le_mul_right _ (by have := Nat.mod_lt Y hP; omega)
  have h8 : (P - 1) * R + R = 16777216 := by
    rw [← hPR]
    have : P = (P - 1) + 1 := by omega
    conv => rhs; rw [this, Nat.add_mul, Nat.one_mul]
  omega
/-- What a round of down reckons, as the walk has it. -/
theorem down_val {X Y S : Nat} (hX : X < 16777216) (hS : S < 24) : ∃ x y p : Int, (X : Int) = x ∧ (Y : Int) = y ∧ wrap64 ((2 : Int) ^ S) = p ∧ 0 < p ∧ (p == 0) = false ∧ Hid (wrap64 (x / 2 ^ S + wrap64 (y.tmod p * 2 ^ (24 - S))) = ((X / 2 ^ S + Y % 2 ^ S * 2 ^ (24 - S) : Nat) : Int)) := by
  obtain ⟨P, h1, h2, h3, h4⟩ := shl_fact S (by omega)
  have hPe : P = 2 ^ S := h2.out
  have hPR : P * 2 ^ (24 - S) = 16777216 := by
    rw [hPe, ← Nat.pow_add, show S + (24 - S) = 24 by omega]
  have hb := dig_bound (Y := Y) hX h3 hPR
  refine ⟨X, Y, P, rfl, rfl, h1, by omega, by rw [beq_eq_false_iff_ne]; omega, ?_⟩
  show wrap64 ((X : Int) / 2 ^ S + wrap64 ((Y : Int).tmod P * 2 ^ (24 - S))) = _
  rw [Int.tmod_eq_emod_of_nonneg (by omega), pow_int, pow_int, ← hPe, ← Int.natCast_emod, ← Int.natCast_mul, ← Int.natCast_ediv]
  generalize Y % P * 2 ^ (24 - S) = q at *
  generalize X / P = d at *
  rw [wrap64_small (q : Int) (by omega) (by omega), ← Int.natCast_add]
  exact wrap64_small _ (by omega) (by omega)
theorem down_val1 {X S : Nat} : ∃ x : Int, (X : Int) = x ∧ Hid (x / 2 ^ S = ((X / 2 ^ S : Nat) : Int)) := by
  refine ⟨X, rfl, ?_⟩
  show (X : Int) / 2 ^ S = _
  rw [pow_int, ← Int.natCast_ediv]
/-- The state of down behind t digits. -/
structure DownAt (w wr : World) (v : Value) (n t : Nat) : Prop where
  own : wr.ownsRow w.heap.size 3 1 v t (ints (low n t))
  below : Below w.heap.size w wr
theorem DownAt.drawn {w wr : World} {v : Value} {n t : Nat} (h : DownAt w wr v n t) (q : Nat) : DownAt w (wr.drewN q) v n t := ⟨h.own, below_drewN h.below q⟩
theorem DownAt.more {w wr w1 : World} {v v' : Value} {n t : Nat} {o : Obj} (h : DownAt w wr v n t)
    (h1 : w1.ownsRow w.heap.size 3 1 v' (t + 1) (ints (low n t) ++ [.int .i64 (n / 2 ^ (24 * t) % 16777216 : Nat)])) (hg : (wr.alloc o).grownBy w1 v.ownBlock) : DownAt w w1 v' n (t + 1) := by
  have hk' := low_length n t
  have := push (l := low n t) (d := n / 2 ^ (24 * t) % 16777216) (by rw [hk']; exact h.own.alloc o) (by rw [hk']; exact h1) hg (h.below.alloc h.below.size _) (Nat.le_refl _)
  rw [show low n t ++ [n / 2 ^ (24 * t) % 16777216] = low n (t + 1) from rfl, low_length] at this
  exact ⟨this.1, this.2⟩
theorem DownAt.row {w wr : World} {v : Value} {n t : Nat} (h : DownAt w wr v n t) : IsRow wr v (low n t) := IsRow.own (low_digits _ _) (by rw [low_length]; exact h.own)



/-- The program's root: where something is left, its last digit is 1. -/
def odd (W : Nat) (whole : Bool) : Nat := if whole then W else W + (1 - W % 2)
theorem odd_lt {W : Nat} (b : Bool) (h : W < 18446744073709551616) : odd W b < 18446744073709551616 := by unfold odd; split <;> omega
theorem odd_or {W : Nat} (h : W < 18446744073709551616) : bits .or .u64 (W : Int) 1 = ((odd W false : Nat) : Int) := by
  have e : (odd W false : Nat) = W ||| 1 := by
    unfold odd
    rw [if_neg (by decide)]
    rcases Nat.mod_two_eq_zero_or_one W with g | g
    · obtain ⟨V, rfl⟩ : ∃ V, W = 2 * V := ⟨W / 2, by omega⟩
      apply Nat.eq_of_testBit_eq
      intro i
      rw [Nat.testBit_or]
      cases i with
      | zero => simp [Nat.testBit_zero]
      | succ n => simp [Nat.testBit_succ]; congr 1; omega
    · obtain ⟨V, rfl⟩ : ∃ V, W = 2 * V + 1 := ⟨W / 2, by omega⟩
      apply Nat.eq_of_testBit_eq
      intro i
      rw [Nat.testBit_or]
      cases i with
      | zero => simp [Nat.testBit_zero]
      | succ n => simp [Nat.testBit_succ]
  rw [e]
  exact bits_or_u64_nat W 1 h (by decide)

theorem sq_grows (a b : Nat) (h : a < b) : a * a < b * b := Nat.mul_lt_mul'' h h
theorem cb_grows (a b : Nat) (h : a < b) : a * (a * a) < b * (b * b) := Nat.mul_lt_mul'' h (sq_grows a b h)
theorem sqd_grows {D : Nat} (h0 : D ≠ 0) (a b : Nat) (h : a < b) : a * a * D < b * b * D := Nat.mul_lt_mul_of_pos_right (sq_grows a b h) (Nat.pos_of_ne_zero h0)

/-- What goes over in a product by one word. -/
def tcar (D y k : Nat) : Nat := D % 18446744073709551616 ^ k * y / 18446744073709551616 ^ k
theorem tcar_zero (D y : Nat) : tcar D y 0 = 0 := by unfold tcar; simp [Nat.mod_one]
theorem tcar_le (D y k : Nat) : tcar D y k ≤ y := by
  unfold tcar
  refine Nat.div_le_of_le_mul ?_
  exact Nat.mul_le_mul_right _ (Nat.le_of_lt (Nat.mod_lt _ (big_pos k)))
theorem tcar_next (D y k : Nat) : tcar D y (k + 1) = (wd D k * y + tcar D y k) / 18446744073709551616 := by
  unfold tcar
  rw [mod_next, Nat.pow_succ, ← Nat.div_div_eq_div_mul, Nat.add_mul, Nat.mul_assoc, Nat.add_mul_div_left _ _ (big_pos k), Nat.add_comm]
theorem wd_mul (D y k : Nat) : wd (D * y) k = (wd D k * y + tcar D y k) % 18446744073709551616 := by
  have h : D * y / 18446744073709551616 ^ k = D / 18446744073709551616 ^ k * y + tcar D y k := by
    unfold tcar
    have h1 := Nat.div_add_mod D (18446744073709551616 ^ k)
    conv => lhs; rw [← h1]
    rw [Nat.add_mul, Nat.mul_assoc, Nat.add_comm, Nat.add_mul_div_left _ _ (big_pos k), Nat.add_comm]
  show D * y / _ % _ = _
  rw [h]
  unfold wd
  generalize 18446744073709551616 ^ k = b
  generalize D / b = q
  rw [Nat.add_mod, Nat.mul_mod, Nat.add_mod (q % _ * y), Nat.mul_mod (q % _) y, Nat.mod_mod]
theorem tcar_step (D y k : Nat) : (wd D k * y % 18446744073709551616 + tcar D y k) % 18446744073709551616 = wd (D * y) k ∧ wd D k * y / 18446744073709551616 + (wd D k * y % 18446744073709551616 + tcar D y k) / 18446744073709551616 = tcar D y (k + 1) := by
  rw [wd_mul, tcar_next]
  generalize wd D k * y = a
  generalize tcar D y k = c
  omega

end Go.Proofs.YtcjihaafohnbeaaDoor
