import Derived.Test.YtcjihaafohnbeaaDoorRefT
import Derived.Test.YtcjihaafohnbeaaDoorScript
import Derived.Test.YtcjihaafohnbeaaDoorPF
import Derived.Test.YtcjihaafohnbeaaDoorPC
import Derived.Test.YtcjihaafohnbeaaDoorOdd1
import Derived.Test.YtcjihaafohnbeaaDoorRefK
import Derived.Test.YtcjihaafohnbeaaDoorPA
namespace Go.Proofs.YtcjihaafohnbeaaDoor
open Go.RowKit



/-- The program's quotient: the digits that one division of words leaves. -/
def eqU (d : Nat) : Nat := d * 2 ^ (63 - Go.bitLen d)
def eqV (d : Nat) : Nat := d * 2 ^ (64 - Go.bitLen d)
def eqW (d1 d2 : Nat) : Nat := if eqU d1 * 18446744073709551616 % eqV d2 = 0 then eqU d1 * 18446744073709551616 / eqV d2 else eqU d1 * 18446744073709551616 / eqV d2 + (1 - eqU d1 * 18446744073709551616 / eqV d2 % 2)
theorem bl_posQ {d : Nat} (h : d ≠ 0) : 1 ≤ Go.bitLen d := by
  apply Nat.pos_of_ne_zero
  intro hz
  have := (Go.bitLen_spec d).1
  rw [hz] at this
  omega
theorem eqU_range {d : Nat} (h : d ≠ 0) (hb : Go.bitLen d ≤ 53) : 4611686018427387904 ≤ eqU d ∧ eqU d < 9223372036854775808 := by
  have h1 := (Go.bitLen_spec d).2 h
  have h2 := (Go.bitLen_spec d).1
  have h3 := bl_posQ h
  unfold eqU
  constructor
  · have : 2 ^ (Go.bitLen d - 1) * 2 ^ (63 - Go.bitLen d) ≤ d * 2 ^ (63 - Go.bitLen d) := Nat.mul_le_mul_right _ h1
    rw [← Nat.pow_add, show Go.bitLen d - 1 + (63 - Go.bitLen d) = 62 by omega] at this
    omega
  · have : d * 2 ^ (63 - Go.bitLen d) < 2 ^ Go.bitLen d * 2 ^ (63 - Go.bitLen d) := Nat.mul_lt_mul_of_pos_right h2 (Nat.two_pow_pos _)
    rw [← Nat.pow_add, show Go.bitLen d + (63 - Go.bitLen d) = 63 by omega] at this
    omega
theorem eqV_range {d : Nat} (h : d ≠ 0) (hb : Go.bitLen d ≤ 53) : 9223372036854775808 ≤ eqV d ∧ eqV d < 18446744073709551616 := by
  have h1 := (Go.bitLen_spec d).2 h
  have h2 := (Go.bitLen_spec d).1
  have h3 := bl_posQ h
  unfold eqV
  constructor
  · have : 2 ^ (Go.bitLen d - 1) * 2 ^ (64 - Go.bitLen d) ≤ d * 2 ^ (64 - Go.bitLen d) := Nat.mul_le_mul_right _ h1
    rw [← Nat.pow_add, show Go.bitLen d - 1 + (64 - Go.bitLen d) = 63 by omega] at this
    omega
  · have : d * 2 ^ (64 - Go.bitLen d) < 2 ^ Go.bitLen d * 2 ^ (64 - Go.bitLen d) := Nat.mul_lt_mul_of_pos_right h2 (Nat.two_pow_pos _)
    rw [← Nat.pow_add, show Go.bitLen d + (64 - Go.bitLen d) = 64 by omega] at this
    omega
theorem shl_wrap (d : Nat) (k : Int) (n : Nat) (hk : k.toNat = n) (h : d * 2 ^ n < 18446744073709551616) : IntKind.u64.wrap ((d : Int) * 2 ^ k.toNat) = ((d * 2 ^ n : Nat) : Int) := by
  rw [hk, show (d : Int) * 2 ^ n = ((d * 2 ^ n : Nat) : Int) by simp]
  exact wrapU _ (by omega) (by omega)

set_option maxHeartbeats 4000000 in
set_option maxRecDepth 10000 in
theorem exactQuotient_walk (s1 s2 S : Nat) (x0 y0 U V W R B1 B2 p1 p2 : Int) (W' : Int) (hS : bits .xor .u64 (s1 : Int) (s2 : Int) = S)
    (hlx : ∀ w, Calls Tryd.prog 55 #[.int .u64 x0] w fun e w' => e = .returned (.int .i64 (64 - B1)) ∧ w' = w)
    (hly : ∀ w, Calls Tryd.prog 55 #[.int .u64 y0] w fun e w' => e = .returned (.int .i64 (64 - B2)) ∧ w' = w)
    (hdv : ∀ w, Calls Tryd.prog 56 #[.int .u64 U, .int .u64 0, .int .u64 V] w fun e w' => e = .returned (.tuple #[.int .u64 W, .int .u64 R]) ∧ w' = w)
    (v1 : IntKind.u64.wrap (x0 * 2 ^ ((64 - B1).toNat - 1)) = U) (v2 : IntKind.u64.wrap (y0 * 2 ^ (64 - B2).toNat) = V)
    (b1 : 1 ≤ B1) (b2 : B1 ≤ 53) (b3 : 1 ≤ B2) (b4 : B2 ≤ 53) (hp1 : -4000 ≤ p1) (hp2 : p1 ≤ 4000) (hp3 : -4000 ≤ p2) (hp4 : p2 ≤ 4000)
    (hr0 : R = 0 → W' = W) (hr1 : R ≠ 0 → W' = bits .or .u64 W 1) (w : World) :
    Calls Tryd.prog 43 #[.agg #[.int .u64 s1, .int .u64 x0, .int .u64 0, .int .i64 p1], .agg #[.int .u64 s2, .int .u64 y0, .int .u64 0, .int .i64 p2]] w fun e w' =>
      e = .returned (.agg #[.int .u64 S, .int .u64 W', .int .u64 0, .int .i64 (p1 - (64 - B1 - 1) - 64 - (p2 - (64 - B2)))]) ∧ Below w.heap.size w w' := by
  have HX : Hid (∀ w, Calls Tryd.prog 55 #[.int .u64 x0] w fun e w' => e = .returned (.int .i64 (64 - B1)) ∧ w' = w) := hlx
  have HY : Hid (∀ w, Calls Tryd.prog 55 #[.int .u64 y0] w fun e w' => e = .returned (.int .i64 (64 - B2)) ∧ w' = w) := hly
  have HDV : Hid (∀ w, Calls Tryd.prog 56 #[.int .u64 U, .int .u64 0, .int .u64 V] w fun e w' => e = .returned (.tuple #[.int .u64 W, .int .u64 R]) ∧ w' = w) := hdv
  have H0 : Hid (R = 0 → W' = W) := hr0
  have H1 : Hid (R ≠ 0 → W' = bits .or .u64 W 1) := hr1
  clear hlx hly hdv hr0 hr1
  go_enter Tryd.func43, Tryd.ntmps43
  go_wp2_with fail
  go_quiet (fail)
  go_wp2_with fail
  refine (HX.out _).mono ?_
  rintro e w1 ⟨rfl, hw1⟩
  subst hw1
  go_wp2_with fail
  refine (HY.out _).mono ?_
  rintro e w2 ⟨rfl, hw2⟩
  subst hw2
  go_wp2_with fail
  go_quiet (first | (go_at_call_of 56 (Value.int .u64 U); refine (HDV.out _).mono ?_; rintro e w' ⟨rfl, rfl⟩; exact ⟨rfl, _, by first | rfl | rw [World.drewN_drewN]⟩))
  by_cases hR : R = 0
  · have hb : (R != 0) = false := by simp [hR]
    have HW : Hid (W' = W) := H0.out hR
    clear hR
    go_wp2_with fail
    refine bodyPost_ret (v := .agg #[.int .u64 S, .int .u64 W, .int .u64 0, .int .i64 (p1 - (64 - B1 - 1) - 64 - (p2 - (64 - B2)))]) (by simp [results, Tryd.results43, go_sem]) rfl ⟨by rw [HW.out], ?_⟩
    repeat (first | exact Below.refl _ _ | refine below_drewN ?_ _ | refine Below.alloc ?_ (by simp <;> omega) _ | refine Below.setCell ?_ (by simp <;> omega) _)
  · have hb : (R != 0) = true := by simp [hR]
    have HW : Hid (W' = bits .or .u64 W 1) := H1.out hR
    clear hR
    go_wp2_with fail
    refine bodyPost_ret (v := .agg #[.int .u64 S, .int .u64 (bits .or .u64 W 1), .int .u64 0, .int .i64 (p1 - (64 - B1 - 1) - 64 - (p2 - (64 - B2)))]) (by simp [results, Tryd.results43, go_sem]) rfl ⟨by rw [HW.out], ?_⟩
    repeat (first | exact Below.refl _ _ | refine below_drewN ?_ _ | refine Below.alloc ?_ (by simp <;> omega) _ | refine Below.setCell ?_ (by simp <;> omega) _)


theorem i64_and1 (n : Int) : bits .and .i64 n 1 = n % 2 := by
  have h1 : (BitVec.ofInt 64 1).toNat = 2 ^ 1 - 1 := by decide
  have key : (BitVec.ofInt 64 n &&& BitVec.ofInt 64 1).toNat = (n % ((2 ^ 64 : Nat) : Int)).toNat % 2 ^ 1 := by
    rw [BitVec.toNat_and, BitVec.toNat_ofInt, h1, Nat.and_two_pow_sub_one_eq_mod]
  show IntKind.i64.wrap ((BitVec.ofInt 64 n &&& BitVec.ofInt 64 1).toNat : Nat) = n % 2
  rw [key, IntKind.wrap_i64]
  omega
/-- A digit to the base 2, out of one to the base 2^24. -/
theorem bit_dig {l : List Nat} (h : Digits l) (i : Nat) : dig l (i / 24) / 2 ^ (i % 24) % 2 = val l / 2 ^ i % 2 := by
  rw [val_dig h]
  have hi : i = 24 * (i / 24) + i % 24 := by omega
  have hlt : i % 24 < 24 := Nat.mod_lt _ (by decide)
  conv => rhs; rw [hi, Nat.pow_add, ← Nat.div_div_eq_div_mul]
  generalize val l / 2 ^ (24 * (i / 24)) = E
  generalize i % 24 = s at *
  have hp : (2 : Nat) ^ s * 2 ^ (24 - s) = 16777216 := by rw [← Nat.pow_add, show s + (24 - s) = 24 by omega]
  have h2 : 2 ∣ 2 ^ (24 - s) := ⟨2 ^ (23 - s), by rw [← Nat.pow_succ']; congr 1; omega⟩
  rw [← hp, Nat.mod_mul_right_div_self, Nat.mod_mod_of_dvd _ h2]
/-- One more digit of a quotient. -/
theorem over_step {T b t : Nat} (hb : b ≠ 0) (ht : t < 2) : (b ≤ 2 * (T % b) + t → (2 * T + t) / b = 2 * (T / b) + 1 ∧ (2 * T + t) % b = 2 * (T % b) + t - b) ∧ (2 * (T % b) + t < b → (2 * T + t) / b = 2 * (T / b) ∧ (2 * T + t) % b = 2 * (T % b) + t) := by
  have hd := Nat.div_add_mod T b
  have hm := Nat.mod_lt T (show 0 < b by omega)
  have hpos : 0 < b := by omega
  have e : 2 * T + t = (2 * (T % b) + t) + b * (2 * (T / b)) := by rw [Nat.mul_left_comm]; omega
  constructor
  · intro h
    have e2 : 2 * T + t = (2 * (T % b) + t - b) + b * (2 * (T / b) + 1) := by rw [Nat.mul_add, Nat.mul_one]; omega
    rw [e2, Nat.add_mul_div_left _ _ hpos, Nat.add_mul_mod_self_left, Nat.div_eq_of_lt (by omega), Nat.mod_eq_of_lt (by omega)]
    omega
  · intro h
    rw [e, Nat.add_mul_div_left _ _ hpos, Nat.add_mul_mod_self_left, Nat.div_eq_of_lt (by omega), Nat.mod_eq_of_lt (by omega)]
    omega
theorem half_step (a i : Nat) : a / 2 ^ i = 2 * (a / 2 ^ (i + 1)) + a / 2 ^ i % 2 := by
  rw [Nat.pow_succ, ← Nat.div_div_eq_div_mul]
  omega

/-- A quotient's amount, with one more digit behind it. -/
def mkQ (q : Nat) (whole : Bool) : Nat := if whole then 2 * q else 2 * q + 1
/-- The document's quotient: its amount. -/
def quD (D1 D2 : Nat) : Nat := mkQ (D1 * 2 ^ 120 / D2) (decide (D1 * 2 ^ 120 % D2 = 0))


theorem roundF_range (s : Int) (D : Nat) (p m : Int) : 0 ≤ roundF s D p m ∧ roundF s D p m < 256 := by
  unfold roundF
  simp only
  (repeat' split) <;> omega
/-- The record as it lies, behind a call. -/
structure RecR (w : World) (g : Nat) (op m x y z : Int) : Prop where
  lt : g < w.heap.size
  c0 : w.cell? ⟨g, 0, none⟩ = some (.int .i64 op)
  c1 : w.cell? ⟨g, 1, none⟩ = some (.int .i64 m)
  c2 : w.cell? ⟨g, 2, none⟩ = some (.int .u64 x)
  c3 : w.cell? ⟨g, 3, none⟩ = some (.int .u64 y)
  c4 : w.cell? ⟨g, 4, none⟩ = some (.int .u64 z)
theorem RecR.later {w w' : World} {g : Nat} {op m x y z : Int} (h : RecR w g op m x y z) (hb : Below w.heap.size w w') : RecR w' g op m x y z :=
  ⟨Nat.lt_of_lt_of_le h.lt hb.size, (hb.cell (p := ⟨g, 0, none⟩) h.lt).trans h.c0, (hb.cell (p := ⟨g, 1, none⟩) h.lt).trans h.c1, (hb.cell (p := ⟨g, 2, none⟩) h.lt).trans h.c2, (hb.cell (p := ⟨g, 3, none⟩) h.lt).trans h.c3, (hb.cell (p := ⟨g, 4, none⟩) h.lt).trans h.c4⟩



theorem prodF_range (x y : Nat) (m : Int) : 0 ≤ prodF x y m ∧ prodF x y m < 256 := by
  have := roundF_range (xs x y) (mant x * mant y) (pow x + pow y) m
  unfold prodF
  (repeat' split) <;> omega


/-- The place of the first NaN. -/
def fi1 (x : Int) : Int := if 4 ≤ kind x then 0 else -1
def fi2 (x y : Int) : Int := if 4 ≤ kind x then 0 else if 4 ≤ kind y then 1 else -1
def fi3 (x y z : Int) : Int := if 4 ≤ kind x then 0 else if 4 ≤ kind y then 1 else if 4 ≤ kind z then 2 else -1
/-- What rule 1 answers of fma. -/
def n5B (x y z : Int) : Int := if zti (kind x) (kind y) = true ∧ kind z = 4 then 9221120237041090560 else nanBits [x, y, z]
def n5F (x y z : Int) : Int := if zti (kind x) (kind y) = true ∧ kind z = 4 then 16 else nanFlag [x, y, z]


end Go.Proofs.YtcjihaafohnbeaaDoor
