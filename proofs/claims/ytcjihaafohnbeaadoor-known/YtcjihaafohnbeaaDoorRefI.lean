import Derived.Test.YtcjihaafohnbeaaDoorRound0
import Derived.Deep.RegionHeld3
import Derived.Deep.Cut
import Derived.Deep.CutRange
import Derived.Deep.Light
import Derived.Test.YtcjihaafohnbeaaDoorRtA
namespace Go.Proofs.YtcjihaafohnbeaaDoor
open Go.RowKit

/-- A finite number: its sign, its digits, its power of two. -/
def sgn (x : Nat) : Nat := x / 9223372036854775808
def mant (x : Nat) : Nat := if x / 4503599627370496 % 2048 = 0 then x % 4503599627370496 else x % 4503599627370496 + 4503599627370496
def pow (x : Nat) : Int := if x / 4503599627370496 % 2048 = 0 then -1074 else (x / 4503599627370496 % 2048 : Nat) - 1075
theorem sgn_lt {x : Nat} (h : x < 18446744073709551616) : sgn x < 2 := by unfold sgn; omega
theorem mant_lt (x : Nat) : mant x < 9007199254740992 := by unfold mant; split <;> omega
theorem pow_range (x : Nat) : -1074 ≤ pow x ∧ pow x ≤ 972 := by unfold pow; split <;> omega

set_option maxHeartbeats 400000 in
theorem exponentOf_any (x : Int) (h0 : 0 ≤ x) (h1 : x < 18446744073709551616) (w : World) :
    Calls Tryd.prog 49 #[.int .u64 x] w fun e w' => e = .returned (.int .u64 (x / 4503599627370496 % 2048)) ∧ w' = w := by
  have hE := and_2047 x h0 h1
  go_enter Tryd.func49, Tryd.ntmps49
  go_wp2
  go_ret
  exact ⟨rfl, rfl⟩

set_option maxHeartbeats 400000 in
theorem wrong_any (w : World) : Calls Tryd.prog 34 #[] w fun e w' => e = .returned (.agg #[.int .u64 9221120237041090560, .int .u8 16, .bool false]) ∧ Below w.heap.size w w' := by
  go_enter Tryd.func34, Tryd.ntmps34
  go_wp2
  exact bodyPost_ret (v := .agg #[.int .u64 9221120237041090560, .int .u8 16, .bool false]) (by simp [results, Tryd.results34, go_sem]) rfl ⟨rfl, (Below.refl _ _).alloc (Nat.le_refl _) _⟩

def xs (x y : Nat) : Nat := (sgn x + sgn y) % 2
theorem xs_lt (x y : Nat) : xs x y < 2 := Nat.mod_lt _ (by decide)
theorem xor_sgn (x y : Nat) (hx : x < 18446744073709551616) (hy : y < 18446744073709551616) : bits .xor .u64 ((x : Int) / 9223372036854775808) ((y : Int) / 9223372036854775808) = (xs x y : Int) := by
  have e1 : (x : Int) / 9223372036854775808 = ((sgn x : Nat) : Int) := by unfold sgn; omega
  have e2 : (y : Int) / 9223372036854775808 = ((sgn y : Nat) : Int) := by unfold sgn; omega
  rw [e1, e2, bits_xor_u64_nat _ _ (by have := sgn_lt hx; omega) (by have := sgn_lt hy; omega)]
  unfold xs
  have h1 := sgn_lt hx
  have h2 := sgn_lt hy
  generalize sgn x = a at *
  generalize sgn y = b at *
  match a, b, h1, h2 with
  | 0, 0, _, _ => rfl
  | 0, 1, _, _ => rfl
  | 1, 0, _, _ => rfl
  | 1, 1, _, _ => rfl

theorem or_one (q : Nat) (h : q < 18446744073709551616) : bits .or .u64 (q : Int) 1 = ((q + (1 - q % 2) : Nat) : Int) := by
  have h2 := bits_or_u64_nat q 1 h (by omega)
  rw [show ((1 : Nat) : Int) = 1 from rfl] at h2
  rw [h2]
  congr 1
  have h3 : q ||| 1 = q / 2 * 2 ^ 1 + 1 := by
    rw [← Nat.shiftLeft_eq, Nat.shiftLeft_add_eq_or_of_lt (by decide)]
    by_cases he : q % 2 = 0
    · have e : q = (q / 2) <<< 1 := by rw [Nat.shiftLeft_eq]; omega
      rw [← e]
    · have e : q = (q / 2) <<< 1 ||| 1 := by rw [← Nat.shiftLeft_add_eq_or_of_lt (by decide), Nat.shiftLeft_eq]; omega
      have e2 : q ||| 1 = ((q / 2) <<< 1 ||| 1) ||| 1 := by rw [← e]
      rw [e2, Nat.or_assoc, Nat.or_self]
  rw [h3]; omega

set_option maxHeartbeats 400000 in
theorem zeroSign_any (m : Int) (w : World) : Calls Tryd.prog 69 #[.int .u8 m] w fun e w' => e = .returned (.int .u64 (if m = 4 then 1 else 0)) ∧ w' = w := by
  by_cases h : m = 4
  · have hb : (m == 4) = true := by simp [h]
    have H : Hid (m = 4) := h
    clear h
    go_enter Tryd.func69, Tryd.ntmps69
    go_wp2
    all_goals go_ret
    all_goals exact ⟨by first | rfl | (exfalso; exact absurd H.out ‹_›), rfl⟩
  · have hb : (m == 4) = false := by simp [h]
    have H : Hid (¬ m = 4) := h
    clear h
    go_enter Tryd.func69, Tryd.ntmps69
    go_wp2
    all_goals go_ret
    all_goals exact ⟨by first | rfl | (exfalso; exact absurd ‹m = 4› H.out), rfl⟩

/-- A number without its t lowest digits; a lowest 1 in place of what is lost. -/
def mk (d t : Nat) : Nat := if d % 2 ^ t = 0 then d / 2 ^ t else d / 2 ^ t + (1 - d / 2 ^ t % 2)
theorem rest_zero {d t : Nat} : restN d t = 0 ↔ d % 2 ^ t = 0 := by
  unfold restN
  by_cases h : d % 2 ^ t = 0
  · rw [if_pos h]; simp [h]
  · rw [if_neg h]; (repeat' split) <;> simp [h]
theorem mk_none {d t : Nat} (h : restN d t = 0) : mk d t = d / 2 ^ t := by unfold mk; rw [if_pos (rest_zero.1 h)]
theorem mk_some {d t : Nat} (h : restN d t ≠ 0) : mk d t = d / 2 ^ t + (1 - d / 2 ^ t % 2) := by unfold mk; rw [if_neg (fun e => h (rest_zero.2 e))]
theorem mk_le (d t : Nat) : mk d t ≤ d / 2 ^ t + 1 := by unfold mk; split <;> omega
theorem mk_lt {d t n : Nat} (h : d < 2 ^ (n + 1)) : mk d t < 2 ^ (n + 1) := by
  have := Nat.div_le_self d (2 ^ t)
  rw [Nat.pow_succ] at *
  unfold mk
  split <;> omega
theorem wd_odd0 (q : Nat) : wd (q + (1 - q % 2)) 0 = wd q 0 + (1 - wd q 0 % 2) := by unfold wd; omega
theorem wd_odd (q i : Nat) : wd (q + (1 - q % 2)) (i + 1) = wd q (i + 1) := by
  unfold wd
  rw [Nat.pow_succ, Nat.mul_comm, ← Nat.div_div_eq_div_mul, ← Nat.div_div_eq_div_mul]
  congr 2
  omega
/-- How far the number of the greater power is moved up, in n places. -/
def lift (n d : Nat) (a : Int) : Int := min a (n - Go.bitLen d - 1)

/-- Four blocks, one behind the other. -/
structure Rows4 (w w1 : World) (xs ys rs qs : List Value) : Prop where
  below : Below w.heap.size w w1
  size : w.heap.size + 3 < w1.heap.size
  x : Blk w1 w.heap.size xs
  y : Blk w1 (w.heap.size + 1) ys
  r : Blk w1 (w.heap.size + 2) rs
  q : Blk w1 (w.heap.size + 3) qs
theorem Rows4.start (w : World) (xs ys rs qs : List Value) (t t' t'' t3 : TypeId) (h1 : 0 < xs.length) (h2 : 0 < ys.length) (h3 : 0 < rs.length) (h4 : 0 < qs.length) :
    Rows4 w ((((w.alloc (.cells xs.toArray t)).alloc (.cells ys.toArray t')).alloc (.cells rs.toArray t'')).alloc (.cells qs.toArray t3)) xs ys rs qs := by
  refine ⟨((((Below.refl _ _).alloc (Nat.le_refl _) _).alloc (by simp) _).alloc (by simp; omega) _).alloc (by simp; omega) _, by simp, (((Blk.new _ _ _ h1).alloc _).alloc _).alloc _, ?_, ?_, ?_⟩
  · have h := Blk.new (w.alloc (.cells xs.toArray t)) ys t' h2
    rw [World.size_alloc] at h
    exact (h.alloc _).alloc _
  · have h := Blk.new ((w.alloc (.cells xs.toArray t)).alloc (.cells ys.toArray t')) rs t'' h3
    rw [World.size_alloc, World.size_alloc] at h
    exact h.alloc _
  · have h := Blk.new (((w.alloc (.cells xs.toArray t)).alloc (.cells ys.toArray t')).alloc (.cells rs.toArray t'')) qs t3 h4
    rw [World.size_alloc, World.size_alloc, World.size_alloc] at h
    exact h
theorem Rows4.later {w w1 w2 : World} {xs ys rs qs : List Value} (h : Rows4 w w1 xs ys rs qs) (hb : Below w1.heap.size w1 w2) : Rows4 w w2 xs ys rs qs :=
  ⟨h.below.trans (hb.mono h.below.size), Nat.lt_of_lt_of_le h.size hb.size, h.x.later hb, h.y.later hb, h.r.later hb, h.q.later hb⟩
theorem Rows4.setX {w w1 : World} {xs ys rs qs : List Value} (h : Rows4 w w1 xs ys rs qs) (i : Nat) (v : Value) (hi : i < xs.length) : Rows4 w (w1.setCell ⟨w.heap.size, i, none⟩ v) (xs.set i v) ys rs qs :=
  ⟨h.below.setCell (by simp) _, by simpa using h.size, h.x.set i v hi, h.y.other _ _ (by simp), h.r.other _ _ (by simp), h.q.other _ _ (by simp)⟩
theorem Rows4.setY {w w1 : World} {xs ys rs qs : List Value} (h : Rows4 w w1 xs ys rs qs) (i : Nat) (v : Value) (hi : i < ys.length) : Rows4 w (w1.setCell ⟨w.heap.size + 1, i, none⟩ v) xs (ys.set i v) rs qs :=
  ⟨h.below.setCell (by simp) _, by simpa using h.size, h.x.other _ _ (by simp), h.y.set i v hi, h.r.other _ _ (by simp), h.q.other _ _ (by simp)⟩
theorem Rows4.alloc {w w1 : World} {xs ys rs qs : List Value} (h : Rows4 w w1 xs ys rs qs) (o : Obj) : Rows4 w (w1.alloc o) xs ys rs qs :=
  ⟨h.below.alloc h.below.size _, by have := h.size; simp; omega, h.x.alloc _, h.y.alloc _, h.r.alloc _, h.q.alloc _⟩
theorem Rows4.drew {w w1 : World} {xs ys rs qs : List Value} (h : Rows4 w w1 xs ys rs qs) : Rows4 w w1.drew xs ys rs qs :=
  ⟨h.below.drew, h.size, h.x.drew, h.y.drew, h.r.drew, h.q.drew⟩
/-- Three blocks, one behind the other. -/
structure Rows3 (w w1 : World) (xs ys rs : List Value) : Prop where
  below : Below w.heap.size w w1
  size : w.heap.size + 2 < w1.heap.size
  x : Blk w1 w.heap.size xs
  y : Blk w1 (w.heap.size + 1) ys
  r : Blk w1 (w.heap.size + 2) rs
theorem Rows3.start (w : World) (xs ys rs : List Value) (t t' t'' : TypeId) (h1 : 0 < xs.length) (h2 : 0 < ys.length) (h3 : 0 < rs.length) :
    Rows3 w (((w.alloc (.cells xs.toArray t)).alloc (.cells ys.toArray t')).alloc (.cells rs.toArray t'')) xs ys rs := by
  refine ⟨(((Below.refl _ _).alloc (Nat.le_refl _) _).alloc (by simp) _).alloc (by simp; omega) _, by simp, ((Blk.new _ _ _ h1).alloc _).alloc _, ?_, ?_⟩
  · have h := Blk.new (w.alloc (.cells xs.toArray t)) ys t' h2
    rw [World.size_alloc] at h
    exact h.alloc _
  · have h := Blk.new ((w.alloc (.cells xs.toArray t)).alloc (.cells ys.toArray t')) rs t'' h3
    rw [World.size_alloc, World.size_alloc] at h
    exact h
theorem Rows3.later {w w1 w2 : World} {xs ys rs : List Value} (h : Rows3 w w1 xs ys rs) (hb : Below w1.heap.size w1 w2) : Rows3 w w2 xs ys rs :=
  ⟨h.below.trans (hb.mono h.below.size), Nat.lt_of_lt_of_le h.size hb.size, h.x.later hb, h.y.later hb, h.r.later hb⟩
theorem Rows3.setX {w w1 : World} {xs ys rs : List Value} (h : Rows3 w w1 xs ys rs) (i : Nat) (v : Value) (hi : i < xs.length) : Rows3 w (w1.setCell ⟨w.heap.size, i, none⟩ v) (xs.set i v) ys rs :=
  ⟨h.below.setCell (by simp) _, by simpa using h.size, h.x.set i v hi, h.y.other _ _ (by simp), h.r.other _ _ (by simp)⟩
theorem Rows3.setY {w w1 : World} {xs ys rs : List Value} (h : Rows3 w w1 xs ys rs) (i : Nat) (v : Value) (hi : i < ys.length) : Rows3 w (w1.setCell ⟨w.heap.size + 1, i, none⟩ v) xs (ys.set i v) rs :=
  ⟨h.below.setCell (by simp) _, by simpa using h.size, h.x.other _ _ (by simp), h.y.set i v hi, h.r.other _ _ (by simp)⟩
theorem Rows3.setR {w w1 : World} {xs ys rs : List Value} (h : Rows3 w w1 xs ys rs) (i : Nat) (v : Value) (hi : i < rs.length) : Rows3 w (w1.setCell ⟨w.heap.size + 2, i, none⟩ v) xs ys (rs.set i v) :=
  ⟨h.below.setCell (by simp) _, by simpa using h.size, h.x.other _ _ (by simp), h.y.other _ _ (by simp), h.r.set i v hi⟩
theorem Rows3.alloc {w w1 : World} {xs ys rs : List Value} (h : Rows3 w w1 xs ys rs) (o : Obj) : Rows3 w (w1.alloc o) xs ys rs :=
  ⟨h.below.alloc h.below.size _, by have := h.size; simp; omega, h.x.alloc _, h.y.alloc _, h.r.alloc _⟩
theorem Rows3.drew {w w1 : World} {xs ys rs : List Value} (h : Rows3 w w1 xs ys rs) : Rows3 w w1.drew xs ys rs :=
  ⟨h.below.drew, h.size, h.x.drew, h.y.drew, h.r.drew⟩
/-- Two blocks, one behind the other. -/
structure Rows2 (w w1 : World) (xs rs : List Value) : Prop where
  below : Below w.heap.size w w1
  size : w.heap.size + 1 < w1.heap.size
  x : Blk w1 w.heap.size xs
  r : Blk w1 (w.heap.size + 1) rs
theorem Rows2.start (w : World) (xs rs : List Value) (t t' : TypeId) (h1 : 0 < xs.length) (h2 : 0 < rs.length) : Rows2 w ((w.alloc (.cells xs.toArray t)).alloc (.cells rs.toArray t')) xs rs := by
  refine ⟨((Below.refl _ _).alloc (Nat.le_refl _) _).alloc (by simp) _, by simp, (Blk.new _ _ _ h1).alloc _, ?_⟩
  have h := Blk.new (w.alloc (.cells xs.toArray t)) rs t' h2
  rw [World.size_alloc] at h
  exact h
theorem Rows2.later {w w1 w2 : World} {xs rs : List Value} (h : Rows2 w w1 xs rs) (hb : Below w1.heap.size w1 w2) : Rows2 w w2 xs rs :=
  ⟨h.below.trans (hb.mono h.below.size), Nat.lt_of_lt_of_le h.size hb.size, h.x.later hb, h.r.later hb⟩
theorem Rows2.below' {w w1 w2 : World} {xs rs : List Value} (h : Rows2 w w1 xs rs) {B : Nat} (hb : Below B w1 w2) (hB : w.heap.size + 2 ≤ B) : Rows2 w w2 xs rs :=
  ⟨h.below.trans (hb.mono (by omega)), Nat.lt_of_lt_of_le h.size hb.size, h.x.below hb (by omega), h.r.below hb (by omega)⟩


def moreB (m : Int) (neg half none odd whole : Bool) : Bool :=
  if m = 0 then half && (!none || odd) else if m = 1 then half else if m = 3 then !neg && !whole else if m = 4 then neg && !whole else false
def sOf (neg : Bool) : Int := if neg then 1 else 0
/-- One digit more: as the rest and the mode have it. -/
theorem more_incr {m : Int} (hm : 0 ≤ m ∧ m ≤ 4) (neg : Bool) (D k : Nat) (hk : 0 < k) :
    (if moreB m neg (decide (D / 2 ^ (k - 1) % 2 = 1)) (decide (D % 2 ^ (k - 1) = 0)) (decide (D / 2 ^ k % 2 = 1)) (decide (D % 2 ^ k = 0)) then 1 else 0) = incr (grow m (sOf neg) (restN D k)) (D / 2 ^ k) := by
  obtain ⟨j, rfl⟩ : ∃ j, k = j + 1 := ⟨k - 1, by omega⟩
  rw [show j + 1 - 1 = j by omega]
  have hp := Nat.two_pow_pos j
  have e1 : D % 2 ^ (j + 1) = D % 2 ^ j + 2 ^ j * (D / 2 ^ j % 2) := by rw [Nat.pow_succ, Nat.mod_mul]
  have h2 := Nat.mod_lt D hp
  have hc : (restN D (j + 1) = 0 ∧ D / 2 ^ j % 2 = 0 ∧ D % 2 ^ j = 0 ∧ D % 2 ^ (j + 1) = 0) ∨ (restN D (j + 1) = 1 ∧ D / 2 ^ j % 2 = 0 ∧ D % 2 ^ j ≠ 0 ∧ D % 2 ^ (j + 1) ≠ 0) ∨ (restN D (j + 1) = 2 ∧ D / 2 ^ j % 2 = 1 ∧ D % 2 ^ j = 0 ∧ D % 2 ^ (j + 1) ≠ 0) ∨ (restN D (j + 1) = 3 ∧ D / 2 ^ j % 2 = 1 ∧ D % 2 ^ j ≠ 0 ∧ D % 2 ^ (j + 1) ≠ 0) := by
    unfold restN
    rw [e1, Nat.pow_succ]
    have h3 : D / 2 ^ j % 2 = 0 ∨ D / 2 ^ j % 2 = 1 := by omega
    rcases h3 with h3 | h3
    · rw [h3, Nat.mul_zero, Nat.add_zero]
      by_cases h4 : D % 2 ^ j = 0
      · exact .inl ⟨by rw [if_pos h4], rfl, h4, h4⟩
      · exact .inr (.inl ⟨by rw [if_neg h4, if_pos (by omega)], rfl, h4, h4⟩)
    · rw [h3, Nat.mul_one]
      by_cases h4 : D % 2 ^ j = 0
      · exact .inr (.inr (.inl ⟨by rw [if_neg (by omega), if_neg (by omega), if_pos (by omega)], rfl, h4, by omega⟩))
      · exact .inr (.inr (.inr ⟨by rw [if_neg (by omega), if_neg (by omega), if_neg (by omega)], rfl, h4, by omega⟩))
  have hq : D / 2 ^ (j + 1) % 2 = 0 ∨ D / 2 ^ (j + 1) % 2 = 1 := by omega
  have hm5 : m = 0 ∨ m = 1 ∨ m = 2 ∨ m = 3 ∨ m = 4 := by omega
  clear e1 h2
  generalize D / 2 ^ (j + 1) = q at *
  unfold moreB incr grow sOf
  rcases hc with ⟨a, b, c, d⟩ | ⟨a, b, c, d⟩ | ⟨a, b, c, d⟩ | ⟨a, b, c, d⟩ <;> rcases hq with h | h <;> rcases hm5 with rfl | rfl | rfl | rfl | rfl <;> cases neg <;> simp [a, b, c, d, h]

/-- A number's first digit is its own, by two. -/
theorem low_bit {l : List Nat} {n : Nat} (hd : Digits l) (hv : val l = n) : dig l 0 % 2 = n % 2 := by
  have := val_dig hd 0
  rw [hv] at this
  rw [this]
  simp
theorem IsNat.slice {w : World} {v : Value} {n : Nat} (h : IsNat w v n) : ∃ (a : Option Addr) (len cap g : Nat), v = .slice a len cap ∧ len = nd n ∧ (0 < len → a = some ⟨g, 0, none⟩) ∧ (0 < len → ∃ d : Nat, d < 16777216 ∧ d % 2 = n % 2 ∧ w.cell? ⟨g, 0, none⟩ = some (.int .i64 (d : Nat))) := by
  obtain ⟨l, hr, hv, hl⟩ := h
  obtain ⟨a, cap, g, h1, _, _, h2, _, h3⟩ := hr.open
  exact ⟨a, l.length, cap, g, h1, hl, h2, fun hp => ⟨dig l 0, dig_lt hr.1 0, low_bit hr.1 hv, h3 0 hp⟩⟩

theorem half_bool (d : Nat) : ((d : Int) % 2 == 1) = decide (d % 2 = 1) := by
  by_cases h : d % 2 = 1
  · rw [decide_eq_true h, beq_iff_eq]; omega
  · rw [decide_eq_false h, beq_eq_false_iff_ne]; omega
theorem nd_none {n : Nat} (h : 0 = nd n) : n = 0 := by
  apply Classical.byContradiction
  intro hn
  have := nd_pos hn
  omega
theorem moreB_mode {m : Int} {neg half none odd whole : Bool} :
    (m = 0 → moreB m neg half none odd whole = (half && (!none || odd))) ∧ (m = 1 → moreB m neg half none odd whole = half) ∧ (m = 2 → moreB m neg half none odd whole = false) ∧ (m = 3 → moreB m neg half none odd whole = (!neg && !whole)) ∧ (m = 4 → moreB m neg half none odd whole = (neg && !whole)) := by
  refine ⟨?_, ?_, ?_, ?_, ?_⟩ <;> (rintro rfl; rfl)

theorem cutQ_ge (s m : Int) {D : Nat} (hD : D ≠ 0) : 4503599627370496 ≤ cutQ s m D (Go.bitLen D - 53) := by
  have h1 := (Go.bitLen_spec D).2 hD
  have h2 := bitLen_pos hD
  unfold cutQ
  by_cases h : (Go.bitLen D : Int) - 53 ≤ 0
  · rw [if_pos h]
    have h3 : 2 ^ (Go.bitLen D - 1) * 2 ^ (-((Go.bitLen D : Int) - 53)).toNat ≤ D * 2 ^ (-((Go.bitLen D : Int) - 53)).toNat := Nat.mul_le_mul_right _ h1
    rw [← Nat.pow_add, show Go.bitLen D - 1 + (-((Go.bitLen D : Int) - 53)).toNat = 52 by omega] at h3
    omega
  · rw [if_neg h]
    have h3 : 2 ^ 52 ≤ D / 2 ^ ((Go.bitLen D : Int) - 53).toNat := by
      rw [Nat.le_div_iff_mul_le (Nat.two_pow_pos _), ← Nat.pow_add, show 52 + ((Go.bitLen D : Int) - 53).toNat = Go.bitLen D - 1 by omega]
      exact h1
    omega
theorem bl_53 {n : Nat} (h1 : 4503599627370496 ≤ n) (h2 : n < 9007199254740992) : Go.bitLen n = 53 := by
  have a := pow_le_of_lt ((Go.bitLen_spec n).2 (by omega)) (show n < 2 ^ 53 from h2)
  have b := pow_le_of_lt (show 2 ^ 52 ≤ n from h1) (Go.bitLen_spec n).1
  omega
theorem bl_54 : Go.bitLen 9007199254740992 = 54 := by decide

/-- What Round makes of a number, by cases. -/
theorem round_cases (s m : Int) {D : Nat} (p : Int) (hD : D ≠ 0) :
    ∃ (Y : Nat) (T : Int), cutQ s m D (Go.bitLen D - 53) = Y ∧ T = Go.bitLen Y + p + Go.bitLen D - 54 ∧ 4503599627370496 ≤ Y ∧ Y ≤ 9007199254740992 ∧ (Go.bitLen Y = 53 ∨ Go.bitLen Y = 54) ∧ (Go.bitLen Y = 54 → Y = 9007199254740992) ∧
      (1024 ≤ T → roundB s D p m = overB s m ∧ roundF s D p m = 5) ∧
      (T < -1022 → roundB s D p m = s * 9223372036854775808 + cutQ s m D (-1074 - p) ∧ roundF s D p m = (if cutCh D (-1074 - p) then 3 else 0)) ∧
      (¬ 1024 ≤ T → ¬ T < -1022 → roundB s D p m = s * 9223372036854775808 + ((T + 1022) * 4503599627370496 + (if Go.bitLen Y = 54 then 4503599627370496 else (Y : Int))) ∧ roundF s D p m = (if cutCh D (Go.bitLen D - 53) then 1 else 0)) := by
  have hge := cutQ_ge s m hD
  have hle := cutQ_le s m (D := D) (k := (Go.bitLen D : Int) - 53) (Int.le_refl _)
  refine ⟨_, _, rfl, rfl, hge, hle, ?_, ?_, ?_, ?_, ?_⟩
  all_goals by_cases hy : cutQ s m D (Go.bitLen D - 53) = 9007199254740992
  all_goals first
    | rw [hy, bl_54]
    | rw [bl_53 hge (by omega)]
  · exact .inr rfl
  · exact .inl rfl
  · exact fun _ => rfl
  · intro h; omega
  · intro h; exact round_carry_over hy (by omega)
  · intro h; exact round_over hy (by omega)
  · intro h; exact round_carry_tiny hy (by omega)
  · intro h; exact round_tiny hy (by omega)
  · intro h h'
    have := round_carry (p := p) hy (by omega) (by omega)
    refine ⟨by rw [this.1, if_pos rfl]; omega, this.2⟩
  · intro h h'
    have := round_plain (p := p) hy (by omega) (by omega)
    refine ⟨by rw [this.1, if_neg (by omega)]; omega, this.2⟩

/-- A number of the document's, as it lies in its block. -/
structure NumAt (w : World) (g : Nat) (neg : Bool) (va : Value) (D : Nat) (p : Int) : Prop where
  lt : g < w.heap.size
  c0 : w.cell? ⟨g, 0, none⟩ = some (.bool neg)
  c1 : w.cell? ⟨g, 1, none⟩ = some va
  c2 : w.cell? ⟨g, 2, none⟩ = some (.int .i64 p)
  nat : IsNat w va D
theorem NumAt.later {w w' : World} {g : Nat} {neg : Bool} {va : Value} {D : Nat} {p : Int} (h : NumAt w g neg va D p) (hb : Below w.heap.size w w') : NumAt w' g neg va D p :=
  ⟨Nat.lt_of_lt_of_le h.lt hb.size, (hb.cell (p := ⟨g, 0, none⟩) h.lt).trans h.c0, (hb.cell (p := ⟨g, 1, none⟩) h.lt).trans h.c1, (hb.cell (p := ⟨g, 2, none⟩) h.lt).trans h.c2, h.nat.later hb⟩


def negOf (x : Nat) : Bool := decide (sgn x = 1)
theorem sOf_neg {x : Nat} (h : x < 18446744073709551616) : sOf (negOf x) = sgn x := by
  have := sgn_lt h
  unfold sOf negOf
  by_cases h1 : sgn x = 1
  · rw [decide_eq_true h1, h1]; rfl
  · rw [decide_eq_false h1]
    have : sgn x = 0 := by omega
    rw [this]; rfl

/-- Stores into a block whose head is a Bool leave a row of ints as it is. -/
theorem IsRow.set {w : World} {v : Value} {l : List Nat} {g : Nat} {b : Bool} (h : IsRow w v l) (hg : w.cell? ⟨g, 0, none⟩ = some (.bool b)) (j : Nat) (u : Value) : IsRow (w.setCell ⟨g, j, none⟩ u) v l := by
  refine ⟨h.1, ?_⟩
  rcases h.2 with h' | ⟨g', cap, rfl, h2, h3, hl, hc⟩
  · exact .inl h'
  · refine .inr ⟨g', cap, rfl, h2, h3, by simpa using hl, fun k hk => ?_⟩
    have hne : g' ≠ g := by
      intro e
      subst e
      have := hc 0 (by omega)
      rw [hg] at this
      cases this
    rw [World.cell?_of_block (w := w) (heap_setCell_other w ⟨g, j, none⟩ g' u hne)]
    exact hc k hk
theorem IsNat.set {w : World} {v : Value} {n g : Nat} {b : Bool} (h : IsNat w v n) (hg : w.cell? ⟨g, 0, none⟩ = some (.bool b)) (j : Nat) (u : Value) : IsNat (w.setCell ⟨g, j, none⟩ u) v n := by
  obtain ⟨l, h1, h2⟩ := h
  exact ⟨l, h1.set hg j u, h2⟩
theorem set_num {w : World} {v : Value} {n g : Nat} {b b' : Bool} {u u' : Value} (h : IsNat w v n) (hg : w.cell? ⟨g, 0, none⟩ = some (.bool b)) : IsNat (((w.setCell ⟨g, 0, none⟩ (.bool b')).setCell ⟨g, 1, none⟩ u).setCell ⟨g, 2, none⟩ u') v n := by
  have e1 : (w.setCell ⟨g, 0, none⟩ (.bool b')).cell? ⟨g, 0, none⟩ = some (.bool b') := World.cell?_setCell_same _ _ _ hg
  have e2 : ((w.setCell ⟨g, 0, none⟩ (.bool b')).setCell ⟨g, 1, none⟩ u).cell? ⟨g, 0, none⟩ = some (.bool b') := by rw [World.cell?_setCell_other _ _ _ _ (by simp)]; exact e1
  exact ((h.set hg 0 _).set e1 1 _).set e2 2 _

end Go.Proofs.YtcjihaafohnbeaaDoor
