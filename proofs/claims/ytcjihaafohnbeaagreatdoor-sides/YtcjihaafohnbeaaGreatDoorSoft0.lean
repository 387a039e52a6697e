import Derived.Test.YtcjihaafohnbeaaGreatDoorRound0
import Derived.Deep.RegionHeld3
import Derived.Deep.Cut
import Derived.Deep.CutRange
import Derived.Deep.Light
namespace Go.Proofs.YtcjihaafohnbeaaGreatDoor
open Go.RowKit

/-- A finite number: its sign, its digits, its power of two. -/
def sgn (x : Nat) : Nat := x / 9223372036854775808
def mant (x : Nat) : Nat := if x / 4503599627370496 % 2048 = 0 then x % 4503599627370496 else x % 4503599627370496 + 4503599627370496
def pow (x : Nat) : Int := if x / 4503599627370496 % 2048 = 0 then -1074 else (x / 4503599627370496 % 2048 : Nat) - 1075
theorem sgn_lt {x : Nat} (h : x < 18446744073709551616) : sgn x < 2 := by unfold sgn; omega
theorem mant_lt (x : Nat) : mant x < 9007199254740992 := by unfold mant; split <;> omega
theorem pow_range (x : Nat) : -1074 ≤ pow x ∧ pow x ≤ 972 := by unfold pow; split <;> omega

set_option maxHeartbeats 400000 in
theorem exponentOf_any (x : Int) (h0 : 0 ≤ x) (h1 : x < 18446744073709551616) (w : World) :
    Calls Tryz.prog 65 #[.int .u64 x] w fun e w' => e = .returned (.int .u64 (x / 4503599627370496 % 2048)) ∧ w' = w := by
  have hE := and_2047 x h0 h1
  go_enter Tryz.func65, Tryz.ntmps65
  go_wp2
  go_ret
  exact ⟨rfl, rfl⟩

set_option maxHeartbeats 400000 in
theorem wrong_any (w : World) : Calls Tryz.prog 50 #[] w fun e w' => e = .returned (.agg #[.int .u64 9221120237041090560, .int .u8 16, .bool false]) ∧ Below w.heap.size w w' := by
  go_enter Tryz.func50, Tryz.ntmps50
  go_wp2
  exact bodyPost_ret (v := .agg #[.int .u64 9221120237041090560, .int .u8 16, .bool false]) (by simp [results, Tryz.results50, go_sem]) rfl ⟨rfl, (Below.refl _ _).alloc (Nat.le_refl _) _⟩

def xs (x y : Nat) : Nat := (sgn x + sgn y) % 2
theorem xs_lt (x y : Nat) : xs x y < 2 := Nat.mod_lt _ (by decide)
theorem xor_sgn (x y : Nat) (hx : x < 18446744073709551616) (hy : y < 18446744073709551616) : bits .xor .u64 ((x : Int) / 9223372036854775808) ((y : Int) / 9223372036854775808) = (xs x y : Int) := by
  have e1 : (x : Int) / 9223372036854775808 = ((sgn x : Nat) : Int) := by unfold sgn; omega
  have e2 : (y : Int) / 9223372036854775808 = ((sgn y : Nat) : Int) := by unfold sgn; omega
  rw [e1, e2, bits_xor_u64_nat _ _ (by have := sgn_lt hx; omega) (by have := sgn_lt hy; omega)]
  unfold xs
  have h1 := sgn_lt hx
  have h2 := sgn_lt hy
  generalize sgn x = a at *
  generalize sgn y = b at *
  match a, b, h1, h2 with
  | 0, 0, _, _ => rfl
  | 0, 1, _, _ => rfl
  | 1, 0, _, _ => rfl
  | 1, 1, _, _ => rfl

theorem or_one (q : Nat) (h : q < 18446744073709551616) : bits .or .u64 (q : Int) 1 = ((q + (1 - q % 2) : Nat) : Int) := by
  have h2 := bits_or_u64_nat q 1 h (by omega)
  rw [show ((1 : Nat) : Int) = 1 from rfl] at h2
  rw [h2]
  congr 1
  have h3 : q ||| 1 = q / 2 * 2 ^ 1 + 1 := by
    rw [← Nat.shiftLeft_eq, Nat.shiftLeft_add_eq_or_of_lt (by decide)]
    by_cases he : q % 2 = 0
    · have e : q = (q / 2) <<< 1 := by rw [Nat.shiftLeft_eq]; omega
      rw [← e]
    · have e : q = (q / 2) <<< 1 ||| 1 := by rw [← Nat.shiftLeft_add_eq_or_of_lt (by decide), Nat.shiftLeft_eq]; omega
      have e2 : q ||| 1 = ((q / 2) <<< 1 ||| 1) ||| 1 := by rw [← e]
      rw [e2, Nat.or_assoc, Nat.or_self]
  rw [h3]; omega

set_option maxHeartbeats 400000 in
theorem zeroSign_any (m : Int) (w : World) : Calls Tryz.prog 98 #[.int .u8 m] w fun e w' => e = .returned (.int .u64 (if m = 4 then 1 else 0)) ∧ w' = w := by
  by_cases h : m = 4
  · have hb : (m == 4) = true := by simp [h]
    have H : Hid (m = 4) := h
    clear h
    go_enter Tryz.func98, Tryz.ntmps98
    go_wp2
    all_goals go_ret
    all_goals exact ⟨by first | rfl | (exfalso; exact absurd H.out ‹_›), rfl⟩
  · have hb : (m == 4) = false := by simp [h]
    have H : Hid (¬ m = 4) := h
    clear h
    go_enter Tryz.func98, Tryz.ntmps98
    go_wp2
    all_goals go_ret
    all_goals exact ⟨by first | rfl | (exfalso; exact absurd ‹m = 4› H.out), rfl⟩

/-- A number without its t lowest digits; a lowest 1 in place of what is lost. -/
def mk (d t : Nat) : Nat := if d % 2 ^ t = 0 then d / 2 ^ t else d / 2 ^ t + (1 - d / 2 ^ t % 2)
theorem rest_zero {d t : Nat} : restN d t = 0 ↔ d % 2 ^ t = 0 := by
  unfold restN
  by_cases h : d % 2 ^ t = 0
  · rw [if_pos h]; simp [h]
  · rw [if_neg h]; (repeat' split) <;> simp [h]
theorem mk_none {d t : Nat} (h : restN d t = 0) : mk d t = d / 2 ^ t := by unfold mk; rw [if_pos (rest_zero.1 h)]
theorem mk_some {d t : Nat} (h : restN d t ≠ 0) : mk d t = d / 2 ^ t + (1 - d / 2 ^ t % 2) := by unfold mk; rw [if_neg (fun e => h (rest_zero.2 e))]
theorem mk_le (d t : Nat) : mk d t ≤ d / 2 ^ t + 1 := by unfold mk; split <;> omega
theorem mk_lt {d t n : Nat} (h : d < 2 ^ (n + 1)) : mk d t < 2 ^ (n + 1) := by
  have := Nat.div_le_self d (2 ^ t)
  rw [Nat.pow_succ] at *
  unfold mk
  split <;> omega
theorem wd_odd0 (q : Nat) : wd (q + (1 - q % 2)) 0 = wd q 0 + (1 - wd q 0 % 2) := by unfold wd; omega
theorem wd_odd (q i : Nat) : wd (q + (1 - q % 2)) (i + 1) = wd q (i + 1) := by
  unfold wd
  rw [Nat.pow_succ, Nat.mul_comm, ← Nat.div_div_eq_div_mul, ← Nat.div_div_eq_div_mul]
  congr 2
  omega
/-- How far the number of the greater power is moved up, in n places. -/
def lift (n d : Nat) (a : Int) : Int := min a (n - Go.bitLen d - 1)

/-- Four blocks, one behind the other. -/
structure Rows4 (w w1 : World) (xs ys rs qs : List Value) : Prop where
  below : Below w.heap.size w w1
  size : w.heap.size + 3 < w1.heap.size
  x : Blk w1 w.heap.size xs
  y : Blk w1 (w.heap.size + 1) ys
  r : Blk w1 (w.heap.size + 2) rs
  q : Blk w1 (w.heap.size + 3) qs
theorem Rows4.start (w : World) (xs ys rs qs : List Value) (t t' t'' t3 : TypeId) (h1 : 0 < xs.length) (h2 : 0 < ys.length) (h3 : 0 < rs.length) (h4 : 0 < qs.length) :
    Rows4 w ((((w.alloc (.cells xs.toArray t)).alloc (.cells ys.toArray t')).alloc (.cells rs.toArray t'')).alloc (.cells qs.toArray t3)) xs ys rs qs := by
  refine ⟨((((Below.refl _ _).alloc (Nat.le_refl _) _).alloc (by simp) _).alloc (by simp; omega) _).alloc (by simp; omega) _, by simp, (((Blk.new _ _ _ h1).alloc _).alloc _).alloc _, ?_, ?_, ?_⟩
  · have h := Blk.new (w.alloc (.cells xs.toArray t)) ys t' h2
    rw [World.size_alloc] at h
    exact (h.alloc _).alloc _
  · have h := Blk.new ((w.alloc (.cells xs.toArray t)).alloc (.cells ys.toArray t')) rs t'' h3
    rw [World.size_alloc, World.size_alloc] at h
    exact h.alloc _
  · have h := Blk.new (((w.alloc (.cells xs.toArray t)).alloc (.cells ys.toArray t')).alloc (.cells rs.toArray t'')) qs t3 h4
    rw [World.size_alloc, World.size_alloc, World.size_alloc] at h
    exact h
theorem Rows4.later {w w1 w2 : World} {xs ys rs qs : List Value} (h : Rows4 w w1 xs ys rs qs) (hb : Below w1.heap.size w1 w2) : Rows4 w w2 xs ys rs qs :=
  ⟨h.below.trans (hb.mono h.below.size), Nat.lt_of_lt_of_le h.size hb.size, h.x.later hb, h.y.later hb, h.r.later hb, h.q.later hb⟩
theorem Rows4.setX {w w1 : World} {xs ys rs qs : List Value} (h : Rows4 w w1 xs ys rs qs) (i : Nat) (v : Value) (hi : i < xs.length) : Rows4 w (w1.setCell ⟨w.heap.size, i, none⟩ v) (xs.set i v) ys rs qs :=
  ⟨h.below.setCell (by simp) _, by simpa using h.size, h.x.set i v hi, h.y.other _ _ (by simp), h.r.other _ _ (by simp), h.q.other _ _ (by simp)⟩
theorem Rows4.setY {w w1 : World} {xs ys rs qs : List Value} (h : Rows4 w w1 xs ys rs qs) (i : Nat) (v : Value) (hi : i < ys.length) : Rows4 w (w1.setCell ⟨w.heap.size + 1, i, none⟩ v) xs (ys.set i v) rs qs :=
  ⟨h.below.setCell (by simp) _, by simpa using h.size, h.x.other _ _ (by simp), h.y.set i v hi, h.r.other _ _ (by simp), h.q.other _ _ (by simp)⟩
theorem Rows4.alloc {w w1 : World} {xs ys rs qs : List Value} (h : Rows4 w w1 xs ys rs qs) (o : Obj) : Rows4 w (w1.alloc o) xs ys rs qs :=
  ⟨h.below.alloc h.below.size _, by have := h.size; simp; omega, h.x.alloc _, h.y.alloc _, h.r.alloc _, h.q.alloc _⟩
theorem Rows4.drew {w w1 : World} {xs ys rs qs : List Value} (h : Rows4 w w1 xs ys rs qs) : Rows4 w w1.drew xs ys rs qs :=
  ⟨h.below.drew, h.size, h.x.drew, h.y.drew, h.r.drew, h.q.drew⟩
/-- Three blocks, one behind the other. -/
structure Rows3 (w w1 : World) (xs ys rs : List Value) : Prop where
  below : Below w.heap.size w w1
  size : w.heap.size + 2 < w1.heap.size
  x : Blk w1 w.heap.size xs
  y : Blk w1 (w.heap.size + 1) ys
  r : Blk w1 (w.heap.size + 2) rs
theorem Rows3.start (w : World) (xs ys rs : List Value) (t t' t'' : TypeId) (h1 : 0 < xs.length) (h2 : 0 < ys.length) (h3 : 0 < rs.length) :
    Rows3 w (((w.alloc (.cells xs.toArray t)).alloc (.cells ys.toArray t')).alloc (.cells rs.toArray t'')) xs ys rs := by
  refine ⟨(((Below.refl _ _).alloc (Nat.le_refl _) _).alloc (by simp) _).alloc (by simp; omega) _, by simp, ((Blk.new _ _ _ h1).alloc _).alloc _, ?_, ?_⟩
  · have h := Blk.new (w.alloc (.cells xs.toArray t)) ys t' h2
    rw [World.size_alloc] at h
    exact h.alloc _
  · have h := Blk.new ((w.alloc (.cells xs.toArray t)).alloc (.cells ys.toArray t')) rs t'' h3
    rw [World.size_alloc, World.size_alloc] at h
    exact h
theorem Rows3.later {w w1 w2 : World} {xs ys rs : List Value} (h : Rows3 w w1 xs ys rs) (hb : Below w1.heap.size w1 w2) : Rows3 w w2 xs ys rs :=
  ⟨h.below.trans (hb.mono h.below.size), Nat.lt_of_lt_of_le h.size hb.size, h.x.later hb, h.y.later hb, h.r.later hb⟩
theorem Rows3.setX {w w1 : World} {xs ys rs : List Value} (h : Rows3 w w1 xs ys rs) (i : Nat) (v : Value) (hi : i < xs.length) : Rows3 w (w1.setCell ⟨w.heap.size, i, none⟩ v) (xs.set i v) ys rs :=
  ⟨h.below.setCell (by simp) _, by simpa using h.size, h.x.set i v hi, h.y.other _ _ (by simp), h.r.other _ _ (by simp)⟩
theorem Rows3.setY {w w1 : World} {xs ys rs : List Value} (h : Rows3 w w1 xs ys rs) (i : Nat) (v : Value) (hi : i < ys.length) : Rows3 w (w1.setCell ⟨w.heap.size + 1, i, none⟩ v) xs (ys.set i v) rs :=
  ⟨h.below.setCell (by simp) _, by simpa using h.size, h.x.other _ _ (by simp), h.y.set i v hi, h.r.other _ _ (by simp)⟩
theorem Rows3.setR {w w1 : World} {xs ys rs : List Value} (h : Rows3 w w1 xs ys rs) (i : Nat) (v : Value) (hi : i < rs.length) : Rows3 w (w1.setCell ⟨w.heap.size + 2, i, none⟩ v) xs ys (rs.set i v) :=
  ⟨h.below.setCell (by simp) _, by simpa using h.size, h.x.other _ _ (by simp), h.y.other _ _ (by simp), h.r.set i v hi⟩
theorem Rows3.alloc {w w1 : World} {xs ys rs : List Value} (h : Rows3 w w1 xs ys rs) (o : Obj) : Rows3 w (w1.alloc o) xs ys rs :=
  ⟨h.below.alloc h.below.size _, by have := h.size; simp; omega, h.x.alloc _, h.y.alloc _, h.r.alloc _⟩
theorem Rows3.drew {w w1 : World} {xs ys rs : List Value} (h : Rows3 w w1 xs ys rs) : Rows3 w w1.drew xs ys rs :=
  ⟨h.below.drew, h.size, h.x.drew, h.y.drew, h.r.drew⟩
/-- Two blocks, one behind the other. -/
structure Rows2 (w w1 : World) (xs rs : List Value) : Prop where
  below : Below w.heap.size w w1
  size : w.heap.size + 1 < w1.heap.size
  x : Blk w1 w.heap.size xs
  r : Blk w1 (w.heap.size + 1) rs
theorem Rows2.start (w : World) (xs rs : List Value) (t t' : TypeId) (h1 : 0 < xs.length) (h2 : 0 < rs.length) : Rows2 w ((w.alloc (.cells xs.toArray t)).alloc (.cells rs.toArray t')) xs rs := by
  refine ⟨((Below.refl _ _).alloc (Nat.le_refl _) _).alloc (by simp) _, by simp, (Blk.new _ _ _ h1).alloc _, ?_⟩
  have h := Blk.new (w.alloc (.cells xs.toArray t)) rs t' h2
  rw [World.size_alloc] at h
  exact h
theorem Rows2.later {w w1 w2 : World} {xs rs : List Value} (h : Rows2 w w1 xs rs) (hb : Below w1.heap.size w1 w2) : Rows2 w w2 xs rs :=
  ⟨h.below.trans (hb.mono h.below.size), Nat.lt_of_lt_of_le h.size hb.size, h.x.later hb, h.r.later hb⟩
theorem Rows2.below' {w w1 w2 : World} {xs rs : List Value} (h : Rows2 w w1 xs rs) {B : Nat} (hb : Below B w1 w2) (hB : w.heap.size + 2 ≤ B) : Rows2 w w2 xs rs :=
  ⟨h.below.trans (hb.mono (by omega)), Nat.lt_of_lt_of_le h.size hb.size, h.x.below hb (by omega), h.r.below hb (by omega)⟩
end Go.Proofs.YtcjihaafohnbeaaGreatDoor
