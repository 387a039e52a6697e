import Derived.Test.YtcjihaafohnbeaaDoorWD4
import Derived.Test.YtcjihaafohnbeaaDoorWB4
import Derived.Test.YtcjihaafohnbeaaDoorWC4
import Derived.Test.YtcjihaafohnbeaaDoorRefI
import Derived.Deep.RegionHeld3
import Derived.Shelf.Abstract
import Derived.Test.YtcjihaafohnbeaaDoorPF
import Derived.Test.YtcjihaafohnbeaaDoorPA
import Derived.Test.YtcjihaafohnbeaaDoorRefK
namespace Go.Proofs.YtcjihaafohnbeaaDoor
open Go.RowKit

theorem Rows2.setR {w w1 : World} {xs rs : List Value} (h : Rows2 w w1 xs rs) (i : Nat) (v : Value) (hi : i < rs.length) : Rows2 w (w1.setCell ⟨w.heap.size + 1, i, none⟩ v) xs (rs.set i v) :=
  ⟨h.below.setCell (by simp) _, by simpa using h.size, h.x.other _ _ (by simp), h.r.set i v hi⟩
theorem Rows2.setX {w w1 : World} {xs rs : List Value} (h : Rows2 w w1 xs rs) (i : Nat) (v : Value) (hi : i < xs.length) : Rows2 w (w1.setCell ⟨w.heap.size, i, none⟩ v) (xs.set i v) rs :=
  ⟨h.below.setCell (by simp) _, by simpa using h.size, h.x.set i v hi, h.r.other _ _ (by simp)⟩

/-- By how much digits are moved up. -/
def liftN (d p r : Int) : Int := r - (r - p) % d
theorem liftN_done {d p r : Int} (h : (p - r).tmod d = 0) : liftN d p r = r := by
  have h1 := Int.dvd_of_tmod_eq_zero h
  have h2 : d ∣ r - p := by rw [← Int.neg_sub]; exact (Int.dvd_neg).2 h1
  unfold liftN
  rw [Int.emod_eq_zero_of_dvd h2, Int.sub_zero]
theorem liftN_next {d p r : Int} (hd : 0 < d) (h : ¬ (p - r).tmod d = 0) : liftN d p (r - 1) = liftN d p r ∧ 0 < (r - p) % d := by
  have h1 : ¬ d ∣ p - r := fun g => h (Int.tmod_eq_zero_of_dvd g)
  have h2 : ¬ (r - p) % d = 0 := fun g => h1 (by rw [← Int.neg_sub]; exact (Int.dvd_neg).2 (Int.dvd_of_emod_eq_zero g))
  have h3 := Int.emod_nonneg (r - p) (show d ≠ 0 by omega)
  have h4 := Int.emod_lt_of_pos (r - p) hd
  have h5 : (r - 1 - p) % d = (r - p) % d - 1 := by
    have e : r - 1 - p = (r - p) % d - 1 + d * ((r - p) / d) := by have := Int.emod_add_mul_ediv (r - p) d; omega
    rw [e, Int.add_mul_emod_self_left]
    exact Int.emod_eq_of_lt (by omega) (by omega)
  unfold liftN
  constructor <;> omega
theorem liftN_le {d p r : Int} (hd : 0 < d) : liftN d p r ≤ r ∧ r - d < liftN d p r := by
  have h3 := Int.emod_nonneg (r - p) (show d ≠ 0 by omega)
  have h4 := Int.emod_lt_of_pos (r - p) hd
  unfold liftN
  omega
theorem liftN_dvd (d p r : Int) : d ∣ p - liftN d p r := by
  unfold liftN
  have := Int.emod_add_mul_ediv (r - p) d
  exact ⟨-((r - p) / d), by rw [Int.mul_neg]; omega⟩

set_option maxHeartbeats 400000 in
theorem liftFor_any (d p r : Int) (hd : 2 ≤ d ∧ d ≤ 3) (hp : -100000 ≤ p ∧ p ≤ 100000) (hr : -1000 ≤ r ∧ r ≤ 1000) (w : World) :
    Calls Tryd.prog 59 #[.int .i64 d, .int .i64 p, .int .i64 r] w fun e w' => e = .returned (.int .i64 (liftN d p r)) ∧ w' = w := by
  obtain ⟨d1, d2⟩ := hd
  obtain ⟨p1, p2⟩ := hp
  obtain ⟨r1, r2⟩ := hr
  have e0 : ¬ d = 0 := by omega
  have bd0 : (d == 0) = false := by simpa using e0
  go_enter Tryd.func59, Tryd.ntmps59
  go_wp2
  go_loop [2] (fun i => ∃ k : Int, i = .int .i64 k ∧ -1004 ≤ k - (k - p) % d ∧ k ≤ r ∧ Hid (liftN d p k = liftN d p r)) (fun i => (intOf i + 1004).toNat)
  case atStart => exact ⟨r, rfl, by have := (liftN_le (d := d) (p := p) (r := r) (by omega)); unfold liftN at this; omega, by omega, rfl⟩
  case round =>
    obtain ⟨k, rfl, k1, k2, hk⟩ := hrel
    have q1 := Int.emod_nonneg (k - p) e0
    by_cases h : (p - k).tmod d = 0
    · have hb : ((p - k).tmod d != 0) = false := by simp [h]
      have HV : Hid (liftN d p r = k) := hk.out.symm.trans (liftN_done h)
      clear h hk
      go_wp2_with fail
      go_ret
      exact ⟨by rw [HV.out]; rfl, rfl⟩
    · have hb : ((p - k).tmod d != 0) = true := by simp [h]
      have hn := liftN_next (by omega) h
      have HV : Hid (liftN d p (k - 1) = liftN d p r) := hn.1.trans hk.out
      have HV2 : Hid (-1004 ≤ k - 1 - (k - 1 - p) % d ∧ -1003 ≤ k) := (by have h1 := hn.1; have h2 := hn.2; unfold liftN at h1; omega : -1004 ≤ k - 1 - (k - 1 - p) % d ∧ -1003 ≤ k)
      have q3 := HV2.out.2
      clear h hk hn
      go_wp2_with fail
      go_round
      case rel => exact ⟨k - 1, rfl, HV2.out.1, by omega, HV⟩
      case measure => simp [intOf]; omega

/-- A word to a degree, in the highest words of four. -/
def pw2 (x : Nat) : Nat := x * 340282366920938463463374607431768211456 * x
def pw3 (x : Nat) : Nat := x * 18446744073709551616 * x * x
theorem wd_lo (x : Nat) {j i : Nat} (h : i < j) : wd (x * 18446744073709551616 ^ j) i = 0 := by
  obtain ⟨d, rfl⟩ : ∃ d, j = d + 1 + i := ⟨j - i - 1, by omega⟩
  unfold wd
  rw [Nat.pow_add, ← Nat.mul_assoc, Nat.mul_div_cancel _ (big_pos i), Nat.pow_succ, ← Nat.mul_assoc, Nat.mul_mod_left]
theorem wd_hi (x j i : Nat) : wd (x * 18446744073709551616 ^ j) (j + i) = wd x i := by
  unfold wd
  rw [Nat.pow_add, Nat.mul_comm, Nat.mul_div_mul_left _ _ (big_pos j)]
theorem wd_one {x : Nat} (hx : x < 18446744073709551616) : wd x 0 = x ∧ wd x 1 = 0 ∧ wd x 2 = 0 := by
  unfold wd
  refine ⟨?_, ?_, ?_⟩
  · rw [Nat.pow_zero, Nat.div_one, Nat.mod_eq_of_lt hx]
  · rw [Nat.pow_one, Nat.div_eq_of_lt hx]
  · rw [Nat.div_eq_of_lt (Nat.lt_trans hx (by decide))]
theorem wd_up (x : Nat) (hx : x < 18446744073709551616) : wd (x * 340282366920938463463374607431768211456) 0 = 0 ∧ wd (x * 340282366920938463463374607431768211456) 1 = 0 ∧ wd (x * 340282366920938463463374607431768211456) 2 = x ∧ wd (x * 340282366920938463463374607431768211456) 3 = 0 ∧ wd (x * 18446744073709551616) 0 = 0 ∧ wd (x * 18446744073709551616) 1 = x ∧ wd (x * 18446744073709551616) 2 = 0 ∧ wd (x * 18446744073709551616) 3 = 0 := by
  obtain ⟨h0, h1, h2⟩ := wd_one hx
  rw [show 340282366920938463463374607431768211456 = 18446744073709551616 ^ 2 by decide]
  conv => rhs; rhs; rhs; rhs; rw [← Nat.pow_one 18446744073709551616]
  exact ⟨wd_lo x (by decide), wd_lo x (by decide), (wd_hi x 2 0).trans h0, (wd_hi x 2 1).trans h1, wd_lo x (by decide), (wd_hi x 1 0).trans h0, (wd_hi x 1 1).trans h1, (wd_hi x 1 2).trans h2⟩

set_option maxHeartbeats 1000000 in
theorem highPower2 (x : Nat) (hx : x < 18446744073709551616) (w : World) :
    Calls Tryd.prog 64 #[.int .u64 (x : Nat), .int .i64 2] w fun e w' => e = .returned (.agg #[.int .u64 (wd (pw2 x) 0), .int .u64 (wd (pw2 x) 1), .int .u64 (wd (pw2 x) 2), .int .u64 (wd (pw2 x) 3)]) ∧ Below w.heap.size w w' := by
  have T0 : Hid (∀ w, Calls Tryd.prog 66 #[.agg #[.int .u64 (wd (x * 340282366920938463463374607431768211456) 0), .int .u64 (wd (x * 340282366920938463463374607431768211456) 1), .int .u64 (wd (x * 340282366920938463463374607431768211456) 2), .int .u64 (wd (x * 340282366920938463463374607431768211456) 3)], .int .u64 (x : Nat)] w fun e w' => e = .returned (.agg #[.int .u64 (wd (x * 340282366920938463463374607431768211456 * x) 0), .int .u64 (wd (x * 340282366920938463463374607431768211456 * x) 1), .int .u64 (wd (x * 340282366920938463463374607431768211456 * x) 2), .int .u64 (wd (x * 340282366920938463463374607431768211456 * x) 3)]) ∧ Below w.heap.size w w') := fun w => W4.times_any (x * 340282366920938463463374607431768211456) x hx w
  have hu := wd_up x hx
  have HE : Hid (wd (x * 340282366920938463463374607431768211456) 0 = (0 : Nat) ∧ wd (x * 340282366920938463463374607431768211456) 1 = (0 : Nat) ∧ wd (x * 340282366920938463463374607431768211456) 2 = x ∧ wd (x * 340282366920938463463374607431768211456) 3 = (0 : Nat)) := ⟨hu.1, hu.2.1, hu.2.2.1, hu.2.2.2.1⟩
  clear hu
  have HW : Hid (wd (x * 340282366920938463463374607431768211456 * x) 0 = wd (pw2 x) 0 ∧ wd (x * 340282366920938463463374607431768211456 * x) 1 = wd (pw2 x) 1 ∧ wd (x * 340282366920938463463374607431768211456 * x) 2 = wd (pw2 x) 2 ∧ wd (x * 340282366920938463463374607431768211456 * x) 3 = wd (pw2 x) 3) := ⟨rfl, rfl, rfl, rfl⟩
  generalize wd (x * 340282366920938463463374607431768211456 * x) 0 = b0 at *
  generalize wd (x * 340282366920938463463374607431768211456 * x) 1 = b1 at *
  generalize wd (x * 340282366920938463463374607431768211456 * x) 2 = b2 at *
  generalize wd (x * 340282366920938463463374607431768211456 * x) 3 = b3 at *
  generalize wd (x * 340282366920938463463374607431768211456) 0 = a0 at *
  generalize wd (x * 340282366920938463463374607431768211456) 1 = a1 at *
  generalize wd (x * 340282366920938463463374607431768211456) 2 = a2 at *
  generalize wd (x * 340282366920938463463374607431768211456) 3 = a3 at *
  generalize wd (pw2 x) 0 = r0 at *
  generalize wd (pw2 x) 1 = r1 at *
  generalize wd (pw2 x) 2 = r2 at *
  generalize wd (pw2 x) 3 = r3 at *
  obtain ⟨rfl, rfl, rfl, rfl⟩ := HW.out
  have HS : Hid (Rows2 w ((w.alloc (.cells #[.int .u64 0, .int .u64 0, .int .u64 0, .int .u64 0] 71)).alloc (.cells #[.int .u64 0, .int .u64 0, .int .u64 (x : Nat), .int .u64 0] 71)) [.int .u64 0, .int .u64 0, .int .u64 0, .int .u64 0] [.int .u64 (a0 : Nat), .int .u64 (a1 : Nat), .int .u64 (a2 : Nat), .int .u64 (a3 : Nat)]) := by
    obtain ⟨rfl, rfl, rfl, rfl⟩ := HE.out
    exact Rows2.start w _ _ _ _ (by simp) (by simp)
  clear HE HW
  go_enter Tryd.func64, Tryd.ntmps64
  go_wp2
  go_loopw [12] (fun i wr => (i = .int .i64 0 ∧ Rows2 w wr [.int .u64 0, .int .u64 0, .int .u64 0, .int .u64 0] [.int .u64 (a0 : Nat), .int .u64 (a1 : Nat), .int .u64 (a2 : Nat), .int .u64 (a3 : Nat)]) ∨ (i = .int .i64 1 ∧ Rows2 w wr [.int .u64 0, .int .u64 0, .int .u64 0, .int .u64 0] [.int .u64 (b0 : Nat), .int .u64 (b1 : Nat), .int .u64 (b2 : Nat), .int .u64 (b3 : Nat)])) (fun i _ => (2 - intOf i).toNat)
  case atStart => exact Or.inl ⟨rfl, HS.out⟩
  case round =>
    rcases hrel with ⟨rfl, hk⟩ | ⟨rfl, hk⟩
    · have K : Hid (Rows2 w wr [.int .u64 0, .int .u64 0, .int .u64 0, .int .u64 0] [.int .u64 (a0 : Nat), .int .u64 (a1 : Nat), .int .u64 (a2 : Nat), .int .u64 (a3 : Nat)]) := hk
      clear hk
      have c0 := K.out.r.cells 0 _ rfl
      have c1 := K.out.r.cells 1 _ rfl
      have c2 := K.out.r.cells 2 _ rfl
      have c3 := K.out.r.cells 3 _ rfl
      have z := K.out.size
      go_wp2_with fail
      refine (T0.out _).mono ?_
      rintro e w1 ⟨rfl, hb1⟩
      have K1 : Hid (Rows2 w w1 [.int .u64 0, .int .u64 0, .int .u64 0, .int .u64 0] [.int .u64 (a0 : Nat), .int .u64 (a1 : Nat), .int .u64 (a2 : Nat), .int .u64 (a3 : Nat)]) := K.out.later hb1
      clear hb1 c0 c1 c2 c3 z K
      have c0 := K1.out.r.cells 0 _ rfl
      have c1 := K1.out.r.cells 1 _ rfl
      have c2 := K1.out.r.cells 2 _ rfl
      have c3 := K1.out.r.cells 3 _ rfl
      have f0 := K1.out.r.live 0 _ rfl
      have f1 := K1.out.r.live 1 _ rfl
      have f2 := K1.out.r.live 2 _ rfl
      have f3 := K1.out.r.live 3 _ rfl
      go_wp2_with fail
      go_roundw
      case rel => exact Or.inr (⟨rfl, ((((K1.out.setR 0 _ (by simp)).setR 1 _ (by simp)).setR 2 _ (by simp)).setR 3 _ (by simp))⟩)
      case measure => simp [intOf]
    · have K : Hid (Rows2 w wr [.int .u64 0, .int .u64 0, .int .u64 0, .int .u64 0] [.int .u64 (b0 : Nat), .int .u64 (b1 : Nat), .int .u64 (b2 : Nat), .int .u64 (b3 : Nat)]) := hk
      clear hk
      have c0 := K.out.r.cells 0 _ rfl
      have c1 := K.out.r.cells 1 _ rfl
      have c2 := K.out.r.cells 2 _ rfl
      have c3 := K.out.r.cells 3 _ rfl
      have e0 := K.out.x.cells 0 _ rfl
      have e1 := K.out.x.cells 1 _ rfl
      have e2 := K.out.x.cells 2 _ rfl
      have e3 := K.out.x.cells 3 _ rfl
      have f0 := K.out.x.live 0 _ rfl
      have f1 := K.out.x.live 1 _ rfl
      have f2 := K.out.x.live 2 _ rfl
      have f3 := K.out.x.live 3 _ rfl
      have z := K.out.size
      go_wp2_with fail
      go_light
      refine bodyPost_ret (v := .agg #[.int .u64 (b0 : Nat), .int .u64 (b1 : Nat), .int .u64 (b2 : Nat), .int .u64 (b3 : Nat)]) (by simp [results, Tryd.results64, go_sem, e0, e1, e2, e3]) rfl ⟨rfl, ?_⟩
      exact ((((K.out.setX 0 _ (by simp)).setX 1 _ (by simp)).setX 2 _ (by simp)).setX 3 _ (by simp)).below

set_option maxHeartbeats 1000000 in
theorem highPower3 (x : Nat) (hx : x < 18446744073709551616) (w : World) :
    Calls Tryd.prog 64 #[.int .u64 (x : Nat), .int .i64 3] w fun e w' => e = .returned (.agg #[.int .u64 (wd (pw3 x) 0), .int .u64 (wd (pw3 x) 1), .int .u64 (wd (pw3 x) 2), .int .u64 (wd (pw3 x) 3)]) ∧ Below w.heap.size w w' := by
  have T0 : Hid (∀ w, Calls Tryd.prog 66 #[.agg #[.int .u64 (wd (x * 18446744073709551616) 0), .int .u64 (wd (x * 18446744073709551616) 1), .int .u64 (wd (x * 18446744073709551616) 2), .int .u64 (wd (x * 18446744073709551616) 3)], .int .u64 (x : Nat)] w fun e w' => e = .returned (.agg #[.int .u64 (wd (x * 18446744073709551616 * x) 0), .int .u64 (wd (x * 18446744073709551616 * x) 1), .int .u64 (wd (x * 18446744073709551616 * x) 2), .int .u64 (wd (x * 18446744073709551616 * x) 3)]) ∧ Below w.heap.size w w') := fun w => W4.times_any (x * 18446744073709551616) x hx w
  have T1 : Hid (∀ w, Calls Tryd.prog 66 #[.agg #[.int .u64 (wd (x * 18446744073709551616 * x) 0), .int .u64 (wd (x * 18446744073709551616 * x) 1), .int .u64 (wd (x * 18446744073709551616 * x) 2), .int .u64 (wd (x * 18446744073709551616 * x) 3)], .int .u64 (x : Nat)] w fun e w' => e = .returned (.agg #[.int .u64 (wd (x * 18446744073709551616 * x * x) 0), .int .u64 (wd (x * 18446744073709551616 * x * x) 1), .int .u64 (wd (x * 18446744073709551616 * x * x) 2), .int .u64 (wd (x * 18446744073709551616 * x * x) 3)]) ∧ Below w.heap.size w w') := fun w => W4.times_any (x * 18446744073709551616 * x) x hx w
  have hu := wd_up x hx
  have HE : Hid (wd (x * 18446744073709551616) 0 = (0 : Nat) ∧ wd (x * 18446744073709551616) 1 = x ∧ wd (x * 18446744073709551616) 2 = (0 : Nat) ∧ wd (x * 18446744073709551616) 3 = (0 : Nat)) := ⟨hu.2.2.2.2.1, hu.2.2.2.2.2.1, hu.2.2.2.2.2.2.1, hu.2.2.2.2.2.2.2⟩
  clear hu
  have HW : Hid (wd (x * 18446744073709551616 * x * x) 0 = wd (pw3 x) 0 ∧ wd (x * 18446744073709551616 * x * x) 1 = wd (pw3 x) 1 ∧ wd (x * 18446744073709551616 * x * x) 2 = wd (pw3 x) 2 ∧ wd (x * 18446744073709551616 * x * x) 3 = wd (pw3 x) 3) := ⟨rfl, rfl, rfl, rfl⟩
  generalize wd (x * 18446744073709551616 * x * x) 0 = g0 at *
  generalize wd (x * 18446744073709551616 * x * x) 1 = g1 at *
  generalize wd (x * 18446744073709551616 * x * x) 2 = g2 at *
  generalize wd (x * 18446744073709551616 * x * x) 3 = g3 at *
  generalize wd (x * 18446744073709551616 * x) 0 = b0 at *
  generalize wd (x * 18446744073709551616 * x) 1 = b1 at *
  generalize wd (x * 18446744073709551616 * x) 2 = b2 at *
  generalize wd (x * 18446744073709551616 * x) 3 = b3 at *
  generalize wd (x * 18446744073709551616) 0 = a0 at *
  generalize wd (x * 18446744073709551616) 1 = a1 at *
  generalize wd (x * 18446744073709551616) 2 = a2 at *
  generalize wd (x * 18446744073709551616) 3 = a3 at *
  generalize wd (pw3 x) 0 = r0 at *
  generalize wd (pw3 x) 1 = r1 at *
  generalize wd (pw3 x) 2 = r2 at *
  generalize wd (pw3 x) 3 = r3 at *
  obtain ⟨rfl, rfl, rfl, rfl⟩ := HW.out
  have HS : Hid (Rows2 w ((w.alloc (.cells #[.int .u64 0, .int .u64 0, .int .u64 0, .int .u64 0] 71)).alloc (.cells #[.int .u64 0, .int .u64 (x : Nat), .int .u64 0, .int .u64 0] 71)) [.int .u64 0, .int .u64 0, .int .u64 0, .int .u64 0] [.int .u64 (a0 : Nat), .int .u64 (a1 : Nat), .int .u64 (a2 : Nat), .int .u64 (a3 : Nat)]) := by
    obtain ⟨rfl, rfl, rfl, rfl⟩ := HE.out
    exact Rows2.start w _ _ _ _ (by simp) (by simp)
  clear HE HW
  go_enter Tryd.func64, Tryd.ntmps64
  go_wp2
  go_loopw [12] (fun i wr => (i = .int .i64 0 ∧ Rows2 w wr [.int .u64 0, .int .u64 0, .int .u64 0, .int .u64 0] [.int .u64 (a0 : Nat), .int .u64 (a1 : Nat), .int .u64 (a2 : Nat), .int .u64 (a3 : Nat)]) ∨ (i = .int .i64 1 ∧ Rows2 w wr [.int .u64 0, .int .u64 0, .int .u64 0, .int .u64 0] [.int .u64 (b0 : Nat), .int .u64 (b1 : Nat), .int .u64 (b2 : Nat), .int .u64 (b3 : Nat)]) ∨ (i = .int .i64 2 ∧ Rows2 w wr [.int .u64 0, .int .u64 0, .int .u64 0, .int .u64 0] [.int .u64 (g0 : Nat), .int .u64 (g1 : Nat), .int .u64 (g2 : Nat), .int .u64 (g3 : Nat)])) (fun i _ => (3 - intOf i).toNat)
  case atStart => exact Or.inl ⟨rfl, HS.out⟩
  case round =>
    rcases hrel with ⟨rfl, hk⟩ | ⟨rfl, hk⟩ | ⟨rfl, hk⟩
    · have K : Hid (Rows2 w wr [.int .u64 0, .int .u64 0, .int .u64 0, .int .u64 0] [.int .u64 (a0 : Nat), .int .u64 (a1 : Nat), .int .u64 (a2 : Nat), .int .u64 (a3 : Nat)]) := hk
      clear hk
      have c0 := K.out.r.cells 0 _ rfl
      have c1 := K.out.r.cells 1 _ rfl
      have c2 := K.out.r.cells 2 _ rfl
      have c3 := K.out.r.cells 3 _ rfl
      have z := K.out.size
      go_wp2_with fail
      refine (T0.out _).mono ?_
      rintro e w1 ⟨rfl, hb1⟩
      have K1 : Hid (Rows2 w w1 [.int .u64 0, .int .u64 0, .int .u64 0, .int .u64 0] [.int .u64 (a0 : Nat), .int .u64 (a1 : Nat), .int .u64 (a2 : Nat), .int .u64 (a3 : Nat)]) := K.out.later hb1
      clear hb1 c0 c1 c2 c3 z K
      have c0 := K1.out.r.cells 0 _ rfl
      have c1 := K1.out.r.cells 1 _ rfl
      have c2 := K1.out.r.cells 2 _ rfl
      have c3 := K1.out.r.cells 3 _ rfl
      have f0 := K1.out.r.live 0 _ rfl
      have f1 := K1.out.r.live 1 _ rfl
      have f2 := K1.out.r.live 2 _ rfl
      have f3 := K1.out.r.live 3 _ rfl
      go_wp2_with fail
      go_roundw
      case rel => exact Or.inr (Or.inl ⟨rfl, ((((K1.out.setR 0 _ (by simp)).setR 1 _ (by simp)).setR 2 _ (by simp)).setR 3 _ (by simp))⟩)
      case measure => simp [intOf]
    · have K : Hid (Rows2 w wr [.int .u64 0, .int .u64 0, .int .u64 0, .int .u64 0] [.int .u64 (b0 : Nat), .int .u64 (b1 : Nat), .int .u64 (b2 : Nat), .int .u64 (b3 : Nat)]) := hk
      clear hk
      have c0 := K.out.r.cells 0 _ rfl
      have c1 := K.out.r.cells 1 _ rfl
      have c2 := K.out.r.cells 2 _ rfl
      have c3 := K.out.r.cells 3 _ rfl
      have z := K.out.size
      go_wp2_with fail
      refine (T1.out _).mono ?_
      rintro e w1 ⟨rfl, hb1⟩
      have K1 : Hid (Rows2 w w1 [.int .u64 0, .int .u64 0, .int .u64 0, .int .u64 0] [.int .u64 (b0 : Nat), .int .u64 (b1 : Nat), .int .u64 (b2 : Nat), .int .u64 (b3 : Nat)]) := K.out.later hb1
      clear hb1 c0 c1 c2 c3 z K
      have c0 := K1.out.r.cells 0 _ rfl
      have c1 := K1.out.r.cells 1 _ rfl
      have c2 := K1.out.r.cells 2 _ rfl
      have c3 := K1.out.r.cells 3 _ rfl
      have f0 := K1.out.r.live 0 _ rfl
      have f1 := K1.out.r.live 1 _ rfl
      have f2 := K1.out.r.live 2 _ rfl
      have f3 := K1.out.r.live 3 _ rfl
      go_wp2_with fail
      go_roundw
      case rel => exact Or.inr (Or.inr (⟨rfl, ((((K1.out.setR 0 _ (by simp)).setR 1 _ (by simp)).setR 2 _ (by simp)).setR 3 _ (by simp))⟩))
      case measure => simp [intOf]
    · have K : Hid (Rows2 w wr [.int .u64 0, .int .u64 0, .int .u64 0, .int .u64 0] [.int .u64 (g0 : Nat), .int .u64 (g1 : Nat), .int .u64 (g2 : Nat), .int .u64 (g3 : Nat)]) := hk
      clear hk
      have c0 := K.out.r.cells 0 _ rfl
      have c1 := K.out.r.cells 1 _ rfl
      have c2 := K.out.r.cells 2 _ rfl
      have c3 := K.out.r.cells 3 _ rfl
      have e0 := K.out.x.cells 0 _ rfl
      have e1 := K.out.x.cells 1 _ rfl
      have e2 := K.out.x.cells 2 _ rfl
      have e3 := K.out.x.cells 3 _ rfl
      have f0 := K.out.x.live 0 _ rfl
      have f1 := K.out.x.live 1 _ rfl
      have f2 := K.out.x.live 2 _ rfl
      have f3 := K.out.x.live 3 _ rfl
      have z := K.out.size
      go_wp2_with fail
      go_light
      refine bodyPost_ret (v := .agg #[.int .u64 (g0 : Nat), .int .u64 (g1 : Nat), .int .u64 (g2 : Nat), .int .u64 (g3 : Nat)]) (by simp [results, Tryd.results64, go_sem, e0, e1, e2, e3]) rfl ⟨rfl, ?_⟩
      exact ((((K.out.setX 0 _ (by simp)).setX 1 _ (by simp)).setX 2 _ (by simp)).setX 3 _ (by simp)).below


theorem or_pow {W k : Nat} (hk : k < 64) (h : W % 2 ^ (k + 1) = 0) (hl : W + 2 ^ (k + 1) ≤ 18446744073709551616) : bits .or .u64 (W : Int) ((2 ^ k : Nat) : Int) = ((W + 2 ^ k : Nat) : Int) := by
  have hp : 2 ^ (k + 1) = 2 * 2 ^ k := by rw [Nat.pow_succ, Nat.mul_comm]
  have h1 : (2 : Nat) ^ k < 18446744073709551616 := Nat.lt_of_lt_of_le (Nat.pow_lt_pow_right (by decide) hk) (by decide)
  have h2 := Nat.two_pow_pos k
  rw [bits_or_u64_nat W (2 ^ k) (by omega) h1]
  obtain ⟨a, rfl⟩ := Nat.dvd_of_mod_eq_zero h
  rw [hp, show 2 * 2 ^ k * a = (2 * a) * 2 ^ k by rw [Nat.mul_comm 2, Nat.mul_assoc, Nat.mul_comm], ← Nat.shiftLeft_eq]
  congr 1
  apply Nat.eq_of_testBit_eq
  intro i
  rw [Nat.testBit_or, show (2 * a) <<< k + 2 ^ k = (2 * a + 1) <<< k by rw [Nat.shiftLeft_eq, Nat.shiftLeft_eq, Nat.add_mul, Nat.one_mul], Nat.testBit_shiftLeft, Nat.testBit_shiftLeft, Nat.testBit_two_pow]
  by_cases hi : i ≥ k
  · obtain ⟨j, rfl⟩ : ∃ j, i = k + j := ⟨i - k, by omega⟩
    rw [Nat.add_sub_cancel_left]
    cases j with
    | zero => simp [Nat.testBit_zero]
    | succ n => simp [Nat.testBit_succ]; rw [show (2 * a + 1) / 2 = a by omega]
  · simp [hi]; omega

theorem words_ne {D E : Nat} (hD : D < 18446744073709551616 ^ 4) (hE : E < 18446744073709551616 ^ 4) : (!(((wd D 0 : Nat) : Int) == ((wd E 0 : Nat) : Int) && ((wd D 1 : Nat) : Int) == ((wd E 1 : Nat) : Int) && ((wd D 2 : Nat) : Int) == ((wd E 2 : Nat) : Int) && ((wd D 3 : Nat) : Int) == ((wd E 3 : Nat) : Int))) = decide (¬ D = E) := by
  rw [W4.words_eq hD hE, decide_not]
theorem W4.ne_words (a0 a1 a2 a3 b0 b1 b2 b3 : Int) (w : World) : (Go.binOp .neq 71 (.agg #[.int .u64 a0, .int .u64 a1, .int .u64 a2, .int .u64 a3]) (.agg #[.int .u64 b0, .int .u64 b1, .int .u64 b2, .int .u64 b3])).run Tryd.prog w = .ok (.bool (!(a0 == b0 && a1 == b1 && a2 == b2 && a3 == b3))) w := by
  have h := W4.eq_words a0 a1 a2 a3 b0 b1 b2 b3 w
  simp only [Go.binOp, Sem.run_bind] at h ⊢
  revert h
  generalize Sem.run Tryd.prog (Op.equal 71 _ _) w = r
  intro h
  cases r <;> simp [Result.andThen] at h ⊢
  simpa using h
/-- What the loop keeps: the word so far, j digits still to be tried. -/
structure Reached (V : Nat → Nat) (G W j : Nat) : Prop where
  even : W % 2 ^ j = 0
  fits : W + 2 ^ j ≤ 18446744073709551616
  le : V W ≤ G
  lt : G < V (W + 2 ^ j)
theorem Reached.yes {V : Nat → Nat} {G W k : Nat} (h : Reached V G W (k + 1)) (hv : V (W + 2 ^ k) ≤ G) : Reached V G (W + 2 ^ k) k := by
  have hp : 2 ^ (k + 1) = 2 ^ k + 2 ^ k := by rw [Nat.pow_succ]; omega
  refine ⟨?_, ?_, hv, ?_⟩
  · have : W % 2 ^ k = 0 := by
      have := h.even
      rw [Nat.pow_succ] at this
      exact Nat.mod_eq_zero_of_dvd (Nat.dvd_trans (Nat.dvd_mul_right _ _) (Nat.dvd_of_mod_eq_zero this))
    rw [Nat.add_mod_right, this]
  · have := h.fits; omega
  · rw [Nat.add_assoc, ← hp]; exact h.lt
theorem Reached.no {V : Nat → Nat} {G W k : Nat} (h : Reached V G W (k + 1)) (hv : G < V (W + 2 ^ k)) : Reached V G W k := by
  have hp : 2 ^ (k + 1) = 2 ^ k + 2 ^ k := by rw [Nat.pow_succ]; omega
  refine ⟨?_, ?_, h.le, hv⟩
  · have := h.even
    rw [Nat.pow_succ] at this
    exact Nat.mod_eq_zero_of_dvd (Nat.dvd_trans (Nat.dvd_mul_right _ _) (Nat.dvd_of_mod_eq_zero this))
  · have := h.fits; have := Nat.two_pow_pos k; omega

/-- One block, and all that was there. -/
structure Rows1 (w w1 : World) (xs : List Value) : Prop where
  below : Below w.heap.size w w1
  x : Blk w1 w.heap.size xs
theorem Rows1.start (w : World) (xs : List Value) (t : TypeId) (h1 : 0 < xs.length) : Rows1 w (w.alloc (.cells xs.toArray t)) xs := ⟨(Below.refl _ _).alloc (Nat.le_refl _) _, Blk.new _ _ _ h1⟩
theorem Rows1.later {w w1 w2 : World} {xs : List Value} (h : Rows1 w w1 xs) (hb : Below w1.heap.size w1 w2) : Rows1 w w2 xs := ⟨h.below.trans (hb.mono h.below.size), h.x.later hb⟩
theorem Rows1.alloc {w w1 : World} {xs : List Value} (h : Rows1 w w1 xs) (o : Obj) : Rows1 w (w1.alloc o) xs := ⟨h.below.alloc h.below.size _, h.x.alloc _⟩
theorem Rows1.drew {w w1 : World} {xs : List Value} (h : Rows1 w w1 xs) : Rows1 w w1.drew xs := ⟨h.below.drew, h.x.drew⟩
theorem Rows1.put {w w1 : World} {xs : List Value} (h : Rows1 w w1 xs) {g : Nat} (i : Nat) (v : Value) (hg : w.heap.size < g) : Rows1 w (w1.setCell ⟨g, i, none⟩ v) xs := ⟨h.below.setCell (by simp; omega) _, h.x.other _ _ (by simp; omega)⟩

set_option maxHeartbeats 2000000 in
set_option maxRecDepth 10000 in
theorem reach_any (w : World) (f : Nat) (cap : Value) (V : Nat → Nat) (G : Nat) (hG : G < 18446744073709551616 ^ 4) (hV : ∀ x, x < 18446744073709551616 → V x < 18446744073709551616 ^ 4) (h0 : V 0 ≤ G) (hTop : G < V 18446744073709551616)
    (hent : ∀ args w, (callFunc f args).run Tryd.prog w = .ok (.enter f args) w)
    (hcall : ∀ (x : Nat) w1, x < 18446744073709551616 → Below w.heap.size w w1 → Calls Tryd.prog f #[.int .u64 (x : Nat), cap] w1 fun e w' => e = .returned (.agg #[.int .u64 (wd (V x) 0 : Nat), .int .u64 (wd (V x) 1 : Nat), .int .u64 (wd (V x) 2 : Nat), .int .u64 (wd (V x) 3 : Nat)]) ∧ Below w1.heap.size w1 w') :
    Calls Tryd.prog 61 #[.agg #[.int .u64 (wd (G) 0 : Nat), .int .u64 (wd (G) 1 : Nat), .int .u64 (wd (G) 2 : Nat), .int .u64 (wd (G) 3 : Nat)], .func (.func f) #[] #[cap]] w fun e w' => ∃ W, W < 18446744073709551616 ∧ V W ≤ G ∧ G < V (W + 1) ∧ e = .returned (.int .u64 (odd W (decide (V W = G)) : Nat)) ∧ Below w.heap.size w w' := by
  have HS : Hid (Reached V G 0 64) := ⟨by simp, by decide, h0, hTop⟩
  have HC : Hid (∀ (x : Nat) w1, x < 18446744073709551616 → Below w.heap.size w w1 → Calls Tryd.prog f #[.int .u64 (x : Nat), cap] w1 fun e w' => e = .returned (.agg #[.int .u64 (wd (V x) 0 : Nat), .int .u64 (wd (V x) 1 : Nat), .int .u64 (wd (V x) 2 : Nat), .int .u64 (wd (V x) 3 : Nat)]) ∧ Below w1.heap.size w1 w') := hcall
  have HSUB : Hid (∀ E w, E < 18446744073709551616 ^ 4 → Calls Tryd.prog 71 #[.agg #[.int .u64 (wd (G) 0 : Nat), .int .u64 (wd (G) 1 : Nat), .int .u64 (wd (G) 2 : Nat), .int .u64 (wd (G) 3 : Nat)], .agg #[.int .u64 (wd (E) 0 : Nat), .int .u64 (wd (E) 1 : Nat), .int .u64 (wd (E) 2 : Nat), .int .u64 (wd (E) 3 : Nat)]] w fun e w' => e = .returned (.tuple #[.agg #[.int .u64 (wd (difW 4 G E) 0 : Nat), .int .u64 (wd (difW 4 G E) 1 : Nat), .int .u64 (wd (difW 4 G E) 2 : Nat), .int .u64 (wd (difW 4 G E) 3 : Nat)], .bool (decide (G < E))]) ∧ Below w.heap.size w w') := fun E w h => W4.sub_any G E hG h w
  have HV : Hid (∀ x, x < 18446744073709551616 → V x < 18446744073709551616 ^ 4) := hV
  have HG : Hid (G < 18446744073709551616 ^ 4) := hG
  have HNE : Hid (∀ x, x < 18446744073709551616 → (!(((wd (V x) 0 : Nat) : Int) == ((wd G 0 : Nat) : Int) && ((wd (V x) 1 : Nat) : Int) == ((wd G 1 : Nat) : Int) && ((wd (V x) 2 : Nat) : Int) == ((wd G 2 : Nat) : Int) && ((wd (V x) 3 : Nat) : Int) == ((wd G 3 : Nat) : Int))) = decide (¬ V x = G)) := fun x hx => words_ne (hV x hx) hG
  clear hcall hV h0 hTop hG
  generalize wd G 0 = g0 at *
  generalize wd G 1 = g1 at *
  generalize wd G 2 = g2 at *
  generalize wd G 3 = g3 at *
  go_enter Tryd.func61, Tryd.ntmps61
  go_wp2
  go_loopw [5, 6, 7, 8] (fun a b _ _ wr => ∃ W j : Nat, j ≤ 64 ∧ a = .int .u64 (W : Nat) ∧ b = .int .u64 ((2 ^ j / 2 : Nat) : Int) ∧ Hid (Reached V G W j) ∧ Rows1 w wr [.int .u64 (g0 : Nat), .int .u64 (g1 : Nat), .int .u64 (g2 : Nat), .int .u64 (g3 : Nat)]) (fun _ b _ _ _ => (intOf b).toNat)
  case atStart => exact ⟨0, 64, by decide, rfl, rfl, HS, Rows1.start w _ _ (by simp)⟩
  case round =>
    obtain ⟨W, j, hj, rfl, rfl, hr, hk⟩ := hrel
    cases j with
    | zero =>
      have hW : W < 18446744073709551616 := by have := hr.out.fits; omega
      have HCX : Hid (∀ w1, Below w.heap.size w w1 → Calls Tryd.prog f #[.int .u64 (W : Int), cap] w1 fun e w' => e = .returned (.agg #[.int .u64 (wd (V W) 0 : Nat), .int .u64 (wd (V W) 1 : Nat), .int .u64 (wd (V W) 2 : Nat), .int .u64 (wd (V W) 3 : Nat)]) ∧ Below w1.heap.size w1 w') := fun w1 => HC.out _ w1 hW
      have hq := HNE.out W hW
      have HR : Hid (W < 18446744073709551616 ∧ V W ≤ G ∧ G < V (W + 1)) := ⟨hW, hr.out.le, hr.out.lt⟩
      have hor := odd_or hW
      have HO : Hid ((V W = G → odd W (decide (V W = G)) = W) ∧ (¬ V W = G → odd W (decide (V W = G)) = odd W false)) := ⟨fun h => by rw [decide_eq_true h]; rfl, fun h => by rw [decide_eq_false h]⟩
      have K : Hid (Rows1 w wr [.int .u64 (g0 : Nat), .int .u64 (g1 : Nat), .int .u64 (g2 : Nat), .int .u64 (g3 : Nat)]) := hk
      rw [show (2 ^ 0 / 2 : Nat) = 0 by decide]
      generalize odd W false = O at *
      clear hk hr hW HC HSUB HV HG hj HNE
      generalize wd (V W) 0 = v0 at *
      have c0 := K.out.x.cells 0 _ rfl
      generalize wd (V W) 1 = v1 at *
      have c1 := K.out.x.cells 1 _ rfl
      generalize wd (V W) 2 = v2 at *
      have c2 := K.out.x.cells 2 _ rfl
      generalize wd (V W) 3 = v3 at *
      have c3 := K.out.x.cells 3 _ rfl
      have hqe := fun w => W4.ne_words v0 v1 v2 v3 g0 g1 g2 g3 w
      rw [hq] at hqe
      generalize hN : decide (¬ V W = G) = N at *
      have HN : Hid (decide (¬ V W = G) = N) := hN
      clear hN hq
      go_upto_region 8 with fail
      go_cut [32] from 28 to 35 (fun s wx => s = .bool N ∧ Rows1 w wx [.int .u64 (g0 : Nat), .int .u64 (g1 : Nat), .int .u64 (g2 : Nat), .int .u64 (g3 : Nat)])
      case first =>
        go_region_held3 (fun w' => w'.cell? ⟨w.heap.size, 0, none⟩ = some (.int .u64 (g0 : Nat)) ∧ w'.cell? ⟨w.heap.size, 1, none⟩ = some (.int .u64 (g1 : Nat)) ∧ w'.cell? ⟨w.heap.size, 2, none⟩ = some (.int .u64 (g2 : Nat)) ∧ w'.cell? ⟨w.heap.size, 3, none⟩ = some (.int .u64 (g3 : Nat))) (first | (with_reducible exact ⟨x0, x1, x2, x3⟩) | (go_keep; done))
          ((refine (HCX.out _ (by exact Rows1.below (xs := [.int .u64 (g0 : Nat), .int .u64 (g1 : Nat), .int .u64 (g2 : Nat), .int .u64 (g3 : Nat)]) (by repeat (with_reducible first | exact K.out | refine Rows1.drew ?_ | refine Rows1.alloc ?_ _)))).mono ?_; rintro e w' ⟨rfl, hb⟩; have K1 : Hid (Rows1 w w' [.int .u64 (g0 : Nat), .int .u64 (g1 : Nat), .int .u64 (g2 : Nat), .int .u64 (g3 : Nat)]) := Rows1.later (by repeat (with_reducible first | exact K.out | refine Rows1.drew ?_ | refine Rows1.alloc ?_ _)) hb; have x0 := K1.out.x.cells 0 _ rfl; have x1 := K1.out.x.cells 1 _ rfl; have x2 := K1.out.x.cells 2 _ rfl; have x3 := K1.out.x.cells 3 _ rfl; clear hb))
        all_goals (try go_wp2_with fail)
        all_goals go_meet
        all_goals go_light
        all_goals exact ⟨rfl, by repeat (with_reducible first | exact K1.out | refine Rows1.drew ?_)⟩
      case rest =>
        obtain ⟨rfl, hcut⟩ := hcut
        have K3 : Hid (Rows1 w wc [.int .u64 (g0 : Nat), .int .u64 (g1 : Nat), .int .u64 (g2 : Nat), .int .u64 (g3 : Nat)]) := hcut
        clear hcut K c0 c1 c2 c3 hqe
        cases N with
        | true =>
          have HRO : Hid (odd W (decide (V W = G)) = O) := HO.out.2 (of_decide_eq_true HN.out)
          clear HN HO
          go_wp2_with fail
          go_ret
          exact ⟨W, HR.out.1, HR.out.2.1, HR.out.2.2, by rw [HRO.out]; rfl, K3.out.below⟩
        | false =>
          have HRO : Hid (odd W (decide (V W = G)) = W) := HO.out.1 (by have := of_decide_eq_false HN.out; exact Classical.not_not.1 this)
          clear HN HO
          go_wp2_with fail
          go_ret
          exact ⟨W, HR.out.1, HR.out.2.1, HR.out.2.2, by rw [HRO.out]; rfl, K3.out.below⟩
    | succ k =>
      have e1 : 2 ^ (k + 1) / 2 = 2 ^ k := by rw [Nat.pow_succ, Nat.mul_div_cancel _ (by decide)]
      rw [e1]
      have hor := or_pow (by omega) hr.out.even hr.out.fits
      have hE : W + 2 ^ k < 18446744073709551616 := by have h1 := hr.out.fits; rw [Nat.pow_succ] at h1; have := Nat.two_pow_pos k; omega
      have HCX : Hid (∀ w1, Below w.heap.size w w1 → Calls Tryd.prog f #[.int .u64 ((W + 2 ^ k : Nat) : Int), cap] w1 fun e w' => e = .returned (.agg #[.int .u64 (wd (V (W + 2 ^ k)) 0 : Nat), .int .u64 (wd (V (W + 2 ^ k)) 1 : Nat), .int .u64 (wd (V (W + 2 ^ k)) 2 : Nat), .int .u64 (wd (V (W + 2 ^ k)) 3 : Nat)]) ∧ Below w1.heap.size w1 w') := fun w1 => HC.out _ w1 hE
      have HSX : Hid (∀ w, Calls Tryd.prog 71 #[.agg #[.int .u64 (g0 : Nat), .int .u64 (g1 : Nat), .int .u64 (g2 : Nat), .int .u64 (g3 : Nat)], .agg #[.int .u64 (wd (V (W + 2 ^ k)) 0 : Nat), .int .u64 (wd (V (W + 2 ^ k)) 1 : Nat), .int .u64 (wd (V (W + 2 ^ k)) 2 : Nat), .int .u64 (wd (V (W + 2 ^ k)) 3 : Nat)]] w fun e w' => e = .returned (.tuple #[.agg #[.int .u64 (wd (difW 4 G (V (W + 2 ^ k))) 0 : Nat), .int .u64 (wd (difW 4 G (V (W + 2 ^ k))) 1 : Nat), .int .u64 (wd (difW 4 G (V (W + 2 ^ k))) 2 : Nat), .int .u64 (wd (difW 4 G (V (W + 2 ^ k))) 3 : Nat)], .bool (decide (G < V (W + 2 ^ k)))]) ∧ Below w.heap.size w w') := fun w => HSUB.out _ w (HV.out _ hE)
      have hne : (((2 ^ k : Nat) : Int) != 0) = true := by rw [bne_iff_ne]; have := Nat.two_pow_pos k; omega
      have K : Hid (Rows1 w wr [.int .u64 (g0 : Nat), .int .u64 (g1 : Nat), .int .u64 (g2 : Nat), .int .u64 (g3 : Nat)]) := hk
      clear hk hE HC HSUB HNE
      generalize wd (V (W + 2 ^ k)) 0 = v0 at *
      generalize wd (difW 4 G (V (W + 2 ^ k))) 0 = d0 at *
      have c0 := K.out.x.cells 0 _ rfl
      generalize wd (V (W + 2 ^ k)) 1 = v1 at *
      generalize wd (difW 4 G (V (W + 2 ^ k))) 1 = d1 at *
      have c1 := K.out.x.cells 1 _ rfl
      generalize wd (V (W + 2 ^ k)) 2 = v2 at *
      generalize wd (difW 4 G (V (W + 2 ^ k))) 2 = d2 at *
      have c2 := K.out.x.cells 2 _ rfl
      generalize wd (V (W + 2 ^ k)) 3 = v3 at *
      generalize wd (difW 4 G (V (W + 2 ^ k))) 3 = d3 at *
      have c3 := K.out.x.cells 3 _ rfl
      have z0 := K.out.x.lt
      generalize hX : ((W + 2 ^ k : Nat) : Int) = X at *
      generalize hP : ((2 ^ k : Nat) : Int) = P at *
      generalize hB : decide (G < V (W + 2 ^ k)) = b at *
      have HH : Hid (((W + 2 ^ k : Nat) : Int) = X ∧ ((2 ^ k : Nat) : Int) = P ∧ decide (G < V (W + 2 ^ k)) = b) := ⟨hX, hP, hB⟩
      clear hX hP hB e1
      have hz4 : 0 < ([.int .u64 0, .int .u64 0, .int .u64 0, .int .u64 0] : List Value).length := by simp
      go_upto_region 5 with fail
      go_cut [7, 8] from 9 to 27 (fun s7 s8 wx => s8 = .bool b ∧ Rows1 w wx [.int .u64 (g0 : Nat), .int .u64 (g1 : Nat), .int .u64 (g2 : Nat), .int .u64 (g3 : Nat)])
      case first =>
        go_region_held3 (fun w' => w'.cell? ⟨w.heap.size, 0, none⟩ = some (.int .u64 (g0 : Nat)) ∧ w'.cell? ⟨w.heap.size, 1, none⟩ = some (.int .u64 (g1 : Nat)) ∧ w'.cell? ⟨w.heap.size, 2, none⟩ = some (.int .u64 (g2 : Nat)) ∧ w'.cell? ⟨w.heap.size, 3, none⟩ = some (.int .u64 (g3 : Nat))) (first | (with_reducible exact ⟨y0, y1, y2, y3⟩) | (with_reducible exact ⟨x0, x1, x2, x3⟩) | ((with_reducible refine ⟨?_, ?_, ?_, ?_⟩) <;> (rw [cellSet _ _ _ _ (by first | (simp; done) | (simp; omega)), cellSet _ _ _ _ (by first | (simp; done) | (simp; omega)), cellSet _ _ _ _ (by first | (simp; done) | (simp; omega)), cellSet _ _ _ _ (by first | (simp; done) | (simp; omega))]; assumption)) | ((with_reducible refine ⟨?_, ?_, ?_, ?_⟩) <;> (rw [World.cell?_alloc_lt _ _ _ (by first | assumption | (simp; done) | (simp; omega))]; assumption)) | (go_keep; done))
          (first | (go_at_call 71; refine (HSX.out _).mono ?_; rintro e w' ⟨rfl, hb⟩; (first | ((with_reducible have N0 : Blk w' wr.heap.size [.int .u64 0, .int .u64 0, .int .u64 0, .int .u64 0] := Blk.later N1.out hb); have N2 : Hid (Blk w' _ _) := N0; clear N0; have n0 := N2.out.cells 0 _ rfl; have m0 := N2.out.live 0 _ rfl; have n1 := N2.out.cells 1 _ rfl; have m1 := N2.out.live 1 _ rfl; have n2 := N2.out.cells 2 _ rfl; have m2 := N2.out.live 2 _ rfl; have n3 := N2.out.cells 3 _ rfl; have m3 := N2.out.live 3 _ rfl) | ((with_reducible have N0 : Blk w' wr.heap.size [.int .u64 0, .int .u64 0, .int .u64 0, .int .u64 0] := Blk.later (Blk.drew N1.out) hb); have N2 : Hid (Blk w' _ _) := N0; clear N0; have n0 := N2.out.cells 0 _ rfl; have m0 := N2.out.live 0 _ rfl; have n1 := N2.out.cells 1 _ rfl; have m1 := N2.out.live 1 _ rfl; have n2 := N2.out.cells 2 _ rfl; have m2 := N2.out.live 2 _ rfl; have n3 := N2.out.cells 3 _ rfl; have m3 := N2.out.live 3 _ rfl) | skip); (first | ((with_reducible have N0 : Blk w' _ [.int .u64 0, .int .u64 0, .int .u64 0, .int .u64 0] := Blk.later (Blk.new _ _ _ hz4) hb); have N3 : Hid (Blk w' _ _) := N0; clear N0; have n0 := N3.out.cells 0 _ rfl; have m0 := N3.out.live 0 _ rfl; have n1 := N3.out.cells 1 _ rfl; have m1 := N3.out.live 1 _ rfl; have n2 := N3.out.cells 2 _ rfl; have m2 := N3.out.live 2 _ rfl; have n3 := N3.out.cells 3 _ rfl; have m3 := N3.out.live 3 _ rfl) | ((with_reducible have N0 : Blk w' _ [.int .u64 0, .int .u64 0, .int .u64 0, .int .u64 0] := Blk.later (Blk.drew (Blk.new _ _ _ hz4)) hb); have N3 : Hid (Blk w' _ _) := N0; clear N0; have n0 := N3.out.cells 0 _ rfl; have m0 := N3.out.live 0 _ rfl; have n1 := N3.out.cells 1 _ rfl; have m1 := N3.out.live 1 _ rfl; have n2 := N3.out.cells 2 _ rfl; have m2 := N3.out.live 2 _ rfl; have n3 := N3.out.cells 3 _ rfl; have m3 := N3.out.live 3 _ rfl) | skip); have K2 : Hid (Rows1 w w' [.int .u64 (g0 : Nat), .int .u64 (g1 : Nat), .int .u64 (g2 : Nat), .int .u64 (g3 : Nat)]) := Rows1.later (by repeat (with_reducible first | exact K1.out | refine Rows1.drew ?_ | refine Rows1.alloc ?_ _)) hb; have zz := K2.out.x.lt; have y0 := K2.out.x.cells 0 _ rfl; have y1 := K2.out.x.cells 1 _ rfl; have y2 := K2.out.x.cells 2 _ rfl; have y3 := K2.out.x.cells 3 _ rfl; clear hb) | (refine (HCX.out _ (by exact Rows1.below (xs := [.int .u64 (g0 : Nat), .int .u64 (g1 : Nat), .int .u64 (g2 : Nat), .int .u64 (g3 : Nat)]) (by repeat (with_reducible first | exact K.out | refine Rows1.drew ?_ | refine Rows1.alloc ?_ _)))).mono ?_; rintro e w' ⟨rfl, hb⟩; (first | ((with_reducible have N0 : Blk w' wr.heap.size [.int .u64 0, .int .u64 0, .int .u64 0, .int .u64 0] := Blk.later (Blk.new _ _ _ hz4) hb); have N1 : Hid (Blk w' _ _) := N0; clear N0; skip) | ((with_reducible have N0 : Blk w' wr.heap.size [.int .u64 0, .int .u64 0, .int .u64 0, .int .u64 0] := Blk.later (Blk.drew (Blk.new _ _ _ hz4)) hb); have N1 : Hid (Blk w' _ _) := N0; clear N0; skip) | skip); have K1 : Hid (Rows1 w w' [.int .u64 (g0 : Nat), .int .u64 (g1 : Nat), .int .u64 (g2 : Nat), .int .u64 (g3 : Nat)]) := Rows1.later (by repeat (with_reducible first | exact K.out | refine Rows1.drew ?_ | refine Rows1.alloc ?_ _)) hb; have zy := K1.out.x.lt; have x0 := K1.out.x.cells 0 _ rfl; have x1 := K1.out.x.cells 1 _ rfl; have x2 := K1.out.x.cells 2 _ rfl; have x3 := K1.out.x.cells 3 _ rfl; clear hb))
        all_goals (try go_wp2_with fail)
        all_goals go_meet
        all_goals go_light
        all_goals exact ⟨rfl, by repeat (with_reducible first | exact K2.out | refine Rows1.drew ?_ | refine Rows1.alloc ?_ _ | refine Rows1.put ?_ _ _ (by omega))⟩
      case rest =>
        obtain ⟨rfl, hcut⟩ := hcut
        have K3 : Hid (Rows1 w wc [.int .u64 (g0 : Nat), .int .u64 (g1 : Nat), .int .u64 (g2 : Nat), .int .u64 (g3 : Nat)]) := hcut
        clear hcut K c0 c1 c2 c3 z0
        cases b with
        | true =>
          have HR : Hid (Reached V G W k) := hr.out.no (of_decide_eq_true HH.out.2.2)
          have HP : Hid (P = ((2 ^ k : Nat) : Int)) := HH.out.2.1.symm
          clear HH hr
          go_wp2_with fail
          go_roundw
          case rel =>
            go_light
            exact ⟨W, k, by omega, rfl, by rw [HP.out, Int.natCast_ediv]; rfl, HR, K3.out⟩
          case measure =>
            go_light
            have := HP.out
            have := Nat.two_pow_pos k
            simp only [intOf]
            simp
            omega
        | false =>
          have HR : Hid (Reached V G (W + 2 ^ k) k) := hr.out.yes (by have := of_decide_eq_false HH.out.2.2; omega)
          have HP : Hid (P = ((2 ^ k : Nat) : Int)) := HH.out.2.1.symm
          have HX : Hid (X = ((W + 2 ^ k : Nat) : Int)) := HH.out.1.symm
          clear HH hr
          go_wp2_with fail
          go_roundw
          case rel =>
            go_light
            exact ⟨W + 2 ^ k, k, by omega, by rw [← HX.out], by rw [HP.out, Int.natCast_ediv]; rfl, HR, K3.out⟩
          case measure =>
            go_light
            have := HP.out
            have := Nat.two_pow_pos k
            simp only [intOf]
            simp
            omega


set_option maxHeartbeats 1000000 in
theorem root_value2 (b : Nat) (x : Nat) (hx : x < 18446744073709551616) (w : World) (hc : w.cell? ⟨b, 0, none⟩ = some (.int .i64 2)) :
    Calls Tryd.prog 63 #[.int .u64 (x : Nat), .pointer (some ⟨b, 0, none⟩)] w fun e w' => e = .returned (.agg #[.int .u64 (wd (pw2 x) 0 : Nat), .int .u64 (wd (pw2 x) 1 : Nat), .int .u64 (wd (pw2 x) 2 : Nat), .int .u64 (wd (pw2 x) 3 : Nat)]) ∧ Below w.heap.size w w' := by
  have HH : Hid (∀ w, Calls Tryd.prog 64 #[.int .u64 (x : Nat), .int .i64 2] w fun e w' => e = .returned (.agg #[.int .u64 (wd (pw2 x) 0 : Nat), .int .u64 (wd (pw2 x) 1 : Nat), .int .u64 (wd (pw2 x) 2 : Nat), .int .u64 (wd (pw2 x) 3 : Nat)]) ∧ Below w.heap.size w w') := fun w => highPower2 x hx w
  have hlt : b < w.heap.size := block_lt_of_cell hc
  clear hx
  generalize wd (pw2 x) 0 = r0 at *
  generalize wd (pw2 x) 1 = r1 at *
  generalize wd (pw2 x) 2 = r2 at *
  generalize wd (pw2 x) 3 = r3 at *
  go_enter Tryd.func63, Tryd.ntmps63
  go_wp2_with fail
  refine (HH.out _).mono ?_
  rintro e w1 ⟨rfl, hb1⟩
  have K : Hid (Rows1 w w1 [.int .u64 0, .int .u64 0, .int .u64 0, .int .u64 0]) := (Rows1.start w _ _ (by simp)).later hb1
  clear hb1
  have f0 := K.out.x.live 0 _ rfl
  have f1 := K.out.x.live 1 _ rfl
  have f2 := K.out.x.live 2 _ rfl
  have f3 := K.out.x.live 3 _ rfl
  have c0 := K.out.x.cells 0 _ rfl
  have c1 := K.out.x.cells 1 _ rfl
  have c2 := K.out.x.cells 2 _ rfl
  have c3 := K.out.x.cells 3 _ rfl
  go_wp2_with fail
  go_light
  refine bodyPost_ret (v := .agg #[.int .u64 (r0 : Nat), .int .u64 (r1 : Nat), .int .u64 (r2 : Nat), .int .u64 (r3 : Nat)]) (by simp [results, Tryd.results63, go_sem, c0, c1, c2, c3]) rfl ⟨rfl, ?_⟩
  exact ((((K.out.below.setCell (by simp) _).setCell (by simp) _).setCell (by simp) _).setCell (by simp) _)
set_option maxHeartbeats 1000000 in
theorem root_value3 (b : Nat) (x : Nat) (hx : x < 18446744073709551616) (w : World) (hc : w.cell? ⟨b, 0, none⟩ = some (.int .i64 3)) :
    Calls Tryd.prog 63 #[.int .u64 (x : Nat), .pointer (some ⟨b, 0, none⟩)] w fun e w' => e = .returned (.agg #[.int .u64 (wd (pw3 x) 0 : Nat), .int .u64 (wd (pw3 x) 1 : Nat), .int .u64 (wd (pw3 x) 2 : Nat), .int .u64 (wd (pw3 x) 3 : Nat)]) ∧ Below w.heap.size w w' := by
  have HH : Hid (∀ w, Calls Tryd.prog 64 #[.int .u64 (x : Nat), .int .i64 3] w fun e w' => e = .returned (.agg #[.int .u64 (wd (pw3 x) 0 : Nat), .int .u64 (wd (pw3 x) 1 : Nat), .int .u64 (wd (pw3 x) 2 : Nat), .int .u64 (wd (pw3 x) 3 : Nat)]) ∧ Below w.heap.size w w') := fun w => highPower3 x hx w
  have hlt : b < w.heap.size := block_lt_of_cell hc
  clear hx
  generalize wd (pw3 x) 0 = r0 at *
  generalize wd (pw3 x) 1 = r1 at *
  generalize wd (pw3 x) 2 = r2 at *
  generalize wd (pw3 x) 3 = r3 at *
  go_enter Tryd.func63, Tryd.ntmps63
  go_wp2_with fail
  refine (HH.out _).mono ?_
  rintro e w1 ⟨rfl, hb1⟩
  have K : Hid (Rows1 w w1 [.int .u64 0, .int .u64 0, .int .u64 0, .int .u64 0]) := (Rows1.start w _ _ (by simp)).later hb1
  clear hb1
  have f0 := K.out.x.live 0 _ rfl
  have f1 := K.out.x.live 1 _ rfl
  have f2 := K.out.x.live 2 _ rfl
  have f3 := K.out.x.live 3 _ rfl
  have c0 := K.out.x.cells 0 _ rfl
  have c1 := K.out.x.cells 1 _ rfl
  have c2 := K.out.x.cells 2 _ rfl
  have c3 := K.out.x.cells 3 _ rfl
  go_wp2_with fail
  go_light
  refine bodyPost_ret (v := .agg #[.int .u64 (r0 : Nat), .int .u64 (r1 : Nat), .int .u64 (r2 : Nat), .int .u64 (r3 : Nat)]) (by simp [results, Tryd.results63, go_sem, c0, c1, c2, c3]) rfl ⟨rfl, ?_⟩
  exact ((((K.out.below.setCell (by simp) _).setCell (by simp) _).setCell (by simp) _).setCell (by simp) _)

set_option maxHeartbeats 1000000 in
theorem inverse_value (b D x : Nat) (hD : D < 18446744073709551616) (hx : x < 18446744073709551616) (w : World) (hc : w.cell? ⟨b, 0, none⟩ = some (.int .u64 (D : Nat))) :
    Calls Tryd.prog 65 #[.int .u64 (x : Nat), .pointer (some ⟨b, 0, none⟩)] w fun e w' => e = .returned (.agg #[.int .u64 (wd (x * x * D) 0 : Nat), .int .u64 (wd (x * x * D) 1 : Nat), .int .u64 (wd (x * x * D) 2 : Nat), .int .u64 (wd (x * x * D) 3 : Nat)]) ∧ Below w.heap.size w w' := by
  have HP : Hid (∀ w, Calls Tryd.prog 54 #[.int .u64 (x : Nat), .int .u64 (x : Nat)] w fun e w' => e = .returned (.agg #[.int .u64 (wd (x * x) 0 : Nat), .int .u64 (wd (x * x) 1 : Nat)]) ∧ Below w.heap.size w w') := fun w => product_any x x hx hx w
  have HW : Hid (∀ w, Calls Tryd.prog 58 #[.agg #[.int .u64 (wd (x * x) 0 : Nat), .int .u64 (wd (x * x) 1 : Nat)]] w fun e w' => e = .returned (.agg #[.int .u64 (wd (x * x) 0 : Nat), .int .u64 (wd (x * x) 1 : Nat), .int .u64 (wd (x * x) 2 : Nat), .int .u64 (wd (x * x) 3 : Nat)]) ∧ Below w.heap.size w w') := fun w => wide_wider (x * x) (Nat.lt_of_lt_of_le (Nat.mul_lt_mul'' hx hx) (by decide)) w
  have HT : Hid (∀ w, Calls Tryd.prog 66 #[.agg #[.int .u64 (wd (x * x) 0 : Nat), .int .u64 (wd (x * x) 1 : Nat), .int .u64 (wd (x * x) 2 : Nat), .int .u64 (wd (x * x) 3 : Nat)], .int .u64 (D : Nat)] w fun e w' => e = .returned (.agg #[.int .u64 (wd (x * x * D) 0 : Nat), .int .u64 (wd (x * x * D) 1 : Nat), .int .u64 (wd (x * x * D) 2 : Nat), .int .u64 (wd (x * x * D) 3 : Nat)]) ∧ Below w.heap.size w w') := fun w => W4.times_any (x * x) D hD w
  have hlt : b < w.heap.size := block_lt_of_cell hc
  have HC : Hid (∀ w1, Below w.heap.size w w1 → w1.cell? ⟨b, 0, none⟩ = some (.int .u64 (D : Nat))) := fun w1 hb => (hb.cell (p := ⟨b, 0, none⟩) hlt).trans hc
  clear hx hD
  generalize wd (x * x * D) 0 = r0 at *
  generalize wd (x * x) 0 = q0 at *
  generalize wd (x * x * D) 1 = r1 at *
  generalize wd (x * x) 1 = q1 at *
  generalize wd (x * x * D) 2 = r2 at *
  generalize wd (x * x) 2 = q2 at *
  generalize wd (x * x * D) 3 = r3 at *
  generalize wd (x * x) 3 = q3 at *
  have K0 : Hid (Rows1 w (w.alloc (.cells #[.int .u64 0, .int .u64 0, .int .u64 0, .int .u64 0] 71)) [.int .u64 0, .int .u64 0, .int .u64 0, .int .u64 0]) := Rows1.start w _ _ (by simp)
  go_enter Tryd.func65, Tryd.ntmps65
  go_upto_region 1 with fail
  go_region_held3 (fun w' => w'.cell? ⟨b, 0, none⟩ = some (.int .u64 (D : Nat))) (first | (with_reducible exact yK3) | (rw [cellSet _ _ _ _ (by simp; omega), cellSet _ _ _ _ (by simp; omega), cellSet _ _ _ _ (by simp; omega), cellSet _ _ _ _ (by simp; omega)]; exact yK3) | (with_reducible exact yK2) | (with_reducible exact yK1) | (go_keep; done))
    (first | (go_at_call 54; refine (HP.out _).mono ?_; rintro e w' ⟨rfl, hb⟩; have K1 : Hid (Rows1 w w' [.int .u64 0, .int .u64 0, .int .u64 0, .int .u64 0]) := Rows1.later (by repeat (with_reducible first | exact K0.out | refine Rows1.drew ?_ | refine Rows1.alloc ?_ _)) hb; have yK1 := HC.out _ K1.out.below; have cK10 := K1.out.x.cells 0 _ rfl; have fK10 := K1.out.x.live 0 _ rfl; have cK11 := K1.out.x.cells 1 _ rfl; have fK11 := K1.out.x.live 1 _ rfl; have cK12 := K1.out.x.cells 2 _ rfl; have fK12 := K1.out.x.live 2 _ rfl; have cK13 := K1.out.x.cells 3 _ rfl; have fK13 := K1.out.x.live 3 _ rfl; clear hb) | (go_at_call 58; refine (HW.out _).mono ?_; rintro e w' ⟨rfl, hb⟩; have K2 : Hid (Rows1 w w' [.int .u64 0, .int .u64 0, .int .u64 0, .int .u64 0]) := Rows1.later (by repeat (with_reducible first | exact K1.out | refine Rows1.drew ?_ | refine Rows1.alloc ?_ _)) hb; have yK2 := HC.out _ K2.out.below; have cK20 := K2.out.x.cells 0 _ rfl; have fK20 := K2.out.x.live 0 _ rfl; have cK21 := K2.out.x.cells 1 _ rfl; have fK21 := K2.out.x.live 1 _ rfl; have cK22 := K2.out.x.cells 2 _ rfl; have fK22 := K2.out.x.live 2 _ rfl; have cK23 := K2.out.x.cells 3 _ rfl; have fK23 := K2.out.x.live 3 _ rfl; clear hb) | (go_at_call 66; refine (HT.out _).mono ?_; rintro e w' ⟨rfl, hb⟩; have K3 : Hid (Rows1 w w' [.int .u64 0, .int .u64 0, .int .u64 0, .int .u64 0]) := Rows1.later (by repeat (with_reducible first | exact K2.out | refine Rows1.drew ?_ | refine Rows1.alloc ?_ _)) hb; have yK3 := HC.out _ K3.out.below; have cK30 := K3.out.x.cells 0 _ rfl; have fK30 := K3.out.x.live 0 _ rfl; have cK31 := K3.out.x.cells 1 _ rfl; have fK31 := K3.out.x.live 1 _ rfl; have cK32 := K3.out.x.cells 2 _ rfl; have fK32 := K3.out.x.live 2 _ rfl; have cK33 := K3.out.x.cells 3 _ rfl; have fK33 := K3.out.x.live 3 _ rfl; clear hb))
  all_goals (try go_wp2_with fail)
  all_goals go_light
  all_goals refine bodyPost_ret (v := .agg #[.int .u64 (r0 : Nat), .int .u64 (r1 : Nat), .int .u64 (r2 : Nat), .int .u64 (r3 : Nat)]) (by simp [results, Tryd.results65, go_sem, cK30, cK31, cK32, cK33]) rfl ⟨rfl, ?_⟩
  all_goals exact ((((K3.out.below.setCell (by simp) _).setCell (by simp) _).setCell (by simp) _).setCell (by simp) _)


theorem cellSet4d (w : World) (g : Nat) (a b c d : Value) (p : Addr) (h : p.block ≠ g) : ((((w.setCell ⟨g, 0, none⟩ a).setCell ⟨g, 1, none⟩ b).setCell ⟨g, 2, none⟩ c).setCell ⟨g, 3, none⟩ d).drew.cell? p = w.cell? p := cellSet4 w g a b c d p h
theorem results_rt {tmps : Array Value} {U : World} {g : Nat} {a0 a1 a2 a3 : Value} (h6 : tmps.getD 4 undef = .pointer (some ⟨g, 0, none⟩)) (h : Blk U g [a0, a1, a2, a3]) :
    (results Tryd.f46 tmps).run Tryd.prog U = .ok (.agg #[a0, a1, a2, a3]) U := by
  have c0 := h.cells 0 _ rfl
  have c1 := h.cells 1 _ rfl
  have c2 := h.cells 2 _ rfl
  have c3 := h.cells 3 _ rfl
  have h6' : tmps[4]?.getD undef = .pointer (some ⟨g, 0, none⟩) := by simpa using h6
  simp [results, Tryd.results46, go_sem, h6', c0, c1, c2, c3]
/-- The digits filled up, and the power of the root. -/
def rtL (d below : Int) (D : Nat) (p : Int) : Int := liftN d (p + below) (256 - Go.bitLen D)
def rtG (d below : Int) (D : Nat) (p : Int) : Nat := D * 2 ^ (rtL d below D p).toNat
def rtP (d below : Int) (D : Nat) (p : Int) : Int := (p + below - rtL d below D p) / d
theorem rtL_range {d below p : Int} {D : Nat} (hd : 2 ≤ d ∧ d ≤ 3) (h0 : D ≠ 0) (hD : D < 18446744073709551616 ^ 4) : -2 ≤ rtL d below D p ∧ rtL d below D p ≤ 255 := by
  have h1 := liftN_le (d := d) (p := p + below) (r := 256 - (Go.bitLen D : Int)) (by omega)
  have h2 := bitLen_le (D := D) (n := 256) hD
  have h3 : 0 < Go.bitLen D := Nat.pos_of_ne_zero fun e => h0 (by have := (Go.bitLen_spec D).1; rw [e] at this; omega)
  unfold rtL
  omega

theorem rtG_lt {d below p : Int} {D : Nat} (hd : 2 ≤ d ∧ d ≤ 3) (hL : 0 ≤ rtL d below D p) : rtG d below D p < 18446744073709551616 ^ 4 := by
  have h1 := liftN_le (d := d) (p := p + below) (r := 256 - (Go.bitLen D : Int)) (by omega)
  have h2 := (Go.bitLen_spec D).1
  have h3 : Go.bitLen D + (rtL d below D p).toNat ≤ 256 := by unfold rtL at *; omega
  unfold rtG
  refine Nat.lt_of_lt_of_le (Nat.mul_lt_mul_of_pos_right h2 (Nat.two_pow_pos _)) ?_
  rw [← Nat.pow_add]
  exact Nat.le_trans (Nat.pow_le_pow_right (by decide) h3) (by decide)
theorem pw2_lt {x : Nat} (hx : x < 18446744073709551616) : pw2 x < 18446744073709551616 ^ 4 := by
  have h := sq_grows x _ hx
  unfold pw2
  rw [Nat.mul_right_comm]
  exact Nat.lt_of_lt_of_le (Nat.mul_lt_mul_of_pos_right h (by decide)) (by decide)
theorem pw3_lt {x : Nat} (hx : x < 18446744073709551616) : pw3 x < 18446744073709551616 ^ 4 := by
  have h := cb_grows x _ hx
  unfold pw3
  rw [show x * 18446744073709551616 * x * x = x * (x * x) * 18446744073709551616 by rw [Nat.mul_right_comm x, Nat.mul_right_comm (x * x), Nat.mul_assoc x x x]]
  exact Nat.lt_of_lt_of_le (Nat.mul_lt_mul_of_pos_right h (by decide)) (by decide)
theorem pw_zero : pw2 0 = 0 ∧ pw3 0 = 0 := by unfold pw2 pw3; simp
theorem pw_top : pw2 18446744073709551616 = 18446744073709551616 ^ 4 ∧ pw3 18446744073709551616 = 18446744073709551616 ^ 4 := by unfold pw2 pw3; exact ⟨by decide, by decide⟩


set_option maxHeartbeats 4000000 in
set_option maxRecDepth 10000 in
theorem exactRoot2 (s D : Nat) (p : Int) (h0 : D ≠ 0) (hD : D < 18446744073709551616 ^ 4) (hL : 0 ≤ rtL 2 128 D p) (hp : -10000 ≤ p ∧ p ≤ 10000) (w : World) :
    Calls Tryd.prog 46 #[.agg #[.int .u64 s, .int .u64 (wd (D) 0 : Nat), .int .u64 (wd (D) 1 : Nat), .int .u64 (wd (D) 2 : Nat), .int .u64 (wd (D) 3 : Nat), .int .i64 p], .int .i64 2] w fun e w' =>
      ∃ W, W < 18446744073709551616 ∧ pw2 W ≤ rtG 2 128 D p ∧ rtG 2 128 D p < pw2 (W + 1) ∧ e = .returned (.agg #[.int .u64 s, .int .u64 (odd W (decide (pw2 W = rtG 2 128 D p)) : Nat), .int .u64 0, .int .i64 (rtP 2 128 D p)]) ∧ Below w.heap.size w w' := by
  have hbl := bitLen_le (D := D) (n := 256) hD
  have hLr := rtL_range (d := 2) (below := 128) (p := p) (by decide) h0 hD
  have HR : Hid (∀ w, Calls Tryd.prog 60 #[.agg #[.int .u64 (wd (D) 0 : Nat), .int .u64 (wd (D) 1 : Nat), .int .u64 (wd (D) 2 : Nat), .int .u64 (wd (D) 3 : Nat)]] w fun e w' => e = .returned (.int .i64 (256 - Go.bitLen D)) ∧ Below w.heap.size w w') := fun w => W4.room_any D hD w
  have HLF : Hid (∀ w, Calls Tryd.prog 59 #[.int .i64 2, .int .i64 (p + 128), .int .i64 (256 - Go.bitLen D)] w fun e w' => e = .returned (.int .i64 (rtL 2 128 D p)) ∧ w' = w) := fun w => liftFor_any 2 (p + 128) (256 - Go.bitLen D) (by decide) (by omega) (by omega) w
  have HLE : Hid (∀ w, Calls Tryd.prog 62 #[.agg #[.int .u64 (wd (D) 0 : Nat), .int .u64 (wd (D) 1 : Nat), .int .u64 (wd (D) 2 : Nat), .int .u64 (wd (D) 3 : Nat)], .int .u64 (rtL 2 128 D p)] w fun e w' => e = .returned (.agg #[.int .u64 (wd (rtG 2 128 D p) 0 : Nat), .int .u64 (wd (rtG 2 128 D p) 1 : Nat), .int .u64 (wd (rtG 2 128 D p) 2 : Nat), .int .u64 (wd (rtG 2 128 D p) 3 : Nat)]) ∧ Below w.heap.size w w') := fun w => W4.left_any D hD (rtL 2 128 D p) hL (by omega) w
  have HRE : Hid (∀ b w1, w1.cell? ⟨b, 0, none⟩ = some (.int .i64 2) → Calls Tryd.prog 61 #[.agg #[.int .u64 (wd (rtG 2 128 D p) 0 : Nat), .int .u64 (wd (rtG 2 128 D p) 1 : Nat), .int .u64 (wd (rtG 2 128 D p) 2 : Nat), .int .u64 (wd (rtG 2 128 D p) 3 : Nat)], .func (.func 63) #[] #[.pointer (some ⟨b, 0, none⟩)]] w1 fun e w' => ∃ W, W < 18446744073709551616 ∧ pw2 W ≤ rtG 2 128 D p ∧ rtG 2 128 D p < pw2 (W + 1) ∧ e = .returned (.int .u64 (odd W (decide (pw2 W = rtG 2 128 D p)) : Nat)) ∧ Below w1.heap.size w1 w') := fun b w1 hc =>
    reach_any w1 63 (.pointer (some ⟨b, 0, none⟩)) pw2 _ (rtG_lt (by decide) hL) (fun x hx => pw2_lt hx) (by rw [pw_zero.1]; exact Nat.zero_le _) (by rw [pw_top.1]; exact rtG_lt (by decide) hL) (enters_of Tryd.func63 (by kernel_rfl) rfl) (fun x w2 hx hb => root_value2 b x hx w2 ((hb.cell (p := ⟨b, 0, none⟩) (block_lt_of_cell hc)).trans hc))
  obtain ⟨PB, hPB⟩ : ∃ PB, PB = p + 128 := ⟨_, rfl⟩
  obtain ⟨PL, hPL⟩ : ∃ PL, PL = PB - rtL 2 128 D p := ⟨_, rfl⟩
  have hdv : PL.tdiv 2 = rtP 2 128 D p := by rw [hPL, hPB]; exact Int.tdiv_eq_ediv_of_dvd (liftN_dvd 2 (p + 128) _)
  have hw3 : IntKind.i64.wrap (PL.tdiv 2) = rtP 2 128 D p := by rw [hdv]; exact wrapI _ (by unfold rtP; omega) (by unfold rtP; omega)
  have hw1 : IntKind.i64.wrap (p + 128) = PB := by rw [hPB]; exact wrapI _ (by omega) (by omega)
  have hw2 : IntKind.i64.wrap (PB - rtL 2 128 D p) = PL := by rw [hPL]; exact wrapI _ (by omega) (by omega)
  rw [← hPB] at HLF
  clear hPB hPL hdv
  have hLu := hLr.2
  clear h0 hD hbl hLr
  generalize rtP 2 128 D p = RP at *
  generalize rtL 2 128 D p = L at *
  generalize wd (rtG 2 128 D p) 0 = g0 at *
  generalize wd D 0 = d0 at *
  generalize wd (rtG 2 128 D p) 1 = g1 at *
  generalize wd D 1 = d1 at *
  generalize wd (rtG 2 128 D p) 2 = g2 at *
  generalize wd D 2 = d2 at *
  generalize wd (rtG 2 128 D p) 3 = g3 at *
  generalize wd D 3 = d3 at *
  generalize rtG 2 128 D p = G at *
  generalize (256 - (Go.bitLen D : Int)) = R at *
  obtain ⟨p1, p2⟩ := hp
  have K0 : Hid (Rows3 w (((w.alloc (.cells #[.int .u64 (s : Nat), .int .u64 (d0 : Nat), .int .u64 (d1 : Nat), .int .u64 (d2 : Nat), .int .u64 (d3 : Nat), .int .i64 p] 73)).alloc (.cells #[.int .i64 2] 3)).alloc (.cells #[.int .u64 0, .int .u64 0, .int .u64 0, .int .i64 0] 59)) [.int .u64 (s : Nat), .int .u64 (d0 : Nat), .int .u64 (d1 : Nat), .int .u64 (d2 : Nat), .int .u64 (d3 : Nat), .int .i64 p] [.int .i64 2] [.int .u64 0, .int .u64 0, .int .u64 0, .int .i64 0]) := Rows3.start w _ _ _ _ _ _ (by simp) (by simp) (by simp)
  go_enter Tryd.func46, Tryd.ntmps46
  go_upto_region 2 with fail
  go_cut [6] from 8 to 39 (fun s6 wx => s6 = .int .i64 L ∧ Rows3 w wx [.int .u64 (s : Nat), .int .u64 (d0 : Nat), .int .u64 (d1 : Nat), .int .u64 (d2 : Nat), .int .u64 (d3 : Nat), .int .i64 p] [.int .i64 2] [.int .u64 0, .int .u64 0, .int .u64 0, .int .i64 0])
  case first =>
    go_region_held3 (fun w' => w'.cell? ⟨w.heap.size, 0, none⟩ = some (.int .u64 (s : Nat)) ∧ w'.cell? ⟨w.heap.size, 1, none⟩ = some (.int .u64 (d0 : Nat)) ∧ w'.cell? ⟨w.heap.size, 2, none⟩ = some (.int .u64 (d1 : Nat)) ∧ w'.cell? ⟨w.heap.size, 3, none⟩ = some (.int .u64 (d2 : Nat)) ∧ w'.cell? ⟨w.heap.size, 4, none⟩ = some (.int .u64 (d3 : Nat)) ∧ w'.cell? ⟨w.heap.size, 5, none⟩ = some (.int .i64 p) ∧ w'.cell? ⟨w.heap.size + 1, 0, none⟩ = some (.int .i64 2))
      (first | (with_reducible exact ⟨x0, x1, x2, x3, x4, x5, y0⟩) | (go_keep; done))
      (first | (go_at_call 60; refine (HR.out _).mono ?_; rintro e w' ⟨rfl, hb⟩; have K1 : Hid (Rows3 w w' [.int .u64 (s : Nat), .int .u64 (d0 : Nat), .int .u64 (d1 : Nat), .int .u64 (d2 : Nat), .int .u64 (d3 : Nat), .int .i64 p] [.int .i64 2] [.int .u64 0, .int .u64 0, .int .u64 0, .int .i64 0]) := Rows3.later (by repeat (with_reducible first | exact K0.out | refine Rows3.drew ?_)) hb; have x0 := K1.out.x.cells 0 _ rfl; have x1 := K1.out.x.cells 1 _ rfl; have x2 := K1.out.x.cells 2 _ rfl; have x3 := K1.out.x.cells 3 _ rfl; have x4 := K1.out.x.cells 4 _ rfl; have x5 := K1.out.x.cells 5 _ rfl; have y0 := K1.out.y.cells 0 _ rfl; clear hb) | (go_at_call 59; refine (HLF.out _).mono ?_; rintro e w' ⟨rfl, rfl⟩))
    all_goals (try go_wp2_with fail)
    all_goals go_meet
    all_goals go_light
    all_goals exact ⟨rfl, by repeat (with_reducible first | exact K1.out | refine Rows3.drew ?_)⟩
  case rest =>
    obtain ⟨rfl, hcut⟩ := hcut
    have K2 : Hid (Rows3 w wc [.int .u64 (s : Nat), .int .u64 (d0 : Nat), .int .u64 (d1 : Nat), .int .u64 (d2 : Nat), .int .u64 (d3 : Nat), .int .i64 p] [.int .i64 2] [.int .u64 0, .int .u64 0, .int .u64 0, .int .i64 0]) := hcut
    clear hcut K0 HR HLF
    have x0 := K2.out.x.cells 0 _ rfl
    have x1 := K2.out.x.cells 1 _ rfl
    have x2 := K2.out.x.cells 2 _ rfl
    have x3 := K2.out.x.cells 3 _ rfl
    have x4 := K2.out.x.cells 4 _ rfl
    have x5 := K2.out.x.cells 5 _ rfl
    have z0 := K2.out.size
    go_wp2_with fail
    refine (HLE.out _).mono ?_
    rintro e w3 ⟨rfl, hb3⟩
    have K3 : Hid (Rows3 w w3 [.int .u64 (s : Nat), .int .u64 (d0 : Nat), .int .u64 (d1 : Nat), .int .u64 (d2 : Nat), .int .u64 (d3 : Nat), .int .i64 p] [.int .i64 2] [.int .u64 0, .int .u64 0, .int .u64 0, .int .i64 0]) := K2.out.later hb3
    clear hb3 x0 x1 x2 x3 x4 x5 z0 K2
    go_wp2_with fail
    refine (HRE.out (w.heap.size + 1) w3 (K3.out.y.cells 0 _ rfl)).mono ?_
    rintro e w4 ⟨W, hW1, hW2, hW3, rfl, hb4⟩
    have HW : Hid (W < 18446744073709551616 ∧ pw2 W ≤ G ∧ G < pw2 (W + 1)) := ⟨hW1, hW2, hW3⟩
    have K4 : Hid (Rows3 w w4 [.int .u64 (s : Nat), .int .u64 (d0 : Nat), .int .u64 (d1 : Nat), .int .u64 (d2 : Nat), .int .u64 (d3 : Nat), .int .i64 p] [.int .i64 2] [.int .u64 0, .int .u64 0, .int .u64 0, .int .i64 0]) := K3.out.later hb4
    clear hb4 hW1 hW2 hW3 K3 HRE HLE
    obtain ⟨O, hO⟩ : ∃ O, O = odd W (decide (pw2 W = G)) := ⟨_, rfl⟩
    have HO : Hid (O = odd W (decide (pw2 W = G))) := hO
    rw [← hO]
    clear hO
    have x0 := K4.out.x.cells 0 _ rfl
    have x1 := K4.out.x.cells 1 _ rfl
    have x2 := K4.out.x.cells 2 _ rfl
    have x3 := K4.out.x.cells 3 _ rfl
    have x4 := K4.out.x.cells 4 _ rfl
    have x5 := K4.out.x.cells 5 _ rfl
    have y0 := K4.out.y.cells 0 _ rfl
    have r0 := K4.out.r.cells 0 _ rfl
    have r1 := K4.out.r.cells 1 _ rfl
    have r2 := K4.out.r.cells 2 _ rfl
    have r3 := K4.out.r.cells 3 _ rfl
    have q0 := K4.out.r.live 0 _ rfl
    have q1 := K4.out.r.live 1 _ rfl
    have q2 := K4.out.r.live 2 _ rfl
    have q3 := K4.out.r.live 3 _ rfl
    have z0 := K4.out.size
    go_upto_region 4 with fail
    go_region_held3 (fun w' => w'.cell? ⟨w.heap.size, 0, none⟩ = some (.int .u64 (s : Nat)) ∧ w'.cell? ⟨w.heap.size, 5, none⟩ = some (.int .i64 p) ∧ w'.cell? ⟨w.heap.size + 1, 0, none⟩ = some (.int .i64 2))
      (first | (with_reducible exact ⟨x0, x5, y0⟩) | ((with_reducible refine ⟨?_, ?_, ?_⟩) <;> (rw [cellSet4d _ _ _ _ _ _ _ (by first | (simp; done) | (simp; omega))]; assumption)) | (go_keep; done)) (fail)
    all_goals (try go_wp2_with fail)
    all_goals go_light
    all_goals refine bodyPost_ret (v := .agg #[.int .u64 (s : Nat), .int .u64 (O : Nat), .int .u64 0, .int .i64 RP]) (results_rt rfl (((((K4.out.r.set 0 _ (by simp)).set 1 _ (by simp)).set 2 _ (by simp)).set 3 _ (by simp)).drew)) rfl ⟨W, HW.out.1, HW.out.2.1, HW.out.2.2, by rw [HO.out], ?_⟩
    all_goals exact (((((K4.out.below.setCell (by simp <;> omega) _).setCell (by simp <;> omega) _).setCell (by simp <;> omega) _).setCell (by simp <;> omega) _)).drew

set_option maxHeartbeats 4000000 in
set_option maxRecDepth 10000 in
theorem exactRoot3 (s D : Nat) (p : Int) (h0 : D ≠ 0) (hD : D < 18446744073709551616 ^ 4) (hL : 0 ≤ rtL 3 64 D p) (hp : -10000 ≤ p ∧ p ≤ 10000) (w : World) :
    Calls Tryd.prog 46 #[.agg #[.int .u64 s, .int .u64 (wd (D) 0 : Nat), .int .u64 (wd (D) 1 : Nat), .int .u64 (wd (D) 2 : Nat), .int .u64 (wd (D) 3 : Nat), .int .i64 p], .int .i64 3] w fun e w' =>
      ∃ W, W < 18446744073709551616 ∧ pw3 W ≤ rtG 3 64 D p ∧ rtG 3 64 D p < pw3 (W + 1) ∧ e = .returned (.agg #[.int .u64 s, .int .u64 (odd W (decide (pw3 W = rtG 3 64 D p)) : Nat), .int .u64 0, .int .i64 (rtP 3 64 D p)]) ∧ Below w.heap.size w w' := by
  have hbl := bitLen_le (D := D) (n := 256) hD
  have hLr := rtL_range (d := 3) (below := 64) (p := p) (by decide) h0 hD
  have HR : Hid (∀ w, Calls Tryd.prog 60 #[.agg #[.int .u64 (wd (D) 0 : Nat), .int .u64 (wd (D) 1 : Nat), .int .u64 (wd (D) 2 : Nat), .int .u64 (wd (D) 3 : Nat)]] w fun e w' => e = .returned (.int .i64 (256 - Go.bitLen D)) ∧ Below w.heap.size w w') := fun w => W4.room_any D hD w
  have HLF : Hid (∀ w, Calls Tryd.prog 59 #[.int .i64 3, .int .i64 (p + 64), .int .i64 (256 - Go.bitLen D)] w fun e w' => e = .returned (.int .i64 (rtL 3 64 D p)) ∧ w' = w) := fun w => liftFor_any 3 (p + 64) (256 - Go.bitLen D) (by decide) (by omega) (by omega) w
  have HLE : Hid (∀ w, Calls Tryd.prog 62 #[.agg #[.int .u64 (wd (D) 0 : Nat), .int .u64 (wd (D) 1 : Nat), .int .u64 (wd (D) 2 : Nat), .int .u64 (wd (D) 3 : Nat)], .int .u64 (rtL 3 64 D p)] w fun e w' => e = .returned (.agg #[.int .u64 (wd (rtG 3 64 D p) 0 : Nat), .int .u64 (wd (rtG 3 64 D p) 1 : Nat), .int .u64 (wd (rtG 3 64 D p) 2 : Nat), .int .u64 (wd (rtG 3 64 D p) 3 : Nat)]) ∧ Below w.heap.size w w') := fun w => W4.left_any D hD (rtL 3 64 D p) hL (by omega) w
  have HRE : Hid (∀ b w1, w1.cell? ⟨b, 0, none⟩ = some (.int .i64 3) → Calls Tryd.prog 61 #[.agg #[.int .u64 (wd (rtG 3 64 D p) 0 : Nat), .int .u64 (wd (rtG 3 64 D p) 1 : Nat), .int .u64 (wd (rtG 3 64 D p) 2 : Nat), .int .u64 (wd (rtG 3 64 D p) 3 : Nat)], .func (.func 63) #[] #[.pointer (some ⟨b, 0, none⟩)]] w1 fun e w' => ∃ W, W < 18446744073709551616 ∧ pw3 W ≤ rtG 3 64 D p ∧ rtG 3 64 D p < pw3 (W + 1) ∧ e = .returned (.int .u64 (odd W (decide (pw3 W = rtG 3 64 D p)) : Nat)) ∧ Below w1.heap.size w1 w') := fun b w1 hc =>
    reach_any w1 63 (.pointer (some ⟨b, 0, none⟩)) pw3 _ (rtG_lt (by decide) hL) (fun x hx => pw3_lt hx) (by rw [pw_zero.2]; exact Nat.zero_le _) (by rw [pw_top.2]; exact rtG_lt (by decide) hL) (enters_of Tryd.func63 (by kernel_rfl) rfl) (fun x w2 hx hb => root_value3 b x hx w2 ((hb.cell (p := ⟨b, 0, none⟩) (block_lt_of_cell hc)).trans hc))
  obtain ⟨PB, hPB⟩ : ∃ PB, PB = p + 64 := ⟨_, rfl⟩
  obtain ⟨PL, hPL⟩ : ∃ PL, PL = PB - rtL 3 64 D p := ⟨_, rfl⟩
  have hdv : PL.tdiv 3 = rtP 3 64 D p := by rw [hPL, hPB]; exact Int.tdiv_eq_ediv_of_dvd (liftN_dvd 3 (p + 64) _)
  have hw3 : IntKind.i64.wrap (PL.tdiv 3) = rtP 3 64 D p := by rw [hdv]; exact wrapI _ (by unfold rtP; omega) (by unfold rtP; omega)
  have hw1 : IntKind.i64.wrap (p + 64) = PB := by rw [hPB]; exact wrapI _ (by omega) (by omega)
  have hw2 : IntKind.i64.wrap (PB - rtL 3 64 D p) = PL := by rw [hPL]; exact wrapI _ (by omega) (by omega)
  rw [← hPB] at HLF
  clear hPB hPL hdv
  have hLu := hLr.2
  clear h0 hD hbl hLr
  generalize rtP 3 64 D p = RP at *
  generalize rtL 3 64 D p = L at *
  generalize wd (rtG 3 64 D p) 0 = g0 at *
  generalize wd D 0 = d0 at *
  generalize wd (rtG 3 64 D p) 1 = g1 at *
  generalize wd D 1 = d1 at *
  generalize wd (rtG 3 64 D p) 2 = g2 at *
  generalize wd D 2 = d2 at *
  generalize wd (rtG 3 64 D p) 3 = g3 at *
  generalize wd D 3 = d3 at *
  generalize rtG 3 64 D p = G at *
  generalize (256 - (Go.bitLen D : Int)) = R at *
  obtain ⟨p1, p2⟩ := hp
  have K0 : Hid (Rows3 w (((w.alloc (.cells #[.int .u64 (s : Nat), .int .u64 (d0 : Nat), .int .u64 (d1 : Nat), .int .u64 (d2 : Nat), .int .u64 (d3 : Nat), .int .i64 p] 73)).alloc (.cells #[.int .i64 3] 3)).alloc (.cells #[.int .u64 0, .int .u64 0, .int .u64 0, .int .i64 0] 59)) [.int .u64 (s : Nat), .int .u64 (d0 : Nat), .int .u64 (d1 : Nat), .int .u64 (d2 : Nat), .int .u64 (d3 : Nat), .int .i64 p] [.int .i64 3] [.int .u64 0, .int .u64 0, .int .u64 0, .int .i64 0]) := Rows3.start w _ _ _ _ _ _ (by simp) (by simp) (by simp)
  go_enter Tryd.func46, Tryd.ntmps46
  go_upto_region 2 with fail
  go_cut [6] from 8 to 39 (fun s6 wx => s6 = .int .i64 L ∧ Rows3 w wx [.int .u64 (s : Nat), .int .u64 (d0 : Nat), .int .u64 (d1 : Nat), .int .u64 (d2 : Nat), .int .u64 (d3 : Nat), .int .i64 p] [.int .i64 3] [.int .u64 0, .int .u64 0, .int .u64 0, .int .i64 0])
  case first =>
    go_region_held3 (fun w' => w'.cell? ⟨w.heap.size, 0, none⟩ = some (.int .u64 (s : Nat)) ∧ w'.cell? ⟨w.heap.size, 1, none⟩ = some (.int .u64 (d0 : Nat)) ∧ w'.cell? ⟨w.heap.size, 2, none⟩ = some (.int .u64 (d1 : Nat)) ∧ w'.cell? ⟨w.heap.size, 3, none⟩ = some (.int .u64 (d2 : Nat)) ∧ w'.cell? ⟨w.heap.size, 4, none⟩ = some (.int .u64 (d3 : Nat)) ∧ w'.cell? ⟨w.heap.size, 5, none⟩ = some (.int .i64 p) ∧ w'.cell? ⟨w.heap.size + 1, 0, none⟩ = some (.int .i64 3))
      (first | (with_reducible exact ⟨x0, x1, x2, x3, x4, x5, y0⟩) | (go_keep; done))
      (first | (go_at_call 60; refine (HR.out _).mono ?_; rintro e w' ⟨rfl, hb⟩; have K1 : Hid (Rows3 w w' [.int .u64 (s : Nat), .int .u64 (d0 : Nat), .int .u64 (d1 : Nat), .int .u64 (d2 : Nat), .int .u64 (d3 : Nat), .int .i64 p] [.int .i64 3] [.int .u64 0, .int .u64 0, .int .u64 0, .int .i64 0]) := Rows3.later (by repeat (with_reducible first | exact K0.out | refine Rows3.drew ?_)) hb; have x0 := K1.out.x.cells 0 _ rfl; have x1 := K1.out.x.cells 1 _ rfl; have x2 := K1.out.x.cells 2 _ rfl; have x3 := K1.out.x.cells 3 _ rfl; have x4 := K1.out.x.cells 4 _ rfl; have x5 := K1.out.x.cells 5 _ rfl; have y0 := K1.out.y.cells 0 _ rfl; clear hb) | (go_at_call 59; refine (HLF.out _).mono ?_; rintro e w' ⟨rfl, rfl⟩))
    all_goals (try go_wp2_with fail)
    all_goals go_meet
    all_goals go_light
    all_goals exact ⟨rfl, by repeat (with_reducible first | exact K1.out | refine Rows3.drew ?_)⟩
  case rest =>
    obtain ⟨rfl, hcut⟩ := hcut
    have K2 : Hid (Rows3 w wc [.int .u64 (s : Nat), .int .u64 (d0 : Nat), .int .u64 (d1 : Nat), .int .u64 (d2 : Nat), .int .u64 (d3 : Nat), .int .i64 p] [.int .i64 3] [.int .u64 0, .int .u64 0, .int .u64 0, .int .i64 0]) := hcut
    clear hcut K0 HR HLF
    have x0 := K2.out.x.cells 0 _ rfl
    have x1 := K2.out.x.cells 1 _ rfl
    have x2 := K2.out.x.cells 2 _ rfl
    have x3 := K2.out.x.cells 3 _ rfl
    have x4 := K2.out.x.cells 4 _ rfl
    have x5 := K2.out.x.cells 5 _ rfl
    have z0 := K2.out.size
    go_wp2_with fail
    refine (HLE.out _).mono ?_
    rintro e w3 ⟨rfl, hb3⟩
    have K3 : Hid (Rows3 w w3 [.int .u64 (s : Nat), .int .u64 (d0 : Nat), .int .u64 (d1 : Nat), .int .u64 (d2 : Nat), .int .u64 (d3 : Nat), .int .i64 p] [.int .i64 3] [.int .u64 0, .int .u64 0, .int .u64 0, .int .i64 0]) := K2.out.later hb3
    clear hb3 x0 x1 x2 x3 x4 x5 z0 K2
    go_wp2_with fail
    refine (HRE.out (w.heap.size + 1) w3 (K3.out.y.cells 0 _ rfl)).mono ?_
    rintro e w4 ⟨W, hW1, hW2, hW3, rfl, hb4⟩
    have HW : Hid (W < 18446744073709551616 ∧ pw3 W ≤ G ∧ G < pw3 (W + 1)) := ⟨hW1, hW2, hW3⟩
    have K4 : Hid (Rows3 w w4 [.int .u64 (s : Nat), .int .u64 (d0 : Nat), .int .u64 (d1 : Nat), .int .u64 (d2 : Nat), .int .u64 (d3 : Nat), .int .i64 p] [.int .i64 3] [.int .u64 0, .int .u64 0, .int .u64 0, .int .i64 0]) := K3.out.later hb4
    clear hb4 hW1 hW2 hW3 K3 HRE HLE
    obtain ⟨O, hO⟩ : ∃ O, O = odd W (decide (pw3 W = G)) := ⟨_, rfl⟩
    have HO : Hid (O = odd W (decide (pw3 W = G))) := hO
    rw [← hO]
    clear hO
    have x0 := K4.out.x.cells 0 _ rfl
    have x1 := K4.out.x.cells 1 _ rfl
    have x2 := K4.out.x.cells 2 _ rfl
    have x3 := K4.out.x.cells 3 _ rfl
    have x4 := K4.out.x.cells 4 _ rfl
    have x5 := K4.out.x.cells 5 _ rfl
    have y0 := K4.out.y.cells 0 _ rfl
    have r0 := K4.out.r.cells 0 _ rfl
    have r1 := K4.out.r.cells 1 _ rfl
    have r2 := K4.out.r.cells 2 _ rfl
    have r3 := K4.out.r.cells 3 _ rfl
    have q0 := K4.out.r.live 0 _ rfl
    have q1 := K4.out.r.live 1 _ rfl
    have q2 := K4.out.r.live 2 _ rfl
    have q3 := K4.out.r.live 3 _ rfl
    have z0 := K4.out.size
    go_upto_region 4 with fail
    go_region_held3 (fun w' => w'.cell? ⟨w.heap.size, 0, none⟩ = some (.int .u64 (s : Nat)) ∧ w'.cell? ⟨w.heap.size, 5, none⟩ = some (.int .i64 p) ∧ w'.cell? ⟨w.heap.size + 1, 0, none⟩ = some (.int .i64 3))
      (first | (with_reducible exact ⟨x0, x5, y0⟩) | ((with_reducible refine ⟨?_, ?_, ?_⟩) <;> (rw [cellSet4d _ _ _ _ _ _ _ (by first | (simp; done) | (simp; omega))]; assumption)) | (go_keep; done)) (fail)
    all_goals (try go_wp2_with fail)
    all_goals go_light
    all_goals refine bodyPost_ret (v := .agg #[.int .u64 (s : Nat), .int .u64 (O : Nat), .int .u64 0, .int .i64 RP]) (results_rt rfl (((((K4.out.r.set 0 _ (by simp)).set 1 _ (by simp)).set 2 _ (by simp)).set 3 _ (by simp)).drew)) rfl ⟨W, HW.out.1, HW.out.2.1, HW.out.2.2, by rw [HO.out], ?_⟩
    all_goals exact (((((K4.out.below.setCell (by simp <;> omega) _).setCell (by simp <;> omega) _).setCell (by simp <;> omega) _).setCell (by simp <;> omega) _)).drew


theorem Rows2.drew {w w1 : World} {xs rs : List Value} (h : Rows2 w w1 xs rs) : Rows2 w w1.drew xs rs := ⟨h.below.drew, h.size, h.x.drew, h.r.drew⟩
theorem Rows2.alloc {w w1 : World} {xs rs : List Value} (h : Rows2 w w1 xs rs) (o : Obj) : Rows2 w (w1.alloc o) xs rs := ⟨h.below.alloc h.below.size _, by have := h.size; simp; omega, h.x.alloc _, h.r.alloc _⟩
theorem results_iv {tmps : Array Value} {U : World} {g : Nat} {a0 a1 a2 a3 : Value} (h6 : tmps.getD 2 undef = .pointer (some ⟨g, 0, none⟩)) (h : Blk U g [a0, a1, a2, a3]) :
    (results Tryd.f47 tmps).run Tryd.prog U = .ok (.agg #[a0, a1, a2, a3]) U := by
  have c0 := h.cells 0 _ rfl
  have c1 := h.cells 1 _ rfl
  have c2 := h.cells 2 _ rfl
  have c3 := h.cells 3 _ rfl
  have h6' : tmps[2]?.getD undef = .pointer (some ⟨g, 0, none⟩) := by simpa using h6
  simp [results, Tryd.results47, go_sem, h6', c0, c1, c2, c3]
def ivL (D : Nat) (p : Int) : Int := liftN 2 p (64 - Go.bitLen D)
def ivE (D : Nat) (p : Int) : Nat := D * 2 ^ (ivL D p).toNat
def ivP (D : Nat) (p : Int) : Int := -(188 + p - ivL D p) / 2

theorem bl_pos {D : Nat} (h0 : D ≠ 0) : 0 < Go.bitLen D := Nat.pos_of_ne_zero fun e => h0 (by have := (Go.bitLen_spec D).1; rw [e] at this; omega)
theorem ivL_range {D : Nat} {p : Int} (h0 : D ≠ 0) (hD : D < 9007199254740992) : 10 ≤ ivL D p ∧ ivL D p ≤ 63 ∧ Go.bitLen D + (ivL D p).toNat ≤ 64 ∧ 63 ≤ Go.bitLen D + (ivL D p).toNat := by
  have h1 := liftN_le (d := 2) (p := p) (r := 64 - (Go.bitLen D : Int)) (by omega)
  have h2 := bitLen_le (D := D) (n := 53) hD
  have h3 := bl_pos h0
  unfold ivL at *
  omega
theorem ivE_lt {D : Nat} {p : Int} (h0 : D ≠ 0) (hD : D < 9007199254740992) : ivE D p < 18446744073709551616 ∧ 2 ^ 62 ≤ ivE D p := by
  obtain ⟨h1, h2, h3, h4⟩ := ivL_range (p := p) h0 hD
  have g := Go.bitLen_spec D
  unfold ivE
  constructor
  · refine Nat.lt_of_lt_of_le (Nat.mul_lt_mul_of_pos_right g.1 (Nat.two_pow_pos _)) ?_
    rw [← Nat.pow_add]
    exact Nat.le_trans (Nat.pow_le_pow_right (by decide) h3) (by decide)
  · refine Nat.le_trans ?_ (Nat.mul_le_mul_right _ (g.2 h0))
    rw [← Nat.pow_add]
    exact Nat.pow_le_pow_right (by decide) (by have := bl_pos h0; omega)

set_option maxHeartbeats 4000000 in
set_option maxRecDepth 10000 in
theorem exactInverseRoot_any (s D : Nat) (p : Int) (h0 : D ≠ 0) (hD : D < 9007199254740992) (hp : -10000 ≤ p ∧ p ≤ 10000) (w : World) :
    Calls Tryd.prog 47 #[.agg #[.int .u64 s, .int .u64 (D : Nat), .int .u64 0, .int .i64 p]] w fun e w' =>
      ∃ W, W < 18446744073709551616 ∧ W * W * ivE D p ≤ 2 ^ 188 ∧ 2 ^ 188 < (W + 1) * (W + 1) * ivE D p ∧ e = .returned (.agg #[.int .u64 0, .int .u64 (odd W (decide (W * W * ivE D p = 2 ^ 188)) : Nat), .int .u64 0, .int .i64 (ivP D p)]) ∧ Below w.heap.size w w' := by
  obtain ⟨l1, l2, l3, l4⟩ := ivL_range (p := p) h0 hD
  obtain ⟨e1, e2⟩ := ivE_lt (p := p) h0 hD
  have hbl := bitLen_le (D := D) (n := 53) hD
  have HLZ : Hid (∀ w, Calls Tryd.prog 55 #[.int .u64 (D : Nat)] w fun e w' => e = .returned (.int .i64 (64 - Go.bitLen D)) ∧ w' = w) := fun w => lz64_any D (by omega) w
  have HLF : Hid (∀ w, Calls Tryd.prog 59 #[.int .i64 2, .int .i64 p, .int .i64 (64 - Go.bitLen D)] w fun e w' => e = .returned (.int .i64 (ivL D p)) ∧ w' = w) := fun w => liftFor_any 2 p (64 - Go.bitLen D) (by decide) (by omega) (by omega) w
  have HLE : Hid (∀ w, Calls Tryd.prog 62 #[.agg #[.int .u64 1, .int .u64 0, .int .u64 0, .int .u64 0], .int .u64 188] w fun e w' => e = .returned (.agg #[.int .u64 (wd (2 ^ 188) 0 : Nat), .int .u64 (wd (2 ^ 188) 1 : Nat), .int .u64 (wd (2 ^ 188) 2 : Nat), .int .u64 (wd (2 ^ 188) 3 : Nat)]) ∧ Below w.heap.size w w') := fun w => by
    have := W4.left_any 1 (by decide) 188 (by decide) (by decide) w
    rw [Nat.one_mul] at this
    exact this
  have HRE : Hid (∀ b w1, w1.cell? ⟨b, 0, none⟩ = some (.int .u64 (ivE D p : Nat)) → Calls Tryd.prog 61 #[.agg #[.int .u64 (wd (2 ^ 188) 0 : Nat), .int .u64 (wd (2 ^ 188) 1 : Nat), .int .u64 (wd (2 ^ 188) 2 : Nat), .int .u64 (wd (2 ^ 188) 3 : Nat)], .func (.func 65) #[] #[.pointer (some ⟨b, 0, none⟩)]] w1 fun e w' => ∃ W, W < 18446744073709551616 ∧ W * W * ivE D p ≤ 2 ^ 188 ∧ 2 ^ 188 < (W + 1) * (W + 1) * ivE D p ∧ e = .returned (.int .u64 (odd W (decide (W * W * ivE D p = 2 ^ 188)) : Nat)) ∧ Below w1.heap.size w1 w') := fun b w1 hc =>
    reach_any w1 65 (.pointer (some ⟨b, 0, none⟩)) (fun x => x * x * ivE D p) (2 ^ 188) (by decide) (fun x hx => by
        have h1 := Nat.mul_lt_mul'' (sq_grows x _ hx) e1
        exact Nat.lt_of_lt_of_le h1 (by decide)) (by simp) (by
        have h1 := Nat.mul_le_mul_left (18446744073709551616 * 18446744073709551616) e2
        exact Nat.lt_of_lt_of_le (by decide) h1) (enters_of Tryd.func65 (by kernel_rfl) rfl) (fun x w2 hx hb => inverse_value b (ivE D p) x e1 hx w2 ((hb.cell (p := ⟨b, 0, none⟩) (block_lt_of_cell hc)).trans hc))
  have hE : IntKind.u64.wrap ((D : Int) * 2 ^ (ivL D p).toNat) = ((ivE D p : Nat) : Int) := by
    have e : ((ivE D p : Nat) : Int) = (D : Int) * 2 ^ (ivL D p).toNat := by unfold ivE; rw [Int.natCast_mul, Int.natCast_pow]; rfl
    rw [← e]
    exact wrapU _ (by omega) (by omega)
  have hdv : (-(188 + p - ivL D p)).tdiv 2 = ivP D p := Int.tdiv_eq_ediv_of_dvd (by
    obtain ⟨k, hk⟩ := liftN_dvd 2 p (64 - Go.bitLen D)
    exact ⟨-(k + 94), by unfold ivL; omega⟩)
  have hPr : -20000 ≤ ivP D p ∧ ivP D p ≤ 20000 := by unfold ivP; omega
  have HQ : Hid (wrap64 (-(188 + p - ivL D p).tdiv 2) = ivP D p) := (by rw [← Int.neg_tdiv, hdv]; unfold wrap64; omega : wrap64 (-(188 + p - ivL D p).tdiv 2) = ivP D p)
  clear h0 hD hbl l3 l4 e2 hdv
  generalize ivP D p = RP at *
  generalize ivL D p = L at *
  generalize wd (2 ^ 188) 0 = g0 at *
  generalize wd (2 ^ 188) 1 = g1 at *
  generalize wd (2 ^ 188) 2 = g2 at *
  generalize wd (2 ^ 188) 3 = g3 at *
  generalize ivE D p = E at *
  generalize (2 : Nat) ^ 188 = G at *
  generalize (64 - (Go.bitLen D : Int)) = R at *
  obtain ⟨p1, p2⟩ := hp
  have K0 : Hid (Rows2 w ((w.alloc (.cells #[.int .u64 (s : Nat), .int .u64 (D : Nat), .int .u64 0, .int .i64 p] 59)).alloc (.cells #[.int .u64 0, .int .u64 0, .int .u64 0, .int .i64 0] 59)) [.int .u64 (s : Nat), .int .u64 (D : Nat), .int .u64 0, .int .i64 p] [.int .u64 0, .int .u64 0, .int .u64 0, .int .i64 0]) := Rows2.start w _ _ _ _ (by simp) (by simp)
  go_enter Tryd.func47, Tryd.ntmps47
  go_upto_region 1 with fail
  go_cut [3] from 7 to 33 (fun s3 wx => s3 = .int .i64 L ∧ Rows2 w wx [.int .u64 (s : Nat), .int .u64 (D : Nat), .int .u64 0, .int .i64 p] [.int .u64 0, .int .u64 0, .int .u64 0, .int .i64 0])
  case first =>
    go_region_held3 (fun w' => w'.cell? ⟨w.heap.size, 0, none⟩ = some (.int .u64 (s : Nat)) ∧ w'.cell? ⟨w.heap.size, 1, none⟩ = some (.int .u64 (D : Nat)) ∧ w'.cell? ⟨w.heap.size, 2, none⟩ = some (.int .u64 0) ∧ w'.cell? ⟨w.heap.size, 3, none⟩ = some (.int .i64 p))
      (go_keep)
      (first | (go_at_call 55; refine (HLZ.out _).mono ?_; rintro e w' ⟨rfl, rfl⟩) | (go_at_call 59; refine (HLF.out _).mono ?_; rintro e w' ⟨rfl, rfl⟩))
    all_goals (try go_wp2_with fail)
    all_goals go_meet
    all_goals go_light
    all_goals exact ⟨rfl, by repeat (with_reducible first | exact K0.out | refine Rows2.drew ?_)⟩
  case rest =>
    obtain ⟨rfl, hcut⟩ := hcut
    have K2 : Hid (Rows2 w wc [.int .u64 (s : Nat), .int .u64 (D : Nat), .int .u64 0, .int .i64 p] [.int .u64 0, .int .u64 0, .int .u64 0, .int .i64 0]) := hcut
    clear hcut K0 HLZ HLF
    have x0 := K2.out.x.cells 0 _ rfl
    have x1 := K2.out.x.cells 1 _ rfl
    have x2 := K2.out.x.cells 2 _ rfl
    have x3 := K2.out.x.cells 3 _ rfl
    have z0 := K2.out.size
    go_wp2_with fail
    refine (HLE.out _).mono ?_
    rintro e w3 ⟨rfl, hb3⟩
    have N3 : Hid (Blk w3 wc.heap.size [.int .u64 (E : Nat)]) := Blk.later (Blk.new _ _ _ (by simp)) hb3
    have K3 : Hid (Rows2 w w3 [.int .u64 (s : Nat), .int .u64 (D : Nat), .int .u64 0, .int .i64 p] [.int .u64 0, .int .u64 0, .int .u64 0, .int .i64 0]) := (K2.out.alloc _).later hb3
    clear hb3 x0 x1 x2 x3 K2 HLE
    have z1 := K3.out.size
    go_wp2_with fail
    refine (HRE.out wc.heap.size _ (by exact (N3.out.alloc _).cells 0 _ rfl)).mono ?_
    rintro e w4 ⟨W, hW1, hW2, hW3, rfl, hb4⟩
    have HW : Hid (W < 18446744073709551616 ∧ W * W * E ≤ G ∧ G < (W + 1) * (W + 1) * E) := ⟨hW1, hW2, hW3⟩
    have K4 : Hid (Rows2 w w4 [.int .u64 (s : Nat), .int .u64 (D : Nat), .int .u64 0, .int .i64 p] [.int .u64 0, .int .u64 0, .int .u64 0, .int .i64 0]) := (K3.out.alloc _).later hb4
    clear hb4 hW1 hW2 hW3 K3 HRE z1 z0 N3
    obtain ⟨O, hO⟩ : ∃ O, O = odd W (decide (W * W * E = G)) := ⟨_, rfl⟩
    have HO : Hid (O = odd W (decide (W * W * E = G))) := hO
    rw [← hO]
    clear hO
    have x0 := K4.out.x.cells 0 _ rfl
    have x1 := K4.out.x.cells 1 _ rfl
    have x2 := K4.out.x.cells 2 _ rfl
    have x3 := K4.out.x.cells 3 _ rfl
    have r0 := K4.out.r.cells 0 _ rfl
    have r1 := K4.out.r.cells 1 _ rfl
    have r2 := K4.out.r.cells 2 _ rfl
    have r3 := K4.out.r.cells 3 _ rfl
    have q0 := K4.out.r.live 0 _ rfl
    have q1 := K4.out.r.live 1 _ rfl
    have q2 := K4.out.r.live 2 _ rfl
    have q3 := K4.out.r.live 3 _ rfl
    have z0 := K4.out.size
    go_wp2_with fail
    go_light
    refine bodyPost_ret (v := .agg #[.int .u64 0, .int .u64 (O : Nat), .int .u64 0, .int .i64 (wrap64 (-(188 + p - L).tdiv 2))]) (results_iv rfl ((((K4.out.r.set 0 _ (by simp)).set 1 _ (by simp)).set 2 _ (by simp)).set 3 _ (by simp))) rfl ⟨W, HW.out.1, HW.out.2.1, HW.out.2.2, by rw [HO.out, HQ.out], ?_⟩
    exact ((((K4.out.below.setCell (by simp <;> omega) _).setCell (by simp <;> omega) _).setCell (by simp <;> omega) _).setCell (by simp <;> omega) _)

end Go.Proofs.YtcjihaafohnbeaaDoor
