import Derived.Test.YtcjihaafohnbeaaDoorWords
import Derived.Deep.RegionHeld3
import Derived.Deep.Light
import Derived.Deep.Cut
import Derived.Deep.CutRange
namespace Go.Proofs.YtcjihaafohnbeaaDoor
open Go.RowKit

theorem frozenSet (w : World) (p a : Addr) (v : Value) : (w.setCell p v).frozen? a = w.frozen? a := by
  simp
theorem cellSet (w : World) (p a : Addr) (v : Value) (h : a.block ≠ p.block) : (w.setCell p v).cell? a = w.cell? a := World.cell?_of_block (w := w) (heap_setCell_other w p a.block v h)

/-- A block's cells, as they lie, none of them frozen. -/
structure Blk (w : World) (b : Nat) (vs : List Value) : Prop where
  ne : 0 < vs.length
  cells : ∀ i v, vs[i]? = some v → w.cell? ⟨b, i, none⟩ = some v
  live : ∀ i v, vs[i]? = some v → w.frozen? ⟨b, i, none⟩ = false
theorem Blk.lt {w : World} {b : Nat} {vs : List Value} (h : Blk w b vs) : b < w.heap.size :=
  block_lt_of_cell (h.cells 0 (vs[0]'h.ne) (List.getElem?_eq_getElem h.ne))
theorem Blk.new (w : World) (vs : List Value) (t : TypeId) (hn : 0 < vs.length) : Blk (w.alloc (.cells vs.toArray t)) w.heap.size vs :=
  ⟨hn, fun i v h => by rw [World.cell?_alloc_new]; simpa using h, fun i v _ => World.frozen?_alloc_new _ _ _ _⟩
theorem Blk.alloc {w : World} {b : Nat} {vs : List Value} (h : Blk w b vs) (o : Obj) : Blk (w.alloc o) b vs :=
  ⟨h.ne, fun i v e => (World.cell?_alloc_lt _ _ _ h.lt).trans (h.cells i v e), fun i v e => (World.frozen?_alloc_old _ _ _ (Nat.ne_of_lt h.lt)).trans (h.live i v e)⟩
theorem Blk.drew {w : World} {b : Nat} {vs : List Value} (h : Blk w b vs) : Blk w.drew b vs := ⟨h.ne, h.cells, h.live⟩
theorem Blk.below {w w' : World} {B b : Nat} {vs : List Value} (h : Blk w b vs) (hb : Below B w w') (hlt : b < B) : Blk w' b vs :=
  ⟨h.ne, fun i v e => (hb.cell (p := ⟨b, i, none⟩) hlt).trans (h.cells i v e), fun i v e => (hb.frozen (p := ⟨b, i, none⟩) hlt).trans (h.live i v e)⟩
theorem Blk.later {w w' : World} {b : Nat} {vs : List Value} (h : Blk w b vs) (hb : Below w.heap.size w w') : Blk w' b vs := h.below hb h.lt
theorem Blk.other {w : World} {b : Nat} {vs : List Value} (h : Blk w b vs) (p : Addr) (x : Value) (hp : b ≠ p.block) : Blk (w.setCell p x) b vs :=
  ⟨h.ne, fun i v e => (World.cell?_of_block (w := w) (heap_setCell_other w p b x hp)).trans (h.cells i v e), fun i v e => (frozenSet _ _ _ _).trans (h.live i v e)⟩
theorem Blk.set {w : World} {b : Nat} {vs : List Value} (h : Blk w b vs) (i : Nat) (x : Value) (hi : i < vs.length) : Blk (w.setCell ⟨b, i, none⟩ x) b (vs.set i x) := by
  refine ⟨by rw [List.length_set]; exact h.ne, fun j v e => ?_, fun j v e => ?_⟩
  · by_cases hj : i = j
    · subst hj
      rw [List.getElem?_set_self hi] at e
      obtain rfl := Option.some.inj e
      exact World.cell?_setCell_same _ _ _ (h.cells i (vs[i]'hi) (List.getElem?_eq_getElem hi))
    · rw [List.getElem?_set_ne hj] at e
      refine (World.cell?_setCell_other _ _ _ _ ?_).trans (h.cells j v e)
      intro he
      exact hj (by injection he)
  · by_cases hj : i = j
    · subst hj
      exact (frozenSet _ _ _ _).trans (h.live i (vs[i]'hi) (List.getElem?_eq_getElem hi))
    · rw [List.getElem?_set_ne hj] at e
      exact (frozenSet _ _ _ _).trans (h.live j v e)
theorem Blk.keepX {wr : World} {N g i : Nat} {vs : List Value} {x : Value} {o1 o2 : Obj} (h : Blk wr N vs) (hg : N ≠ g) : Blk (((wr.setCell ⟨g, i, none⟩ x).alloc o1).alloc o2).drew N vs :=
  (((h.other ⟨g, i, none⟩ x hg).alloc o1).alloc o2).drew

/-- What the loops that lay words keep: what they read, the result's place, the words laid so far. -/
structure Laying (w : World) (xs rs os : List Value) (wr : World) : Prop where
  below : Below w.heap.size w wr
  size : w.heap.size + 2 < wr.heap.size
  x : Blk wr w.heap.size xs
  r : Blk wr (w.heap.size + 1) rs
  o : Blk wr (w.heap.size + 2) os
theorem Laying.start (w : World) (xs rs os : List Value) (t t' t'' : TypeId) (h1 : 0 < xs.length) (h2 : 0 < rs.length) (h3 : 0 < os.length) :
    Laying w xs rs os (((w.alloc (.cells xs.toArray t)).alloc (.cells rs.toArray t')).alloc (.cells os.toArray t'')) := by
  refine ⟨(((Below.refl _ _).alloc (Nat.le_refl _) _).alloc (by simp) _).alloc (by simp; omega) _, by simp, ((Blk.new _ _ _ h1).alloc _).alloc _, ?_, ?_⟩
  · have h := Blk.new (w.alloc (.cells xs.toArray t)) rs t' h2
    rw [World.size_alloc] at h
    exact h.alloc _
  · have h := Blk.new ((w.alloc (.cells xs.toArray t)).alloc (.cells rs.toArray t')) os t'' h3
    rw [World.size_alloc, World.size_alloc] at h
    exact h
theorem Laying.setO {w wr : World} {xs rs os : List Value} (h : Laying w xs rs os wr) (i : Nat) (v : Value) {g : Nat} (hg : g = w.heap.size + 2) (hi : i < os.length) : Laying w xs rs (os.set i v) (wr.setCell ⟨g, i, none⟩ v) := by
  subst hg
  exact ⟨h.below.setCell (by simp) _, by simpa using h.size, h.x.other _ _ (by simp), h.r.other _ _ (by simp), h.o.set i v hi⟩
theorem Laying.alloc {w wr : World} {xs rs os : List Value} (h : Laying w xs rs os wr) (o : Obj) : Laying w xs rs os (wr.alloc o) :=
  ⟨h.below.alloc h.below.size _, by have := h.size; simp; omega, h.x.alloc _, h.r.alloc _, h.o.alloc _⟩
theorem Laying.drew {w wr : World} {xs rs os : List Value} (h : Laying w xs rs os wr) : Laying w xs rs os wr.drew :=
  ⟨h.below.drew, h.size, h.x.drew, h.r.drew, h.o.drew⟩
theorem Laying.later {w wr w' : World} {xs rs os : List Value} (h : Laying w xs rs os wr) (hb : Below wr.heap.size wr w') : Laying w xs rs os w' :=
  ⟨h.below.trans (hb.mono h.below.size), Nat.lt_of_lt_of_le h.size hb.size, h.x.later hb, h.r.later hb, h.o.later hb⟩

theorem wrapI (x : Int) (h0 : -9223372036854775808 ≤ x) (h1 : x ≤ 9223372036854775807) : IntKind.i64.wrap x = x := by rw [IntKind.wrap_i64]; omega
theorem wrapU (x : Int) (h0 : 0 ≤ x) (h1 : x < 18446744073709551616) : IntKind.u64.wrap x = x := by rw [IntKind.wrap_u64]; omega

/-- The words that a shift lays, as the walk has them. -/
theorem left_w (D i : Nat) (n : Int) (h : 0 ≤ n) : bits .or .u64 (IntKind.u64.wrap (wdI D ((i : Int) - n / 64) * 2 ^ (n % 64).toNat)) (wdI D ((i : Int) - n / 64 - 1) / 2 ^ min (64 - n % 64).toNat 64) = (wd (D * 2 ^ n.toNat) i : Int) := by
  obtain ⟨k, rfl⟩ := Int.eq_ofNat_of_zero_le h
  rw [IntKind.wrap_u64]
  have := wd_left (D := D) (n := k) (q := k / 64) (s := k % 64) (i := i) (by omega) (by omega)
  rw [show min (64 - (k : Int) % 64).toNat 64 = 64 - k % 64 by omega, show ((k : Int) % 64).toNat = k % 64 by omega, show (k : Int) / 64 = ((k / 64 : Nat) : Int) by omega]
  simpa using this
theorem cut_w (D i : Nat) (n : Int) (h : 0 ≤ n) : bits .or .u64 (wdI D ((i : Int) + n / 64) / 2 ^ (n % 64).toNat) (IntKind.u64.wrap (wdI D ((i : Int) + n / 64 + 1) * 2 ^ min (64 - n % 64).toNat 64)) = (wd (D / 2 ^ n.toNat) i : Int) := by
  obtain ⟨k, rfl⟩ := Int.eq_ofNat_of_zero_le h
  rw [IntKind.wrap_u64]
  have := wd_cut (D := D) (n := k) (q := k / 64) (s := k % 64) (i := i) (by omega) (by omega)
  rw [show min (64 - (k : Int) % 64).toNat 64 = 64 - k % 64 by omega, show ((k : Int) % 64).toNat = k % 64 by omega, show (k : Int) / 64 = ((k / 64 : Nat) : Int) by omega]
  simpa using this
theorem left_w0 (D : Nat) (n : Int) (h : 0 ≤ n) : bits .or .u64 (IntKind.u64.wrap (wdI D (-(n / 64)) * 2 ^ (n % 64).toNat)) (wdI D (-(n / 64) - 1) / 2 ^ min (64 - n % 64).toNat 64) = (wd (D * 2 ^ n.toNat) 0 : Int) := by
  have := left_w D 0 n h
  rw [show ((0 : Nat) : Int) - n / 64 = -(n / 64) by omega] at this
  exact this
theorem cut_w0 (D : Nat) (n : Int) (h : 0 ≤ n) : bits .or .u64 (wdI D (n / 64) / 2 ^ (n % 64).toNat) (IntKind.u64.wrap (wdI D (n / 64 + 1) * 2 ^ min (64 - n % 64).toNat 64)) = (wd (D / 2 ^ n.toNat) 0 : Int) := by
  have := cut_w D 0 n h
  rw [show ((0 : Nat) : Int) + n / 64 = n / 64 by omega] at this
  exact this

/-- Sums and differences, word by word. -/
def car (D E k : Nat) : Nat := (D % 18446744073709551616 ^ k + E % 18446744073709551616 ^ k) / 18446744073709551616 ^ k
theorem big_pos (k : Nat) : 0 < 18446744073709551616 ^ k := Nat.pow_pos (by decide)
theorem car_zero (D E : Nat) : car D E 0 = 0 := by unfold car; simp [Nat.mod_one]
theorem car_le (D E k : Nat) : car D E k ≤ 1 := by
  unfold car
  have h1 := Nat.mod_lt D (big_pos k)
  have h2 := Nat.mod_lt E (big_pos k)
  have : (D % 18446744073709551616 ^ k + E % 18446744073709551616 ^ k) / 18446744073709551616 ^ k < 2 := by rw [Nat.div_lt_iff_lt_mul (big_pos k)]; omega
  omega
theorem mod_next (D k : Nat) : D % 18446744073709551616 ^ (k + 1) = D % 18446744073709551616 ^ k + 18446744073709551616 ^ k * wd D k := by
  unfold wd
  rw [Nat.pow_succ, Nat.mod_mul]
theorem car_next (D E k : Nat) : car D E (k + 1) = (wd D k + wd E k + car D E k) / 18446744073709551616 := by
  unfold car
  rw [mod_next, mod_next, show D % 18446744073709551616 ^ k + 18446744073709551616 ^ k * wd D k + (E % 18446744073709551616 ^ k + 18446744073709551616 ^ k * wd E k) = (D % 18446744073709551616 ^ k + E % 18446744073709551616 ^ k) + 18446744073709551616 ^ k * (wd D k + wd E k) by rw [Nat.mul_add]; omega,
    Nat.pow_succ, ← Nat.div_div_eq_div_mul, Nat.add_mul_div_left _ _ (big_pos k), Nat.add_comm]
theorem wd_add (D E k : Nat) : wd (D + E) k = (wd D k + wd E k + car D E k) % 18446744073709551616 := by
  have h1 := Nat.div_add_mod D (18446744073709551616 ^ k)
  have h2 := Nat.div_add_mod E (18446744073709551616 ^ k)
  have : (D + E) / 18446744073709551616 ^ k = D / 18446744073709551616 ^ k + E / 18446744073709551616 ^ k + car D E k := by
    unfold car
    conv => lhs; rw [← h1, ← h2]
    rw [show 18446744073709551616 ^ k * (D / 18446744073709551616 ^ k) + D % 18446744073709551616 ^ k + (18446744073709551616 ^ k * (E / 18446744073709551616 ^ k) + E % 18446744073709551616 ^ k) = (D % 18446744073709551616 ^ k + E % 18446744073709551616 ^ k) + 18446744073709551616 ^ k * (D / 18446744073709551616 ^ k + E / 18446744073709551616 ^ k) by rw [Nat.mul_add]; omega, Nat.add_mul_div_left _ _ (big_pos k), Nat.add_comm]
  unfold wd
  rw [this]
  omega
def bor (D E k : Nat) : Nat := if D % 18446744073709551616 ^ k < E % 18446744073709551616 ^ k then 1 else 0
theorem bor_zero (D E : Nat) : bor D E 0 = 0 := by unfold bor; simp [Nat.mod_one]
theorem bor_le (D E k : Nat) : bor D E k ≤ 1 := by unfold bor; split <;> omega
theorem bor_next (D E k : Nat) : bor D E (k + 1) = if wd D k < wd E k + bor D E k then 1 else 0 := by
  have h1 := Nat.mod_lt D (big_pos k)
  have h2 := Nat.mod_lt E (big_pos k)
  unfold bor
  rw [mod_next, mod_next]
  generalize 18446744073709551616 ^ k = P at *
  generalize D % P = a at *
  generalize E % P = b at *
  by_cases hlt : wd D k < wd E k
  · have : P * (wd D k + 1) ≤ P * wd E k := Nat.mul_le_mul_left _ hlt
    rw [Nat.mul_add, Nat.mul_one] at this
    rw [if_pos (by omega), if_pos (by omega)]
  · by_cases he : wd D k = wd E k
    · rw [he]
      by_cases hab : a < b
      · rw [if_pos (by omega), if_pos hab, if_pos (by omega)]
      · rw [if_neg (by omega), if_neg hab, if_neg (by omega)]
    · have : P * (wd E k + 1) ≤ P * wd D k := Nat.mul_le_mul_left _ (by omega)
      rw [Nat.mul_add, Nat.mul_one] at this
      rw [if_neg (by omega), if_neg (by split <;> omega)]
theorem wd_plus (A W k : Nat) (h : k < W) : wd (A + 18446744073709551616 ^ W) k = wd A k := by
  obtain ⟨j, rfl⟩ : ∃ j, W = k + (j + 1) := ⟨W - k - 1, by omega⟩
  unfold wd
  rw [Nat.pow_add, Nat.add_mul_div_left _ _ (big_pos k), Nat.pow_succ, Nat.add_mul_mod_self_right]
/-- D - E, or what it wraps round to. -/
def difW (W D E : Nat) : Nat := if E ≤ D then D - E else D + 18446744073709551616 ^ W - E
theorem wd_dif {W D E k : Nat} (hE : E < 18446744073709551616 ^ W) (h : k < W) : (wd (difW W D E) k : Int) = ((wd D k : Int) - wd E k - bor D E k) % 18446744073709551616 := by
  have hz : wd (difW W D E) k = wd (D + 18446744073709551616 ^ W - E) k := by
    unfold difW
    by_cases he : E ≤ D
    · rw [if_pos he, ← wd_plus (D - E) W k h]; congr 1; omega
    · rw [if_neg he]
  rw [hz]
  obtain ⟨j, hj⟩ : ∃ j, W = k + (j + 1) := ⟨W - k - 1, by omega⟩
  have h1 := Nat.div_add_mod D (18446744073709551616 ^ k)
  have h2 := Nat.div_add_mod E (18446744073709551616 ^ k)
  have l1 := Nat.mod_lt D (big_pos k)
  have l2 := Nat.mod_lt E (big_pos k)
  have hW : 18446744073709551616 ^ W = 18446744073709551616 ^ k * (18446744073709551616 ^ j * 18446744073709551616) := by rw [hj, Nat.pow_add, Nat.pow_succ]
  have hlt : E / 18446744073709551616 ^ k < 18446744073709551616 ^ j * 18446744073709551616 := by
    rw [Nat.div_lt_iff_lt_mul (big_pos k), Nat.mul_comm, ← hW]; exact hE
  unfold wd bor
  rw [hW]
  generalize 18446744073709551616 ^ k = P at *
  generalize 18446744073709551616 ^ j = J at *
  generalize D / P = a at *
  generalize E / P = b at *
  have key : (D + P * (J * 18446744073709551616) - E) / P = a + J * 18446744073709551616 - b - (if D % P < E % P then 1 else 0) := by
    obtain ⟨c, hc⟩ : ∃ c, J * 18446744073709551616 = b + 1 + c := ⟨J * 18446744073709551616 - b - 1, by omega⟩
    rw [hc]
    have e : P * (b + 1 + c) = P * b + P + P * c := by rw [Nat.mul_add, Nat.mul_add, Nat.mul_one]
    rw [e]
    by_cases hl : D % P < E % P
    · rw [if_pos hl, show D + (P * b + P + P * c) - E = (P + D % P - E % P) + P * (a + c) by rw [Nat.mul_add]; omega, Nat.add_mul_div_left _ _ (by omega), Nat.div_eq_of_lt (by omega)]
      omega
    · rw [if_neg hl, show D + (P * b + P + P * c) - E = (D % P - E % P) + P * (a + 1 + c) by rw [Nat.mul_add, Nat.mul_add, Nat.mul_one]; omega, Nat.add_mul_div_left _ _ (by omega), Nat.div_eq_of_lt (by omega)]
      omega
  rw [key]
  split <;> omega

theorem bitLen_at {D i : Nat} (h : D < 18446744073709551616 ^ (i + 1)) (hn : wd D i ≠ 0) : Go.bitLen D = 64 * i + Go.bitLen (wd D i) := by
  have hw : wd D i = D / 18446744073709551616 ^ i := by
    unfold wd
    apply Nat.mod_eq_of_lt
    rw [Nat.div_lt_iff_lt_mul (big_pos i), Nat.mul_comm, ← Nat.pow_succ]
    exact h
  have := Go.bitLen_shift D (64 * i) (by rw [← big_pow, ← hw]; exact hn)
  rw [← big_pow, ← hw] at this
  omega
theorem lt_down {D i : Nat} (h : D < 18446744073709551616 ^ (i + 1)) (hn : wd D i = 0) : D < 18446744073709551616 ^ i := by
  have hw : wd D i = D / 18446744073709551616 ^ i := by
    unfold wd
    apply Nat.mod_eq_of_lt
    rw [Nat.div_lt_iff_lt_mul (big_pos i), Nat.mul_comm, ← Nat.pow_succ]
    exact h
  rw [hw] at hn
  rcases Nat.div_eq_zero_iff.1 hn with h0 | h0
  · have := big_pos i; omega
  · exact h0
theorem bitLen_le {D n : Nat} (h : D < 2 ^ n) : Go.bitLen D ≤ n := by
  by_cases h0 : D = 0
  · subst h0; exact Nat.zero_le _
  · have h1 := (Go.bitLen_spec D).2 (by omega)
    have := (Nat.pow_lt_pow_iff_right (by decide : 1 < 2)).1 (Nat.lt_of_le_of_lt h1 h)
    omega
end Go.Proofs.YtcjihaafohnbeaaDoor
