import Derived.Test.YtcjihaafohnbeaaDoorRound0
import Derived.OpenShut
import Derived.Lib.LaidTab
import Derived.Test.YtcjihaafohnbeaaDoorRefI
import Derived.Test.YtcjihaafohnbeaaDoorDo
import Derived.Test.YtcjihaafohnbeaaDoorRefK
import Derived.Shelf.Abstract
import Derived.Test.YtcjihaafohnbeaaDoorRefF
namespace Go.Proofs.YtcjihaafohnbeaaDoor
open Go.RowKit

/-- The table's numbers, as the program's text lays them. -/
def tabRows : List (List (List Int)) := [[[0, 0, 1, 2], [0, 0, 1, 2]], [[0, 0, 2, 2], [0, 0, 2, 2]], [[0, 0, 0, 0], [0, 0, 0, 0]], [[0, 2, 2, 2], [0, 0, 0, 0]], [[0, 0, 0, 0], [0, 2, 2, 2]]]
theorem tabRows_grow (m s r : Nat) (hm : m < 5) (hs : s < 2) (hr : r < 4) : ∃ p z, tabRows[m]? = some p ∧ p[s]? = some z ∧ z[r]? = some (grow m s r) := by
  obtain h | h | h | h | h : m = 0 ∨ m = 1 ∨ m = 2 ∨ m = 3 ∨ m = 4 := by omega
  all_goals subst h
  all_goals obtain h | h : s = 0 ∨ s = 1 := by omega
  all_goals subst h
  all_goals obtain h | h | h | h : r = 0 ∨ r = 1 ∨ r = 2 ∨ r = 3 := by omega
  all_goals subst h
  all_goals exact ⟨_, _, rfl, rfl, by decide⟩
theorem tabRows_is : (Rows.laid_softfloat_soft_growth : DataW Unit) = .agg (tabRows.map fun p => .agg (p.map (Lib.tabData .u8))) := rfl
theorem cells4 : Tryd.prog.cellsOf 111 = 4 := by kernel_rfl
theorem cells8 : Tryd.prog.cellsOf 112 = 8 := by kernel_rfl
theorem cells1 : Tryd.prog.cellsOf 5 = 1 := by kernel_rfl
theorem gGrow : Tryd.prog.globalNamed "softfloat/soft.growth" = some 0 := by kernel_rfl
theorem gGrowType : (Tryd.prog.globals[0]?).map (·.type) = some 113 := by kernel_rfl
theorem chunk {cs : List Value} {a b r : Nat} (hb : b + 4 ≤ 8) (hr : r < 4) : ((((cs.drop a).take 8).drop b).take 4)[r]? = cs[a + (b + r)]? := by
  simp only [List.getElem?_take, List.getElem?_drop]
  rw [if_pos hr, if_pos (by omega)]

/-- The table that is laid is the one that the walks read. -/
theorem tab_laid {W : World} (h : laidMet Tryd.prog [("softfloat/soft.growth", Rows.laid_softfloat_soft_growth)] W) : Tab W := by
  obtain ⟨ps, ⟨g', t', cs, fuel, p, q, hg', ht', hvar, hd, _, _⟩, _⟩ := h
  obtain rfl := Option.some.inj (gGrow.symm.trans hg')
  obtain rfl := Option.some.inj (gGrowType.symm.trans ht')
  rw [tabRows_is] at hd
  intro m s r hm hs hr
  obtain ⟨P, Z, hP, hZ, hG⟩ := tabRows_grow m s r hm hs hr
  have hcell := World.var?_cell gGrow hvar (m * 8 + s * 4 + r)
  obtain ⟨xs, fu, _, hx, _, hxl, hxs⟩ := DataW.trod_array Tryd.underlying113 hd
  have e1 : xs.map (·.1) = tabRows.map fun p => (DataW.agg (p.map (Lib.tabData .u8)) : DataW Unit) := by
    have := congrArg Prod.fst hx
    simp only [DataW.agg.injEq] at this
    exact this.symm
  have h1 : (xs.map (·.1))[m]? = some (DataW.agg (P.map (Lib.tabData .u8))) := by rw [e1, List.getElem?_map, hP]; rfl
  rw [List.getElem?_map, Option.map_eq_some_iff] at h1
  obtain ⟨⟨D, q1⟩, hx1, hD⟩ := h1
  simp only at hD
  subst hD
  have h2 := hxs m hm
  rw [hx1, cells8] at h2
  obtain ⟨ys, fu2, _, hy, _, hyl, hys⟩ := DataW.trod_array Tryd.underlying112 h2
  have e2 : ys.map (·.1) = P.map (Lib.tabData .u8) := by
    have := congrArg Prod.fst hy
    simp only [DataW.agg.injEq] at this
    exact this.symm
  have h3 : (ys.map (·.1))[s]? = some (Lib.tabData .u8 Z) := by rw [e2, List.getElem?_map, hZ]; rfl
  rw [List.getElem?_map, Option.map_eq_some_iff] at h3
  obtain ⟨⟨D2, q2⟩, hy1, hD2⟩ := h3
  simp only at hD2
  subst hD2
  have h4 := hys s hs
  rw [hy1, cells4] at h4
  have h5 := Lib.cells_of_tab Tryd.underlying111 Tryd.underlying5 cells1 cells4 h4
  have h6 := chunk (cs := cs.toList) (a := m * 8) (b := s * 4) (r := r) (by omega) hr
  rw [h5, List.getElem?_map, hG] at h6
  rw [hcell, show m * 8 + s * 4 + r = m * 8 + (s * 4 + r) by omega]
  simpa using h6.symm


/-- The sum of two numbers of one power: sign, digits, power. -/
def suS (s1 X s2 Y : Nat) (m : Int) : Nat := if s1 = s2 then s1 else if X = Y then (if m = 4 then 1 else 0) else if Y < X then s1 else s2
def suD (s1 X s2 Y : Nat) : Nat := if s1 = s2 then X + Y else if Y < X then X - Y else Y - X
def suP (s1 X s2 Y : Nat) (P : Int) : Int := if s1 = s2 then P else if X = Y then 0 else P
theorem su_none {s1 X s2 Y : Nat} {m P : Int} (h : s1 ≠ s2 ∧ X = Y) : (suS s1 X s2 Y m : Int) = (if m = 4 then 1 else 0) ∧ suD s1 X s2 Y = 0 ∧ suP s1 X s2 Y P = 0 := by
  obtain ⟨h, rfl⟩ := h
  unfold suS suD suP
  simp only [if_neg h, if_true]
  refine ⟨?_, ?_, trivial⟩
  · split <;> rfl
  · split <;> omega
theorem su_same {s1 X s2 Y : Nat} {m P : Int} (h : s1 = s2) : suS s1 X s2 Y m = s1 ∧ suD s1 X s2 Y = X + Y ∧ suP s1 X s2 Y P = P := by
  unfold suS suD suP
  simp only [if_pos h]
  exact ⟨trivial, trivial, trivial⟩
theorem su_first {s1 X s2 Y : Nat} {m P : Int} (W : Nat) (h : s1 ≠ s2) (g : Y < X) : suS s1 X s2 Y m = s1 ∧ suD s1 X s2 Y = difW W X Y ∧ suP s1 X s2 Y P = P := by
  have g' : ¬ X = Y := by omega
  unfold suS suD suP difW
  simp only [if_neg h, if_neg g', if_pos g, if_pos (Nat.le_of_lt g)]
  exact ⟨trivial, trivial, trivial⟩
theorem su_second {s1 X s2 Y : Nat} {m P : Int} (W : Nat) (h : s1 ≠ s2) (g : X < Y) : suS s1 X s2 Y m = s2 ∧ suD s1 X s2 Y = difW W Y X ∧ suP s1 X s2 Y P = P := by
  have g' : ¬ X = Y := by omega
  have g2 : ¬ Y < X := by omega
  unfold suS suD suP difW
  simp only [if_neg h, if_neg g', if_neg g2, if_pos (Nat.le_of_lt g)]
  exact ⟨trivial, trivial, trivial⟩
theorem xor_one (s : Nat) (hs : s < 2) : bits .xor .u64 (s : Int) 1 = ((1 - s : Nat) : Int) := by
  have := bits_xor_u64_nat s 1 (by omega) (by omega)
  rw [show ((1 : Nat) : Int) = 1 from rfl] at this
  rw [this]
  have h : s = 0 ∨ s = 1 := by omega
  rcases h with rfl | rfl <;> rfl
/-- The program's sum of two numbers, in n places: sign, digits, power. -/
def gsS (n s1 d1 : Nat) (p1 : Int) (s2 d2 : Nat) (p2 m : Int) : Nat :=
  if p2 ≤ p1 then suS s1 (d1 * 2 ^ (lift n d1 (p1 - p2)).toNat) s2 (mk d2 (p1 - p2 - lift n d1 (p1 - p2)).toNat) m else suS s2 (d2 * 2 ^ (lift n d2 (p2 - p1)).toNat) s1 (mk d1 (p2 - p1 - lift n d2 (p2 - p1)).toNat) m
def gsD (n s1 d1 : Nat) (p1 : Int) (s2 d2 : Nat) (p2 : Int) : Nat :=
  if p2 ≤ p1 then suD s1 (d1 * 2 ^ (lift n d1 (p1 - p2)).toNat) s2 (mk d2 (p1 - p2 - lift n d1 (p1 - p2)).toNat) else suD s2 (d2 * 2 ^ (lift n d2 (p2 - p1)).toNat) s1 (mk d1 (p2 - p1 - lift n d2 (p2 - p1)).toNat)
def gsP (n s1 d1 : Nat) (p1 : Int) (s2 d2 : Nat) (p2 : Int) : Int :=
  if p2 ≤ p1 then suP s1 (d1 * 2 ^ (lift n d1 (p1 - p2)).toNat) s2 (mk d2 (p1 - p2 - lift n d1 (p1 - p2)).toNat) (p1 - lift n d1 (p1 - p2)) else suP s2 (d2 * 2 ^ (lift n d2 (p2 - p1)).toNat) s1 (mk d1 (p2 - p1 - lift n d2 (p2 - p1)).toNat) (p2 - lift n d2 (p2 - p1))
/-- .. rounded: bits and flags. -/
def rsB (n s1 d1 : Nat) (p1 : Int) (s2 d2 : Nat) (p2 m : Int) : Int :=
  if gsD n s1 d1 p1 s2 d2 p2 = 0 then gsS n s1 d1 p1 s2 d2 p2 m * 9223372036854775808 else roundB (gsS n s1 d1 p1 s2 d2 p2 m) (gsD n s1 d1 p1 s2 d2 p2) (gsP n s1 d1 p1 s2 d2 p2) m
def rsF (n s1 d1 : Nat) (p1 : Int) (s2 d2 : Nat) (p2 m : Int) : Int :=
  if gsD n s1 d1 p1 s2 d2 p2 = 0 then 0 else roundF (gsS n s1 d1 p1 s2 d2 p2 m) (gsD n s1 d1 p1 s2 d2 p2) (gsP n s1 d1 p1 s2 d2 p2) m
theorem suS_lt {s1 X s2 Y : Nat} {m : Int} (h1 : s1 < 2) (h2 : s2 < 2) : suS s1 X s2 Y m < 2 := by unfold suS; (repeat' split) <;> omega
theorem suD_lt {s1 X s2 Y H : Nat} (h1 : X < H) (h2 : Y < H) : suD s1 X s2 Y < 2 * H := by unfold suD; (repeat' split) <;> omega
theorem gsS_lt {n s1 d1 s2 d2 : Nat} {p1 p2 m : Int} (h1 : s1 < 2) (h2 : s2 < 2) : gsS n s1 d1 p1 s2 d2 p2 m < 2 := by
  unfold gsS
  split
  · exact suS_lt h1 h2
  · exact suS_lt h2 h1
theorem lift_le {n d : Nat} {a : Int} (h : 0 ≤ a) (hb : Go.bitLen d + 2 ≤ n) : 0 ≤ lift n d a ∧ lift n d a ≤ a ∧ lift n d a ≤ n ∧ lift n d a + Go.bitLen d + 1 ≤ n := by unfold lift; omega
theorem lifted_lt {n d : Nat} {a : Int} (h : 0 ≤ a) (hb : Go.bitLen d + 2 ≤ n) : d * 2 ^ (lift n d a).toNat < 2 ^ (n - 1) := by
  have h1 := (Go.bitLen_spec d).1
  have h2 := lift_le h hb
  have h3 : d * 2 ^ (lift n d a).toNat < 2 ^ Go.bitLen d * 2 ^ (lift n d a).toNat := Nat.mul_lt_mul_of_pos_right h1 (Nat.two_pow_pos _)
  rw [← Nat.pow_add] at h3
  exact Nat.lt_of_lt_of_le h3 (Nat.pow_le_pow_right (by decide) (by omega))
theorem lt_bl {n d : Nat} (hb : Go.bitLen d + 2 ≤ n) : d < 2 ^ (n - 2) := Nat.lt_of_lt_of_le (Go.bitLen_spec d).1 (Nat.pow_le_pow_right (by decide) (by omega))
theorem marked_lt {n d t : Nat} (h3 : 3 ≤ n) (hb : Go.bitLen d + 2 ≤ n) : mk d t < 2 ^ (n - 1) := by
  have h1 := lt_bl hb
  have h2 : mk d t < 2 ^ (n - 3 + 1) := mk_lt (by rw [show n - 3 + 1 = n - 2 by omega]; exact h1)
  exact Nat.lt_of_lt_of_le h2 (Nat.pow_le_pow_right (by decide) (by omega))
theorem gsD_lt {n s1 d1 s2 d2 : Nat} {p1 p2 : Int} (h3 : 3 ≤ n) (hb1 : Go.bitLen d1 + 2 ≤ n) (hb2 : Go.bitLen d2 + 2 ≤ n) : gsD n s1 d1 p1 s2 d2 p2 < 2 ^ n := by
  have e : 2 * 2 ^ (n - 1) = 2 ^ n := by rw [← Nat.pow_succ']; congr 1; omega
  rw [← e]
  unfold gsD
  by_cases h : p2 ≤ p1
  · rw [if_pos h]; exact suD_lt (lifted_lt (by omega) hb1) (marked_lt h3 hb2)
  · rw [if_neg h]; exact suD_lt (lifted_lt (by omega) hb2) (marked_lt h3 hb1)
theorem gsP_range {n s1 d1 s2 d2 : Nat} {p1 p2 : Int} (_hn : n ≤ 256) (hb1 : Go.bitLen d1 + 2 ≤ n) (hb2 : Go.bitLen d2 + 2 ≤ n) (h1 : -4000 ≤ p1 ∧ p1 ≤ 4000) (h2 : -4000 ≤ p2 ∧ p2 ≤ 4000) : -5000 ≤ gsP n s1 d1 p1 s2 d2 p2 ∧ gsP n s1 d1 p1 s2 d2 p2 ≤ 5000 := by
  unfold gsP
  by_cases h : p2 ≤ p1
  · rw [if_pos h]
    have := lift_le (d := d1) (show 0 ≤ p1 - p2 by omega) hb1
    unfold suP; (repeat' split) <;> omega
  · rw [if_neg h]
    have := lift_le (d := d2) (show 0 ≤ p2 - p1 by omega) hb2
    unfold suP; (repeat' split) <;> omega


/-- A NaN among the operands, where nothing is reckoned despite it. -/
theorem soft_nans (op m x y z : Int) (n f : Nat) (ho : 1 ≤ op ∧ op ≤ 10) (hm : 0 ≤ m ∧ m ≤ 4) (hx : 0 ≤ x ∧ x < 18446744073709551616) (hy : 0 ≤ y ∧ y < 18446744073709551616) (hz : 0 ≤ z ∧ z < 18446744073709551616) (hn : n ≤ 3)
    (hix : ∀ w, (Instr.index 48 (.agg opsCells) (.int .u8 op)).run Tryd.prog w = .ok (.agg #[.int .i64 n, .func (.func f) #[] #[], .nilFunc]) w)
    (hnan : ([x, y, z].take n).any isN = true) (w : World) :
    Calls Tryd.prog 12 #[.agg #[.int .u8 op, .int .u8 m, .int .u64 x, .int .u64 y, .int .u64 z]] w fun e w' =>
      e = .returned (.agg #[.int .u64 (nanBits ([x, y, z].take n)), .int .u8 (nanFlag ([x, y, z].take n)), .bool false]) ∧ Below w.heap.size w w' := by
  obtain ⟨X, rfl⟩ := Int.eq_ofNat_of_zero_le hx.1
  obtain ⟨Y, rfl⟩ := Int.eq_ofNat_of_zero_le hy.1
  obtain ⟨Z, rfl⟩ := Int.eq_ofNat_of_zero_le hz.1
  rcases Bool.eq_false_or_eq_true (nanFlag ([(X : Int), (Y : Int), (Z : Int)].take n) == 16) with h | h
  · exact soft_nan op m X Y Z n f ho hm (by omega) (by omega) (by omega) hn hix hnan h w
  · exact soft_nil op m X Y Z n f ho hm (by omega) (by omega) (by omega) hn hix hnan h w
theorem anyN_false {x y : Nat} {z : Int} (h1 : kind x < 4) (h2 : kind y < 4) : ([(x : Int), (y : Int), z].take 2).any isN = false := by simp [isN]; omega


theorem index10 (w : World) : (Instr.index 48 (.agg opsCells) (.int .u8 10)).run Tryd.prog w = .ok (.agg #[.int .i64 ((0 : Nat) : Int), .func (.func 32) #[] #[], .nilFunc]) w := by kernel_rfl
theorem soft_clear (m x y z : Int) (hm : 0 ≤ m ∧ m ≤ 4) (hx : 0 ≤ x ∧ x < 18446744073709551616) (hy : 0 ≤ y ∧ y < 18446744073709551616) (hz : 0 ≤ z ∧ z < 18446744073709551616) (w : World) :
    Calls Tryd.prog 12 #[.agg #[.int .u8 10, .int .u8 m, .int .u64 x, .int .u64 y, .int .u64 z]] w fun e w' =>
      e = .returned (.agg #[.int .u64 0, .int .u8 0, .bool false]) ∧ Below w.heap.size w w' := by
  obtain ⟨X, rfl⟩ := Int.eq_ofNat_of_zero_le hx.1
  obtain ⟨Y, rfl⟩ := Int.eq_ofNat_of_zero_le hy.1
  obtain ⟨Z, rfl⟩ := Int.eq_ofNat_of_zero_le hz.1
  exact soft_do 10 m X Y Z 0 32 (by omega) hm (by omega) (by omega) (by omega) (by omega) index10 rfl w 0 0 false (enters_of Tryd.func32 (by kernel_rfl) rfl) (fun w1 _ => zeros_any 10 m X Y Z w1)



theorem mant_some {x : Nat} (_hx : x < 18446744073709551616) (h : ¬ kind x = 0) : mant x ≠ 0 := by
  intro h0
  apply h
  unfold mant at h0
  unfold kind kindB
  by_cases he : x / 4503599627370496 % 2048 = 0
  · rw [if_pos he] at h0
    rw [if_pos (by omega)]
  · rw [if_neg he] at h0
    omega
theorem top_xor (x y : Nat) (hx : x < 18446744073709551616) (hy : y < 18446744073709551616) : bits .and .u64 (bits .xor .u64 (x : Int) (y : Int)) 9223372036854775808 = (xs x y : Int) * 9223372036854775808 := by
  have h1 := u64_xor_nat x y hx hy
  rw [h1]
  have hlt : x ^^^ y < 18446744073709551616 := Nat.xor_lt_two_pow (n := 64) hx hy
  have h2 := u64_and_nat (x ^^^ y) (2 ^ 63) hlt (by decide)
  rw [show ((2 ^ 63 : Nat) : Int) = 9223372036854775808 by decide] at h2
  rw [h2, nat_and_pow, ← Nat.shiftRight_eq_div_pow, Nat.shiftRight_xor_distrib, Nat.shiftRight_eq_div_pow, Nat.shiftRight_eq_div_pow]
  unfold xs sgn
  have e1 : x / 2 ^ 63 = 0 ∨ x / 2 ^ 63 = 1 := by omega
  have e2 : y / 2 ^ 63 = 0 ∨ y / 2 ^ 63 = 1 := by omega
  rw [show (9223372036854775808 : Nat) = 2 ^ 63 by decide]
  rcases e1 with e1 | e1 <;> rcases e2 with e2 | e2 <;> rw [e1, e2] <;> decide
theorem sOf_xs {x y : Nat} (hx : x < 18446744073709551616) (hy : y < 18446744073709551616) : sOf (negOf x != negOf y) = (xs x y : Int) := by
  have h1 := sgn_lt hx
  have h2 := sgn_lt hy
  unfold negOf xs
  have e1 : sgn x = 0 ∨ sgn x = 1 := by omega
  have e2 : sgn y = 0 ∨ sgn y = 1 := by omega
  rcases e1 with e1 | e1 <;> rcases e2 with e2 | e2 <;> rw [e1, e2] <;> decide

/-- The result's own block, yet empty. -/
structure EmptyR (w : World) (g : Nat) : Prop where
  lt : g < w.heap.size
  c0 : w.cell? ⟨g, 0, none⟩ = some (.int .u64 0)
  c1 : w.cell? ⟨g, 1, none⟩ = some (.int .i64 0)
  c2 : w.cell? ⟨g, 2, none⟩ = some (.bool false)
  f0 : w.frozen? ⟨g, 0, none⟩ = false
  f1 : w.frozen? ⟨g, 1, none⟩ = false
  f2 : w.frozen? ⟨g, 2, none⟩ = false
theorem EmptyR.later {w w' : World} {g : Nat} (h : EmptyR w g) (hb : Below w.heap.size w w') : EmptyR w' g :=
  ⟨Nat.lt_of_lt_of_le h.lt hb.size, (hb.cell (p := ⟨g, 0, none⟩) h.lt).trans h.c0, (hb.cell (p := ⟨g, 1, none⟩) h.lt).trans h.c1, (hb.cell (p := ⟨g, 2, none⟩) h.lt).trans h.c2, (hb.frozen (p := ⟨g, 0, none⟩) h.lt).trans h.f0, (hb.frozen (p := ⟨g, 1, none⟩) h.lt).trans h.f1, (hb.frozen (p := ⟨g, 2, none⟩) h.lt).trans h.f2⟩
theorem nd_mant (x : Nat) : nd (mant x) ≤ 3 := nd_of_lt (Nat.lt_trans (mant_lt x) (by decide))



/-- The sum of two numbers with one exponent: its sign, its amount, its exponent. -/
def snG (n1 : Bool) (X : Nat) (n2 : Bool) (Y : Nat) : Bool := if n1 = n2 then n1 else if X = Y then false else if Y < X then n1 else n2
def snD (n1 : Bool) (X : Nat) (n2 : Bool) (Y : Nat) : Nat := if n1 = n2 then X + Y else if X = Y then 0 else if Y < X then X - Y else Y - X
def snP (n1 : Bool) (X : Nat) (n2 : Bool) (Y : Nat) (p : Int) : Int := if n1 = n2 then p else if X = Y then 0 else p
theorem sn_same {n : Bool} {X Y : Nat} {p : Int} : snG n X n Y = n ∧ snD n X n Y = X + Y ∧ snP n X n Y p = p := by unfold snG snD snP; simp
theorem sn_zero {n1 n2 : Bool} {X Y : Nat} {p : Int} (h : n1 ≠ n2) (e : X = Y) : snG n1 X n2 Y = false ∧ snD n1 X n2 Y = 0 ∧ snP n1 X n2 Y p = 0 := by unfold snG snD snP; simp [h, e]
theorem sn_first {n1 n2 : Bool} {X Y : Nat} {p : Int} (h : n1 ≠ n2) (e : Y < X) : snG n1 X n2 Y = n1 ∧ snD n1 X n2 Y = X - Y ∧ snP n1 X n2 Y p = p := by
  have : ¬ X = Y := by omega
  unfold snG snD snP; simp [h, e, this]
theorem sn_second {n1 n2 : Bool} {X Y : Nat} {p : Int} (h : n1 ≠ n2) (e : X < Y) : snG n1 X n2 Y = n2 ∧ snD n1 X n2 Y = Y - X ∧ snP n1 X n2 Y p = p := by
  have h1 : ¬ X = Y := by omega
  have h2 : ¬ Y < X := by omega
  unfold snG snD snP; simp [h, h1, h2]
theorem NumAt.set {w : World} {g g' : Nat} {neg b : Bool} {va : Value} {D : Nat} {p : Int} (h : NumAt w g neg va D p) (hne : g ≠ g') (hb : w.cell? ⟨g', 0, none⟩ = some (.bool b)) (j : Nat) (u : Value) : NumAt (w.setCell ⟨g', j, none⟩ u) g neg va D p :=
  ⟨by simpa using h.lt, by rw [cellSet _ _ _ _ (by simpa using hne)]; exact h.c0, by rw [cellSet _ _ _ _ (by simpa using hne)]; exact h.c1, by rw [cellSet _ _ _ _ (by simpa using hne)]; exact h.c2, h.nat.set hb j u⟩
theorem Empty3.set {w : World} {g g' : Nat} (h : Empty3 w g) (hne : g ≠ g') (j : Nat) (u : Value) : Empty3 (w.setCell ⟨g', j, none⟩ u) g :=
  have e := heap_setCell_other w ⟨g', j, none⟩ g u hne
  ⟨by simpa using h.lt, (World.cell?_of_block (a := ⟨g, 0, none⟩) e).trans h.c0, (World.cell?_of_block (a := ⟨g, 1, none⟩) e).trans h.c1, (World.cell?_of_block (a := ⟨g, 2, none⟩) e).trans h.c2, (World.frozen?_of_block (a := ⟨g, 0, none⟩) e).trans h.f0, (World.frozen?_of_block (a := ⟨g, 1, none⟩) e).trans h.f1, (World.frozen?_of_block (a := ⟨g, 2, none⟩) e).trans h.f2⟩
/-- A number whose amount and exponent are set anew. -/
theorem NumAt.turn {w : World} {g : Nat} {neg : Bool} {v0 va : Value} {D0 D : Nat} {p0 p : Int} (h : NumAt w g neg v0 D0 p0) (hn : IsNat w va D) : NumAt ((w.setCell ⟨g, 1, none⟩ va).setCell ⟨g, 2, none⟩ (.int .i64 p)) g neg va D p := by
  have e0 : (w.setCell ⟨g, 1, none⟩ va).cell? ⟨g, 0, none⟩ = some (.bool neg) := (World.cell?_setCell_other _ _ _ _ (by simp)).trans h.c0
  have e1 : (w.setCell ⟨g, 1, none⟩ va).cell? ⟨g, 1, none⟩ = some va := World.cell?_setCell_same _ _ _ h.c1
  have e2 : (w.setCell ⟨g, 1, none⟩ va).cell? ⟨g, 2, none⟩ = some (.int .i64 p0) := (World.cell?_setCell_other _ _ _ _ (by simp)).trans h.c2
  exact ⟨by simpa using h.lt, (World.cell?_setCell_other _ _ _ _ (by simp)).trans e0, (World.cell?_setCell_other _ _ _ _ (by simp)).trans e1, World.cell?_setCell_same _ _ _ e2, (hn.set h.c0 1 va).set e0 2 _⟩
theorem slice_of {P : Program} {f : FuncId} {args : Array Value} {w : World} {D : Nat} (h : Calls P f args w fun e w' => ∃ v, e = .returned v ∧ IsNat w' v D ∧ Below w.heap.size w w') :
    Calls P f args w fun e w' => ∃ a len cap, e = .returned (.slice a len cap) ∧ IsNat w' (.slice a len cap) D ∧ Below w.heap.size w w' := by
  refine h.mono ?_
  rintro e w' ⟨v, rfl, hv, hb⟩
  obtain ⟨a, len, cap, g, rfl, -, -, -⟩ := hv.slice
  exact ⟨a, len, cap, rfl, hv, hb⟩

/-- An amount, brought to the lesser of two exponents. -/
def alN (D : Nat) (p q : Int) : Nat := D * 2 ^ (p - min p q).toNat
theorem alN_low {D : Nat} {p q : Int} (h : p ≤ q) : alN D p q = D := by
  unfold alN
  rw [Int.min_eq_left h, Int.sub_self]
  simp
theorem alN_high {D k : Nat} {p : Int} : alN D (p + k) p = D * 2 ^ k := by
  unfold alN
  rw [Int.min_eq_right (by omega), show (p + k - p).toNat = k by omega]
/-- What the document's answer makes of the sum of two finite numbers. -/
def adB (n1 : Bool) (D1 : Nat) (n2 : Bool) (D2 : Nat) (G : Bool) (D : Nat) (q m : Int) : Int :=
  if D ≠ 0 then roundB (sOf G) D q m else if D1 = 0 ∧ D2 = 0 ∧ n1 = n2 then sOf n1 * 9223372036854775808 else sOf (m == 4) * 9223372036854775808
def adF (G : Bool) (D : Nat) (q m : Int) : Int := if D ≠ 0 then roundF (sOf G) D q m else 0



/-- The document's sum of two finite numbers: sign, amount, exponent. -/
def rsG (x y : Nat) : Bool := snG (negOf x) (alN (mant x) (pow x) (pow y)) (negOf y) (alN (mant y) (pow y) (pow x))
def rsD (x y : Nat) : Nat := snD (negOf x) (alN (mant x) (pow x) (pow y)) (negOf y) (alN (mant y) (pow y) (pow x))
def rsP (x y : Nat) : Int := snP (negOf x) (alN (mant x) (pow x) (pow y)) (negOf y) (alN (mant y) (pow y) (pow x)) (min (pow x) (pow y))
/-- The document's sum, rounded. -/
def addB (x y : Nat) (m : Int) : Int :=
  if kind x = 3 ∧ kind y = 3 ∧ x ≠ y then 9221120237041090560
  else if kind x = 3 then x
  else if kind y = 3 then y
  else if rsD x y ≠ 0 then roundB (sOf (rsG x y)) (rsD x y) (rsP x y) m
  else sOf (if mant x = 0 ∧ mant y = 0 ∧ negOf x = negOf y then negOf x else (m == 4)) * 9223372036854775808
def addF (x y : Nat) (m : Int) : Int :=
  if kind x = 3 ∧ kind y = 3 ∧ x ≠ y then 16
  else if kind x = 3 then 0
  else if kind y = 3 then 0
  else if rsD x y ≠ 0 then roundF (sOf (rsG x y)) (rsD x y) (rsP x y) m
  else 0
theorem nd_alN {D : Nat} {p q : Int} (h : nd D ≤ 3) (hp : -1074 ≤ p ∧ p ≤ 972) (hq : -1074 ≤ q ∧ q ≤ 972) : nd (alN D p q) ≤ 3 + 90 := by
  unfold alN
  refine Nat.le_trans (nd_mul_le _ _) ?_
  have : nd (2 ^ (p - min p q).toNat) ≤ 90 := by
    apply nd_of_lt
    apply Nat.pow_lt_pow_right (by decide)
    omega
  omega
theorem snD_le (n1 n2 : Bool) (X Y : Nat) : snD n1 X n2 Y ≤ X + Y := by unfold snD; (repeat' split) <;> omega
theorem nd_add_le (a b : Nat) : nd (a + b) ≤ max (nd a) (nd b) + 1 := by
  apply nd_of_lt
  have h1 := nd_lt a
  have h2 := nd_lt b
  have e1 : (2 : Nat) ^ (24 * nd a) ≤ 2 ^ (24 * max (nd a) (nd b)) := Nat.pow_le_pow_right (by decide) (by omega)
  have e2 : (2 : Nat) ^ (24 * nd b) ≤ 2 ^ (24 * max (nd a) (nd b)) := Nat.pow_le_pow_right (by decide) (by omega)
  rw [pow24]
  omega
theorem nd_rsD (x y : Nat) : nd (rsD x y) ≤ 1000 := by
  have h1 := nd_alN (nd_mant x) (pow_range x) (pow_range y)
  have h2 := nd_alN (nd_mant y) (pow_range y) (pow_range x)
  have := nd_mono (snD_le (negOf x) (negOf y) (alN (mant x) (pow x) (pow y)) (alN (mant y) (pow y) (pow x)))
  have := nd_add_le (alN (mant x) (pow x) (pow y)) (alN (mant y) (pow y) (pow x))
  unfold rsD
  omega
theorem rsP_range (x y : Nat) : -10000 ≤ rsP x y ∧ rsP x y ≤ 10000 := by
  have := pow_range x
  have := pow_range y
  unfold rsP snP
  (repeat' split) <;> omega
theorem len_zero {w : World} {a : Option Addr} {len cap D : Nat} (h : IsNat w (.slice a len cap) D) : len = 0 ↔ D = 0 := by
  obtain ⟨a', len', cap', g', he, hl, -, -⟩ := h.slice
  cases he
  constructor
  · intro h0
    exact nd_none (by rw [← hl, h0])
  · intro h0
    rw [hl, h0, nd_zero]



end Go.Proofs.YtcjihaafohnbeaaDoor
