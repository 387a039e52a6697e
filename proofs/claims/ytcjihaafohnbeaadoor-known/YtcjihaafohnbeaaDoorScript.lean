import Derived.Test.YtcjihaafohnbeaaDoorRows
import Derived.WalkKit
import Derived.WalkSpells
import Derived.WalkLawsBesides
import Derived.ProofKit
import Derived.OpenShut
import Derived.Deep.Slices
namespace Go.Proofs.YtcjihaafohnbeaaDoor
open Go.RowKit

theorem and_low (x : Int) (k : Nat) (h0 : 0 ≤ x) (h1 : x < 18446744073709551616) (hk : k ≤ 63) : bits .and .u64 x (2 ^ k - 1) = x % 2 ^ k := by
  obtain ⟨n, rfl⟩ := Int.eq_ofNat_of_zero_le h0
  have hp : 0 < 2 ^ k := Nat.two_pow_pos k
  have hp2 : 2 ^ k ≤ 2 ^ 63 := Nat.pow_le_pow_right (by decide) hk
  have h := bits_and_u64_nat n (2 ^ k - 1) (by omega) (by omega)
  have e : ((2 ^ k - 1 : Nat) : Int) = 2 ^ k - 1 := by
    rw [Int.natCast_sub (by omega)]; simp
  rw [e] at h
  rw [h, Nat.and_two_pow_sub_one_eq_mod]
  simp
theorem and_2047 (x : Int) (h0 : 0 ≤ x) (h1 : x < 18446744073709551616) : bits .and .u64 (x / 4503599627370496) 2047 = x / 4503599627370496 % 2048 := and_low _ 11 (by omega) (by omega) (by decide)
theorem and_frac (x : Int) (h0 : 0 ≤ x) (h1 : x < 18446744073709551616) : bits .and .u64 x 4503599627370495 = x % 4503599627370496 := and_low _ 52 h0 h1 (by decide)
theorem nat_and_pow (n k : Nat) : n &&& 2 ^ k = if n / 2 ^ k % 2 = 1 then 2 ^ k else 0 := by
  apply Nat.eq_of_testBit_eq
  intro i
  rw [Nat.testBit_and, Nat.testBit_two_pow]
  by_cases hi : k = i
  · subst hi
    rw [Nat.testBit_eq_decide_div_mod_eq]
    by_cases h : n / 2 ^ k % 2 = 1 <;> simp [h]
  · by_cases h : n / 2 ^ k % 2 = 1 <;> simp [h, hi]
theorem and_quiet (x : Int) (h0 : 0 ≤ x) (h1 : x < 4503599627370496) : (bits .and .u64 x 2251799813685248 != 0) = decide (2251799813685248 ≤ x) := by
  obtain ⟨n, rfl⟩ := Int.eq_ofNat_of_zero_le h0
  have h := bits_and_u64_nat n (2 ^ 51) (by omega) (by omega)
  have e : ((2 ^ 51 : Nat) : Int) = 2251799813685248 := by decide
  rw [e] at h
  rw [h, nat_and_pow]
  by_cases hn : 2251799813685248 ≤ n
  · have : n / 2 ^ 51 % 2 = 1 := by omega
    rw [if_pos this, e]
    have : (2251799813685248 : Int) ≤ n := by omega
    simp [this]
  · have : ¬ n / 2 ^ 51 % 2 = 1 := by omega
    rw [if_neg this]
    have : ¬ (2251799813685248 : Int) ≤ n := by omega
    simp [this]

def kindB (e f : Int) : Int := if e = 0 ∧ f = 0 then 0 else if e = 0 then 1 else if e < 2047 then 2 else if f = 0 then 3 else if 2251799813685248 ≤ f then 4 else 5
def kind (x : Int) : Int := kindB (x / 4503599627370496 % 2048) (x % 4503599627370496)
def cls (x : Int) : Int := if x / 9223372036854775808 = 1 then kind x + 8 else kind x
theorem kind_range (x : Int) : 0 ≤ kind x ∧ kind x ≤ 5 := by unfold kind kindB; (repeat' split) <;> omega
theorem ret_int {k : IntKind} {a b : Int} (h : a = b) : Ending.returned (.int k a) = .returned (.int k b) := by rw [h]
theorem wrap64_small (x : Int) (h0 : 0 ≤ x) (h1 : x < 9223372036854775808) : wrap64 x = x := by unfold wrap64; omega

set_option maxHeartbeats 400000 in
theorem kindOf_any (x : Int) (h0 : 0 ≤ x) (h1 : x < 18446744073709551616) (w : World) :
    Calls Tryd.prog 33 #[.int .u64 x] w fun e w' => e = .returned (.int .i64 (kind x)) ∧ w' = w := by
  have hE := and_2047 x h0 h1
  have hF := and_frac x h0 h1
  have hQ := and_quiet (x % 4503599627370496) (by omega) (by omega)
  go_enter Tryd.func33, Tryd.ntmps33
  go_wp2
  all_goals go_ret
  all_goals refine ⟨ret_int ?_, rfl⟩
  all_goals clear hE hF hQ
  all_goals simp only [beq_iff_eq, beq_eq_false_iff_ne, ne_eq] at *
  all_goals (unfold kind kindB; (repeat' split) <;> omega)

set_option maxHeartbeats 400000 in
theorem signOf_any (x : Int) (_h0 : 0 ≤ x) (_h1 : x < 18446744073709551616) (w : World) :
    Calls Tryd.prog 37 #[.int .u64 x] w fun e w' => e = .returned (.int .u64 (x / 9223372036854775808)) ∧ w' = w := by
  go_enter Tryd.func37, Tryd.ntmps37
  go_wp2
  go_ret
  exact ⟨rfl, rfl⟩


open Go.ChangeShapes Go.WideShapes Go.ChangeAt Go.RowKit Go.WideElems Go.Deep

theorem wf_u64_range {n : Int} (h : (Lit.int .u64 n).wf = true) : 0 ≤ n ∧ n < 18446744073709551616 := by
  have := h
  simp [Lit.wf, IntKind.min, IntKind.max, IntKind.signed, IntKind.bits] at this
  omega
theorem wf_i64_range {n : Int} (h : (Lit.int .i64 n).wf = true) : -9223372036854775808 ≤ n ∧ n ≤ 9223372036854775807 := by
  have := h
  simp [Lit.wf, IntKind.min, IntKind.max, IntKind.signed, IntKind.bits] at this
  omega

/-- A step of a script as it lies in memory: its eight words. -/
structure StepAt (w : World) (b o : Nat) (k a op m x y z : Int) (la : Option Addr) (ln lc : Nat) : Prop where
  c0 : w.cell? ⟨b, o, none⟩ = some (.int .i64 k)
  c1 : w.cell? ⟨b, o + 1, none⟩ = some (.int .i64 a)
  c2 : w.cell? ⟨b, o + 2, none⟩ = some (.int .i64 op)
  c3 : w.cell? ⟨b, o + 3, none⟩ = some (.int .i64 m)
  c4 : w.cell? ⟨b, o + 4, none⟩ = some (.int .u64 x)
  c5 : w.cell? ⟨b, o + 5, none⟩ = some (.int .u64 y)
  c6 : w.cell? ⟨b, o + 6, none⟩ = some (.int .u64 z)
  c7 : w.cell? ⟨b, o + 7, none⟩ = some (.slice la ln lc)
  rk : -9223372036854775808 ≤ k ∧ k ≤ 9223372036854775807
  ra : -9223372036854775808 ≤ a ∧ a ≤ 9223372036854775807
  rop : -9223372036854775808 ≤ op ∧ op ≤ 9223372036854775807
  rm : -9223372036854775808 ≤ m ∧ m ≤ 9223372036854775807
  rx : 0 ≤ x ∧ x < 18446744073709551616
  ry : 0 ≤ y ∧ y < 18446744073709551616
  rz : 0 ≤ z ∧ z < 18446744073709551616

theorem cellsInt : Tryd.prog.cellsOf 3 = 1 := by kernel_rfl
theorem cellsU64 : Tryd.prog.cellsOf 24 = 1 := by kernel_rfl
theorem cellsRec : Tryd.prog.cellsOf 26 = 5 := by kernel_rfl
theorem cellsLists : Tryd.prog.cellsOf 27 = 1 := by kernel_rfl
theorem cellsOp : Tryd.prog.cellsOf 29 = 8 := by kernel_rfl

theorem open_step {H : Type} {enc : TypeId × Value → H} {w : World} {spare : Nat → Bool} {held : Bool} {n : Nat} {b off : Nat} {cs : List Value} {x : DataW H × List MemPlace}
    (hc : w.cells? 0 ⟨b, off, none⟩ 8 = some cs) (h : DataW.trod enc Tryd.prog w 0 spare held n 29 cs = some x) :
    ∃ k a op m x y z la ln lc, StepAt w b off k a op m x y z la ln lc := by
  obtain ⟨_, hlen, hcell⟩ := World.cells?_some hc
  match cs, hlen with
  | [v0, v1, v2, v3, v4, v5, v6, v7], _ =>
  have cell : ∀ i, i < 8 → w.cell? ⟨b, off + i, none⟩ = [v0, v1, v2, v3, v4, v5, v6, v7][i]? := fun i hi => by rw [← add_plain]; exact hcell i hi
  obtain ⟨xs, m, _, _, _, hxl, hf⟩ := DataW.trod_struct Tryd.underlying29 h
  match xs, hxl with
  | [y0, y1, y2, y3], _ =>
  have f0 : DataW.trod enc Tryd.prog w 0 spare held m 3 (([v0, v1, v2, v3, v4, v5, v6, v7].drop 0).take (Tryd.prog.cellsOf 3)) = some y0 := hf 0 _ rfl
  have f1 : DataW.trod enc Tryd.prog w 0 spare held m 3 (([v0, v1, v2, v3, v4, v5, v6, v7].drop 1).take (Tryd.prog.cellsOf 3)) = some y1 := hf 1 _ rfl
  have f2 : DataW.trod enc Tryd.prog w 0 spare held m 26 (([v0, v1, v2, v3, v4, v5, v6, v7].drop 2).take (Tryd.prog.cellsOf 26)) = some y2 := hf 2 _ rfl
  rw [cellsInt] at f0 f1
  have f3 : DataW.trod enc Tryd.prog w 0 spare held m 27 (([v0, v1, v2, v3, v4, v5, v6, v7].drop 7).take (Tryd.prog.cellsOf 27)) = some y3 := hf 3 _ rfl
  rw [cellsRec] at f2
  rw [cellsLists] at f3
  replace f3 : DataW.trod enc Tryd.prog w 0 spare held m 27 [v7] = some y3 := f3
  replace f0 : DataW.trod enc Tryd.prog w 0 spare held m 3 [v0] = some y0 := f0
  replace f1 : DataW.trod enc Tryd.prog w 0 spare held m 3 [v1] = some y1 := f1
  replace f2 : DataW.trod enc Tryd.prog w 0 spare held m 26 [v2, v3, v4, v5, v6] = some y2 := f2
  obtain ⟨k, e0, _, wk⟩ := DataW.trod_int Tryd.underlying3 f0
  obtain ⟨a, e1, _, wa⟩ := DataW.trod_int Tryd.underlying3 f1
  obtain ⟨ys, m', _, _, _, hyl, hg⟩ := DataW.trod_struct Tryd.underlying26 f2
  match ys, hyl with
  | [z0, z1, z2, z3, z4], _ =>
  have g0 : DataW.trod enc Tryd.prog w 0 spare held m' 3 (([v2, v3, v4, v5, v6].drop 0).take (Tryd.prog.cellsOf 3)) = some z0 := hg 0 _ rfl
  have g1 : DataW.trod enc Tryd.prog w 0 spare held m' 3 (([v2, v3, v4, v5, v6].drop 1).take (Tryd.prog.cellsOf 3)) = some z1 := hg 1 _ rfl
  have g2 : DataW.trod enc Tryd.prog w 0 spare held m' 24 (([v2, v3, v4, v5, v6].drop 2).take (Tryd.prog.cellsOf 24)) = some z2 := hg 2 _ rfl
  have g3 : DataW.trod enc Tryd.prog w 0 spare held m' 24 (([v2, v3, v4, v5, v6].drop 3).take (Tryd.prog.cellsOf 24)) = some z3 := hg 3 _ rfl
  have g4 : DataW.trod enc Tryd.prog w 0 spare held m' 24 (([v2, v3, v4, v5, v6].drop 4).take (Tryd.prog.cellsOf 24)) = some z4 := hg 4 _ rfl
  rw [cellsInt] at g0 g1
  rw [cellsU64] at g2 g3 g4
  replace g0 : DataW.trod enc Tryd.prog w 0 spare held m' 3 [v2] = some z0 := g0
  replace g1 : DataW.trod enc Tryd.prog w 0 spare held m' 3 [v3] = some z1 := g1
  replace g2 : DataW.trod enc Tryd.prog w 0 spare held m' 24 [v4] = some z2 := g2
  replace g3 : DataW.trod enc Tryd.prog w 0 spare held m' 24 [v5] = some z3 := g3
  replace g4 : DataW.trod enc Tryd.prog w 0 spare held m' 24 [v6] = some z4 := g4
  obtain ⟨op, e2, _, wop⟩ := DataW.trod_int Tryd.underlying3 g0
  obtain ⟨mo, e3, _, wmo⟩ := DataW.trod_int Tryd.underlying3 g1
  obtain ⟨x, e4, _, wx⟩ := DataW.trod_int Tryd.underlying24 g2
  obtain ⟨y, e5, _, wy⟩ := DataW.trod_int Tryd.underlying24 g3
  obtain ⟨z, e6, _, wz⟩ := DataW.trod_int Tryd.underlying24 g4
  obtain ⟨la, ln, lc, e7⟩ : ∃ la ln lc, v7 = .slice la ln lc := by
    rcases open_slice Tryd.underlying27 f3 with ⟨hcs, _⟩ | ⟨a', len', cap', _, _, _, _, hcs, _⟩
    · simp only [List.cons.injEq, and_true] at hcs; exact ⟨_, _, _, hcs⟩
    · simp only [List.cons.injEq, and_true] at hcs; exact ⟨_, _, _, hcs⟩
  simp only [List.cons.injEq, and_true] at e0 e1 e2 e3 e4 e5 e6
  subst e0 e1 e2 e3 e4 e5 e6 e7
  exact ⟨k, a, op, mo, x, y, z, la, ln, lc, cell 0 (by decide), cell 1 (by decide), cell 2 (by decide), cell 3 (by decide), cell 4 (by decide), cell 5 (by decide), cell 6 (by decide), cell 7 (by decide),
    wf_i64_range wk, wf_i64_range wa, wf_i64_range wop, wf_i64_range wmo, wf_u64_range wx, wf_u64_range wy, wf_u64_range wz⟩

/-- A script, opened: none, or a row of steps. -/
theorem open_script {H : Type} {enc : TypeId × Value → H} {w : World} {held : Bool} {fuel : Nat} {a0 : Option Addr} {len cap : Nat} {x : DataW H × List MemPlace}
    (h : DataW.trod enc Tryd.prog w 0 (fun _ => true) held fuel 22 [.slice a0 len cap] = some x) :
    ∃ b off, len ≤ cap ∧ cap ≤ maxLen ∧ (0 < len → a0 = some ⟨b, off, none⟩) ∧ ∀ i, i < len → ∃ k a op m x y z la ln lc, StepAt w b (off + i * 8) k a op m x y z la ln lc := by
  rcases open_slice Tryd.underlying22 h with ⟨hcs, _⟩ | ⟨a, len', cap', m, n, D, Pl, hcs, _, hl, hm, hmm, _, hx⟩
  · simp only [List.cons.injEq, Value.slice.injEq, and_true] at hcs
    obtain ⟨_, rfl, rfl⟩ := hcs
    exact ⟨0, 0, Nat.le_refl _, Nat.zero_le _, fun h => absurd h (by decide), fun i hi => absurd hi (by omega)⟩
  · simp only [List.cons.injEq, Value.slice.injEq, and_true] at hcs
    obtain ⟨rfl, rfl, rfl⟩ := hcs
    rw [cellsOp] at hx
    by_cases hz : len = 0
    · exact ⟨0, 0, hl, hm, fun h => absurd h (by omega), fun i hi => absurd hi (by omega)⟩
    obtain ⟨b, off, spot⟩ := a
    have hlm : len ≤ m := by rw [hmm]; split <;> omega
    have hspot : spot = none := by
      obtain ⟨cs', h1, _⟩ := hx 0 (by omega)
      obtain ⟨_, hlen, hcell⟩ := World.cells?_some h1
      have := hcell 0 (by omega)
      match cs', hlen with
      | v :: _, _ => simpa [Addr.add] using World.cell?_spot this
    subst hspot
    refine ⟨b, off, hl, hm, fun _ => rfl, fun i hi => ?_⟩
    obtain ⟨cs', h1, h2⟩ := hx i (by omega)
    rw [add_plain] at h1
    exact open_step h1 h2

end Go.Proofs.YtcjihaafohnbeaaDoor
