import Derived.Test.YtcjihaafohnbeaaGreatDoorRows
import Derived.ProofKit
import Derived.OpenShut
import Derived.Deep.Slices
namespace Go.Proofs.YtcjihaafohnbeaaGreatDoor
open Go.ChangeShapes Go.WideShapes Go.ChangeAt Go.RowKit Go.WideElems Go.Deep

theorem wf_u64_range {n : Int} (h : (Lit.int .u64 n).wf = true) : 0 ≤ n ∧ n < 18446744073709551616 := by
  have := h
  simp [Lit.wf, IntKind.min, IntKind.max, IntKind.signed, IntKind.bits] at this
  omega
theorem wf_i64_range {n : Int} (h : (Lit.int .i64 n).wf = true) : -9223372036854775808 ≤ n ∧ n ≤ 9223372036854775807 := by
  have := h
  simp [Lit.wf, IntKind.min, IntKind.max, IntKind.signed, IntKind.bits] at this
  omega

/-- A step of a script as it lies in memory: its eight words. -/
structure StepAt (w : World) (b o : Nat) (k a op m x y z : Int) (la : Option Addr) (ln lc : Nat) : Prop where
  c0 : w.cell? ⟨b, o, none⟩ = some (.int .i64 k)
  c1 : w.cell? ⟨b, o + 1, none⟩ = some (.int .i64 a)
  c2 : w.cell? ⟨b, o + 2, none⟩ = some (.int .i64 op)
  c3 : w.cell? ⟨b, o + 3, none⟩ = some (.int .i64 m)
  c4 : w.cell? ⟨b, o + 4, none⟩ = some (.int .u64 x)
  c5 : w.cell? ⟨b, o + 5, none⟩ = some (.int .u64 y)
  c6 : w.cell? ⟨b, o + 6, none⟩ = some (.int .u64 z)
  c7 : w.cell? ⟨b, o + 7, none⟩ = some (.slice la ln lc)
  rk : -9223372036854775808 ≤ k ∧ k ≤ 9223372036854775807
  ra : -9223372036854775808 ≤ a ∧ a ≤ 9223372036854775807
  rop : -9223372036854775808 ≤ op ∧ op ≤ 9223372036854775807
  rm : -9223372036854775808 ≤ m ∧ m ≤ 9223372036854775807
  rx : 0 ≤ x ∧ x < 18446744073709551616
  ry : 0 ≤ y ∧ y < 18446744073709551616
  rz : 0 ≤ z ∧ z < 18446744073709551616

theorem cellsInt : Tryz.prog.cellsOf 3 = 1 := by kernel_rfl
theorem cellsU64 : Tryz.prog.cellsOf 25 = 1 := by kernel_rfl
theorem cellsRec : Tryz.prog.cellsOf 27 = 5 := by kernel_rfl
theorem cellsLists : Tryz.prog.cellsOf 28 = 1 := by kernel_rfl
theorem cellsOp : Tryz.prog.cellsOf 30 = 8 := by kernel_rfl

theorem open_step {H : Type} {enc : TypeId × Value → H} {w : World} {spare : Nat → Bool} {held : Bool} {n : Nat} {b off : Nat} {cs : List Value} {x : DataW H × List MemPlace}
    (hc : w.cells? 0 ⟨b, off, none⟩ 8 = some cs) (h : DataW.trod enc Tryz.prog w 0 spare held n 30 cs = some x) :
    ∃ k a op m x y z la ln lc, StepAt w b off k a op m x y z la ln lc := by
  obtain ⟨_, hlen, hcell⟩ := World.cells?_some hc
  match cs, hlen with
  | [v0, v1, v2, v3, v4, v5, v6, v7], _ =>
  have cell : ∀ i, i < 8 → w.cell? ⟨b, off + i, none⟩ = [v0, v1, v2, v3, v4, v5, v6, v7][i]? := fun i hi => by rw [← add_plain]; exact hcell i hi
  obtain ⟨xs, m, _, _, _, hxl, hf⟩ := DataW.trod_struct Tryz.underlying30 h
  match xs, hxl with
  | [y0, y1, y2, y3], _ =>
  have f0 : DataW.trod enc Tryz.prog w 0 spare held m 3 (([v0, v1, v2, v3, v4, v5, v6, v7].drop 0).take (Tryz.prog.cellsOf 3)) = some y0 := hf 0 _ rfl
  have f1 : DataW.trod enc Tryz.prog w 0 spare held m 3 (([v0, v1, v2, v3, v4, v5, v6, v7].drop 1).take (Tryz.prog.cellsOf 3)) = some y1 := hf 1 _ rfl
  have f2 : DataW.trod enc Tryz.prog w 0 spare held m 27 (([v0, v1, v2, v3, v4, v5, v6, v7].drop 2).take (Tryz.prog.cellsOf 27)) = some y2 := hf 2 _ rfl
  rw [cellsInt] at f0 f1
  have f3 : DataW.trod enc Tryz.prog w 0 spare held m 28 (([v0, v1, v2, v3, v4, v5, v6, v7].drop 7).take (Tryz.prog.cellsOf 28)) = some y3 := hf 3 _ rfl
  rw [cellsRec] at f2
  rw [cellsLists] at f3
  replace f3 : DataW.trod enc Tryz.prog w 0 spare held m 28 [v7] = some y3 := f3
  replace f0 : DataW.trod enc Tryz.prog w 0 spare held m 3 [v0] = some y0 := f0
  replace f1 : DataW.trod enc Tryz.prog w 0 spare held m 3 [v1] = some y1 := f1
  replace f2 : DataW.trod enc Tryz.prog w 0 spare held m 27 [v2, v3, v4, v5, v6] = some y2 := f2
  obtain ⟨k, e0, _, wk⟩ := DataW.trod_int Tryz.underlying3 f0
  obtain ⟨a, e1, _, wa⟩ := DataW.trod_int Tryz.underlying3 f1
  obtain ⟨ys, m', _, _, _, hyl, hg⟩ := DataW.trod_struct Tryz.underlying27 f2
  match ys, hyl with
  | [z0, z1, z2, z3, z4], _ =>
  have g0 : DataW.trod enc Tryz.prog w 0 spare held m' 3 (([v2, v3, v4, v5, v6].drop 0).take (Tryz.prog.cellsOf 3)) = some z0 := hg 0 _ rfl
  have g1 : DataW.trod enc Tryz.prog w 0 spare held m' 3 (([v2, v3, v4, v5, v6].drop 1).take (Tryz.prog.cellsOf 3)) = some z1 := hg 1 _ rfl
  have g2 : DataW.trod enc Tryz.prog w 0 spare held m' 25 (([v2, v3, v4, v5, v6].drop 2).take (Tryz.prog.cellsOf 25)) = some z2 := hg 2 _ rfl
  have g3 : DataW.trod enc Tryz.prog w 0 spare held m' 25 (([v2, v3, v4, v5, v6].drop 3).take (Tryz.prog.cellsOf 25)) = some z3 := hg 3 _ rfl
  have g4 : DataW.trod enc Tryz.prog w 0 spare held m' 25 (([v2, v3, v4, v5, v6].drop 4).take (Tryz.prog.cellsOf 25)) = some z4 := hg 4 _ rfl
  rw [cellsInt] at g0 g1
  rw [cellsU64] at g2 g3 g4
  replace g0 : DataW.trod enc Tryz.prog w 0 spare held m' 3 [v2] = some z0 := g0
  replace g1 : DataW.trod enc Tryz.prog w 0 spare held m' 3 [v3] = some z1 := g1
  replace g2 : DataW.trod enc Tryz.prog w 0 spare held m' 25 [v4] = some z2 := g2
  replace g3 : DataW.trod enc Tryz.prog w 0 spare held m' 25 [v5] = some z3 := g3
  replace g4 : DataW.trod enc Tryz.prog w 0 spare held m' 25 [v6] = some z4 := g4
  obtain ⟨op, e2, _, wop⟩ := DataW.trod_int Tryz.underlying3 g0
  obtain ⟨mo, e3, _, wmo⟩ := DataW.trod_int Tryz.underlying3 g1
  obtain ⟨x, e4, _, wx⟩ := DataW.trod_int Tryz.underlying25 g2
  obtain ⟨y, e5, _, wy⟩ := DataW.trod_int Tryz.underlying25 g3
  obtain ⟨z, e6, _, wz⟩ := DataW.trod_int Tryz.underlying25 g4
  obtain ⟨la, ln, lc, e7⟩ : ∃ la ln lc, v7 = .slice la ln lc := by
    rcases open_slice Tryz.underlying28 f3 with ⟨hcs, _⟩ | ⟨a', len', cap', _, _, _, _, hcs, _⟩
    · simp only [List.cons.injEq, and_true] at hcs; exact ⟨_, _, _, hcs⟩
    · simp only [List.cons.injEq, and_true] at hcs; exact ⟨_, _, _, hcs⟩
  simp only [List.cons.injEq, and_true] at e0 e1 e2 e3 e4 e5 e6
  subst e0 e1 e2 e3 e4 e5 e6 e7
  exact ⟨k, a, op, mo, x, y, z, la, ln, lc, cell 0 (by decide), cell 1 (by decide), cell 2 (by decide), cell 3 (by decide), cell 4 (by decide), cell 5 (by decide), cell 6 (by decide), cell 7 (by decide),
    wf_i64_range wk, wf_i64_range wa, wf_i64_range wop, wf_i64_range wmo, wf_u64_range wx, wf_u64_range wy, wf_u64_range wz⟩

/-- A script, opened: none, or a row of steps. -/
theorem open_script {H : Type} {enc : TypeId × Value → H} {w : World} {held : Bool} {fuel : Nat} {a0 : Option Addr} {len cap : Nat} {x : DataW H × List MemPlace}
    (h : DataW.trod enc Tryz.prog w 0 (fun _ => true) held fuel 22 [.slice a0 len cap] = some x) :
    ∃ b off, len ≤ cap ∧ cap ≤ maxLen ∧ (0 < len → a0 = some ⟨b, off, none⟩) ∧ ∀ i, i < len → ∃ k a op m x y z la ln lc, StepAt w b (off + i * 8) k a op m x y z la ln lc := by
  rcases open_slice Tryz.underlying22 h with ⟨hcs, _⟩ | ⟨a, len', cap', m, n, D, Pl, hcs, _, hl, hm, hmm, _, hx⟩
  · simp only [List.cons.injEq, Value.slice.injEq, and_true] at hcs
    obtain ⟨_, rfl, rfl⟩ := hcs
    exact ⟨0, 0, Nat.le_refl _, Nat.zero_le _, fun h => absurd h (by decide), fun i hi => absurd hi (by omega)⟩
  · simp only [List.cons.injEq, Value.slice.injEq, and_true] at hcs
    obtain ⟨rfl, rfl, rfl⟩ := hcs
    rw [cellsOp] at hx
    by_cases hz : len = 0
    · exact ⟨0, 0, hl, hm, fun h => absurd h (by omega), fun i hi => absurd hi (by omega)⟩
    obtain ⟨b, off, spot⟩ := a
    have hlm : len ≤ m := by rw [hmm]; split <;> omega
    have hspot : spot = none := by
      obtain ⟨cs', h1, _⟩ := hx 0 (by omega)
      obtain ⟨_, hlen, hcell⟩ := World.cells?_some h1
      have := hcell 0 (by omega)
      match cs', hlen with
      | v :: _, _ => simpa [Addr.add] using World.cell?_spot this
    subst hspot
    refine ⟨b, off, hl, hm, fun _ => rfl, fun i hi => ?_⟩
    obtain ⟨cs', h1, h2⟩ := hx i (by omega)
    rw [add_plain] at h1
    exact open_step h1 h2
end Go.Proofs.YtcjihaafohnbeaaGreatDoor
