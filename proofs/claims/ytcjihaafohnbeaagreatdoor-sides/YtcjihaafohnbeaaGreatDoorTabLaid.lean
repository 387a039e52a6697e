import Derived.Test.YtcjihaafohnbeaaGreatDoorRound0
import Derived.OpenShut
import Derived.Lib.LaidTab
namespace Go.Proofs.YtcjihaafohnbeaaGreatDoor
open Go.RowKit

/-- The table's numbers, as the program's text lays them. -/
def tabRows : List (List (List Int)) := [[[0, 0, 1, 2], [0, 0, 1, 2]], [[0, 0, 2, 2], [0, 0, 2, 2]], [[0, 0, 0, 0], [0, 0, 0, 0]], [[0, 2, 2, 2], [0, 0, 0, 0]], [[0, 0, 0, 0], [0, 2, 2, 2]]]
theorem tabRows_grow (m s r : Nat) (hm : m < 5) (hs : s < 2) (hr : r < 4) : ∃ p z, tabRows[m]? = some p ∧ p[s]? = some z ∧ z[r]? = some (grow m s r) := by
  obtain h | h | h | h | h : m = 0 ∨ m = 1 ∨ m = 2 ∨ m = 3 ∨ m = 4 := by omega
  all_goals subst h
  all_goals obtain h | h : s = 0 ∨ s = 1 := by omega
  all_goals subst h
  all_goals obtain h | h | h | h : r = 0 ∨ r = 1 ∨ r = 2 ∨ r = 3 := by omega
  all_goals subst h
  all_goals exact ⟨_, _, rfl, rfl, by decide⟩
theorem tabRows_is : (Rows.laid_softfloat_soft_growth : DataW Unit) = .agg (tabRows.map fun p => .agg (p.map (Lib.tabData .u8))) := rfl
theorem cells4 : Tryz.prog.cellsOf 144 = 4 := by kernel_rfl
theorem cells8 : Tryz.prog.cellsOf 145 = 8 := by kernel_rfl
theorem cells1 : Tryz.prog.cellsOf 5 = 1 := by kernel_rfl
theorem gGrow : Tryz.prog.globalNamed "softfloat/soft.growth" = some 0 := by kernel_rfl
theorem gGrowType : (Tryz.prog.globals[0]?).map (·.type) = some 146 := by kernel_rfl
theorem chunk {cs : List Value} {a b r : Nat} (hb : b + 4 ≤ 8) (hr : r < 4) : ((((cs.drop a).take 8).drop b).take 4)[r]? = cs[a + (b + r)]? := by
  simp only [List.getElem?_take, List.getElem?_drop]
  rw [if_pos hr, if_pos (by omega)]

/-- The table that is laid is the one that the walks read. -/
theorem tab_laid {W : World} (h : laidMet Tryz.prog [("softfloat/soft.growth", Rows.laid_softfloat_soft_growth)] W) : Tab W := by
  obtain ⟨ps, ⟨g', t', cs, fuel, p, q, hg', ht', hvar, hd, _, _⟩, _⟩ := h
  obtain rfl := Option.some.inj (gGrow.symm.trans hg')
  obtain rfl := Option.some.inj (gGrowType.symm.trans ht')
  rw [tabRows_is] at hd
  intro m s r hm hs hr
  obtain ⟨P, Z, hP, hZ, hG⟩ := tabRows_grow m s r hm hs hr
  have hcell := World.var?_cell gGrow hvar (m * 8 + s * 4 + r)
  obtain ⟨xs, fu, _, hx, _, hxl, hxs⟩ := DataW.trod_array Tryz.underlying146 hd
  have e1 : xs.map (·.1) = tabRows.map fun p => (DataW.agg (p.map (Lib.tabData .u8)) : DataW Unit) := by
    have := congrArg Prod.fst hx
    simp only [DataW.agg.injEq] at this
    exact this.symm
  have h1 : (xs.map (·.1))[m]? = some (DataW.agg (P.map (Lib.tabData .u8))) := by rw [e1, List.getElem?_map, hP]; rfl
  rw [List.getElem?_map, Option.map_eq_some_iff] at h1
  obtain ⟨⟨D, q1⟩, hx1, hD⟩ := h1
  simp only at hD
  subst hD
  have h2 := hxs m hm
  rw [hx1, cells8] at h2
  obtain ⟨ys, fu2, _, hy, _, hyl, hys⟩ := DataW.trod_array Tryz.underlying145 h2
  have e2 : ys.map (·.1) = P.map (Lib.tabData .u8) := by
    have := congrArg Prod.fst hy
    simp only [DataW.agg.injEq] at this
    exact this.symm
  have h3 : (ys.map (·.1))[s]? = some (Lib.tabData .u8 Z) := by rw [e2, List.getElem?_map, hZ]; rfl
  rw [List.getElem?_map, Option.map_eq_some_iff] at h3
  obtain ⟨⟨D2, q2⟩, hy1, hD2⟩ := h3
  simp only at hD2
  subst hD2
  have h4 := hys s hs
  rw [hy1, cells4] at h4
  have h5 := Lib.cells_of_tab Tryz.underlying144 Tryz.underlying5 cells1 cells4 h4
  have h6 := chunk (cs := cs.toList) (a := m * 8) (b := s * 4) (r := r) (by omega) hr
  rw [h5, List.getElem?_map, hG] at h6
  rw [hcell, show m * 8 + s * 4 + r = m * 8 + (s * 4 + r) by omega]
  simpa using h6.symm
end Go.Proofs.YtcjihaafohnbeaaGreatDoor
