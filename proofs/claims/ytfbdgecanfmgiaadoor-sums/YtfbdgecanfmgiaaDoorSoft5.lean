import Derived.Test.YtfbdgecanfmgiaaDoorSoft4
namespace Go.Proofs.YtfbdgecanfmgiaaDoor
open Go.RowKit

/-- Three numbers in three blocks, one behind the other. -/
structure Tri (w w1 : World) (x0 x1 x2 x3 y0 y1 y2 y3 : Value) : Prop where
  below : Below w.heap.size w w1
  size : w.heap.size + 2 < w1.heap.size
  x : Quad w1 w.heap.size x0 x1 x2 x3
  y : Quad w1 (w.heap.size + 1) y0 y1 y2 y3
  r : Quad w1 (w.heap.size + 2) (.int .u64 0) (.int .u64 0) (.int .u64 0) (.int .i64 0)
theorem Tri.start (w : World) (x0 x1 x2 x3 y0 y1 y2 y3 : Value) (t : TypeId) :
    Tri w (((w.alloc (.cells #[x0, x1, x2, x3] t)).alloc (.cells #[y0, y1, y2, y3] t)).alloc (.cells #[.int .u64 0, .int .u64 0, .int .u64 0, .int .i64 0] t)) x0 x1 x2 x3 y0 y1 y2 y3 := by
  refine ⟨(((Below.refl _ _).alloc (Nat.le_refl _) _).alloc (by simp) _).alloc (by simp; omega) _, by simp, ((Quad.new _ _ _ _ _ _).alloc _).alloc _, ?_, ?_⟩
  · have h := Quad.new (w.alloc (.cells #[x0, x1, x2, x3] t)) y0 y1 y2 y3 t
    rw [World.size_alloc] at h
    exact h.alloc _
  · have h := Quad.new ((w.alloc (.cells #[x0, x1, x2, x3] t)).alloc (.cells #[y0, y1, y2, y3] t)) (.int .u64 0) (.int .u64 0) (.int .u64 0) (.int .i64 0) t
    rw [World.size_alloc, World.size_alloc] at h
    exact h
theorem Tri.later {w w1 w2 : World} {x0 x1 x2 x3 y0 y1 y2 y3 : Value} (h : Tri w w1 x0 x1 x2 x3 y0 y1 y2 y3) (hb : Below w1.heap.size w1 w2) : Tri w w2 x0 x1 x2 x3 y0 y1 y2 y3 :=
  ⟨h.below.trans (hb.mono h.below.size), Nat.lt_of_lt_of_le h.size hb.size, h.x.later hb h.x.lt, h.y.later hb h.y.lt, h.r.later hb h.r.lt⟩
theorem Tri.alloc {w w1 : World} {x0 x1 x2 x3 y0 y1 y2 y3 : Value} (h : Tri w w1 x0 x1 x2 x3 y0 y1 y2 y3) (o : Obj) : Tri w (w1.alloc o) x0 x1 x2 x3 y0 y1 y2 y3 :=
  ⟨h.below.alloc h.below.size _, by have := h.size; simp; omega, h.x.alloc _, h.y.alloc _, h.r.alloc _⟩
theorem Tri.setAll {w w1 : World} {x0 x1 x2 x3 y0 y1 y2 y3 : Value} (h : Tri w w1 x0 x1 x2 x3 y0 y1 y2 y3) (a b c d a' b' c' d' : Value) :
    Tri w ((((((((w1.setCell ⟨w.heap.size, 0, none⟩ a).setCell ⟨w.heap.size, 1, none⟩ b).setCell ⟨w.heap.size, 2, none⟩ c).setCell ⟨w.heap.size, 3, none⟩ d).setCell ⟨w.heap.size + 1, 0, none⟩ a').setCell ⟨w.heap.size + 1, 1, none⟩ b').setCell ⟨w.heap.size + 1, 2, none⟩ c').setCell ⟨w.heap.size + 1, 3, none⟩ d') a b c d a' b' c' d' := by
  have e1 : ∀ i, w.heap.size ≠ (⟨w.heap.size + 1, i, none⟩ : Addr).block := fun i => by simp
  have e2 : ∀ i, w.heap.size + 1 ≠ (⟨w.heap.size, i, none⟩ : Addr).block := fun i => by simp
  have e3 : ∀ i, w.heap.size + 2 ≠ (⟨w.heap.size, i, none⟩ : Addr).block := fun i => by simp
  have e4 : ∀ i, w.heap.size + 2 ≠ (⟨w.heap.size + 1, i, none⟩ : Addr).block := fun i => by simp
  have l1 : ∀ i, w.heap.size ≤ (⟨w.heap.size, i, none⟩ : Addr).block := fun i => Nat.le_refl _
  have l2 : ∀ i, w.heap.size ≤ (⟨w.heap.size + 1, i, none⟩ : Addr).block := fun i => Nat.le_succ _
  refine ⟨?_, by simpa using h.size, ?_, ?_, ?_⟩
  · exact (((((((h.below.setCell (l1 0) _).setCell (l1 1) _).setCell (l1 2) _).setCell (l1 3) _).setCell (l2 0) _).setCell (l2 1) _).setCell (l2 2) _).setCell (l2 3) _
  · exact (((((((h.x.set0 _).set1 _).set2 _).set3 _).other _ _ (e1 0)).other _ _ (e1 1)).other _ _ (e1 2)).other _ _ (e1 3)
  · exact ((((((((h.y.other _ _ (e2 0)).other _ _ (e2 1)).other _ _ (e2 2)).other _ _ (e2 3)).set0 _).set1 _).set2 _).set3 _)
  · exact (((((((h.r.other _ _ (e3 0)).other _ _ (e3 1)).other _ _ (e3 2)).other _ _ (e3 3)).other _ _ (e4 0)).other _ _ (e4 1)).other _ _ (e4 2)).other _ _ (e4 3)

/-- A number, read as a result. -/
theorem results_quad {tmps : Array Value} {W : World} {g : Nat} {a b c d : Value} (h6 : tmps.getD 6 undef = .pointer (some ⟨g, 0, none⟩)) (h : Quad W g a b c d) :
    (results Tryd.f48 tmps).run Tryd.prog W = .ok (.agg #[a, b, c, d]) W := by
  have c0 := h.c0
  have c1 := h.c1
  have c2 := h.c2
  have c3 := h.c3
  have h6' : tmps[6]?.getD undef = .pointer (some ⟨g, 0, none⟩) := by simpa using h6
  simp [results, Tryd.results48, go_sem, h6', c0, c1, c2, c3]

set_option maxHeartbeats 400000 in
theorem zeroSign_any (m : Int) (w : World) : Calls Tryd.prog 70 #[.int .u8 m] w fun e w' => e = .returned (.int .u64 (if m = 4 then 1 else 0)) ∧ w' = w := by
  by_cases h : m = 4
  · have hb : (m == 4) = true := by simp [h]
    have H : Hid (m = 4) := h
    clear h
    go_enter Tryd.func70, Tryd.ntmps70
    go_wp2
    all_goals go_ret
    all_goals exact ⟨by first | rfl | (exfalso; exact absurd H.out ‹_›), rfl⟩
  · have hb : (m == 4) = false := by simp [h]
    have H : Hid (¬ m = 4) := h
    clear h
    go_enter Tryd.func70, Tryd.ntmps70
    go_wp2
    all_goals go_ret
    all_goals exact ⟨by first | rfl | (exfalso; exact absurd ‹m = 4› H.out), rfl⟩
end Go.Proofs.YtfbdgecanfmgiaaDoor
