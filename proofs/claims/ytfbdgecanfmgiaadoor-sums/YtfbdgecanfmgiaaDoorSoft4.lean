import Derived.Test.YtfbdgecanfmgiaaDoorSoft2
namespace Go.Proofs.YtfbdgecanfmgiaaDoor
open Go.RowKit

/-- Two numbers at one power, the one of the greater power first: its digits moved up, the other's cut, with a mark of what is lost. -/
def alX (D : Nat) (a : Int) : Nat := D * 2 ^ (min a 70).toNat
def alY (D : Nat) (a : Int) : Nat := if restN D (a - min a 70).toNat = 0 then D / 2 ^ (a - min a 70).toNat else D / 2 ^ (a - min a 70).toNat + (1 - D / 2 ^ (a - min a 70).toNat % 2)
theorem alX_lt {D : Nat} {a : Int} (h : D < 9007199254740992) : alX D a < 10633823966279326983230456482242756608 := by
  unfold alX
  have h1 : 2 ^ (min a 70).toNat ≤ 2 ^ 70 := Nat.pow_le_pow_right (by decide) (by omega)
  calc D * 2 ^ (min a 70).toNat ≤ D * 2 ^ 70 := Nat.mul_le_mul_left _ h1
    _ < 10633823966279326983230456482242756608 := by omega
theorem alY_lt {D : Nat} {a : Int} (h : D < 9007199254740992) : alY D a < 9007199254740993 := by
  unfold alY
  have h1 := Nat.div_le_self D (2 ^ (a - min a 70).toNat)
  split <;> omega

theorem or_one (q : Nat) (h : q < 18446744073709551616) : bits .or .u64 (q : Int) 1 = ((q + (1 - q % 2) : Nat) : Int) := by
  have h2 := bits_or_u64_nat q 1 h (by omega)
  rw [show ((1 : Nat) : Int) = 1 from rfl] at h2
  rw [h2]
  congr 1
  have h3 : q ||| 1 = q / 2 * 2 ^ 1 + 1 := by
    rw [← Nat.shiftLeft_eq, Nat.shiftLeft_add_eq_or_of_lt (by decide)]
    by_cases he : q % 2 = 0
    · have e : q = (q / 2) <<< 1 := by rw [Nat.shiftLeft_eq]; omega
      rw [← e]
    · have e : q = (q / 2) <<< 1 ||| 1 := by rw [← Nat.shiftLeft_add_eq_or_of_lt (by decide), Nat.shiftLeft_eq]; omega
      have e2 : q ||| 1 = ((q / 2) <<< 1 ||| 1) ||| 1 := by rw [← e]
      rw [e2, Nat.or_assoc, Nat.or_self]
  rw [h3]; omega

/-- Four cells of a block, as they lie, none of them frozen. -/
structure Quad (w : World) (b : Nat) (u v x y : Value) : Prop where
  c0 : w.cell? ⟨b, 0, none⟩ = some u
  c1 : w.cell? ⟨b, 1, none⟩ = some v
  c2 : w.cell? ⟨b, 2, none⟩ = some x
  c3 : w.cell? ⟨b, 3, none⟩ = some y
  f0 : w.frozen? ⟨b, 0, none⟩ = false
  f1 : w.frozen? ⟨b, 1, none⟩ = false
  f2 : w.frozen? ⟨b, 2, none⟩ = false
  f3 : w.frozen? ⟨b, 3, none⟩ = false
theorem Quad.lt {w : World} {b : Nat} {u v x y : Value} (h : Quad w b u v x y) : b < w.heap.size := block_lt_of_cell h.c0
theorem Quad.new (w : World) (u v x y : Value) (t : TypeId) : Quad (w.alloc (.cells #[u, v, x, y] t)) w.heap.size u v x y := ⟨by go_simp, by go_simp, by go_simp, by go_simp, by go_simp, by go_simp, by go_simp, by go_simp⟩
theorem Quad.alloc {w : World} {b : Nat} {u v x y : Value} (h : Quad w b u v x y) (o : Obj) : Quad (w.alloc o) b u v x y :=
  ⟨(World.cell?_alloc_lt _ _ _ h.lt).trans h.c0, (World.cell?_alloc_lt _ _ _ h.lt).trans h.c1, (World.cell?_alloc_lt _ _ _ h.lt).trans h.c2, (World.cell?_alloc_lt _ _ _ h.lt).trans h.c3,
   (World.frozen?_alloc_old _ _ _ (Nat.ne_of_lt h.lt)).trans h.f0, (World.frozen?_alloc_old _ _ _ (Nat.ne_of_lt h.lt)).trans h.f1, (World.frozen?_alloc_old _ _ _ (Nat.ne_of_lt h.lt)).trans h.f2, (World.frozen?_alloc_old _ _ _ (Nat.ne_of_lt h.lt)).trans h.f3⟩
theorem Quad.later {w w' : World} {b B : Nat} {u v x y : Value} (h : Quad w b u v x y) (hb : Below B w w') (hlt : b < B) : Quad w' b u v x y :=
  ⟨(hb.cell (p := ⟨b, 0, none⟩) hlt).trans h.c0, (hb.cell (p := ⟨b, 1, none⟩) hlt).trans h.c1, (hb.cell (p := ⟨b, 2, none⟩) hlt).trans h.c2, (hb.cell (p := ⟨b, 3, none⟩) hlt).trans h.c3,
   (hb.frozen (p := ⟨b, 0, none⟩) hlt).trans h.f0, (hb.frozen (p := ⟨b, 1, none⟩) hlt).trans h.f1, (hb.frozen (p := ⟨b, 2, none⟩) hlt).trans h.f2, (hb.frozen (p := ⟨b, 3, none⟩) hlt).trans h.f3⟩
theorem Quad.other {w : World} {b : Nat} {u v x y : Value} (h : Quad w b u v x y) (p : Addr) (z : Value) (hp : b ≠ p.block) : Quad (w.setCell p z) b u v x y :=
  ⟨(World.cell?_of_block (w := w) (heap_setCell_other w p b z hp)).trans h.c0, (World.cell?_of_block (w := w) (heap_setCell_other w p b z hp)).trans h.c1, (World.cell?_of_block (w := w) (heap_setCell_other w p b z hp)).trans h.c2, (World.cell?_of_block (w := w) (heap_setCell_other w p b z hp)).trans h.c3,
   (frozenSet _ _ _ _).trans h.f0, (frozenSet _ _ _ _).trans h.f1, (frozenSet _ _ _ _).trans h.f2, (frozenSet _ _ _ _).trans h.f3⟩
theorem Quad.set0 {w : World} {b : Nat} {u v x y : Value} (h : Quad w b u v x y) (z : Value) : Quad (w.setCell ⟨b, 0, none⟩ z) b z v x y :=
  ⟨World.cell?_setCell_same _ _ _ h.c0, (World.cell?_setCell_other _ _ _ _ (by simp)).trans h.c1, (World.cell?_setCell_other _ _ _ _ (by simp)).trans h.c2, (World.cell?_setCell_other _ _ _ _ (by simp)).trans h.c3, (frozenSet _ _ _ _).trans h.f0, (frozenSet _ _ _ _).trans h.f1, (frozenSet _ _ _ _).trans h.f2, (frozenSet _ _ _ _).trans h.f3⟩
theorem Quad.set1 {w : World} {b : Nat} {u v x y : Value} (h : Quad w b u v x y) (z : Value) : Quad (w.setCell ⟨b, 1, none⟩ z) b u z x y :=
  ⟨(World.cell?_setCell_other _ _ _ _ (by simp)).trans h.c0, World.cell?_setCell_same _ _ _ h.c1, (World.cell?_setCell_other _ _ _ _ (by simp)).trans h.c2, (World.cell?_setCell_other _ _ _ _ (by simp)).trans h.c3, (frozenSet _ _ _ _).trans h.f0, (frozenSet _ _ _ _).trans h.f1, (frozenSet _ _ _ _).trans h.f2, (frozenSet _ _ _ _).trans h.f3⟩
theorem Quad.set2 {w : World} {b : Nat} {u v x y : Value} (h : Quad w b u v x y) (z : Value) : Quad (w.setCell ⟨b, 2, none⟩ z) b u v z y :=
  ⟨(World.cell?_setCell_other _ _ _ _ (by simp)).trans h.c0, (World.cell?_setCell_other _ _ _ _ (by simp)).trans h.c1, World.cell?_setCell_same _ _ _ h.c2, (World.cell?_setCell_other _ _ _ _ (by simp)).trans h.c3, (frozenSet _ _ _ _).trans h.f0, (frozenSet _ _ _ _).trans h.f1, (frozenSet _ _ _ _).trans h.f2, (frozenSet _ _ _ _).trans h.f3⟩
theorem Quad.set3 {w : World} {b : Nat} {u v x y : Value} (h : Quad w b u v x y) (z : Value) : Quad (w.setCell ⟨b, 3, none⟩ z) b u v x z :=
  ⟨(World.cell?_setCell_other _ _ _ _ (by simp)).trans h.c0, (World.cell?_setCell_other _ _ _ _ (by simp)).trans h.c1, (World.cell?_setCell_other _ _ _ _ (by simp)).trans h.c2, World.cell?_setCell_same _ _ _ h.c3, (frozenSet _ _ _ _).trans h.f0, (frozenSet _ _ _ _).trans h.f1, (frozenSet _ _ _ _).trans h.f2, (frozenSet _ _ _ _).trans h.f3⟩

/-- Four numbers in four blocks, one behind the other. -/
structure Quads (w w1 : World) (x0 x1 x2 x3 y0 y1 y2 y3 r0 r1 r2 r3 q0 q1 q2 q3 : Value) : Prop where
  below : Below w.heap.size w w1
  size : w.heap.size + 3 < w1.heap.size
  x : Quad w1 w.heap.size x0 x1 x2 x3
  y : Quad w1 (w.heap.size + 1) y0 y1 y2 y3
  r : Quad w1 (w.heap.size + 2) r0 r1 r2 r3
  q : Quad w1 (w.heap.size + 3) q0 q1 q2 q3
theorem Quads.start (w : World) (x0 x1 x2 x3 y0 y1 y2 y3 r0 r1 r2 r3 q0 q1 q2 q3 : Value) (t : TypeId) :
    Quads w ((((w.alloc (.cells #[x0, x1, x2, x3] t)).alloc (.cells #[y0, y1, y2, y3] t)).alloc (.cells #[r0, r1, r2, r3] t)).alloc (.cells #[q0, q1, q2, q3] t)) x0 x1 x2 x3 y0 y1 y2 y3 r0 r1 r2 r3 q0 q1 q2 q3 := by
  refine ⟨((((Below.refl _ _).alloc (Nat.le_refl _) _).alloc (by simp) _).alloc (by simp; omega) _).alloc (by simp; omega) _, by simp, (((Quad.new _ _ _ _ _ _).alloc _).alloc _).alloc _, ?_, ?_, ?_⟩
  · have h := Quad.new (w.alloc (.cells #[x0, x1, x2, x3] t)) y0 y1 y2 y3 t
    rw [World.size_alloc] at h
    exact (h.alloc _).alloc _
  · have h := Quad.new ((w.alloc (.cells #[x0, x1, x2, x3] t)).alloc (.cells #[y0, y1, y2, y3] t)) r0 r1 r2 r3 t
    rw [World.size_alloc, World.size_alloc] at h
    exact h.alloc _
  · have h := Quad.new (((w.alloc (.cells #[x0, x1, x2, x3] t)).alloc (.cells #[y0, y1, y2, y3] t)).alloc (.cells #[r0, r1, r2, r3] t)) q0 q1 q2 q3 t
    rw [World.size_alloc, World.size_alloc, World.size_alloc] at h
    exact h
theorem Quads.later {w w1 w2 : World} {x0 x1 x2 x3 y0 y1 y2 y3 r0 r1 r2 r3 q0 q1 q2 q3 : Value} (h : Quads w w1 x0 x1 x2 x3 y0 y1 y2 y3 r0 r1 r2 r3 q0 q1 q2 q3) (hb : Below w1.heap.size w1 w2) : Quads w w2 x0 x1 x2 x3 y0 y1 y2 y3 r0 r1 r2 r3 q0 q1 q2 q3 :=
  ⟨h.below.trans (hb.mono h.below.size), Nat.lt_of_lt_of_le h.size hb.size, h.x.later hb h.x.lt, h.y.later hb h.y.lt, h.r.later hb h.r.lt, h.q.later hb h.q.lt⟩
theorem Quads.setX {w w1 : World} {x0 x1 x2 x3 y0 y1 y2 y3 r0 r1 r2 r3 q0 q1 q2 q3 : Value} (h : Quads w w1 x0 x1 x2 x3 y0 y1 y2 y3 r0 r1 r2 r3 q0 q1 q2 q3) (a b c : Value) :
    Quads w (((w1.setCell ⟨w.heap.size, 1, none⟩ a).setCell ⟨w.heap.size, 2, none⟩ b).setCell ⟨w.heap.size, 3, none⟩ c) x0 a b c y0 y1 y2 y3 r0 r1 r2 r3 q0 q1 q2 q3 :=
  ⟨((h.below.setCell (by simp) _).setCell (by simp) _).setCell (by simp) _, by simpa using h.size, ((h.x.set1 a).set2 b).set3 c, ((h.y.other _ _ (by simp)).other _ _ (by simp)).other _ _ (by simp), ((h.r.other _ _ (by simp)).other _ _ (by simp)).other _ _ (by simp), ((h.q.other _ _ (by simp)).other _ _ (by simp)).other _ _ (by simp)⟩

theorem Quads.setY {w w1 : World} {x0 x1 x2 x3 y0 y1 y2 y3 r0 r1 r2 r3 q0 q1 q2 q3 : Value} (h : Quads w w1 x0 x1 x2 x3 y0 y1 y2 y3 r0 r1 r2 r3 q0 q1 q2 q3) (a b c : Value) :
    Quads w (((w1.setCell ⟨w.heap.size + 1, 1, none⟩ a).setCell ⟨w.heap.size + 1, 2, none⟩ b).setCell ⟨w.heap.size + 1, 3, none⟩ c) x0 x1 x2 x3 y0 a b c r0 r1 r2 r3 q0 q1 q2 q3 :=
  ⟨((h.below.setCell (by simp) _).setCell (by simp) _).setCell (by simp) _, by simpa using h.size, ((h.x.other _ _ (by simp)).other _ _ (by simp)).other _ _ (by simp), ((h.y.set1 a).set2 b).set3 c, ((h.r.other _ _ (by simp)).other _ _ (by simp)).other _ _ (by simp), ((h.q.other _ _ (by simp)).other _ _ (by simp)).other _ _ (by simp)⟩
theorem Quads.alloc {w w1 : World} {x0 x1 x2 x3 y0 y1 y2 y3 r0 r1 r2 r3 q0 q1 q2 q3 : Value} (h : Quads w w1 x0 x1 x2 x3 y0 y1 y2 y3 r0 r1 r2 r3 q0 q1 q2 q3) (o : Obj) : Quads w (w1.alloc o) x0 x1 x2 x3 y0 y1 y2 y3 r0 r1 r2 r3 q0 q1 q2 q3 :=
  ⟨h.below.alloc h.below.size _, by have := h.size; simp; omega, h.x.alloc _, h.y.alloc _, h.r.alloc _, h.q.alloc _⟩
theorem Quad.drew {w : World} {b : Nat} {u v x y : Value} (h : Quad w b u v x y) : Quad w.drew b u v x y := ⟨h.c0, h.c1, h.c2, h.c3, h.f0, h.f1, h.f2, h.f3⟩
theorem Quads.drew {w w1 : World} {x0 x1 x2 x3 y0 y1 y2 y3 r0 r1 r2 r3 q0 q1 q2 q3 : Value} (h : Quads w w1 x0 x1 x2 x3 y0 y1 y2 y3 r0 r1 r2 r3 q0 q1 q2 q3) : Quads w w1.drew x0 x1 x2 x3 y0 y1 y2 y3 r0 r1 r2 r3 q0 q1 q2 q3 :=
  ⟨h.below.drew, h.size, h.x.drew, h.y.drew, h.r.drew, h.q.drew⟩
/-- Two numbers, read as results. -/
theorem results_quads {tmps : Array Value} {W : World} {g g' : Nat} {a b c d a' b' c' d' : Value} (h4 : tmps.getD 4 undef = .pointer (some ⟨g, 0, none⟩)) (h5 : tmps.getD 5 undef = .pointer (some ⟨g', 0, none⟩)) (h : Quad W g a b c d) (h' : Quad W g' a' b' c' d') :
    (results Tryd.f68 tmps).run Tryd.prog W = .ok (.tuple #[.agg #[a, b, c, d], .agg #[a', b', c', d']]) W := by
  have c0 := h.c0
  have c1 := h.c1
  have c2 := h.c2
  have c3 := h.c3
  have e0 := h'.c0
  have e1 := h'.c1
  have e2 := h'.c2
  have e3 := h'.c3
  have h4' : tmps[4]?.getD undef = .pointer (some ⟨g, 0, none⟩) := by simpa using h4
  have h5' : tmps[5]?.getD undef = .pointer (some ⟨g', 0, none⟩) := by simpa using h5
  simp [results, Tryd.results68, go_sem, h4', h5', c0, c1, c2, c3, e0, e1, e2, e3]

set_option maxHeartbeats 4000000 in
/-- x has the greater power (or the same). -/
theorem aligned_ge (s1 s2 d1 d2 : Nat) (p1 p2 : Int) (h1 : d1 < 9007199254740992) (h2 : d2 < 9007199254740992) (hp1 : -1074 ≤ p1 ∧ p1 ≤ 972) (hp2 : -1074 ≤ p2 ∧ p2 ≤ 972) (hge : p2 ≤ p1) (w : World) :
    Calls Tryd.prog 68 #[.agg #[.int .u64 s1, .int .u64 d1, .int .u64 0, .int .i64 p1], .agg #[.int .u64 s2, .int .u64 d2, .int .u64 0, .int .i64 p2]] w fun e w' =>
      e = .returned (.tuple #[.agg #[.int .u64 s1, .int .u64 (alX d1 (p1 - p2) % 18446744073709551616 : Nat), .int .u64 (alX d1 (p1 - p2) / 18446744073709551616 : Nat), .int .i64 (p1 - min (p1 - p2) 70)],
        .agg #[.int .u64 s2, .int .u64 (alY d2 (p1 - p2)), .int .u64 0, .int .i64 (p1 - min (p1 - p2) 70)]]) ∧ Below w.heap.size w w' := by
  obtain ⟨a1, a2⟩ := hp1
  obtain ⟨a3, a4⟩ := hp2
  have hx := alX_lt (a := p1 - p2) h1
  have el0 := left0 d1 0 (min (p1 - p2) 70).toNat (by omega)
  have el1 := left1 d1 0 (min (p1 - p2) 70).toNat (by omega)
  rw [show (((min (p1 - p2) 70).toNat : Nat) : Int) = min (p1 - p2) 70 by omega, Nat.zero_mul, Nat.add_zero] at el0 el1
  have ec0 := cut0 d2 0 (p1 - p2 - min (p1 - p2) 70).toNat (by omega) (by omega)
  have ec1 := cut1 d2 0 (p1 - p2 - min (p1 - p2) 70).toNat (by omega) (by omega)
  have er := rest_eq d2 0 (p1 - p2 - min (p1 - p2) 70).toNat (by omega) (by omega)
  have hq := Nat.div_le_self d2 (2 ^ (p1 - p2 - min (p1 - p2) 70).toNat)
  rw [show (((p1 - p2 - min (p1 - p2) 70).toNat : Nat) : Int) = p1 - p2 - min (p1 - p2) 70 by omega, Nat.zero_mul, Nat.add_zero] at ec0 ec1 er
  rw [Nat.mod_eq_of_lt (by omega)] at ec0
  rw [Nat.div_eq_of_lt (by omega : d2 / 2 ^ (p1 - p2 - min (p1 - p2) 70).toNat < 18446744073709551616)] at ec1
  have HLW : Hid (leftW d1 ((0 : Nat) : Int) (min (p1 - p2) 70) 0 = ((alX d1 (p1 - p2) % 18446744073709551616 : Nat) : Int) ∧ leftW d1 ((0 : Nat) : Int) (min (p1 - p2) 70) 1 = ((alX d1 (p1 - p2) / 18446744073709551616 : Nat) : Int)) := ⟨el0, by rw [el1]; congr 1; exact Nat.mod_eq_of_lt (by have := hx; unfold alX at this; omega)⟩
  have hone := or_one (d2 / 2 ^ (p1 - p2 - min (p1 - p2) 70).toNat) (by omega)
  have HY : Hid (alY d2 (p1 - p2) = if restN d2 (p1 - p2 - min (p1 - p2) 70).toNat = 0 then d2 / 2 ^ (p1 - p2 - min (p1 - p2) 70).toNat else d2 / 2 ^ (p1 - p2 - min (p1 - p2) 70).toNat + (1 - d2 / 2 ^ (p1 - p2 - min (p1 - p2) 70).toNat % 2)) := rfl
  have HCW : Hid (cutW d2 ((0 : Nat) : Int) (p1 - p2 - min (p1 - p2) 70) 0 = ((d2 / 2 ^ (p1 - p2 - min (p1 - p2) 70).toNat : Nat) : Int) ∧ cutW d2 ((0 : Nat) : Int) (p1 - p2 - min (p1 - p2) 70) 1 = 0 ∧ restOf d2 ((0 : Nat) : Int) (p1 - p2 - min (p1 - p2) 70) = restN d2 (p1 - p2 - min (p1 - p2) 70).toNat) := ⟨ec0, ec1, er⟩
  clear el0 el1 ec0 ec1 er hq hx
  generalize alX d1 (p1 - p2) % 18446744073709551616 = X0 at *
  generalize alX d1 (p1 - p2) / 18446744073709551616 = X1 at *
  generalize restN d2 (p1 - p2 - min (p1 - p2) 70).toNat = R at *
  generalize d2 / 2 ^ (p1 - p2 - min (p1 - p2) 70).toNat = Q at *
  generalize hA : alY d2 (p1 - p2) = Y at *
  clear hA
  go_enter Tryd.func68, Tryd.ntmps68
  go_wp2_with fail
  refine (left_any d1 ((0 : Nat) : Int) (min (p1 - p2) 70) (by omega) (by omega) _).mono ?_
  rintro e w1 ⟨rfl, hb1⟩
  rw [HLW.out.1, HLW.out.2]
  have H1 : Hid (Quads w w1 (.int .u64 s1) (.int .u64 d1) (.int .u64 0) (.int .i64 p1) (.int .u64 s2) (.int .u64 d2) (.int .u64 0) (.int .i64 p2) (.int .u64 0) (.int .u64 0) (.int .u64 0) (.int .i64 0) (.int .u64 0) (.int .u64 0) (.int .u64 0) (.int .i64 0)) := (Quads.start w _ _ _ _ _ _ _ _ _ _ _ _ _ _ _ _ _).later hb1
  clear hb1
  have x0_1 := H1.out.x.c0
  have xf0_1 := H1.out.x.f0
  have x1_1 := H1.out.x.c1
  have xf1_1 := H1.out.x.f1
  have x2_1 := H1.out.x.c2
  have xf2_1 := H1.out.x.f2
  have x3_1 := H1.out.x.c3
  have xf3_1 := H1.out.x.f3
  have y0_1 := H1.out.y.c0
  have yf0_1 := H1.out.y.f0
  have y1_1 := H1.out.y.c1
  have yf1_1 := H1.out.y.f1
  have y2_1 := H1.out.y.c2
  have yf2_1 := H1.out.y.f2
  have y3_1 := H1.out.y.c3
  have yf3_1 := H1.out.y.f3
  have r0_1 := H1.out.r.c0
  have rf0_1 := H1.out.r.f0
  have r1_1 := H1.out.r.c1
  have rf1_1 := H1.out.r.f1
  have r2_1 := H1.out.r.c2
  have rf2_1 := H1.out.r.f2
  have r3_1 := H1.out.r.c3
  have rf3_1 := H1.out.r.f3
  have q0_1 := H1.out.q.c0
  have qf0_1 := H1.out.q.f0
  have q1_1 := H1.out.q.c1
  have qf1_1 := H1.out.q.f1
  have q2_1 := H1.out.q.c2
  have qf2_1 := H1.out.q.f2
  have q3_1 := H1.out.q.c3
  have qf3_1 := H1.out.q.f3
  have z1 := H1.out.size
  go_wp2_with fail
  refine (cut_any d2 ((0 : Nat) : Int) (p1 - p2 - min (p1 - p2) 70) (by omega) (by omega) _).mono ?_
  rintro e w2 ⟨rfl, hb2⟩
  rw [HCW.out.1, HCW.out.2.1, HCW.out.2.2]
  have H2 : Hid (Quads w w2 (.int .u64 s1) (.int .u64 X0) (.int .u64 X1) (.int .i64 (p1 - min (p1 - p2) 70)) (.int .u64 s2) (.int .u64 d2) (.int .u64 0) (.int .i64 p2) (.int .u64 0) (.int .u64 0) (.int .u64 0) (.int .i64 0) (.int .u64 0) (.int .u64 0) (.int .u64 0) (.int .i64 0)) := (H1.out.setX _ _ _).later hb2
  clear hb2
  clear x0_1 xf0_1 x1_1 xf1_1 x2_1 xf2_1 x3_1 xf3_1 y0_1 yf0_1 y1_1 yf1_1 y2_1 yf2_1 y3_1 yf3_1 r0_1 rf0_1 r1_1 rf1_1 r2_1 rf2_1 r3_1 rf3_1 q0_1 qf0_1 q1_1 qf1_1 q2_1 qf2_1 q3_1 qf3_1 z1
  have x0_2 := H2.out.x.c0
  have xf0_2 := H2.out.x.f0
  have x1_2 := H2.out.x.c1
  have xf1_2 := H2.out.x.f1
  have x2_2 := H2.out.x.c2
  have xf2_2 := H2.out.x.f2
  have x3_2 := H2.out.x.c3
  have xf3_2 := H2.out.x.f3
  have y0_2 := H2.out.y.c0
  have yf0_2 := H2.out.y.f0
  have y1_2 := H2.out.y.c1
  have yf1_2 := H2.out.y.f1
  have y2_2 := H2.out.y.c2
  have yf2_2 := H2.out.y.f2
  have y3_2 := H2.out.y.c3
  have yf3_2 := H2.out.y.f3
  have r0_2 := H2.out.r.c0
  have rf0_2 := H2.out.r.f0
  have r1_2 := H2.out.r.c1
  have rf1_2 := H2.out.r.f1
  have r2_2 := H2.out.r.c2
  have rf2_2 := H2.out.r.f2
  have r3_2 := H2.out.r.c3
  have rf3_2 := H2.out.r.f3
  have q0_2 := H2.out.q.c0
  have qf0_2 := H2.out.q.f0
  have q1_2 := H2.out.q.c1
  have qf1_2 := H2.out.q.f1
  have q2_2 := H2.out.q.c2
  have qf2_2 := H2.out.q.f2
  have q3_2 := H2.out.q.c3
  have qf3_2 := H2.out.q.f3
  have z2 := H2.out.size
  have y1 : w.heap.size < w2.heap.size := by omega
  have y2 : w.heap.size + 1 < w2.heap.size := by omega
  have y3 : w.heap.size + 2 < w2.heap.size := by omega
  by_cases hR : R = 0
  · have hRb : (R != 0) = false := by simp [hR]
    have HYQ : Hid (((Y : Nat) : Int) = ((Q : Nat) : Int)) := (by rw [HY.out, if_pos hR] : ((Y : Nat) : Int) = _)
    clear hR
    go_wp2_with fail
    go_cut [] from 10 to 57 (fun wx => Quads w wx (.int .u64 s1) (.int .u64 X0) (.int .u64 X1) (.int .i64 (p1 - min (p1 - p2) 70)) (.int .u64 s2) (.int .u64 Y) (.int .u64 0) (.int .i64 (p1 - min (p1 - p2) 70)) (.int .u64 0) (.int .u64 0) (.int .u64 0) (.int .i64 0) (.int .u64 0) (.int .u64 0) (.int .u64 0) (.int .i64 0))
    case first =>
      go_region
      go_wp2_with fail
      go_meet
      go_light
      rw [HYQ.out]
      first | exact ((H2.out.alloc _).setY _ _ _).drew | exact ((H2.out.setY _ _ _).alloc _).drew
    case rest =>
      have H3 : Hid (Quads w wc (.int .u64 s1) (.int .u64 X0) (.int .u64 X1) (.int .i64 (p1 - min (p1 - p2) 70)) (.int .u64 s2) (.int .u64 Y) (.int .u64 0) (.int .i64 (p1 - min (p1 - p2) 70)) (.int .u64 0) (.int .u64 0) (.int .u64 0) (.int .i64 0) (.int .u64 0) (.int .u64 0) (.int .u64 0) (.int .i64 0)) := hcut
      clear hcut x0_2 xf0_2 x1_2 xf1_2 x2_2 xf2_2 x3_2 xf3_2 y0_2 yf0_2 y1_2 yf1_2 y2_2 yf2_2 y3_2 yf3_2 r0_2 rf0_2 r1_2 rf1_2 r2_2 rf2_2 r3_2 rf3_2 q0_2 qf0_2 q1_2 qf1_2 q2_2 qf2_2 q3_2 qf3_2 z2 y1 y2 y3
      have x0_3 := H3.out.x.c0
      have xf0_3 := H3.out.x.f0
      have x1_3 := H3.out.x.c1
      have xf1_3 := H3.out.x.f1
      have x2_3 := H3.out.x.c2
      have xf2_3 := H3.out.x.f2
      have x3_3 := H3.out.x.c3
      have xf3_3 := H3.out.x.f3
      have y0_3 := H3.out.y.c0
      have yf0_3 := H3.out.y.f0
      have y1_3 := H3.out.y.c1
      have yf1_3 := H3.out.y.f1
      have y2_3 := H3.out.y.c2
      have yf2_3 := H3.out.y.f2
      have y3_3 := H3.out.y.c3
      have yf3_3 := H3.out.y.f3
      have r0_3 := H3.out.r.c0
      have rf0_3 := H3.out.r.f0
      have r1_3 := H3.out.r.c1
      have rf1_3 := H3.out.r.f1
      have r2_3 := H3.out.r.c2
      have rf2_3 := H3.out.r.f2
      have r3_3 := H3.out.r.c3
      have rf3_3 := H3.out.r.f3
      have q0_3 := H3.out.q.c0
      have qf0_3 := H3.out.q.f0
      have q1_3 := H3.out.q.c1
      have qf1_3 := H3.out.q.f1
      have q2_3 := H3.out.q.c2
      have qf2_3 := H3.out.q.f2
      have q3_3 := H3.out.q.c3
      have qf3_3 := H3.out.q.f3
      have z3 := H3.out.size
      go_wp2_with fail
      go_region
      go_wp2_with fail
      go_light
      refine bodyPost_ret (v := .tuple #[.agg #[.int .u64 s1, .int .u64 X0, .int .u64 X1, .int .i64 (p1 - min (p1 - p2) 70)], .agg #[.int .u64 s2, .int .u64 Y, .int .u64 0, .int .i64 (p1 - min (p1 - p2) 70)]]) (results_quads rfl rfl (((((((((H3.out.r.set0 _).set1 _).set2 _).set3 _).other _ _ (by simp)).other _ _ (by simp)).other _ _ (by simp)).other _ _ (by simp)).drew) (((((((((H3.out.q.other _ _ (by simp)).other _ _ (by simp)).other _ _ (by simp)).other _ _ (by simp)).set0 _).set1 _).set2 _).set3 _).drew)) rfl ⟨rfl, ?_⟩
      exact ((((((((H3.out.below.setCell (by simp <;> omega) _).setCell (by simp <;> omega) _).setCell (by simp <;> omega) _).setCell (by simp <;> omega) _).setCell (by simp <;> omega) _).setCell (by simp <;> omega) _).setCell (by simp <;> omega) _).setCell (by simp <;> omega) _).drew
  · have hRb : (R != 0) = true := by simp [hR]
    have HYQ : Hid (((Y : Nat) : Int) = ((Q + (1 - Q % 2) : Nat) : Int)) := (by rw [HY.out, if_neg hR] : ((Y : Nat) : Int) = _)
    clear hR
    go_wp2_with fail
    go_cut [] from 10 to 57 (fun wx => Quads w wx (.int .u64 s1) (.int .u64 X0) (.int .u64 X1) (.int .i64 (p1 - min (p1 - p2) 70)) (.int .u64 s2) (.int .u64 Y) (.int .u64 0) (.int .i64 (p1 - min (p1 - p2) 70)) (.int .u64 0) (.int .u64 0) (.int .u64 0) (.int .i64 0) (.int .u64 0) (.int .u64 0) (.int .u64 0) (.int .i64 0))
    case first =>
      go_region
      go_wp2_with fail
      go_meet
      go_light
      rw [HYQ.out]
      first | exact ((H2.out.alloc _).setY _ _ _).drew | exact ((H2.out.setY _ _ _).alloc _).drew
    case rest =>
      have H3 : Hid (Quads w wc (.int .u64 s1) (.int .u64 X0) (.int .u64 X1) (.int .i64 (p1 - min (p1 - p2) 70)) (.int .u64 s2) (.int .u64 Y) (.int .u64 0) (.int .i64 (p1 - min (p1 - p2) 70)) (.int .u64 0) (.int .u64 0) (.int .u64 0) (.int .i64 0) (.int .u64 0) (.int .u64 0) (.int .u64 0) (.int .i64 0)) := hcut
      clear hcut x0_2 xf0_2 x1_2 xf1_2 x2_2 xf2_2 x3_2 xf3_2 y0_2 yf0_2 y1_2 yf1_2 y2_2 yf2_2 y3_2 yf3_2 r0_2 rf0_2 r1_2 rf1_2 r2_2 rf2_2 r3_2 rf3_2 q0_2 qf0_2 q1_2 qf1_2 q2_2 qf2_2 q3_2 qf3_2 z2 y1 y2 y3
      have x0_3 := H3.out.x.c0
      have xf0_3 := H3.out.x.f0
      have x1_3 := H3.out.x.c1
      have xf1_3 := H3.out.x.f1
      have x2_3 := H3.out.x.c2
      have xf2_3 := H3.out.x.f2
      have x3_3 := H3.out.x.c3
      have xf3_3 := H3.out.x.f3
      have y0_3 := H3.out.y.c0
      have yf0_3 := H3.out.y.f0
      have y1_3 := H3.out.y.c1
      have yf1_3 := H3.out.y.f1
      have y2_3 := H3.out.y.c2
      have yf2_3 := H3.out.y.f2
      have y3_3 := H3.out.y.c3
      have yf3_3 := H3.out.y.f3
      have r0_3 := H3.out.r.c0
      have rf0_3 := H3.out.r.f0
      have r1_3 := H3.out.r.c1
      have rf1_3 := H3.out.r.f1
      have r2_3 := H3.out.r.c2
      have rf2_3 := H3.out.r.f2
      have r3_3 := H3.out.r.c3
      have rf3_3 := H3.out.r.f3
      have q0_3 := H3.out.q.c0
      have qf0_3 := H3.out.q.f0
      have q1_3 := H3.out.q.c1
      have qf1_3 := H3.out.q.f1
      have q2_3 := H3.out.q.c2
      have qf2_3 := H3.out.q.f2
      have q3_3 := H3.out.q.c3
      have qf3_3 := H3.out.q.f3
      have z3 := H3.out.size
      go_wp2_with fail
      go_region
      go_wp2_with fail
      go_light
      refine bodyPost_ret (v := .tuple #[.agg #[.int .u64 s1, .int .u64 X0, .int .u64 X1, .int .i64 (p1 - min (p1 - p2) 70)], .agg #[.int .u64 s2, .int .u64 Y, .int .u64 0, .int .i64 (p1 - min (p1 - p2) 70)]]) (results_quads rfl rfl (((((((((H3.out.r.set0 _).set1 _).set2 _).set3 _).other _ _ (by simp)).other _ _ (by simp)).other _ _ (by simp)).other _ _ (by simp)).drew) (((((((((H3.out.q.other _ _ (by simp)).other _ _ (by simp)).other _ _ (by simp)).other _ _ (by simp)).set0 _).set1 _).set2 _).set3 _).drew)) rfl ⟨rfl, ?_⟩
      exact ((((((((H3.out.below.setCell (by simp <;> omega) _).setCell (by simp <;> omega) _).setCell (by simp <;> omega) _).setCell (by simp <;> omega) _).setCell (by simp <;> omega) _).setCell (by simp <;> omega) _).setCell (by simp <;> omega) _).setCell (by simp <;> omega) _).drew
set_option maxHeartbeats 4000000 in
/-- y has the greater power: the two change places. -/
theorem aligned_lt (s1 s2 d1 d2 : Nat) (p1 p2 : Int) (h1 : d1 < 9007199254740992) (h2 : d2 < 9007199254740992) (hp1 : -1074 ≤ p1 ∧ p1 ≤ 972) (hp2 : -1074 ≤ p2 ∧ p2 ≤ 972) (hge : p2 < p1) (w : World) :
    Calls Tryd.prog 68 #[.agg #[.int .u64 s2, .int .u64 d2, .int .u64 0, .int .i64 p2], .agg #[.int .u64 s1, .int .u64 d1, .int .u64 0, .int .i64 p1]] w fun e w' =>
      e = .returned (.tuple #[.agg #[.int .u64 s1, .int .u64 (alX d1 (p1 - p2) % 18446744073709551616 : Nat), .int .u64 (alX d1 (p1 - p2) / 18446744073709551616 : Nat), .int .i64 (p1 - min (p1 - p2) 70)],
        .agg #[.int .u64 s2, .int .u64 (alY d2 (p1 - p2)), .int .u64 0, .int .i64 (p1 - min (p1 - p2) 70)]]) ∧ Below w.heap.size w w' := by
  obtain ⟨a1, a2⟩ := hp1
  obtain ⟨a3, a4⟩ := hp2
  have hx := alX_lt (a := p1 - p2) h1
  have el0 := left0 d1 0 (min (p1 - p2) 70).toNat (by omega)
  have el1 := left1 d1 0 (min (p1 - p2) 70).toNat (by omega)
  rw [show (((min (p1 - p2) 70).toNat : Nat) : Int) = min (p1 - p2) 70 by omega, Nat.zero_mul, Nat.add_zero] at el0 el1
  have ec0 := cut0 d2 0 (p1 - p2 - min (p1 - p2) 70).toNat (by omega) (by omega)
  have ec1 := cut1 d2 0 (p1 - p2 - min (p1 - p2) 70).toNat (by omega) (by omega)
  have er := rest_eq d2 0 (p1 - p2 - min (p1 - p2) 70).toNat (by omega) (by omega)
  have hq := Nat.div_le_self d2 (2 ^ (p1 - p2 - min (p1 - p2) 70).toNat)
  rw [show (((p1 - p2 - min (p1 - p2) 70).toNat : Nat) : Int) = p1 - p2 - min (p1 - p2) 70 by omega, Nat.zero_mul, Nat.add_zero] at ec0 ec1 er
  rw [Nat.mod_eq_of_lt (by omega)] at ec0
  rw [Nat.div_eq_of_lt (by omega : d2 / 2 ^ (p1 - p2 - min (p1 - p2) 70).toNat < 18446744073709551616)] at ec1
  have HLW : Hid (leftW d1 ((0 : Nat) : Int) (min (p1 - p2) 70) 0 = ((alX d1 (p1 - p2) % 18446744073709551616 : Nat) : Int) ∧ leftW d1 ((0 : Nat) : Int) (min (p1 - p2) 70) 1 = ((alX d1 (p1 - p2) / 18446744073709551616 : Nat) : Int)) := ⟨el0, by rw [el1]; congr 1; exact Nat.mod_eq_of_lt (by have := hx; unfold alX at this; omega)⟩
  have hone := or_one (d2 / 2 ^ (p1 - p2 - min (p1 - p2) 70).toNat) (by omega)
  have HY : Hid (alY d2 (p1 - p2) = if restN d2 (p1 - p2 - min (p1 - p2) 70).toNat = 0 then d2 / 2 ^ (p1 - p2 - min (p1 - p2) 70).toNat else d2 / 2 ^ (p1 - p2 - min (p1 - p2) 70).toNat + (1 - d2 / 2 ^ (p1 - p2 - min (p1 - p2) 70).toNat % 2)) := rfl
  have HCW : Hid (cutW d2 ((0 : Nat) : Int) (p1 - p2 - min (p1 - p2) 70) 0 = ((d2 / 2 ^ (p1 - p2 - min (p1 - p2) 70).toNat : Nat) : Int) ∧ cutW d2 ((0 : Nat) : Int) (p1 - p2 - min (p1 - p2) 70) 1 = 0 ∧ restOf d2 ((0 : Nat) : Int) (p1 - p2 - min (p1 - p2) 70) = restN d2 (p1 - p2 - min (p1 - p2) 70).toNat) := ⟨ec0, ec1, er⟩
  clear el0 el1 ec0 ec1 er hq hx
  generalize alX d1 (p1 - p2) % 18446744073709551616 = X0 at *
  generalize alX d1 (p1 - p2) / 18446744073709551616 = X1 at *
  generalize restN d2 (p1 - p2 - min (p1 - p2) 70).toNat = R at *
  generalize d2 / 2 ^ (p1 - p2 - min (p1 - p2) 70).toNat = Q at *
  generalize hA : alY d2 (p1 - p2) = Y at *
  clear hA
  go_enter Tryd.func68, Tryd.ntmps68
  go_wp2_with fail
  refine (left_any d1 ((0 : Nat) : Int) (min (p1 - p2) 70) (by omega) (by omega) _).mono ?_
  rintro e w1 ⟨rfl, hb1⟩
  rw [HLW.out.1, HLW.out.2]
  have H1 : Hid (Quads w w1 (.int .u64 s1) (.int .u64 d1) (.int .u64 0) (.int .i64 p1) (.int .u64 s2) (.int .u64 d2) (.int .u64 0) (.int .i64 p2) (.int .u64 0) (.int .u64 0) (.int .u64 0) (.int .i64 0) (.int .u64 0) (.int .u64 0) (.int .u64 0) (.int .i64 0)) := (Quads.start w _ _ _ _ _ _ _ _ _ _ _ _ _ _ _ _ _).later hb1
  clear hb1
  have x0_1 := H1.out.x.c0
  have xf0_1 := H1.out.x.f0
  have x1_1 := H1.out.x.c1
  have xf1_1 := H1.out.x.f1
  have x2_1 := H1.out.x.c2
  have xf2_1 := H1.out.x.f2
  have x3_1 := H1.out.x.c3
  have xf3_1 := H1.out.x.f3
  have y0_1 := H1.out.y.c0
  have yf0_1 := H1.out.y.f0
  have y1_1 := H1.out.y.c1
  have yf1_1 := H1.out.y.f1
  have y2_1 := H1.out.y.c2
  have yf2_1 := H1.out.y.f2
  have y3_1 := H1.out.y.c3
  have yf3_1 := H1.out.y.f3
  have r0_1 := H1.out.r.c0
  have rf0_1 := H1.out.r.f0
  have r1_1 := H1.out.r.c1
  have rf1_1 := H1.out.r.f1
  have r2_1 := H1.out.r.c2
  have rf2_1 := H1.out.r.f2
  have r3_1 := H1.out.r.c3
  have rf3_1 := H1.out.r.f3
  have q0_1 := H1.out.q.c0
  have qf0_1 := H1.out.q.f0
  have q1_1 := H1.out.q.c1
  have qf1_1 := H1.out.q.f1
  have q2_1 := H1.out.q.c2
  have qf2_1 := H1.out.q.f2
  have q3_1 := H1.out.q.c3
  have qf3_1 := H1.out.q.f3
  have z1 := H1.out.size
  go_wp2_with fail
  refine (cut_any d2 ((0 : Nat) : Int) (p1 - p2 - min (p1 - p2) 70) (by omega) (by omega) _).mono ?_
  rintro e w2 ⟨rfl, hb2⟩
  rw [HCW.out.1, HCW.out.2.1, HCW.out.2.2]
  have H2 : Hid (Quads w w2 (.int .u64 s1) (.int .u64 X0) (.int .u64 X1) (.int .i64 (p1 - min (p1 - p2) 70)) (.int .u64 s2) (.int .u64 d2) (.int .u64 0) (.int .i64 p2) (.int .u64 0) (.int .u64 0) (.int .u64 0) (.int .i64 0) (.int .u64 0) (.int .u64 0) (.int .u64 0) (.int .i64 0)) := (H1.out.setX _ _ _).later hb2
  clear hb2
  clear x0_1 xf0_1 x1_1 xf1_1 x2_1 xf2_1 x3_1 xf3_1 y0_1 yf0_1 y1_1 yf1_1 y2_1 yf2_1 y3_1 yf3_1 r0_1 rf0_1 r1_1 rf1_1 r2_1 rf2_1 r3_1 rf3_1 q0_1 qf0_1 q1_1 qf1_1 q2_1 qf2_1 q3_1 qf3_1 z1
  have x0_2 := H2.out.x.c0
  have xf0_2 := H2.out.x.f0
  have x1_2 := H2.out.x.c1
  have xf1_2 := H2.out.x.f1
  have x2_2 := H2.out.x.c2
  have xf2_2 := H2.out.x.f2
  have x3_2 := H2.out.x.c3
  have xf3_2 := H2.out.x.f3
  have y0_2 := H2.out.y.c0
  have yf0_2 := H2.out.y.f0
  have y1_2 := H2.out.y.c1
  have yf1_2 := H2.out.y.f1
  have y2_2 := H2.out.y.c2
  have yf2_2 := H2.out.y.f2
  have y3_2 := H2.out.y.c3
  have yf3_2 := H2.out.y.f3
  have r0_2 := H2.out.r.c0
  have rf0_2 := H2.out.r.f0
  have r1_2 := H2.out.r.c1
  have rf1_2 := H2.out.r.f1
  have r2_2 := H2.out.r.c2
  have rf2_2 := H2.out.r.f2
  have r3_2 := H2.out.r.c3
  have rf3_2 := H2.out.r.f3
  have q0_2 := H2.out.q.c0
  have qf0_2 := H2.out.q.f0
  have q1_2 := H2.out.q.c1
  have qf1_2 := H2.out.q.f1
  have q2_2 := H2.out.q.c2
  have qf2_2 := H2.out.q.f2
  have q3_2 := H2.out.q.c3
  have qf3_2 := H2.out.q.f3
  have z2 := H2.out.size
  have y1 : w.heap.size < w2.heap.size := by omega
  have y2 : w.heap.size + 1 < w2.heap.size := by omega
  have y3 : w.heap.size + 2 < w2.heap.size := by omega
  by_cases hR : R = 0
  · have hRb : (R != 0) = false := by simp [hR]
    have HYQ : Hid (((Y : Nat) : Int) = ((Q : Nat) : Int)) := (by rw [HY.out, if_pos hR] : ((Y : Nat) : Int) = _)
    clear hR
    go_wp2_with fail
    go_cut [] from 10 to 57 (fun wx => Quads w wx (.int .u64 s1) (.int .u64 X0) (.int .u64 X1) (.int .i64 (p1 - min (p1 - p2) 70)) (.int .u64 s2) (.int .u64 Y) (.int .u64 0) (.int .i64 (p1 - min (p1 - p2) 70)) (.int .u64 0) (.int .u64 0) (.int .u64 0) (.int .i64 0) (.int .u64 0) (.int .u64 0) (.int .u64 0) (.int .i64 0))
    case first =>
      go_region
      go_wp2_with fail
      go_meet
      go_light
      rw [HYQ.out]
      first | exact ((H2.out.alloc _).setY _ _ _).drew | exact ((H2.out.setY _ _ _).alloc _).drew
    case rest =>
      have H3 : Hid (Quads w wc (.int .u64 s1) (.int .u64 X0) (.int .u64 X1) (.int .i64 (p1 - min (p1 - p2) 70)) (.int .u64 s2) (.int .u64 Y) (.int .u64 0) (.int .i64 (p1 - min (p1 - p2) 70)) (.int .u64 0) (.int .u64 0) (.int .u64 0) (.int .i64 0) (.int .u64 0) (.int .u64 0) (.int .u64 0) (.int .i64 0)) := hcut
      clear hcut x0_2 xf0_2 x1_2 xf1_2 x2_2 xf2_2 x3_2 xf3_2 y0_2 yf0_2 y1_2 yf1_2 y2_2 yf2_2 y3_2 yf3_2 r0_2 rf0_2 r1_2 rf1_2 r2_2 rf2_2 r3_2 rf3_2 q0_2 qf0_2 q1_2 qf1_2 q2_2 qf2_2 q3_2 qf3_2 z2 y1 y2 y3
      have x0_3 := H3.out.x.c0
      have xf0_3 := H3.out.x.f0
      have x1_3 := H3.out.x.c1
      have xf1_3 := H3.out.x.f1
      have x2_3 := H3.out.x.c2
      have xf2_3 := H3.out.x.f2
      have x3_3 := H3.out.x.c3
      have xf3_3 := H3.out.x.f3
      have y0_3 := H3.out.y.c0
      have yf0_3 := H3.out.y.f0
      have y1_3 := H3.out.y.c1
      have yf1_3 := H3.out.y.f1
      have y2_3 := H3.out.y.c2
      have yf2_3 := H3.out.y.f2
      have y3_3 := H3.out.y.c3
      have yf3_3 := H3.out.y.f3
      have r0_3 := H3.out.r.c0
      have rf0_3 := H3.out.r.f0
      have r1_3 := H3.out.r.c1
      have rf1_3 := H3.out.r.f1
      have r2_3 := H3.out.r.c2
      have rf2_3 := H3.out.r.f2
      have r3_3 := H3.out.r.c3
      have rf3_3 := H3.out.r.f3
      have q0_3 := H3.out.q.c0
      have qf0_3 := H3.out.q.f0
      have q1_3 := H3.out.q.c1
      have qf1_3 := H3.out.q.f1
      have q2_3 := H3.out.q.c2
      have qf2_3 := H3.out.q.f2
      have q3_3 := H3.out.q.c3
      have qf3_3 := H3.out.q.f3
      have z3 := H3.out.size
      go_wp2_with fail
      go_region
      go_wp2_with fail
      go_light
      refine bodyPost_ret (v := .tuple #[.agg #[.int .u64 s1, .int .u64 X0, .int .u64 X1, .int .i64 (p1 - min (p1 - p2) 70)], .agg #[.int .u64 s2, .int .u64 Y, .int .u64 0, .int .i64 (p1 - min (p1 - p2) 70)]]) (results_quads rfl rfl (((((((((H3.out.r.set0 _).set1 _).set2 _).set3 _).other _ _ (by simp)).other _ _ (by simp)).other _ _ (by simp)).other _ _ (by simp)).drew) (((((((((H3.out.q.other _ _ (by simp)).other _ _ (by simp)).other _ _ (by simp)).other _ _ (by simp)).set0 _).set1 _).set2 _).set3 _).drew)) rfl ⟨rfl, ?_⟩
      exact ((((((((H3.out.below.setCell (by simp <;> omega) _).setCell (by simp <;> omega) _).setCell (by simp <;> omega) _).setCell (by simp <;> omega) _).setCell (by simp <;> omega) _).setCell (by simp <;> omega) _).setCell (by simp <;> omega) _).setCell (by simp <;> omega) _).drew
  · have hRb : (R != 0) = true := by simp [hR]
    have HYQ : Hid (((Y : Nat) : Int) = ((Q + (1 - Q % 2) : Nat) : Int)) := (by rw [HY.out, if_neg hR] : ((Y : Nat) : Int) = _)
    clear hR
    go_wp2_with fail
    go_cut [] from 10 to 57 (fun wx => Quads w wx (.int .u64 s1) (.int .u64 X0) (.int .u64 X1) (.int .i64 (p1 - min (p1 - p2) 70)) (.int .u64 s2) (.int .u64 Y) (.int .u64 0) (.int .i64 (p1 - min (p1 - p2) 70)) (.int .u64 0) (.int .u64 0) (.int .u64 0) (.int .i64 0) (.int .u64 0) (.int .u64 0) (.int .u64 0) (.int .i64 0))
    case first =>
      go_region
      go_wp2_with fail
      go_meet
      go_light
      rw [HYQ.out]
      first | exact ((H2.out.alloc _).setY _ _ _).drew | exact ((H2.out.setY _ _ _).alloc _).drew
    case rest =>
      have H3 : Hid (Quads w wc (.int .u64 s1) (.int .u64 X0) (.int .u64 X1) (.int .i64 (p1 - min (p1 - p2) 70)) (.int .u64 s2) (.int .u64 Y) (.int .u64 0) (.int .i64 (p1 - min (p1 - p2) 70)) (.int .u64 0) (.int .u64 0) (.int .u64 0) (.int .i64 0) (.int .u64 0) (.int .u64 0) (.int .u64 0) (.int .i64 0)) := hcut
      clear hcut x0_2 xf0_2 x1_2 xf1_2 x2_2 xf2_2 x3_2 xf3_2 y0_2 yf0_2 y1_2 yf1_2 y2_2 yf2_2 y3_2 yf3_2 r0_2 rf0_2 r1_2 rf1_2 r2_2 rf2_2 r3_2 rf3_2 q0_2 qf0_2 q1_2 qf1_2 q2_2 qf2_2 q3_2 qf3_2 z2 y1 y2 y3
      have x0_3 := H3.out.x.c0
      have xf0_3 := H3.out.x.f0
      have x1_3 := H3.out.x.c1
      have xf1_3 := H3.out.x.f1
      have x2_3 := H3.out.x.c2
      have xf2_3 := H3.out.x.f2
      have x3_3 := H3.out.x.c3
      have xf3_3 := H3.out.x.f3
      have y0_3 := H3.out.y.c0
      have yf0_3 := H3.out.y.f0
      have y1_3 := H3.out.y.c1
      have yf1_3 := H3.out.y.f1
      have y2_3 := H3.out.y.c2
      have yf2_3 := H3.out.y.f2
      have y3_3 := H3.out.y.c3
      have yf3_3 := H3.out.y.f3
      have r0_3 := H3.out.r.c0
      have rf0_3 := H3.out.r.f0
      have r1_3 := H3.out.r.c1
      have rf1_3 := H3.out.r.f1
      have r2_3 := H3.out.r.c2
      have rf2_3 := H3.out.r.f2
      have r3_3 := H3.out.r.c3
      have rf3_3 := H3.out.r.f3
      have q0_3 := H3.out.q.c0
      have qf0_3 := H3.out.q.f0
      have q1_3 := H3.out.q.c1
      have qf1_3 := H3.out.q.f1
      have q2_3 := H3.out.q.c2
      have qf2_3 := H3.out.q.f2
      have q3_3 := H3.out.q.c3
      have qf3_3 := H3.out.q.f3
      have z3 := H3.out.size
      go_wp2_with fail
      go_region
      go_wp2_with fail
      go_light
      refine bodyPost_ret (v := .tuple #[.agg #[.int .u64 s1, .int .u64 X0, .int .u64 X1, .int .i64 (p1 - min (p1 - p2) 70)], .agg #[.int .u64 s2, .int .u64 Y, .int .u64 0, .int .i64 (p1 - min (p1 - p2) 70)]]) (results_quads rfl rfl (((((((((H3.out.r.set0 _).set1 _).set2 _).set3 _).other _ _ (by simp)).other _ _ (by simp)).other _ _ (by simp)).other _ _ (by simp)).drew) (((((((((H3.out.q.other _ _ (by simp)).other _ _ (by simp)).other _ _ (by simp)).other _ _ (by simp)).set0 _).set1 _).set2 _).set3 _).drew)) rfl ⟨rfl, ?_⟩
      exact ((((((((H3.out.below.setCell (by simp <;> omega) _).setCell (by simp <;> omega) _).setCell (by simp <;> omega) _).setCell (by simp <;> omega) _).setCell (by simp <;> omega) _).setCell (by simp <;> omega) _).setCell (by simp <;> omega) _).setCell (by simp <;> omega) _).drew
end Go.Proofs.YtfbdgecanfmgiaaDoor
