import Derived.Test.YtcjihaafohnbeaaDoorRefDv
import Derived.Laws.StructEq
namespace Go.Proofs.YtcjihaafohnbeaaDoor
open Go.RowKit

/-- Two results, compared as a whole. -/
def eqR (a b : Int) (c : Bool) (a' b' : Int) (c' : Bool) : Bool := a == a' && (b == b' && c == c')
theorem eqIn_res (a b : Int) (c : Bool) (a' b' : Int) (c' : Bool) (w : World) : (Op.equalIn 10000 33 (.agg #[.int .u64 a, .int .u8 b, .bool c]) (.agg #[.int .u64 a', .int .u8 b', .bool c'])).run Tryd.prog w = .ok (eqR a b c a' b' c') w := by
  rw [show (10000 : Nat) = 9999 + 1 from rfl, run_equalIn_struct w 9999 33 _ _ (by kernel_rfl) (by kernel_rfl)]
  have p0 : ∀ (x y z : Value) w, (part 24 #[x, y, z] 0).run Tryd.prog w = .ok x w := fun x y z w => by kernel_rfl
  have p1 : ∀ (x y z : Value) w, (part 5 #[x, y, z] 1).run Tryd.prog w = .ok y w := fun x y z w => by kernel_rfl
  have p2 : ∀ (x y z : Value) w, (part 4 #[x, y, z] 2).run Tryd.prog w = .ok z w := fun x y z w => by kernel_rfl
  have e0 : ∀ x y : Int, (Op.equalIn 9999 24 (.int .u64 x) (.int .u64 y)).run Tryd.prog w = .ok (x == y) w := fun x y => run_equalIn_int (P := Tryd.prog) w 9998 24 .u64 .u64 x y Tryd.underlying24
  have e1 : ∀ x y : Int, (Op.equalIn 9999 5 (.int .u8 x) (.int .u8 y)).run Tryd.prog w = .ok (x == y) w := fun x y => run_equalIn_int (P := Tryd.prog) w 9998 5 .u8 .u8 x y Tryd.underlying5
  have e2 : ∀ x y : Bool, (Op.equalIn 9999 4 (.bool x) (.bool y)).run Tryd.prog w = .ok (x == y) w := fun x y => run_equalIn_bool' (P := Tryd.prog) w 9998 4 x y Tryd.underlying4
  simp only [Program.fieldsOf, Tryd.underlying33]
  unfold eqR
  simp only [Op.eqFields, ne_eq, show ¬ ("Bits" = "_") by decide, show ¬ ("Flags" = "_") by decide, show ¬ ("Bad" = "_") by decide, not_false_eq_true, if_true, Sem.run_bind, p0, p1, p2, e0, e1, e2, Result.andThen_ok, Sem.run_ite, Sem.run_pure]
  by_cases h1 : a = a'
  · by_cases h2 : b = b'
    · by_cases h3 : c = c' <;> simp [h1, h2, h3]
    · simp [h1, h2]
  · simp [h1]
theorem eq_res (a b : Int) (c : Bool) (a' b' : Int) (c' : Bool) (w : World) : (Go.binOp .eql 33 (.agg #[.int .u64 a, .int .u8 b, .bool c]) (.agg #[.int .u64 a', .int .u8 b', .bool c'])).run Tryd.prog w = .ok (.bool (eqR a b c a' b' c')) w := by
  simp only [Go.binOp, Op.equal, Op.maxDepth, Sem.run_bind, eqIn_res, Result.andThen_ok, Sem.run_pure]
theorem ne_res (a b : Int) (c : Bool) (a' b' : Int) (c' : Bool) (w : World) : (Go.binOp .neq 33 (.agg #[.int .u64 a, .int .u8 b, .bool c]) (.agg #[.int .u64 a', .int .u8 b', .bool c'])).run Tryd.prog w = .ok (.bool (!eqR a b c a' b' c')) w := by
  simp only [Go.binOp, Op.equal, Op.maxDepth, Sem.run_bind, eqIn_res, Result.andThen_ok, Sem.run_pure]

set_option maxHeartbeats 400000 in
theorem nan_any (z : Int) (w : World) :
    Calls Tryd.prog 14 #[.int .u64 z] w fun e w' => e = .returned (.bool (nanI z)) ∧ w' = w := by
  unfold nanI
  go_enter Tryd.func14, Tryd.ntmps14
  go_wp2
  go_ret
  exact ⟨rfl, rfl⟩
set_option maxHeartbeats 400000 in
theorem minus_any (z : Int) (h : 0 ≤ z ∧ z < 18446744073709551616) (w : World) :
    Calls Tryd.prog 16 #[.int .u64 z] w fun e w' => e = .returned (.int .u64 (negI z)) ∧ w' = w := by
  have hx : bits .xor .u64 z 9223372036854775808 = negI z := by
    have := xor_top z.toNat (by omega)
    rw [neg_cast, show (z.toNat : Int) = z by omega] at this
    exact this
  go_enter Tryd.func16, Tryd.ntmps16
  go_wp2
  go_ret
  exact ⟨rfl, rfl⟩
set_option maxHeartbeats 400000 in
theorem other_any (m : Int) (w : World) :
    Calls Tryd.prog 17 #[.int .u8 m] w fun e w' => e = .returned (.int .u8 (otherM m)) ∧ w' = w := by
  unfold otherM
  go_enter Tryd.func17, Tryd.ntmps17
  by_cases h3 : m = 3
  · subst h3; go_wp2; go_ret; exact ⟨rfl, rfl⟩
  · by_cases h4 : m = 4
    · subst h4; go_wp2; go_ret; exact ⟨rfl, rfl⟩
    · have b3 : (m == 3) = false := by simp [h3]
      have b4 : (m == 4) = false := by simp [h4]
      rw [if_neg h3, if_neg h4]
      go_wp2; go_ret; exact ⟨rfl, rfl⟩

/-- A result as it lies in its block. -/
structure Lies (w : World) (g : Nat) (a b : Int) (c : Bool) : Prop where
  lt : g < w.heap.size
  c0 : w.cell? ⟨g, 0, none⟩ = some (.int .u64 a)
  c1 : w.cell? ⟨g, 1, none⟩ = some (.int .u8 b)
  c2 : w.cell? ⟨g, 2, none⟩ = some (.bool c)
theorem Lies.later {w w' : World} {g : Nat} {a b : Int} {c : Bool} (h : Lies w g a b c) (hb : Below w.heap.size w w') : Lies w' g a b c :=
  ⟨Nat.lt_of_lt_of_le h.lt hb.size, (hb.cell (p := ⟨g, 0, none⟩) h.lt).trans h.c0, (hb.cell (p := ⟨g, 1, none⟩) h.lt).trans h.c1, (hb.cell (p := ⟨g, 2, none⟩) h.lt).trans h.c2⟩
theorem Lies.alloc {w : World} {g : Nat} {a b : Int} {c : Bool} (h : Lies w g a b c) (o : Obj) : Lies (w.alloc o) g a b c := h.later ((Below.refl _ _).alloc (Nat.le_refl _) _)
theorem Lies.new (w : World) (a b : Int) (c : Bool) (t : TypeId) : Lies (w.alloc (.cells #[.int .u64 a, .int .u8 b, .bool c] t)) w.heap.size a b c := ⟨by simp, by go_simp, by go_simp, by go_simp⟩
theorem below_new {B : Nat} {w w1 w2 : World} (h : Below B w w1) (h2 : Below w1.heap.size w1 w2) (o : Obj) (hB : B ≤ w.heap.size) : Below B w (w2.alloc o) :=
  (h.trans (h2.mono (Nat.le_trans hB h.size))).alloc (Nat.le_trans hB (Nat.le_trans h.size h2.size)) _

set_option maxHeartbeats 2000000 in
theorem lives_any (w : World) (hT : Tab w) :
    Calls Tryd.prog 7 #[] w fun e w' => e = .returned (.bool true) ∧ Below w.heap.size w w' := by
  have k1 : kind ((4607182418800017408 : Nat) : Int) < 4 := by decide
  have k2 : kind ((4611686018427387904 : Nat) : Int) < 4 := by decide
  have k3 : kind ((4336966441157787648 : Nat) : Int) < 4 := by decide
  have k4 : kind ((4613937818241073152 : Nat) : Int) < 4 := by decide
  have H1 : Hid (∀ w1, Below w.heap.size w w1 → Calls Tryd.prog 12 #[.agg #[.int .u8 1, .int .u8 0, .int .u64 4607182418800017408, .int .u64 4611686018427387904, .int .u64 0]] w1 fun e w' => e = .returned (.agg #[.int .u64 4613937818241073152, .int .u8 0, .bool false]) ∧ Below w1.heap.size w1 w') := by
    intro w1 hb
    have := soft_addS 4607182418800017408 4611686018427387904 0 0 (by decide) (by decide) (by decide) (by decide) k1 k2 w1 (hT.later hb)
    rw [live1.1, live1.2] at this
    exact this
  have H2 : Hid (∀ w1, Below w.heap.size w w1 → Calls Tryd.prog 12 #[.agg #[.int .u8 1, .int .u8 0, .int .u64 4607182418800017408, .int .u64 4336966441157787648, .int .u64 0]] w1 fun e w' => e = .returned (.agg #[.int .u64 4607182418800017408, .int .u8 1, .bool false]) ∧ Below w1.heap.size w1 w') := by
    intro w1 hb
    have := soft_addS 4607182418800017408 4336966441157787648 0 0 (by decide) (by decide) (by decide) (by decide) k1 k3 w1 (hT.later hb)
    rw [live2.1, live2.2] at this
    exact this
  have H3 : Hid (∀ w1, Below w.heap.size w w1 → Calls Tryd.prog 12 #[.agg #[.int .u8 1, .int .u8 3, .int .u64 4607182418800017408, .int .u64 4336966441157787648, .int .u64 0]] w1 fun e w' => e = .returned (.agg #[.int .u64 4607182418800017409, .int .u8 1, .bool false]) ∧ Below w1.heap.size w1 w') := by
    intro w1 hb
    have := soft_addS 4607182418800017408 4336966441157787648 3 0 (by decide) (by decide) (by decide) (by decide) k1 k3 w1 (hT.later hb)
    rw [live3.1, live3.2] at this
    exact this
  have H4 : Hid (∀ w1, Below w.heap.size w w1 → Calls Tryd.prog 12 #[.agg #[.int .u8 3, .int .u8 0, .int .u64 4613937818241073152, .int .u64 4613937818241073152, .int .u64 0]] w1 fun e w' => e = .returned (.agg #[.int .u64 4621256167635550208, .int .u8 0, .bool false]) ∧ Below w1.heap.size w1 w') := by
    intro w1 hb
    have := soft_mul 4613937818241073152 4613937818241073152 0 0 (by decide) (by decide) (by decide) (by decide) k4 k4 w1 (hT.later hb)
    rw [live4.1, live4.2] at this
    exact this
  clear k1 k2 k3 k4 hT
  go_enter Tryd.func7, Tryd.ntmps7
  go_wp2_with fail
  refine (H1.out _ (Below.refl _ _)).mono ?_
  rintro e w1 ⟨rfl, hb1⟩
  have B1 : Hid (Below w.heap.size w (w1.alloc (.cells #[.int .u64 4613937818241073152, .int .u8 0, .bool false] 33))) := below_new (Below.refl _ _) hb1 _ (Nat.le_refl _)
  have L1 : Hid (Lies (w1.alloc (.cells #[.int .u64 4613937818241073152, .int .u8 0, .bool false] 33)) w1.heap.size 4613937818241073152 0 false) := Lies.new _ _ _ _ _
  clear hb1
  go_wp2_with fail
  refine (H2.out _ B1.out).mono ?_
  rintro e w2 ⟨rfl, hb2⟩
  have B2 : Hid (Below w.heap.size w (w2.alloc (.cells #[.int .u64 4607182418800017408, .int .u8 1, .bool false] 33))) := below_new B1.out hb2 _ (Nat.le_refl _)
  have L1 : Hid (Lies w2 w1.heap.size 4613937818241073152 0 false) := L1.out.later hb2
  have L2 : Hid (Lies (w2.alloc (.cells #[.int .u64 4607182418800017408, .int .u8 1, .bool false] 33)) w2.heap.size 4607182418800017408 1 false) := Lies.new _ _ _ _ _
  clear hb2
  go_wp2_with fail
  refine (H3.out _ B2.out).mono ?_
  rintro e w3 ⟨rfl, hb3⟩
  have B3 : Hid (Below w.heap.size w (w3.alloc (.cells #[.int .u64 4607182418800017409, .int .u8 1, .bool false] 33))) := below_new B2.out hb3 _ (Nat.le_refl _)
  have L1 : Hid (Lies w3 w1.heap.size 4613937818241073152 0 false) := (L1.out.alloc _).later hb3
  have L2 : Hid (Lies w3 w2.heap.size 4607182418800017408 1 false) := L2.out.later hb3
  have L3 : Hid (Lies (w3.alloc (.cells #[.int .u64 4607182418800017409, .int .u8 1, .bool false] 33)) w3.heap.size 4607182418800017409 1 false) := Lies.new _ _ _ _ _
  clear hb3
  go_wp2_with fail
  refine (H4.out _ B3.out).mono ?_
  rintro e w4 ⟨rfl, hb4⟩
  have B4 : Hid (Below w.heap.size w (w4.alloc (.cells #[.int .u64 4621256167635550208, .int .u8 0, .bool false] 33))) := below_new B3.out hb4 _ (Nat.le_refl _)
  have L1 : Lies w4 w1.heap.size 4613937818241073152 0 false := (L1.out.alloc _).later hb4
  have L2 : Lies w4 w2.heap.size 4607182418800017408 1 false := (L2.out.alloc _).later hb4
  have L3 : Lies w4 w3.heap.size 4607182418800017409 1 false := L3.out.later hb4
  have x1 := L1.lt
  have x2 := L2.lt
  have x3 := L3.lt
  have x10 := L1.c0
  have x11 := L1.c1
  have x12 := L1.c2
  have x20 := L2.c0
  have x21 := L2.c1
  have x22 := L2.c2
  have x30 := L3.c0
  have x31 := L3.c1
  have x32 := L3.c2
  clear hb4 L1 L2 L3
  have q1 := eq_res 4613937818241073152 0 false 4613937818241073152 0 false
  have q2 := eq_res 4607182418800017408 1 false 4607182418800017408 1 false
  have q3 := eq_res 4607182418800017409 1 false 4607182418800017409 1 false
  have q4 := eq_res 4621256167635550208 0 false 4621256167635550208 0 false
  rw [show eqR 4613937818241073152 0 false 4613937818241073152 0 false = true by decide] at q1
  rw [show eqR 4607182418800017408 1 false 4607182418800017408 1 false = true by decide] at q2
  rw [show eqR 4607182418800017409 1 false 4607182418800017409 1 false = true by decide] at q3
  rw [show eqR 4621256167635550208 0 false 4621256167635550208 0 false = true by decide] at q4
  go_wp2_with fail
  go_ret
  exact ⟨rfl, B4.out⟩
end Go.Proofs.YtcjihaafohnbeaaDoor
