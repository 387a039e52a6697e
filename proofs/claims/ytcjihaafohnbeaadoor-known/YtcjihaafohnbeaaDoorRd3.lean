import Derived.Test.YtcjihaafohnbeaaDoorRd2
namespace Go.Proofs.YtcjihaafohnbeaaDoor
open Go.RowKit

theorem sqR_sq (n : Nat) : sqR (n * n) = n := root_one (sqR_spec _).1 (sqR_spec _).2 (Nat.le_refl _) (sq_grows _ _ (Nat.lt_succ_self n))
theorem cbR_cb (n : Nat) : cbR (n * (n * n)) = n := cube_one (cbR_spec _).1 (cbR_spec _).2 (Nat.le_refl _) (cb_grows _ _ (Nat.lt_succ_self n))
theorem fact4 : divB 4607182418800017408 4616189618054758400 0 = 4598175219545276416 ∧ divF 4607182418800017408 4616189618054758400 0 = 0 := by decide +kernel
theorem fact5 : fmB 4611686018427387904 4613937818241073152 4607182418800017408 0 = 4619567317775286272 ∧ fmF 4611686018427387904 4613937818241073152 4607182418800017408 0 = 0 := by decide +kernel
theorem fact6 : sqB 4616189618054758400 0 = 4611686018427387904 ∧ sqF 4616189618054758400 0 = 0 := by
  have hA : sqA (mant 4616189618054758400) (pow 4616189618054758400) = 2 ^ 91 * 2 ^ 91 := by decide +kernel
  have h1 : ¬ kind ((4616189618054758400 : Nat) : Int) = 0 := by decide
  have h2 : ¬ sgn 4616189618054758400 = 1 := by decide
  have h3 : ¬ kind ((4616189618054758400 : Nat) : Int) = 3 := by decide
  unfold sqB sqF sqD
  rw [if_neg h1, if_neg h2, if_neg h3, if_neg h1, if_neg h2, if_neg h3, hA, sqR_sq]
  decide +kernel
theorem fact7 : rqB 4625196817309499392 0 = 4598175219545276416 ∧ rqF 4625196817309499392 0 = 0 := by
  have hA : rqA (mant 4625196817309499392) (pow 4625196817309499392) / mant 4625196817309499392 = 2 ^ 121 * 2 ^ 121 := by decide +kernel
  have h1 : ¬ kind ((4625196817309499392 : Nat) : Int) = 0 := by decide
  have h2 : ¬ sgn 4625196817309499392 = 1 := by decide
  have h3 : ¬ kind ((4625196817309499392 : Nat) : Int) = 3 := by decide
  unfold rqB rqF rqD
  rw [if_neg h1, if_neg h2, if_neg h3, if_neg h1, if_neg h2, if_neg h3, hA, sqR_sq]
  decide +kernel
theorem fact8 : cbB 4628293042053316608 0 = 4613937818241073152 ∧ cbF 4628293042053316608 0 = 0 := by
  have hA : cbA (mant 4628293042053316608) (pow 4628293042053316608) = 3 * 2 ^ 80 * (3 * 2 ^ 80 * (3 * 2 ^ 80)) := by decide +kernel
  have h1 : ¬ (kind ((4628293042053316608 : Nat) : Int) = 3 ∨ kind ((4628293042053316608 : Nat) : Int) = 0) := by decide
  unfold cbB cbF cbD
  rw [if_neg h1, if_neg h1, hA, cbR_cb]
  decide +kernel
theorem fact9 : sdB 4613937818241073152 4616189618054758400 0 = 4617315517961601024 ∧ sdF 4613937818241073152 4616189618054758400 0 = 0 := by
  have hA : sqA (ssD 4613937818241073152 4616189618054758400) (ssP 4613937818241073152 4616189618054758400) = 5 * 2 ^ 116 * (5 * 2 ^ 116) := by decide +kernel
  have h1 : ¬ (kind ((4613937818241073152 : Nat) : Int) = 3 ∨ kind ((4616189618054758400 : Nat) : Int) = 3) := by decide
  have h2 : ¬ (kind ((4613937818241073152 : Nat) : Int) = 0 ∧ kind ((4616189618054758400 : Nat) : Int) = 0) := by decide
  unfold sdB sdF sqD
  rw [if_neg h1, if_neg h1, if_neg h2, if_neg h2, hA, sqR_sq]
  decide +kernel

set_option maxHeartbeats 4000000 in
theorem rooted_any (w : World) (hT : Tab w) :
    Calls Tryd.prog 10 #[] w fun e w' => e = .returned (.bool true) ∧ Below w.heap.size w w' := by
  have H4 : Hid (∀ w1, Below w.heap.size w w1 → Calls Tryd.prog 12 #[.agg #[.int .u8 4, .int .u8 0, .int .u64 4607182418800017408, .int .u64 4616189618054758400, .int .u64 0]] w1 fun e w' => e = .returned (.agg #[.int .u64 4598175219545276416, .int .u8 0, .bool false]) ∧ Below w1.heap.size w1 w') := by
    intro w1 hb
    have := soft_div 4607182418800017408 4616189618054758400 0 0 (by decide) (by decide) (by decide) (by decide) (by decide) (by decide) w1 (hT.later hb)
    rw [fact4.1, fact4.2] at this
    exact this
  have q4 := eq_res 4598175219545276416 0 false 4598175219545276416 0 false
  rw [show eqR 4598175219545276416 0 false 4598175219545276416 0 false = true by decide] at q4
  have H5 : Hid (∀ w1, Below w.heap.size w w1 → Calls Tryd.prog 12 #[.agg #[.int .u8 5, .int .u8 0, .int .u64 4611686018427387904, .int .u64 4613937818241073152, .int .u64 4607182418800017408]] w1 fun e w' => e = .returned (.agg #[.int .u64 4619567317775286272, .int .u8 0, .bool false]) ∧ Below w1.heap.size w1 w') := by
    intro w1 hb
    have := soft_fmDo 4611686018427387904 4613937818241073152 4607182418800017408 0 (by decide) (by decide) (by decide) (by decide) (by decide) w1 (hT.later hb)
    rw [fact5.1, fact5.2] at this
    exact this
  have q5 := eq_res 4619567317775286272 0 false 4619567317775286272 0 false
  rw [show eqR 4619567317775286272 0 false 4619567317775286272 0 false = true by decide] at q5
  have H6 : Hid (∀ w1, Below w.heap.size w w1 → Calls Tryd.prog 12 #[.agg #[.int .u8 6, .int .u8 0, .int .u64 4616189618054758400, .int .u64 0, .int .u64 0]] w1 fun e w' => e = .returned (.agg #[.int .u64 4611686018427387904, .int .u8 0, .bool false]) ∧ Below w1.heap.size w1 w') := by
    intro w1 hb
    have := soft_sqDo 4616189618054758400 0 0 0 (by decide) (by decide) (by decide) (by decide) (by decide) w1 (hT.later hb)
    rw [fact6.1, fact6.2] at this
    exact this
  have q6 := eq_res 4611686018427387904 0 false 4611686018427387904 0 false
  rw [show eqR 4611686018427387904 0 false 4611686018427387904 0 false = true by decide] at q6
  have H7 : Hid (∀ w1, Below w.heap.size w w1 → Calls Tryd.prog 12 #[.agg #[.int .u8 7, .int .u8 0, .int .u64 4625196817309499392, .int .u64 0, .int .u64 0]] w1 fun e w' => e = .returned (.agg #[.int .u64 4598175219545276416, .int .u8 0, .bool false]) ∧ Below w1.heap.size w1 w') := by
    intro w1 hb
    have := soft_rqDo 4625196817309499392 0 0 0 (by decide) (by decide) (by decide) (by decide) (by decide) w1 (hT.later hb)
    rw [fact7.1, fact7.2] at this
    exact this
  have q7 := eq_res 4598175219545276416 0 false 4598175219545276416 0 false
  rw [show eqR 4598175219545276416 0 false 4598175219545276416 0 false = true by decide] at q7
  have H8 : Hid (∀ w1, Below w.heap.size w w1 → Calls Tryd.prog 12 #[.agg #[.int .u8 8, .int .u8 0, .int .u64 4628293042053316608, .int .u64 0, .int .u64 0]] w1 fun e w' => e = .returned (.agg #[.int .u64 4613937818241073152, .int .u8 0, .bool false]) ∧ Below w1.heap.size w1 w') := by
    intro w1 hb
    have := soft_cbDo 4628293042053316608 0 0 0 (by decide) (by decide) (by decide) (by decide) (by decide) w1 (hT.later hb)
    rw [fact8.1, fact8.2] at this
    exact this
  have q8 := eq_res 4613937818241073152 0 false 4613937818241073152 0 false
  rw [show eqR 4613937818241073152 0 false 4613937818241073152 0 false = true by decide] at q8
  have H9 : Hid (∀ w1, Below w.heap.size w w1 → Calls Tryd.prog 12 #[.agg #[.int .u8 9, .int .u8 0, .int .u64 4613937818241073152, .int .u64 4616189618054758400, .int .u64 0]] w1 fun e w' => e = .returned (.agg #[.int .u64 4617315517961601024, .int .u8 0, .bool false]) ∧ Below w1.heap.size w1 w') := by
    intro w1 hb
    have := soft_hyDo 4613937818241073152 4616189618054758400 0 0 (by decide) (by decide) (by decide) (by decide) (by decide) w1 (hT.later hb)
    rw [fact9.1, fact9.2] at this
    exact this
  have q9 := eq_res 4617315517961601024 0 false 4617315517961601024 0 false
  rw [show eqR 4617315517961601024 0 false 4617315517961601024 0 false = true by decide] at q9
  clear hT
  go_enter Tryd.func10, Tryd.ntmps10
  go_wp2_with fail
  refine (H4.out _ (Below.refl _ _)).mono ?_
  rintro e w4 ⟨rfl, hb⟩
  have B4 : Hid (Below w.heap.size w (w4.alloc (.cells #[.int .u64 4598175219545276416, .int .u8 0, .bool false] 33))) := below_new (Below.refl _ _) hb _ (Nat.le_refl _)
  have L4 : Hid (Lies (w4.alloc (.cells #[.int .u64 4598175219545276416, .int .u8 0, .bool false] 33)) w4.heap.size 4598175219545276416 0 false) := Lies.new _ _ _ _ _
  clear hb
  go_wp2_with fail
  refine (H5.out _ B4.out).mono ?_
  rintro e w5 ⟨rfl, hb⟩
  have B5 : Hid (Below w.heap.size w (w5.alloc (.cells #[.int .u64 4619567317775286272, .int .u8 0, .bool false] 33))) := below_new B4.out hb _ (Nat.le_refl _)
  have L4 : Hid (Lies w5 w4.heap.size 4598175219545276416 0 false) := L4.out.later hb
  have L5 : Hid (Lies (w5.alloc (.cells #[.int .u64 4619567317775286272, .int .u8 0, .bool false] 33)) w5.heap.size 4619567317775286272 0 false) := Lies.new _ _ _ _ _
  clear hb
  go_wp2_with fail
  refine (H6.out _ B5.out).mono ?_
  rintro e w6 ⟨rfl, hb⟩
  have B6 : Hid (Below w.heap.size w (w6.alloc (.cells #[.int .u64 4611686018427387904, .int .u8 0, .bool false] 33))) := below_new B5.out hb _ (Nat.le_refl _)
  have L4 : Hid (Lies w6 w4.heap.size 4598175219545276416 0 false) := (L4.out.alloc _).later hb
  have L5 : Hid (Lies w6 w5.heap.size 4619567317775286272 0 false) := L5.out.later hb
  have L6 : Hid (Lies (w6.alloc (.cells #[.int .u64 4611686018427387904, .int .u8 0, .bool false] 33)) w6.heap.size 4611686018427387904 0 false) := Lies.new _ _ _ _ _
  clear hb
  go_wp2_with fail
  refine (H7.out _ B6.out).mono ?_
  rintro e w7 ⟨rfl, hb⟩
  have B7 : Hid (Below w.heap.size w (w7.alloc (.cells #[.int .u64 4598175219545276416, .int .u8 0, .bool false] 33))) := below_new B6.out hb _ (Nat.le_refl _)
  have L4 : Hid (Lies w7 w4.heap.size 4598175219545276416 0 false) := (L4.out.alloc _).later hb
  have L5 : Hid (Lies w7 w5.heap.size 4619567317775286272 0 false) := (L5.out.alloc _).later hb
  have L6 : Hid (Lies w7 w6.heap.size 4611686018427387904 0 false) := L6.out.later hb
  have L7 : Hid (Lies (w7.alloc (.cells #[.int .u64 4598175219545276416, .int .u8 0, .bool false] 33)) w7.heap.size 4598175219545276416 0 false) := Lies.new _ _ _ _ _
  clear hb
  go_wp2_with fail
  refine (H8.out _ B7.out).mono ?_
  rintro e w8 ⟨rfl, hb⟩
  have B8 : Hid (Below w.heap.size w (w8.alloc (.cells #[.int .u64 4613937818241073152, .int .u8 0, .bool false] 33))) := below_new B7.out hb _ (Nat.le_refl _)
  have L4 : Hid (Lies w8 w4.heap.size 4598175219545276416 0 false) := (L4.out.alloc _).later hb
  have L5 : Hid (Lies w8 w5.heap.size 4619567317775286272 0 false) := (L5.out.alloc _).later hb
  have L6 : Hid (Lies w8 w6.heap.size 4611686018427387904 0 false) := (L6.out.alloc _).later hb
  have L7 : Hid (Lies w8 w7.heap.size 4598175219545276416 0 false) := L7.out.later hb
  have L8 : Hid (Lies (w8.alloc (.cells #[.int .u64 4613937818241073152, .int .u8 0, .bool false] 33)) w8.heap.size 4613937818241073152 0 false) := Lies.new _ _ _ _ _
  clear hb
  go_wp2_with fail
  refine (H9.out _ B8.out).mono ?_
  rintro e w9 ⟨rfl, hb⟩
  have B9 : Hid (Below w.heap.size w (w9.alloc (.cells #[.int .u64 4617315517961601024, .int .u8 0, .bool false] 33))) := below_new B8.out hb _ (Nat.le_refl _)
  have L4 : Hid (Lies w9 w4.heap.size 4598175219545276416 0 false) := (L4.out.alloc _).later hb
  have L5 : Hid (Lies w9 w5.heap.size 4619567317775286272 0 false) := (L5.out.alloc _).later hb
  have L6 : Hid (Lies w9 w6.heap.size 4611686018427387904 0 false) := (L6.out.alloc _).later hb
  have L7 : Hid (Lies w9 w7.heap.size 4598175219545276416 0 false) := (L7.out.alloc _).later hb
  have L8 : Hid (Lies w9 w8.heap.size 4613937818241073152 0 false) := L8.out.later hb
  have L9 : Hid (Lies (w9.alloc (.cells #[.int .u64 4617315517961601024, .int .u8 0, .bool false] 33)) w9.heap.size 4617315517961601024 0 false) := Lies.new _ _ _ _ _
  clear hb
  have x4 := L4.out.lt
  have x40 := L4.out.c0
  have x41 := L4.out.c1
  have x42 := L4.out.c2
  have x5 := L5.out.lt
  have x50 := L5.out.c0
  have x51 := L5.out.c1
  have x52 := L5.out.c2
  have x6 := L6.out.lt
  have x60 := L6.out.c0
  have x61 := L6.out.c1
  have x62 := L6.out.c2
  have x7 := L7.out.lt
  have x70 := L7.out.c0
  have x71 := L7.out.c1
  have x72 := L7.out.c2
  have x8 := L8.out.lt
  have x80 := L8.out.c0
  have x81 := L8.out.c1
  have x82 := L8.out.c2
  go_wp2_with fail
  go_ret
  exact ⟨rfl, B9.out⟩

set_option maxHeartbeats 1000000 in
theorem rounded_walk (a0 : Option Addr) (b off len cap : Nat) (w : World) (hT : Tab w) (ha : 0 < len → a0 = some ⟨b, off, none⟩) (hb : 0 < len → b < w.heap.size)
    (hstep : ∀ i, i < len → ∃ k a op m x y z la ln lc, StepAt w b (off + i * 8) k a op m x y z la ln lc) :
    Calls Tryd.prog 5 #[.slice a0 len cap] w fun e w' => e = .returned (.bool true) ∧ Below w.heap.size w w' := by
  have HT : Hid (Tab w) := hT
  have HSt : Hid (∀ i, i < len → ∃ k a op m x y z la ln lc, StepAt w b (off + i * 8) k a op m x y z la ln lc) := hstep
  clear hstep hT
  go_enter Tryd.func5, Tryd.ntmps5
  go_wp2_with fail
  refine (lives_any w HT.out).mono ?_
  rintro e w0 ⟨rfl, hb0⟩
  have HB0 : Hid (Below w.heap.size w w0) := hb0
  clear hb0
  go_wp2_with fail
  refine (rooted_any _ (HT.out.later HB0.out)).mono ?_
  rintro e w1 ⟨rfl, hb1⟩
  have HB1 : Hid (Below w.heap.size w w1) := HB0.out.trans (hb1.mono HB0.out.size)
  clear hb1 HB0
  go_wp2_with fail
  go_loopw [4, 5] (fun i _ wr => ∃ k : Nat, k ≤ len ∧ i = .int .i64 k ∧ Below w.heap.size w wr) (fun i _ _ => len - (intOf i).toNat)
  case atStart => exact ⟨0, Nat.zero_le _, rfl, HB1.out⟩
  case round =>
    obtain ⟨k, hk, rfl, hbel⟩ := hrel
    have HB : Hid (Below w.heap.size w wr) := hbel
    by_cases hlt : k < len
    · obtain ⟨kk, aa, op, m, x, y, z, la, ln, lc, hst⟩ := HSt.out k hlt
      have hbb := hb (by omega)
      have := ha (by omega)
      subst this
      have c2 := (hbel.cell (p := ⟨b, off + k * 8 + 2, none⟩) hbb).trans hst.c2
      have c3 := (hbel.cell (p := ⟨b, off + k * 8 + 3, none⟩) hbb).trans hst.c3
      have c4 := (hbel.cell (p := ⟨b, off + k * 8 + 4, none⟩) hbb).trans hst.c4
      have c5 := (hbel.cell (p := ⟨b, off + k * 8 + 5, none⟩) hbb).trans hst.c5
      have c6 := (hbel.cell (p := ⟨b, off + k * 8 + 6, none⟩) hbb).trans hst.c6
      have HST : Hid (StepAt w b (off + k * 8) kk aa op m x y z la ln lc) := hst
      clear hst hbel
      by_cases h60 : (k : Int) < 1152921504606846976
      · go_wp2_with fail
        refine (around_all op m x y z HST.out.rx HST.out.ry HST.out.rz _ (HT.out.later HB.out)).mono ?_
        rintro e w1 ⟨rfl, hb1⟩
        have HB1 : Hid (Below w.heap.size w w1) := HB.out.trans (hb1.mono HB.out.size)
        clear hb1 c2 c3 c4 c5 c6
        go_wp2_with fail
        go_roundw
        case rel => exact ⟨k + 1, by omega, by go_num, HB1.out⟩
        case measure => simp [intOf]; omega
      · clear c2 c3 c4 c5 c6
        go_wp2
        go_ret
        exact ⟨rfl, HB.out⟩
    · go_wp2
      go_ret
      exact ⟨rfl, HB.out⟩
end Go.Proofs.YtcjihaafohnbeaaDoor
