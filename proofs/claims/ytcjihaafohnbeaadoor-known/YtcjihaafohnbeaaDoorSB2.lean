import Derived.Test.YtcjihaafohnbeaaDoorSA2
import Derived.Test.YtcjihaafohnbeaaDoorRefT
import Derived.Laws.StructEq
namespace Go.Proofs.YtcjihaafohnbeaaDoor.W2
open Go.RowKit

/-- Arrays of words, compared as a whole. -/
theorem eq_in (d : Nat) (a0 a1 b0 b1 : Int) (w : World) : (Op.equalIn (d + 2) 57 (.agg #[.int .u64 a0, .int .u64 a1]) (.agg #[.int .u64 b0, .int .u64 b1])).run Tryd.prog w = .ok (a0 == b0 && a1 == b1) w := by
  have hu := Tryd.underlying57
  have hu2 := Tryd.underlying24
  have p0 : ∀ (x0 x1 : Value) w, (part 24 #[x0, x1] 0).run Tryd.prog w = .ok x0 w := fun x0 x1 w => by kernel_rfl
  have p1 : ∀ (x0 x1 : Value) w, (part 24 #[x0, x1] 1).run Tryd.prog w = .ok x1 w := fun x0 x1 w => by kernel_rfl
  have e : ∀ x y : Int, (Op.equalIn (d + 1) 24 (.int .u64 x) (.int .u64 y)).run Tryd.prog w = .ok (x == y) w := fun x y => run_equalIn_int (P := Tryd.prog) w d 24 .u64 .u64 x y hu2
  rw [show d + 2 = (d + 1) + 1 from rfl]
  unfold Op.equalIn
  simp only [Sem.run_bind, run_underlying hu, Result.andThen_ok, sizeU64]
  rw [Std.Legacy.Range.forIn_eq_forIn_range']
  simp only [show List.range' 0 (Std.Legacy.Range.size [:2]) 1 = [0, 1] from rfl, List.forIn_cons, List.forIn_nil, Sem.run_bind, p0, e, Nat.mul_one, Result.andThen_ok]
  by_cases h0 : a0 = b0
  rotate_left
  · simp [h0]
  by_cases h1 : a1 = b1
  rotate_left
  · simp [h0, h1, p1, e]
  simp [h0, h1, p1, e]
/-- Two exact numbers, compared as a whole. -/
theorem eq_exact (s t : Int) (a0 a1 b0 b1 : Int) (p q : Int) (w : World) : (Go.binOp .eql 59 (.agg #[.int .u64 s, .int .u64 a0, .int .u64 a1, .int .i64 p]) (.agg #[.int .u64 t, .int .u64 b0, .int .u64 b1, .int .i64 q])).run Tryd.prog w = .ok (.bool (s == t && (a0 == b0 && a1 == b1) && p == q)) w := by
  have hu := Tryd.underlying59
  have h0 : ∀ (x0 x1 x2 x3 : Value) w, (part 24 #[x0, x1, x2, x3] 0).run Tryd.prog w = .ok x0 w := fun x0 x1 x2 x3 w => by kernel_rfl
  have h1 : ∀ (x0 x1 x2 x3 : Value) w, (part 57 #[x0, x1, x2, x3] 1).run Tryd.prog w = .ok (.agg #[x1, x2]) w := fun x0 x1 x2 x3 w => by kernel_rfl
  have h2 : ∀ (x0 x1 x2 x3 : Value) w, (part 3 #[x0, x1, x2, x3] 3).run Tryd.prog w = .ok x3 w := fun x0 x1 x2 x3 w => by kernel_rfl
  have e0 : ∀ x y : Int, (Op.equalIn 9999 24 (.int .u64 x) (.int .u64 y)).run Tryd.prog w = .ok (x == y) w := fun x y => run_equalIn_int (P := Tryd.prog) w 9998 24 .u64 .u64 x y Tryd.underlying24
  have e2 : ∀ x y : Int, (Op.equalIn 9999 3 (.int .i64 x) (.int .i64 y)).run Tryd.prog w = .ok (x == y) w := fun x y => run_equalIn_int (P := Tryd.prog) w 9998 3 .i64 .i64 x y Tryd.underlying3
  have e1 := eq_in 9997 a0 a1 b0 b1 w
  have hfs : Tryd.prog.underlying 59 = some (.struct (Tryd.prog.fieldsOf 59)) := by kernel_rfl
  simp only [Go.binOp, Op.equal, Op.maxDepth, Sem.run_bind]
  rw [show (10000 : Nat) = 9999 + 1 from rfl, run_equalIn_struct w 9999 _ _ _ hfs (by kernel_rfl)]
  simp only [Program.fieldsOf, hu, Op.eqFields]
  by_cases c0 : s = t
  rotate_left
  · simp [h0, e0, c0]
  by_cases c1 : (a0 == b0 && a1 == b1) = true
  rotate_left
  · rw [Bool.not_eq_true] at c1
    rw [c1] at e1 ⊢
    simp [h0, e0, c0, h1, e1]
  rw [c1] at e1 ⊢
  by_cases c2 : p = q
  · simp [h0, e0, c0, h1, e1, h2, e2, c2]
  · simp [h0, e0, c0, h1, e1, h2, e2, c2]

set_option maxHeartbeats 1000000 in
theorem opposite_any (s : Nat) (a0 a1 p : Int) (hs : s < 2) (w : World) :
    Calls Tryd.prog 73 #[.agg #[.int .u64 s, .int .u64 a0, .int .u64 a1, .int .i64 p]] w fun e w' => e = .returned (.agg #[.int .u64 ((1 - s : Nat) : Int), .int .u64 a0, .int .u64 a1, .int .i64 p]) ∧ Below w.heap.size w w' := by
  have hx := xor_one s hs
  generalize 1 - s = t at *
  clear hs
  go_enter Tryd.func73, Tryd.ntmps73
  go_wp2
  exact bodyPost_ret (v := .agg #[.int .u64 t, .int .u64 a0, .int .u64 a1, .int .i64 p]) (by simp [results, Tryd.results73, go_sem]) rfl ⟨rfl, ((Below.refl _ _).alloc (Nat.le_refl _) _).alloc (by simp) _⟩

/-- A number, read as a result. -/
theorem results_ex {tmps : Array Value} {U : World} {g : Nat} {a0 a1 a2 a3 : Value} (h6 : tmps.getD 6 undef = .pointer (some ⟨g, 0, none⟩)) (h : Blk U g [a0, a1, a2, a3]) :
    (results Tryd.f50 tmps).run Tryd.prog U = .ok (.agg #[a0, a1, a2, a3]) U := by
  have c0 := h.cells 0 _ rfl
  have c1 := h.cells 1 _ rfl
  have c2 := h.cells 2 _ rfl
  have c3 := h.cells 3 _ rfl
  have h6' : tmps[6]?.getD undef = .pointer (some ⟨g, 0, none⟩) := by simpa using h6
  simp [results, Tryd.results50, go_sem, h6', c0, c1, c2, c3]

set_option maxHeartbeats 8000000 in
set_option maxRecDepth 10000 in
theorem exactSum_al (a b : Nat) (a0 a1 b0 b1 p q m P : Int) (s1 s2 X Y : Nat) (hs1 : s1 < 2) (hs2 : s2 < 2) (hX : X < 170141183460469231731687303715884105728) (hY : Y < 170141183460469231731687303715884105728) (w : World)
    (hal : ∀ w1, Calls Tryd.prog 72 #[.agg #[.int .u64 a, .int .u64 a0, .int .u64 a1, .int .i64 p], .agg #[.int .u64 b, .int .u64 b0, .int .u64 b1, .int .i64 q]] w1 fun e w' => e = .returned (.tuple #[.agg #[.int .u64 s1, .int .u64 (wd X 0), .int .u64 (wd X 1), .int .i64 P], .agg #[.int .u64 s2, .int .u64 (wd Y 0), .int .u64 (wd Y 1), .int .i64 P]]) ∧ Below w1.heap.size w1 w') :
    Calls Tryd.prog 50 #[.agg #[.int .u64 a, .int .u64 a0, .int .u64 a1, .int .i64 p], .agg #[.int .u64 b, .int .u64 b0, .int .u64 b1, .int .i64 q], .int .u8 m] w fun e w' =>
      e = .returned (.agg #[.int .u64 (suS s1 X s2 Y m), .int .u64 (wd (suD s1 X s2 Y) 0), .int .u64 (wd (suD s1 X s2 Y) 1), .int .i64 (suP s1 X s2 Y P)]) ∧ Below w.heap.size w w' := by
  have HAL : Hid (∀ w1, Calls Tryd.prog 72 #[.agg #[.int .u64 a, .int .u64 a0, .int .u64 a1, .int .i64 p], .agg #[.int .u64 b, .int .u64 b0, .int .u64 b1, .int .i64 q]] w1 fun e w' => e = .returned (.tuple #[.agg #[.int .u64 s1, .int .u64 (wd X 0), .int .u64 (wd X 1), .int .i64 P], .agg #[.int .u64 s2, .int .u64 (wd Y 0), .int .u64 (wd Y 1), .int .i64 P]]) ∧ Below w1.heap.size w1 w') := hal
  have HOP : Hid (∀ w, Calls Tryd.prog 73 #[.agg #[.int .u64 s2, .int .u64 (wd Y 0), .int .u64 (wd Y 1), .int .i64 P]] w fun e w' => e = .returned (.agg #[.int .u64 ((1 - s2 : Nat) : Int), .int .u64 (wd Y 0), .int .u64 (wd Y 1), .int .i64 P]) ∧ Below w.heap.size w w') := fun w => opposite_any s2 (wd Y 0 : Nat) (wd Y 1 : Nat) P hs2 w
  have heq := eq_exact (s1 : Int) ((1 - s2 : Nat) : Int) (wd X 0 : Nat) (wd X 1 : Nat) (wd Y 0 : Nat) (wd Y 1 : Nat) P P
  have hcb : ((s1 : Int) == ((1 - s2 : Nat) : Int) && (((wd X 0 : Nat) : Int) == ((wd Y 0 : Nat) : Int) && ((wd X 1 : Nat) : Int) == ((wd Y 1 : Nat) : Int)) && P == P) = decide (s1 ≠ s2 ∧ X = Y) := by
    rw [words_eq (show X < 18446744073709551616 ^ 2 by omega) (show Y < 18446744073709551616 ^ 2 by omega)]
    have e1 : ((s1 : Int) == ((1 - s2 : Nat) : Int)) = decide (s1 ≠ s2) := by
      by_cases h : s1 = s2
      · rw [decide_eq_false (by omega), beq_eq_false_iff_ne]; omega
      · rw [decide_eq_true h, beq_iff_eq]; omega
    rw [e1]
    simp
  rw [hcb] at heq
  clear hcb
  obtain ⟨cB, hcB⟩ : ∃ c, c = decide (s1 ≠ s2 ∧ X = Y) := ⟨_, rfl⟩
  rw [← hcB] at heq
  have HcB : Hid (cB = decide (s1 ≠ s2 ∧ X = Y)) := hcB
  clear hcB
  have HADD : Hid (∀ w, Calls Tryd.prog 74 #[.agg #[.int .u64 (wd X 0), .int .u64 (wd X 1)], .agg #[.int .u64 (wd Y 0), .int .u64 (wd Y 1)]] w fun e w' => e = .returned (.agg #[.int .u64 (wd (X + Y) 0), .int .u64 (wd (X + Y) 1)]) ∧ Below w.heap.size w w') := fun w => add_any X Y w
  have HSUB : Hid (∀ w, Calls Tryd.prog 75 #[.agg #[.int .u64 (wd X 0), .int .u64 (wd X 1)], .agg #[.int .u64 (wd Y 0), .int .u64 (wd Y 1)]] w fun e w' => e = .returned (.tuple #[.agg #[.int .u64 (wd (difW 2 X Y) 0), .int .u64 (wd (difW 2 X Y) 1)], .bool (decide (X < Y))]) ∧ Below w.heap.size w w') := fun w => sub_any X Y (by omega) (by omega) w
  have HSUB2 : Hid (∀ w, Calls Tryd.prog 75 #[.agg #[.int .u64 (wd Y 0), .int .u64 (wd Y 1)], .agg #[.int .u64 (wd X 0), .int .u64 (wd X 1)]] w fun e w' => e = .returned (.tuple #[.agg #[.int .u64 (wd (difW 2 Y X) 0), .int .u64 (wd (difW 2 Y X) 1)], .bool (decide (Y < X))]) ∧ Below w.heap.size w w') := fun w => sub_any Y X (by omega) (by omega) w
  generalize hZ : (if m = 4 then 1 else 0 : Int) = Zm
  have HZ : Hid (∀ w, Calls Tryd.prog 69 #[.int .u8 m] w fun e w' => e = .returned (.int .u64 Zm) ∧ w' = w) := fun w => by rw [← hZ]; exact zeroSign_any m w
  have H1 : Hid (s1 ≠ s2 ∧ X = Y → (suS s1 X s2 Y m : Int) = Zm ∧ suD s1 X s2 Y = 0 ∧ suP s1 X s2 Y P = 0) := fun h => by rw [← hZ]; exact su_none h
  have H2 : Hid (s1 = s2 → suS s1 X s2 Y m = s1 ∧ suD s1 X s2 Y = X + Y ∧ suP s1 X s2 Y P = P) := su_same
  have H3 : Hid (s1 ≠ s2 → Y < X → suS s1 X s2 Y m = s1 ∧ suD s1 X s2 Y = difW 2 X Y ∧ suP s1 X s2 Y P = P) := su_first 2
  have H4 : Hid (s1 ≠ s2 → X < Y → suS s1 X s2 Y m = s2 ∧ suD s1 X s2 Y = difW 2 Y X ∧ suP s1 X s2 Y P = P) := su_second 2
  clear hal hX hY hZ hs1 hs2
  generalize suS s1 X s2 Y m = RS at *
  generalize suD s1 X s2 Y = RD at *
  generalize suP s1 X s2 Y P = RP at *
  generalize ((1 - s2 : Nat) : Int) = n2 at *
  generalize wd X 0 = x0 at *
  generalize wd Y 0 = y0 at *
  generalize wd X 1 = x1 at *
  generalize wd Y 1 = y1 at *
  go_enter Tryd.func50, Tryd.ntmps50
  go_upto_region 1 with fail
  go_cut [] from 9 to 56 (fun wx => Rows3 w wx [.int .u64 s1, .int .u64 x0, .int .u64 x1, .int .i64 P] [.int .u64 s2, .int .u64 y0, .int .u64 y1, .int .i64 P] [.int .u64 0, .int .u64 0, .int .u64 0, .int .i64 0])
  case first =>
    go_wp2_with fail
    refine (HAL.out _).mono ?_
    rintro e w1 ⟨rfl, hb1⟩
    have K1 : Hid (Rows3 w w1 [.int .u64 a, .int .u64 a0, .int .u64 a1, .int .i64 p] [.int .u64 b, .int .u64 b0, .int .u64 b1, .int .i64 q] [.int .u64 0, .int .u64 0, .int .u64 0, .int .i64 0]) := (Rows3.start w _ _ _ _ _ _ (by simp) (by simp) (by simp)).later hb1
    clear hb1
    have xc0 := K1.out.x.cells 0 _ rfl
    have xc1 := K1.out.x.cells 1 _ rfl
    have xc2 := K1.out.x.cells 2 _ rfl
    have xc3 := K1.out.x.cells 3 _ rfl
    have xf0 := K1.out.x.live 0 _ rfl
    have xf1 := K1.out.x.live 1 _ rfl
    have xf2 := K1.out.x.live 2 _ rfl
    have xf3 := K1.out.x.live 3 _ rfl
    have yc0 := K1.out.y.cells 0 _ rfl
    have yc1 := K1.out.y.cells 1 _ rfl
    have yc2 := K1.out.y.cells 2 _ rfl
    have yc3 := K1.out.y.cells 3 _ rfl
    have yf0 := K1.out.y.live 0 _ rfl
    have yf1 := K1.out.y.live 1 _ rfl
    have yf2 := K1.out.y.live 2 _ rfl
    have yf3 := K1.out.y.live 3 _ rfl
    have z1 := K1.out.size
    go_wp2_with fail
    go_meet
    go_light
    exact ((((((((K1.out.setX 0 _ (by simp)).setX 1 _ (by simp)).setX 2 _ (by simp)).setX 3 _ (by simp)).setY 0 _ (by simp)).setY 1 _ (by simp)).setY 2 _ (by simp)).setY 3 _ (by simp))
  case rest =>
    have K2 : Hid (Rows3 w wc [.int .u64 s1, .int .u64 x0, .int .u64 x1, .int .i64 P] [.int .u64 s2, .int .u64 y0, .int .u64 y1, .int .i64 P] [.int .u64 0, .int .u64 0, .int .u64 0, .int .i64 0]) := hcut
    clear hcut HAL
    have xc0 := K2.out.x.cells 0 _ rfl
    have xc1 := K2.out.x.cells 1 _ rfl
    have xc2 := K2.out.x.cells 2 _ rfl
    have xc3 := K2.out.x.cells 3 _ rfl
    have xf0 := K2.out.x.live 0 _ rfl
    have xf1 := K2.out.x.live 1 _ rfl
    have xf2 := K2.out.x.live 2 _ rfl
    have xf3 := K2.out.x.live 3 _ rfl
    have yc0 := K2.out.y.cells 0 _ rfl
    have yc1 := K2.out.y.cells 1 _ rfl
    have yc2 := K2.out.y.cells 2 _ rfl
    have yc3 := K2.out.y.cells 3 _ rfl
    have yf0 := K2.out.y.live 0 _ rfl
    have yf1 := K2.out.y.live 1 _ rfl
    have yf2 := K2.out.y.live 2 _ rfl
    have yf3 := K2.out.y.live 3 _ rfl
    have rc0 := K2.out.r.cells 0 _ rfl
    have rc1 := K2.out.r.cells 1 _ rfl
    have rc2 := K2.out.r.cells 2 _ rfl
    have rc3 := K2.out.r.cells 3 _ rfl
    have rf0 := K2.out.r.live 0 _ rfl
    have rf1 := K2.out.r.live 1 _ rfl
    have rf2 := K2.out.r.live 2 _ rfl
    have rf3 := K2.out.r.live 3 _ rfl
    have z2 := K2.out.size
    go_upto_region 2 with fail
    go_cut [18] from 9 to 56 (fun c wx => c = .bool cB ∧ Rows3 w wx [.int .u64 s1, .int .u64 x0, .int .u64 x1, .int .i64 P] [.int .u64 s2, .int .u64 y0, .int .u64 y1, .int .i64 P] [.int .u64 0, .int .u64 0, .int .u64 0, .int .i64 0])
    case first =>
      go_region_held3 (fun w' => w'.cell? ⟨w.heap.size, 0, none⟩ = some (.int .u64 s1) ∧ w'.cell? ⟨w.heap.size, 1, none⟩ = some (.int .u64 x0) ∧ w'.cell? ⟨w.heap.size, 2, none⟩ = some (.int .u64 x1) ∧ w'.cell? ⟨w.heap.size, 3, none⟩ = some (.int .i64 P) ∧ w'.cell? ⟨w.heap.size + 1, 0, none⟩ = some (.int .u64 s2) ∧ w'.cell? ⟨w.heap.size + 1, 1, none⟩ = some (.int .u64 y0) ∧ w'.cell? ⟨w.heap.size + 1, 2, none⟩ = some (.int .u64 y1) ∧ w'.cell? ⟨w.heap.size + 1, 3, none⟩ = some (.int .i64 P))
        (first | (go_keep; done) | exact ⟨K3.out.x.cells 0 _ rfl, K3.out.x.cells 1 _ rfl, K3.out.x.cells 2 _ rfl, K3.out.x.cells 3 _ rfl, K3.out.y.cells 0 _ rfl, K3.out.y.cells 1 _ rfl, K3.out.y.cells 2 _ rfl, K3.out.y.cells 3 _ rfl⟩)
        ((go_at_call 73; refine (HOP.out _).mono ?_; rintro e w' ⟨rfl, hb⟩; have K3 : Hid (Rows3 w w' [.int .u64 s1, .int .u64 x0, .int .u64 x1, .int .i64 P] [.int .u64 s2, .int .u64 y0, .int .u64 y1, .int .i64 P] [.int .u64 0, .int .u64 0, .int .u64 0, .int .i64 0]) := K2.out.later ⟨hb.os, hb.tape, hb.output, hb.size, hb.block⟩))
      all_goals (try go_wp2_with fail)
      all_goals go_meet
      all_goals go_light
      all_goals exact ⟨rfl, by first | exact K3.out | exact K3.out.drew⟩
    case rest =>
      obtain ⟨rfl, hcut⟩ := hcut
      have K4 : Hid (Rows3 w wc [.int .u64 s1, .int .u64 x0, .int .u64 x1, .int .i64 P] [.int .u64 s2, .int .u64 y0, .int .u64 y1, .int .i64 P] [.int .u64 0, .int .u64 0, .int .u64 0, .int .i64 0]) := hcut
      clear hcut K2 HOP heq xc0 xc1 xc2 xc3 xf0 xf1 xf2 xf3 yc0 yc1 yc2 yc3 yf0 yf1 yf2 yf3 rc0 rc1 rc2 rc3 rf0 rf1 rf2 rf3 z2
      have xc0 := K4.out.x.cells 0 _ rfl
      have xc1 := K4.out.x.cells 1 _ rfl
      have xc2 := K4.out.x.cells 2 _ rfl
      have xc3 := K4.out.x.cells 3 _ rfl
      have xf0 := K4.out.x.live 0 _ rfl
      have xf1 := K4.out.x.live 1 _ rfl
      have xf2 := K4.out.x.live 2 _ rfl
      have xf3 := K4.out.x.live 3 _ rfl
      have yc0 := K4.out.y.cells 0 _ rfl
      have yc1 := K4.out.y.cells 1 _ rfl
      have yc2 := K4.out.y.cells 2 _ rfl
      have yc3 := K4.out.y.cells 3 _ rfl
      have yf0 := K4.out.y.live 0 _ rfl
      have yf1 := K4.out.y.live 1 _ rfl
      have yf2 := K4.out.y.live 2 _ rfl
      have yf3 := K4.out.y.live 3 _ rfl
      have rc0 := K4.out.r.cells 0 _ rfl
      have rc1 := K4.out.r.cells 1 _ rfl
      have rc2 := K4.out.r.cells 2 _ rfl
      have rc3 := K4.out.r.cells 3 _ rfl
      have rf0 := K4.out.r.live 0 _ rfl
      have rf1 := K4.out.r.live 1 _ rfl
      have rf2 := K4.out.r.live 2 _ rfl
      have rf3 := K4.out.r.live 3 _ rfl
      have z4 := K4.out.size
      by_cases hc : s1 ≠ s2 ∧ X = Y
      · have hd : cB = true := HcB.out.trans (decide_eq_true hc)
        obtain ⟨e1, e2, e3⟩ := H1.out hc
        have HV : Hid ((RS : Int) = Zm ∧ RD = 0 ∧ RP = 0) := ⟨e1, e2, e3⟩
        clear HcB
        subst hd
        clear hc e1 e2 e3 H1 H2 H3 H4
        go_wp2_with (go_at_call 69; refine (HZ.out _).mono ?_; rintro e w' ⟨rfl, rfl⟩)
        go_light
        refine bodyPost_ret (v := .agg #[.int .u64 Zm, .int .u64 0, .int .u64 0, .int .i64 0]) (results_ex rfl (((((K4.out.r.set 0 _ (by simp)).set 1 _ (by simp)).set 2 _ (by simp)).set 3 _ (by simp)))) rfl ⟨by rw [HV.out.1, HV.out.2.1, HV.out.2.2]; simp [wd], ?_⟩
        exact ((((K4.out.below.setCell (by simp <;> omega) _).setCell (by simp <;> omega) _).setCell (by simp <;> omega) _).setCell (by simp <;> omega) _)
      · have hd : cB = false := HcB.out.trans (decide_eq_false hc)
        by_cases hs : s1 = s2
        · have hsb : ((s1 : Int) == (s2 : Int)) = true := by simp [hs]
          obtain ⟨e1, e2, e3⟩ := H2.out hs
          have HT : Hid (Ending.returned (.agg #[.int .u64 s1, .int .u64 (wd (X + Y) 0), .int .u64 (wd (X + Y) 1), .int .i64 P]) = Ending.returned (.agg #[.int .u64 RS, .int .u64 (wd RD 0), .int .u64 (wd RD 1), .int .i64 RP])) := (by rw [e1, e2, e3] : _ = _)
          clear HcB
          subst hd
          clear hc hs e1 e2 e3 H1 H2 H3 H4
          generalize wd (X + Y) 0 = t0 at *
          generalize wd (X + Y) 1 = t1 at *
          go_wp2_with fail
          refine (HADD.out _).mono ?_
          rintro e w5 ⟨rfl, hb5⟩
          have K5 : Hid (Rows3 w w5 [.int .u64 s1, .int .u64 x0, .int .u64 x1, .int .i64 P] [.int .u64 s2, .int .u64 y0, .int .u64 y1, .int .i64 P] [.int .u64 0, .int .u64 0, .int .u64 0, .int .i64 0]) := K4.out.later hb5
          clear hb5 z4 xc0 xc1 xc2 xc3 xf0 xf1 xf2 xf3 yc0 yc1 yc2 yc3 yf0 yf1 yf2 yf3 rc0 rc1 rc2 rc3 rf0 rf1 rf2 rf3
          have xc0 := K5.out.x.cells 0 _ rfl
          have xc1 := K5.out.x.cells 1 _ rfl
          have xc2 := K5.out.x.cells 2 _ rfl
          have xc3 := K5.out.x.cells 3 _ rfl
          have xf0 := K5.out.x.live 0 _ rfl
          have xf1 := K5.out.x.live 1 _ rfl
          have xf2 := K5.out.x.live 2 _ rfl
          have xf3 := K5.out.x.live 3 _ rfl
          have yc0 := K5.out.y.cells 0 _ rfl
          have yc1 := K5.out.y.cells 1 _ rfl
          have yc2 := K5.out.y.cells 2 _ rfl
          have yc3 := K5.out.y.cells 3 _ rfl
          have yf0 := K5.out.y.live 0 _ rfl
          have yf1 := K5.out.y.live 1 _ rfl
          have yf2 := K5.out.y.live 2 _ rfl
          have yf3 := K5.out.y.live 3 _ rfl
          have rc0 := K5.out.r.cells 0 _ rfl
          have rc1 := K5.out.r.cells 1 _ rfl
          have rc2 := K5.out.r.cells 2 _ rfl
          have rc3 := K5.out.r.cells 3 _ rfl
          have rf0 := K5.out.r.live 0 _ rfl
          have rf1 := K5.out.r.live 1 _ rfl
          have rf2 := K5.out.r.live 2 _ rfl
          have rf3 := K5.out.r.live 3 _ rfl
          have z5 := K5.out.size
          go_wp2_with fail
          go_light
          refine bodyPost_ret (v := .agg #[.int .u64 s1, .int .u64 t0, .int .u64 t1, .int .i64 P]) (results_ex rfl (((((((K5.out.r.other _ _ (by simp)).other _ _ (by simp)).set 0 _ (by simp)).set 1 _ (by simp)).set 2 _ (by simp)).set 3 _ (by simp)))) rfl ⟨HT.out, ?_⟩
          exact ((((((K5.out.below.setCell (by simp <;> omega) _).setCell (by simp <;> omega) _).setCell (by simp <;> omega) _).setCell (by simp <;> omega) _).setCell (by simp <;> omega) _).setCell (by simp <;> omega) _)
        · have hsb : ((s1 : Int) == (s2 : Int)) = false := by simp; omega
          by_cases hlt : Y < X
          · obtain ⟨e1, e2, e3⟩ := H3.out hs hlt
            have HT : Hid (Ending.returned (.agg #[.int .u64 s1, .int .u64 (wd (difW 2 X Y) 0), .int .u64 (wd (difW 2 X Y) 1), .int .i64 P]) = Ending.returned (.agg #[.int .u64 RS, .int .u64 (wd RD 0), .int .u64 (wd RD 1), .int .i64 RP])) := (by rw [e1, e2, e3] : _ = _)
            have hw : decide (X < Y) = false := decide_eq_false (by omega)
            have HS : Hid (∀ w, Calls Tryd.prog 75 #[.agg #[.int .u64 x0, .int .u64 x1], .agg #[.int .u64 y0, .int .u64 y1]] w fun e w' => e = .returned (.tuple #[.agg #[.int .u64 (wd (difW 2 X Y) 0), .int .u64 (wd (difW 2 X Y) 1)], .bool false]) ∧ Below w.heap.size w w') := fun w => by have := HSUB.out w; rw [hw] at this; exact this
            clear HcB hc hs hlt e1 e2 e3 H1 H2 H3 H4 HSUB HSUB2 hw HADD
            subst hd
            generalize wd (difW 2 X Y) 0 = t0 at *
            generalize wd (difW 2 X Y) 1 = t1 at *
            go_wp2_with fail
            refine (HS.out _).mono ?_
            rintro e w5 ⟨rfl, hb5⟩
            have K5 : Hid (Rows3 w w5 [.int .u64 s1, .int .u64 x0, .int .u64 x1, .int .i64 P] [.int .u64 s2, .int .u64 y0, .int .u64 y1, .int .i64 P] [.int .u64 0, .int .u64 0, .int .u64 0, .int .i64 0]) := K4.out.later hb5
            clear hb5 z4 xc0 xc1 xc2 xc3 xf0 xf1 xf2 xf3 yc0 yc1 yc2 yc3 yf0 yf1 yf2 yf3 rc0 rc1 rc2 rc3 rf0 rf1 rf2 rf3
            have xc0 := K5.out.x.cells 0 _ rfl
            have xc1 := K5.out.x.cells 1 _ rfl
            have xc2 := K5.out.x.cells 2 _ rfl
            have xc3 := K5.out.x.cells 3 _ rfl
            have xf0 := K5.out.x.live 0 _ rfl
            have xf1 := K5.out.x.live 1 _ rfl
            have xf2 := K5.out.x.live 2 _ rfl
            have xf3 := K5.out.x.live 3 _ rfl
            have yc0 := K5.out.y.cells 0 _ rfl
            have yc1 := K5.out.y.cells 1 _ rfl
            have yc2 := K5.out.y.cells 2 _ rfl
            have yc3 := K5.out.y.cells 3 _ rfl
            have yf0 := K5.out.y.live 0 _ rfl
            have yf1 := K5.out.y.live 1 _ rfl
            have yf2 := K5.out.y.live 2 _ rfl
            have yf3 := K5.out.y.live 3 _ rfl
            have rc0 := K5.out.r.cells 0 _ rfl
            have rc1 := K5.out.r.cells 1 _ rfl
            have rc2 := K5.out.r.cells 2 _ rfl
            have rc3 := K5.out.r.cells 3 _ rfl
            have rf0 := K5.out.r.live 0 _ rfl
            have rf1 := K5.out.r.live 1 _ rfl
            have rf2 := K5.out.r.live 2 _ rfl
            have rf3 := K5.out.r.live 3 _ rfl
            have z5 := K5.out.size
            have l1 : w.heap.size < w5.heap.size := by omega
            have l2 : w.heap.size + 1 < w5.heap.size := by omega
            go_wp2_with fail
            go_light
            refine bodyPost_ret (v := .agg #[.int .u64 s1, .int .u64 t0, .int .u64 t1, .int .i64 P]) (results_ex rfl ((((((((K5.out.r.other _ _ (by simp)).other _ _ (by simp)).set 0 _ (by simp)).set 1 _ (by simp)).set 2 _ (by simp)).set 3 _ (by simp))).alloc _)) rfl ⟨HT.out, ?_⟩
            exact (((((((K5.out.below.setCell (by simp <;> omega) _).setCell (by simp <;> omega) _).setCell (by simp <;> omega) _).setCell (by simp <;> omega) _).setCell (by simp <;> omega) _).setCell (by simp <;> omega) _)).alloc (by simp; omega) _
          · have hgt : X < Y := by omega
            obtain ⟨e1, e2, e3⟩ := H4.out hs hgt
            have HT : Hid (Ending.returned (.agg #[.int .u64 s2, .int .u64 (wd (difW 2 Y X) 0), .int .u64 (wd (difW 2 Y X) 1), .int .i64 P]) = Ending.returned (.agg #[.int .u64 RS, .int .u64 (wd RD 0), .int .u64 (wd RD 1), .int .i64 RP])) := (by rw [e1, e2, e3] : _ = _)
            have hw : decide (X < Y) = true := decide_eq_true hgt
            have HS : Hid (∀ w, Calls Tryd.prog 75 #[.agg #[.int .u64 x0, .int .u64 x1], .agg #[.int .u64 y0, .int .u64 y1]] w fun e w' => e = .returned (.tuple #[.agg #[.int .u64 (wd (difW 2 X Y) 0), .int .u64 (wd (difW 2 X Y) 1)], .bool true]) ∧ Below w.heap.size w w') := fun w => by have := HSUB.out w; rw [hw] at this; exact this
            generalize decide (Y < X) = vb at *
            clear HcB hc hs hlt hgt e1 e2 e3 H1 H2 H3 H4 HSUB hw HADD
            subst hd
            generalize wd (difW 2 Y X) 0 = t0 at *
            generalize wd (difW 2 X Y) 0 = g0 at *
            generalize wd (difW 2 Y X) 1 = t1 at *
            generalize wd (difW 2 X Y) 1 = g1 at *
            go_wp2_with fail
            refine (HS.out _).mono ?_
            rintro e w5 ⟨rfl, hb5⟩
            have K5 : Hid (Rows3 w w5 [.int .u64 s1, .int .u64 x0, .int .u64 x1, .int .i64 P] [.int .u64 s2, .int .u64 y0, .int .u64 y1, .int .i64 P] [.int .u64 0, .int .u64 0, .int .u64 0, .int .i64 0]) := K4.out.later hb5
            clear hb5 z4 xc0 xc1 xc2 xc3 xf0 xf1 xf2 xf3 yc0 yc1 yc2 yc3 yf0 yf1 yf2 yf3 rc0 rc1 rc2 rc3 rf0 rf1 rf2 rf3
            have xc0 := K5.out.x.cells 0 _ rfl
            have xc1 := K5.out.x.cells 1 _ rfl
            have xc2 := K5.out.x.cells 2 _ rfl
            have xc3 := K5.out.x.cells 3 _ rfl
            have xf0 := K5.out.x.live 0 _ rfl
            have xf1 := K5.out.x.live 1 _ rfl
            have xf2 := K5.out.x.live 2 _ rfl
            have xf3 := K5.out.x.live 3 _ rfl
            have yc0 := K5.out.y.cells 0 _ rfl
            have yc1 := K5.out.y.cells 1 _ rfl
            have yc2 := K5.out.y.cells 2 _ rfl
            have yc3 := K5.out.y.cells 3 _ rfl
            have yf0 := K5.out.y.live 0 _ rfl
            have yf1 := K5.out.y.live 1 _ rfl
            have yf2 := K5.out.y.live 2 _ rfl
            have yf3 := K5.out.y.live 3 _ rfl
            have rc0 := K5.out.r.cells 0 _ rfl
            have rc1 := K5.out.r.cells 1 _ rfl
            have rc2 := K5.out.r.cells 2 _ rfl
            have rc3 := K5.out.r.cells 3 _ rfl
            have rf0 := K5.out.r.live 0 _ rfl
            have rf1 := K5.out.r.live 1 _ rfl
            have rf2 := K5.out.r.live 2 _ rfl
            have rf3 := K5.out.r.live 3 _ rfl
            have z5 := K5.out.size
            have l1 : w.heap.size < w5.heap.size := by omega
            have l2 : w.heap.size + 1 < w5.heap.size := by omega
            go_wp2_with fail
            refine (HSUB2.out _).mono ?_
            rintro e w6 ⟨rfl, hb6⟩
            have K6 : Hid (Rows3 w w6 [.int .u64 s1, .int .u64 x0, .int .u64 x1, .int .i64 P] [.int .u64 s2, .int .u64 y0, .int .u64 y1, .int .i64 P] [.int .u64 0, .int .u64 0, .int .u64 0, .int .i64 0]) := (K5.out.alloc _).later hb6
            have T6 : Hid (Blk w6 w5.heap.size [.int .u64 g0, .int .u64 g1]) := (Blk.new _ _ _ (by simp)).below hb6 (by simp)
            clear hb6 z5 l1 l2 xc0 xc1 xc2 xc3 xf0 xf1 xf2 xf3 yc0 yc1 yc2 yc3 yf0 yf1 yf2 yf3 rc0 rc1 rc2 rc3 rf0 rf1 rf2 rf3
            have xc0 := K6.out.x.cells 0 _ rfl
            have xc1 := K6.out.x.cells 1 _ rfl
            have xc2 := K6.out.x.cells 2 _ rfl
            have xc3 := K6.out.x.cells 3 _ rfl
            have xf0 := K6.out.x.live 0 _ rfl
            have xf1 := K6.out.x.live 1 _ rfl
            have xf2 := K6.out.x.live 2 _ rfl
            have xf3 := K6.out.x.live 3 _ rfl
            have yc0 := K6.out.y.cells 0 _ rfl
            have yc1 := K6.out.y.cells 1 _ rfl
            have yc2 := K6.out.y.cells 2 _ rfl
            have yc3 := K6.out.y.cells 3 _ rfl
            have yf0 := K6.out.y.live 0 _ rfl
            have yf1 := K6.out.y.live 1 _ rfl
            have yf2 := K6.out.y.live 2 _ rfl
            have yf3 := K6.out.y.live 3 _ rfl
            have rc0 := K6.out.r.cells 0 _ rfl
            have rc1 := K6.out.r.cells 1 _ rfl
            have rc2 := K6.out.r.cells 2 _ rfl
            have rc3 := K6.out.r.cells 3 _ rfl
            have rf0 := K6.out.r.live 0 _ rfl
            have rf1 := K6.out.r.live 1 _ rfl
            have rf2 := K6.out.r.live 2 _ rfl
            have rf3 := K6.out.r.live 3 _ rfl
            have tc0 := T6.out.cells 0 _ rfl
            have tc1 := T6.out.cells 1 _ rfl
            have tf0 := T6.out.live 0 _ rfl
            have tf1 := T6.out.live 1 _ rfl
            have z6 := K6.out.size
            have l3 := K5.out.size
            have l1 : w.heap.size ≠ w5.heap.size := by omega
            have l2 : w.heap.size + 1 ≠ w5.heap.size := by omega
            have l5 : w.heap.size + 2 ≠ w5.heap.size := by omega
            go_wp2_with fail
            go_light
            refine bodyPost_ret (v := .agg #[.int .u64 s2, .int .u64 t0, .int .u64 t1, .int .i64 P]) (results_ex rfl ((((((((((K6.out.r.other _ _ (by simpa using l5)).other _ _ (by simpa using l5)).other _ _ (by simp)).other _ _ (by simp)).other _ _ (by simp)).set 0 _ (by simp)).set 1 _ (by simp)).set 2 _ (by simp)).set 3 _ (by simp)))) rfl ⟨HT.out, ?_⟩
            exact (((((((((K6.out.below.setCell (by simp <;> omega) _).setCell (by simp <;> omega) _).setCell (by simp <;> omega) _).setCell (by simp <;> omega) _).setCell (by simp <;> omega) _).setCell (by simp <;> omega) _).setCell (by simp <;> omega) _).setCell (by simp <;> omega) _).setCell (by simp <;> omega) _)
end Go.Proofs.YtcjihaafohnbeaaDoor.W2
