import Derived.Test.YtcjihaafohnbeaaGreatDoorPA
namespace Go.Proofs.YtcjihaafohnbeaaGreatDoor
open Go.RowKit

/-- A product's bits and flags, where neither is a NaN. -/
def prodB (x y : Nat) (m : Int) : Int :=
  if (kind x = 3 ∨ kind y = 3) ∧ (kind x = 0 ∨ kind y = 0) then 9221120237041090560
  else if kind x = 3 ∨ kind y = 3 then xs x y * 9223372036854775808 + 9218868437227405312
  else if kind x = 0 ∨ kind y = 0 then xs x y * 9223372036854775808
  else roundB (xs x y) (mant x * mant y) (pow x + pow y) m
def prodF (x y : Nat) (m : Int) : Int :=
  if (kind x = 3 ∨ kind y = 3) ∧ (kind x = 0 ∨ kind y = 0) then 16
  else if kind x = 3 ∨ kind y = 3 then 0
  else if kind x = 0 ∨ kind y = 0 then 0
  else roundF (xs x y) (mant x * mant y) (pow x + pow y) m

theorem cellSet3 (w : World) (g : Nat) (a b c : Value) (p : Addr) (h : p.block ≠ g) : (((w.setCell ⟨g, 0, none⟩ a).setCell ⟨g, 1, none⟩ b).setCell ⟨g, 2, none⟩ c).cell? p = w.cell? p :=
  (cellSet _ _ _ _ h).trans ((cellSet _ _ _ _ h).trans (cellSet _ _ _ _ h))
theorem cellSet4 (w : World) (g : Nat) (a b c d : Value) (p : Addr) (h : p.block ≠ g) : ((((w.setCell ⟨g, 0, none⟩ a).setCell ⟨g, 1, none⟩ b).setCell ⟨g, 2, none⟩ c).setCell ⟨g, 3, none⟩ d).cell? p = w.cell? p :=
  (cellSet _ _ _ _ h).trans (cellSet3 _ _ _ _ _ _ h)
theorem xor_small (a b : Nat) (ha : a < 2) (hb : b < 2) : bits .xor .u64 (a : Int) (b : Int) = (((a + b) % 2 : Nat) : Int) := by
  rw [bits_xor_u64_nat _ _ (by omega) (by omega)]
  match a, b, ha, hb with
  | 0, 0, _, _ => rfl
  | 0, 1, _, _ => rfl
  | 1, 0, _, _ => rfl
  | 1, 1, _, _ => rfl

set_option maxHeartbeats 4000000 in
set_option maxRecDepth 10000 in
theorem exactProduct_any (x y : Nat) (op m z : Int) (hx : x < 18446744073709551616) (hy : y < 18446744073709551616) (w : World) :
    Calls Tryz.prog 58 #[.agg #[.int .u8 op, .int .u8 m, .int .u64 x, .int .u64 y, .int .u64 z]] w fun e w' =>
      e = .returned (.agg #[.int .u64 (xs x y), .int .u64 (wd (mant x * mant y) 0), .int .u64 (wd (mant x * mant y) 1), .int .i64 (pow x + pow y)]) ∧ Below w.heap.size w w' := by
  have hxor : bits .xor .u64 ((sgn x : Nat) : Int) ((sgn y : Nat) : Int) = (xs x y : Int) := xor_small _ _ (sgn_lt hx) (sgn_lt hy)
  have q1 := mant_lt x
  have q2 := mant_lt y
  have q3 := pow_range x
  have q4 := pow_range y
  have w9 : IntKind.i64.wrap (pow x + pow y) = pow x + pow y := wrapI _ (by omega) (by omega)
  have HP : Hid (∀ w1, Calls Tryz.prog 83 #[.int .u64 (mant x), .int .u64 (mant y)] w1 fun e w' => e = .returned (.agg #[.int .u64 (wd (mant x * mant y) 0), .int .u64 (wd (mant x * mant y) 1)]) ∧ Below w1.heap.size w1 w') := fun w1 => product_any _ _ (by omega) (by omega) w1
  have HX : Hid (∀ w, Calls Tryz.prog 52 #[.int .u64 x] w fun e w' => e = .returned (.agg #[.int .u64 (sgn x), .int .u64 (mant x), .int .u64 0, .int .i64 (pow x)]) ∧ w' = w.alloc (.cells #[.int .u64 (sgn x), .int .u64 (mant x), .int .u64 0, .int .i64 (pow x)] 74)) := fun w => exactly_ex x hx w
  have HY : Hid (∀ w, Calls Tryz.prog 52 #[.int .u64 y] w fun e w' => e = .returned (.agg #[.int .u64 (sgn y), .int .u64 (mant y), .int .u64 0, .int .i64 (pow y)]) ∧ w' = w.alloc (.cells #[.int .u64 (sgn y), .int .u64 (mant y), .int .u64 0, .int .i64 (pow y)] 74)) := fun w => exactly_ex y hy w
  clear hx hy q1 q2 q3 q4
  generalize wd (mant x * mant y) 0 = R0 at *
  generalize wd (mant x * mant y) 1 = R1 at *
  generalize xs x y = S at *
  generalize sgn x = sx at *
  generalize sgn y = sy at *
  generalize mant x = mx at *
  generalize mant y = my at *
  generalize pow x = px at *
  generalize pow y = py at *
  go_enter Tryz.func58, Tryz.ntmps58
  go_upto_region 1 with fail
  go_cut [3, 4] from 5 to 28 (fun s3 s4 wx => ∃ g3 g4, s3 = .pointer (some ⟨g3, 0, none⟩) ∧ s4 = .pointer (some ⟨g4, 0, none⟩) ∧ w.heap.size + 1 < g3 ∧ w.heap.size + 1 < g4 ∧ Below (w.heap.size + 2) ((w.alloc (.cells #[.int .u8 op, .int .u8 m, .int .u64 x, .int .u64 y, .int .u64 z] 33)).alloc (.cells #[.int .u64 0, .int .u64 0, .int .u64 0, .int .i64 0] 74)) wx ∧
    Blk wx g3 [.int .u64 sx, .int .u64 mx, .int .u64 0, .int .i64 px] ∧ Blk wx g4 [.int .u64 sy, .int .u64 my, .int .u64 0, .int .i64 py])
  case first =>
    go_region_held3 (fun w' => w'.cell? ⟨w.heap.size, 2, none⟩ = some (.int .u64 x) ∧ w'.cell? ⟨w.heap.size, 3, none⟩ = some (.int .u64 y)) (first | (go_keep; done) | (refine ⟨?_, ?_⟩ <;> go_simp)) (first | (go_at_call_of 52 (Value.int .u64 (x : Int)); refine (HX.out _).mono ?_; rintro e w' ⟨rfl, rfl⟩) | (go_at_call_of 52 (Value.int .u64 (y : Int)); refine (HY.out _).mono ?_; rintro e w' ⟨rfl, rfl⟩))
    all_goals (try go_wp2_with fail)
    all_goals go_meet
    all_goals go_light
    all_goals
      refine ⟨_, _, rfl, rfl, by omega, by omega, ?_, ⟨by simp, ?_, ?_⟩, ⟨by simp, ?_, ?_⟩⟩
      · exact (((((below_drewN (Below.refl _ _) _).alloc (by simp <;> omega) _).alloc (by simp <;> omega) _).alloc (by simp <;> omega) _).alloc (by simp <;> omega) _)
      all_goals
        intro i v h
        match i with
        | 0 => simp only [List.getElem?_cons_zero, Option.some.injEq] at h; subst h; go_simp
        | 1 => simp only [List.getElem?_cons_zero, List.getElem?_cons_succ, Option.some.injEq] at h; subst h; go_simp
        | 2 => simp only [List.getElem?_cons_zero, List.getElem?_cons_succ, Option.some.injEq] at h; subst h; go_simp
        | 3 => simp only [List.getElem?_cons_zero, List.getElem?_cons_succ, Option.some.injEq] at h; subst h; go_simp
        | (n + 4) => simp at h
  case rest =>
    obtain ⟨g3, g4, rfl, rfl, l3, l4, hbel, h3, h4⟩ := hcut
    have HR : Hid (Rows2 w wc [.int .u8 op, .int .u8 m, .int .u64 x, .int .u64 y, .int .u64 z] [.int .u64 0, .int .u64 0, .int .u64 0, .int .i64 0]) := (Rows2.start w _ _ _ _ (by simp) (by simp)).below' hbel (Nat.le_refl _)
    have H3 : Hid (Blk wc g3 [.int .u64 sx, .int .u64 mx, .int .u64 0, .int .i64 px]) := h3
    have H4 : Hid (Blk wc g4 [.int .u64 sy, .int .u64 my, .int .u64 0, .int .i64 py]) := h4
    have e0 := h3.cells 0 _ rfl
    have e1 := h3.cells 1 _ rfl
    have e3 := h3.cells 3 _ rfl
    have d0 := h4.cells 0 _ rfl
    have d1 := h4.cells 1 _ rfl
    have d3 := h4.cells 3 _ rfl
    have k0 := HR.out.r.live 0 _ rfl
    have k1 := HR.out.r.live 1 _ rfl
    have k2 := HR.out.r.live 2 _ rfl
    have k3 := HR.out.r.live 3 _ rfl
    have j0 := HR.out.r.cells 0 _ rfl
    have j1 := HR.out.r.cells 1 _ rfl
    have j2 := HR.out.r.cells 2 _ rfl
    have j3 := HR.out.r.cells 3 _ rfl
    clear hbel h3 h4 HX HY
    go_wp2_with fail
    go_region_held3 (fun w' => w'.cell? ⟨g3, 0, none⟩ = some (.int .u64 sx) ∧ w'.cell? ⟨g3, 1, none⟩ = some (.int .u64 mx) ∧ w'.cell? ⟨g3, 3, none⟩ = some (.int .i64 px) ∧ w'.cell? ⟨g4, 0, none⟩ = some (.int .u64 sy) ∧ w'.cell? ⟨g4, 1, none⟩ = some (.int .u64 my) ∧ w'.cell? ⟨g4, 3, none⟩ = some (.int .i64 py))
      (first | (go_keep; done) | (rw [cellSet4 _ _ _ _ _ _ _ (by simp; omega), cellSet4 _ _ _ _ _ _ _ (by simp; omega), cellSet4 _ _ _ _ _ _ _ (by simp; omega), cellSet4 _ _ _ _ _ _ _ (by simp; omega), cellSet4 _ _ _ _ _ _ _ (by simp; omega), cellSet4 _ _ _ _ _ _ _ (by simp; omega)]; exact ⟨K3.out.cells 0 _ rfl, K3.out.cells 1 _ rfl, K3.out.cells 3 _ rfl, K4.out.cells 0 _ rfl, K4.out.cells 1 _ rfl, K4.out.cells 3 _ rfl⟩) | exact ⟨K3.out.cells 0 _ rfl, K3.out.cells 1 _ rfl, K3.out.cells 3 _ rfl, K4.out.cells 0 _ rfl, K4.out.cells 1 _ rfl, K4.out.cells 3 _ rfl⟩)
      ((go_at_call 83; refine (HP.out _).mono ?_; rintro e w' ⟨rfl, hb⟩; have K3 : Hid (Blk w' g3 [.int .u64 sx, .int .u64 mx, .int .u64 0, .int .i64 px]) := H3.out.later ⟨hb.os, hb.tape, hb.output, hb.size, hb.block⟩; have K4 : Hid (Blk w' g4 [.int .u64 sy, .int .u64 my, .int .u64 0, .int .i64 py]) := H4.out.later ⟨hb.os, hb.tape, hb.output, hb.size, hb.block⟩; have KR : Hid (Rows2 w w' [.int .u8 op, .int .u8 m, .int .u64 x, .int .u64 y, .int .u64 z] [.int .u64 0, .int .u64 0, .int .u64 0, .int .i64 0]) := HR.out.later ⟨hb.os, hb.tape, hb.output, hb.size, hb.block⟩; have k0 := KR.out.r.live 0 _ rfl; have k1 := KR.out.r.live 1 _ rfl; have k2 := KR.out.r.live 2 _ rfl; have k3 := KR.out.r.live 3 _ rfl; have j0 := KR.out.r.cells 0 _ rfl; have j1 := KR.out.r.cells 1 _ rfl; have j2 := KR.out.r.cells 2 _ rfl; have j3 := KR.out.r.cells 3 _ rfl))
    all_goals (try go_wp2_with fail)
    all_goals
      refine bodyPost_ret (v := .agg #[.int .u64 S, .int .u64 R0, .int .u64 R1, .int .i64 (px + py)]) (by simp [results, Tryz.results58, go_sem, *]) rfl ⟨rfl, ?_⟩
      exact (((KR.out.below.setCell (by simp) _).setCell (by simp) _).setCell (by simp) _).setCell (by simp) _
end Go.Proofs.YtcjihaafohnbeaaGreatDoor
