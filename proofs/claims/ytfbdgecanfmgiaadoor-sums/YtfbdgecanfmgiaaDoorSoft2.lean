import Derived.Test.YtfbdgecanfmgiaaDoorSoft1
import Derived.Deep.RegionHeld3
namespace Go.Proofs.YtfbdgecanfmgiaaDoor
open Go.RowKit

set_option maxHeartbeats 400000 in
theorem wrong_any (w : World) : Calls Tryd.prog 47 #[] w fun e w' => e = .returned (.agg #[.int .u64 9221120237041090560, .int .u8 16, .bool false]) ∧ Below w.heap.size w w' := by
  go_enter Tryd.func47, Tryd.ntmps47
  go_wp2
  exact bodyPost_ret (v := .agg #[.int .u64 9221120237041090560, .int .u8 16, .bool false]) (by simp [results, Tryd.results47, go_sem]) rfl ⟨rfl, (Below.refl _ _).alloc (Nat.le_refl _) _⟩

def xs (x y : Nat) : Nat := (sgn x + sgn y) % 2
theorem xs_lt (x y : Nat) : xs x y < 2 := Nat.mod_lt _ (by decide)
theorem xor_sgn (x y : Nat) (hx : x < 18446744073709551616) (hy : y < 18446744073709551616) : bits .xor .u64 ((x : Int) / 9223372036854775808) ((y : Int) / 9223372036854775808) = (xs x y : Int) := by
  have e1 : (x : Int) / 9223372036854775808 = ((sgn x : Nat) : Int) := by unfold sgn; omega
  have e2 : (y : Int) / 9223372036854775808 = ((sgn y : Nat) : Int) := by unfold sgn; omega
  rw [e1, e2, bits_xor_u64_nat _ _ (by have := sgn_lt hx; omega) (by have := sgn_lt hy; omega)]
  unfold xs
  have h1 := sgn_lt hx
  have h2 := sgn_lt hy
  generalize sgn x = a at *
  generalize sgn y = b at *
  match a, b, h1, h2 with
  | 0, 0, _, _ => rfl
  | 0, 1, _, _ => rfl
  | 1, 0, _, _ => rfl
  | 1, 1, _, _ => rfl

/-- A product's bits and flags, where neither is a NaN. -/
def prodB (x y : Nat) (m : Int) : Int :=
  if (kind x = 3 ∨ kind y = 3) ∧ (kind x = 0 ∨ kind y = 0) then 9221120237041090560
  else if kind x = 3 ∨ kind y = 3 then xs x y * 9223372036854775808 + 9218868437227405312
  else if kind x = 0 ∨ kind y = 0 then xs x y * 9223372036854775808
  else roundB (xs x y) (mant x * mant y) (pow x + pow y) m
def prodF (x y : Nat) (m : Int) : Int :=
  if (kind x = 3 ∨ kind y = 3) ∧ (kind x = 0 ∨ kind y = 0) then 16
  else if kind x = 3 ∨ kind y = 3 then 0
  else if kind x = 0 ∨ kind y = 0 then 0
  else roundF (xs x y) (mant x * mant y) (pow x + pow y) m

/-- A record's five words as they lie, and the result's place. -/
structure Rec5 (w w1 : World) (a b c d e : Value) : Prop where
  below : Below w.heap.size w w1
  size : w.heap.size + 1 < w1.heap.size
  c0 : w1.cell? ⟨w.heap.size, 0, none⟩ = some a
  c1 : w1.cell? ⟨w.heap.size, 1, none⟩ = some b
  c2 : w1.cell? ⟨w.heap.size, 2, none⟩ = some c
  c3 : w1.cell? ⟨w.heap.size, 3, none⟩ = some d
  c4 : w1.cell? ⟨w.heap.size, 4, none⟩ = some e
  r0 : w1.cell? ⟨w.heap.size + 1, 0, none⟩ = some (.int .u64 0)
  r1 : w1.cell? ⟨w.heap.size + 1, 1, none⟩ = some (.int .u8 0)
  r2 : w1.cell? ⟨w.heap.size + 1, 2, none⟩ = some (.bool false)
  f0 : w1.frozen? ⟨w.heap.size + 1, 0, none⟩ = false
  f1 : w1.frozen? ⟨w.heap.size + 1, 1, none⟩ = false
  f2 : w1.frozen? ⟨w.heap.size + 1, 2, none⟩ = false
theorem Rec5.start (w : World) (a b c d e : Value) (t t' : TypeId) : Rec5 w ((w.alloc (.cells #[a, b, c, d, e] t)).alloc (.cells #[.int .u64 0, .int .u8 0, .bool false] t')) a b c d e :=
  ⟨((Below.refl _ _).alloc (Nat.le_refl _) _).alloc (by simp) _, by simp, by go_simp, by go_simp, by go_simp, by go_simp, by go_simp, by go_simp, by go_simp, by go_simp, by go_simp, by go_simp, by go_simp⟩
theorem Rec5.later {w w1 w2 : World} {a b c d e : Value} (h : Rec5 w w1 a b c d e) {B : Nat} (hb : Below B w1 w2) (hB : w.heap.size + 2 ≤ B) : Rec5 w w2 a b c d e := by
  have z := h.size
  have z0 : w.heap.size < B := by omega
  have z1 : w.heap.size + 1 < B := by omega
  exact ⟨h.below.trans (hb.mono (by omega)), Nat.lt_of_lt_of_le z hb.size, (hb.cell (p := ⟨w.heap.size, 0, none⟩) z0).trans h.c0, (hb.cell (p := ⟨w.heap.size, 1, none⟩) z0).trans h.c1, (hb.cell (p := ⟨w.heap.size, 2, none⟩) z0).trans h.c2, (hb.cell (p := ⟨w.heap.size, 3, none⟩) z0).trans h.c3, (hb.cell (p := ⟨w.heap.size, 4, none⟩) z0).trans h.c4,
    (hb.cell (p := ⟨w.heap.size + 1, 0, none⟩) z1).trans h.r0, (hb.cell (p := ⟨w.heap.size + 1, 1, none⟩) z1).trans h.r1, (hb.cell (p := ⟨w.heap.size + 1, 2, none⟩) z1).trans h.r2,
    (hb.frozen (p := ⟨w.heap.size + 1, 0, none⟩) z1).trans h.f0, (hb.frozen (p := ⟨w.heap.size + 1, 1, none⟩) z1).trans h.f1, (hb.frozen (p := ⟨w.heap.size + 1, 2, none⟩) z1).trans h.f2⟩

/-- Four cells of a block. -/
structure Four (w : World) (b : Nat) (u v x y : Value) : Prop where
  c0 : w.cell? ⟨b, 0, none⟩ = some u
  c1 : w.cell? ⟨b, 1, none⟩ = some v
  c2 : w.cell? ⟨b, 2, none⟩ = some x
  c3 : w.cell? ⟨b, 3, none⟩ = some y
theorem Four.lt {w : World} {b : Nat} {u v x y : Value} (h : Four w b u v x y) : b < w.heap.size := block_lt_of_cell h.c0
theorem Four.later {w w' : World} {b : Nat} {u v x y : Value} (h : Four w b u v x y) (hb : Below w.heap.size w w') : Four w' b u v x y :=
  ⟨(hb.cell (p := ⟨b, 0, none⟩) h.lt).trans h.c0, (hb.cell (p := ⟨b, 1, none⟩) h.lt).trans h.c1, (hb.cell (p := ⟨b, 2, none⟩) h.lt).trans h.c2, (hb.cell (p := ⟨b, 3, none⟩) h.lt).trans h.c3⟩

theorem cellSet3 (w : World) (g : Nat) (a b c : Value) (p : Addr) (h : p.block ≠ g) : (((w.setCell ⟨g, 0, none⟩ a).setCell ⟨g, 1, none⟩ b).setCell ⟨g, 2, none⟩ c).cell? p = w.cell? p :=
  (World.cell?_of_block (heap_setCell_other _ _ p.block c h)).trans ((World.cell?_of_block (heap_setCell_other _ _ p.block b h)).trans (World.cell?_of_block (heap_setCell_other _ _ p.block a h)))
theorem held5 {w w2 : World} {g6 g7 : Nat} {a1 a2 a3 a4 b1 b2 b3 b4 r1 r2 r3 r4 r5 u v t : Value} (h6 : Four w2 g6 a1 a2 a3 a4) (h7 : Four w2 g7 b1 b2 b3 b4) (hr : Rec5 w w2 r1 r2 r3 r4 r5) (l6 : w.heap.size + 1 < g6) (l7 : w.heap.size + 1 < g7) :
    let W := ((w2.setCell ⟨w.heap.size + 1, 0, none⟩ u).setCell ⟨w.heap.size + 1, 1, none⟩ v).setCell ⟨w.heap.size + 1, 2, none⟩ t
    W.cell? ⟨g6, 1, none⟩ = some a2 ∧ W.cell? ⟨g7, 1, none⟩ = some b2 ∧ W.cell? ⟨g6, 3, none⟩ = some a4 ∧ W.cell? ⟨g7, 3, none⟩ = some b4 ∧ W.cell? ⟨w.heap.size, 1, none⟩ = some r2 :=
  ⟨(cellSet3 _ _ _ _ _ _ (by simp; omega)).trans h6.c1, (cellSet3 _ _ _ _ _ _ (by simp; omega)).trans h7.c1, (cellSet3 _ _ _ _ _ _ (by simp; omega)).trans h6.c3, (cellSet3 _ _ _ _ _ _ (by simp; omega)).trans h7.c3, (cellSet3 _ _ _ _ _ _ (by simp)).trans hr.c1⟩

set_option maxHeartbeats 2000000 in
theorem product_fin (x y : Nat) (op m z : Int) (hx : x < 18446744073709551616) (hy : y < 18446744073709551616) (hm : 0 ≤ m ∧ m ≤ 4)
    (k1 : kind x ≠ 3) (k2 : kind y ≠ 3) (k3 : kind x ≠ 0) (k4 : kind y ≠ 0) (w : World) (hT : Tab w) :
    Calls Tryd.prog 33 #[.agg #[.int .u8 op, .int .u8 m, .int .u64 x, .int .u64 y, .int .u64 z]] w fun e w' =>
      e = .returned (.agg #[.int .u64 (roundB (xs x y) (mant x * mant y) (pow x + pow y) m), .int .u8 (roundF (xs x y) (mant x * mant y) (pow x + pow y) m), .bool false]) ∧ Below w.heap.size w w' := by
  have hxor := xor_sgn x y hx hy
  have b1 : (kind x == 3) = false := by simp [k1]
  have b2 : (kind y == 3) = false := by simp [k2]
  have b3 : (kind x == 0) = false := by simp [k3]
  have b4 : (kind y == 0) = false := by simp [k4]
  have HX : Hid (x < 18446744073709551616) := hx
  have HY : Hid (y < 18446744073709551616) := hy
  clear k1 k2 k3 k4 hx hy
  go_enter Tryd.func33, Tryd.ntmps33
  go_wp2_with fail
  go_quiet (first | (go_at_call_of 52 (Value.int .u64 (x : Int)); exact Calls.quiet_of_same (signOf_any (x : Int) (by omega) (by have := HX.out; omega) _)) | (go_at_call_of 52 (Value.int .u64 (y : Int)); exact Calls.quiet_of_same (signOf_any (y : Int) (by omega) (by have := HY.out; omega) _)))
  go_wp2_with (first | (go_at_call_of 35 (Value.int .u64 (x : Int)); refine (kindOf_any (x : Int) (by omega) (by have := HX.out; omega) _).mono ?_; rintro e w' ⟨rfl, rfl⟩) | (go_at_call_of 35 (Value.int .u64 (y : Int)); refine (kindOf_any (y : Int) (by omega) (by have := HY.out; omega) _).mono ?_; rintro e w' ⟨rfl, rfl⟩))
  go_cut [6, 7] from 8 to 73 (fun s6 s7 wx => ∃ g6 g7, s6 = .pointer (some ⟨g6, 0, none⟩) ∧ s7 = .pointer (some ⟨g7, 0, none⟩) ∧ w.heap.size + 1 < g6 ∧ w.heap.size + 1 < g7 ∧ Below (w.heap.size + 2) ((w.alloc (.cells #[.int .u8 op, .int .u8 m, .int .u64 x, .int .u64 y, .int .u64 z] 37)).alloc (.cells #[.int .u64 0, .int .u8 0, .bool false] 34)) wx ∧
    Four wx g6 (.int .u64 (sgn x)) (.int .u64 (mant x)) (.int .u64 0) (.int .i64 (pow x)) ∧ Four wx g7 (.int .u64 (sgn y)) (.int .u64 (mant y)) (.int .u64 0) (.int .i64 (pow y)))
  case first =>
    go_region_held3 (fun w' => w'.cell? ⟨w.heap.size, 2, none⟩ = some (.int .u64 x) ∧ w'.cell? ⟨w.heap.size, 3, none⟩ = some (.int .u64 y)) (first | (go_keep; done) | (refine ⟨?_, ?_⟩ <;> go_simp)) (first | (go_at_call_of 49 (Value.int .u64 (x : Int)); refine (exactly_any x HX.out _).mono ?_; rintro e w' ⟨rfl, rfl⟩) | (go_at_call_of 49 (Value.int .u64 (y : Int)); refine (exactly_any y HY.out _).mono ?_; rintro e w' ⟨rfl, rfl⟩))
    all_goals (try go_wp2_with fail)
    all_goals go_meet
    all_goals go_light
    all_goals
      refine ⟨_, _, rfl, rfl, by omega, by omega, ?_, ⟨?_, ?_, ?_, ?_⟩, ⟨?_, ?_, ?_, ?_⟩⟩
      · exact (((((below_drewN (Below.refl _ _) _).alloc (by simp <;> omega) _).alloc (by simp <;> omega) _).alloc (by simp <;> omega) _).alloc (by simp <;> omega) _)
      all_goals go_simp
  case rest =>
    obtain ⟨g6, g7, rfl, rfl, l6, l7, hbel, h6, h7⟩ := hcut
    have HR : Hid (Rec5 w wc (.int .u8 op) (.int .u8 m) (.int .u64 x) (.int .u64 y) (.int .u64 z)) := (Rec5.start w _ _ _ _ _ _ _).later hbel (Nat.le_refl _)
    have H6 : Hid (Four wc g6 (.int .u64 (sgn x)) (.int .u64 (mant x)) (.int .u64 0) (.int .i64 (pow x))) := h6
    have H7 : Hid (Four wc g7 (.int .u64 (sgn y)) (.int .u64 (mant y)) (.int .u64 0) (.int .i64 (pow y))) := h7
    have q1 := mant_lt x
    have q2 := mant_lt y
    have q3 := pow_range x
    have q4 := pow_range y
    have q5 := xs_lt x y
    have e1 := h6.c1
    have e3 := h6.c3
    have d1 := h7.c1
    have d3 := h7.c3
    have n1 := HR.out.c1
    have HXS : Hid (∀ w1, Below w.heap.size w w1 → Calls Tryd.prog 51 #[.agg #[.int .u64 (xs x y), .int .u64 ((mant x : Int) * (mant y : Int) % 18446744073709551616), .int .u64 ((mant x : Int) * (mant y : Int) / 18446744073709551616), .int .i64 (pow x + pow y)], .int .u8 m] w1 fun e w' =>
        e = .returned (.agg #[.int .u64 (roundB (xs x y) (mant x * mant y) (pow x + pow y) m), .int .u8 (roundF (xs x y) (mant x * mant y) (pow x + pow y) m), .bool false]) ∧ Below w1.heap.size w1 w') := by
      intro w1 hb
      have hlt : mant x * mant y < 9007199254740992 * 9007199254740992 := Nat.mul_lt_mul'' q1 q2
      have := round_any (xs x y) (mant x * mant y % 18446744073709551616) (mant x * mant y / 18446744073709551616) (pow x + pow y) m q5 (Nat.mod_lt _ (by decide)) (by omega) hm (by omega) w1 (hT.later hb)
      rw [show mant x * mant y % 18446744073709551616 + mant x * mant y / 18446744073709551616 * 18446744073709551616 = mant x * mant y by omega] at this
      simpa using this
    have HP : Hid (∀ w1, Calls Tryd.prog 53 #[.int .u64 (mant x), .int .u64 (mant y)] w1 fun e w' => e = .returned (.agg #[.int .u64 ((mant x : Int) * (mant y : Int) % 18446744073709551616), .int .u64 ((mant x : Int) * (mant y : Int) / 18446744073709551616)]) ∧ Below w1.heap.size w1 w') := fun w1 => product_any _ _ (by omega) (by omega) w1
    have w9 : IntKind.i64.wrap (pow x + pow y) = pow x + pow y := wrapI _ (by omega) (by omega)
    clear hbel h6 h7 hT hm b1 b2 b3 b4 hxor q1 q2 q3 q4 q5
    generalize hRB : roundB (xs x y) (mant x * mant y) (pow x + pow y) m = RB at HXS
    generalize hRF : roundF (xs x y) (mant x * mant y) (pow x + pow y) m = RF at HXS
    have HRB : Hid (roundB (xs x y) (mant x * mant y) (pow x + pow y) m = RB) := hRB
    have HRF : Hid (roundF (xs x y) (mant x * mant y) (pow x + pow y) m = RF) := hRF
    clear hRB hRF
    go_wp2_with fail
    go_region_held3 (fun w' => w'.cell? ⟨g6, 1, none⟩ = some (.int .u64 (mant x)) ∧ w'.cell? ⟨g7, 1, none⟩ = some (.int .u64 (mant y)) ∧ w'.cell? ⟨g6, 3, none⟩ = some (.int .i64 (pow x)) ∧ w'.cell? ⟨g7, 3, none⟩ = some (.int .i64 (pow y)) ∧ w'.cell? ⟨w.heap.size, 1, none⟩ = some (.int .u8 m))
      (first | (go_keep; done) | exact ⟨K6.out.c1, K7.out.c1, K6.out.c3, K7.out.c3, KR.out.c1⟩ | exact held5 K6.out K7.out KR.out l6 l7)
      (first | (go_at_call 53; refine (HP.out _).mono ?_; rintro e w' ⟨rfl, hb⟩; have K6 : Hid (Four w' g6 (.int .u64 (sgn x)) (.int .u64 (mant x)) (.int .u64 0) (.int .i64 (pow x))) := H6.out.later ⟨hb.os, hb.tape, hb.output, hb.size, hb.block⟩; have K7 : Hid (Four w' g7 (.int .u64 (sgn y)) (.int .u64 (mant y)) (.int .u64 0) (.int .i64 (pow y))) := H7.out.later ⟨hb.os, hb.tape, hb.output, hb.size, hb.block⟩; have KR : Hid (Rec5 w w' (.int .u8 op) (.int .u8 m) (.int .u64 x) (.int .u64 y) (.int .u64 z)) := HR.out.later (B := wc.heap.size) ⟨hb.os, hb.tape, hb.output, hb.size, hb.block⟩ (by have := HR.out.size; omega)) | (go_at_call 51; refine (HXS.out _ KR.out.below).mono ?_; rintro e w2 ⟨rfl, hb2⟩; have K6 : Hid (Four w2 g6 (.int .u64 (sgn x)) (.int .u64 (mant x)) (.int .u64 0) (.int .i64 (pow x))) := K6.out.later hb2; have K7 : Hid (Four w2 g7 (.int .u64 (sgn y)) (.int .u64 (mant y)) (.int .u64 0) (.int .i64 (pow y))) := K7.out.later hb2; have KR : Hid (Rec5 w w2 (.int .u8 op) (.int .u8 m) (.int .u64 x) (.int .u64 y) (.int .u64 z)) := KR.out.later hb2 (by have := KR.out.size; omega); have r0 := KR.out.r0; have r1 := KR.out.r1; have r2 := KR.out.r2; have f0 := KR.out.f0; have f1 := KR.out.f1; have f2 := KR.out.f2))
    all_goals (try go_wp2_with fail)
    all_goals
      refine bodyPost_ret (v := .agg #[.int .u64 RB, .int .u8 RF, .bool false]) (by simp [results, Tryd.results33, go_sem, *]) rfl ⟨by rw [HRB.out, HRF.out], ?_⟩
      exact ((KR.out.below.setCell (by simp) _).setCell (by simp) _).setCell (by simp) _
end Go.Proofs.YtfbdgecanfmgiaaDoor
