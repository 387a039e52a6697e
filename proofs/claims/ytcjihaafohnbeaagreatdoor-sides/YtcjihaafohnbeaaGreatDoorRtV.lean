import Derived.Test.YtcjihaafohnbeaaGreatDoorRtX
namespace Go.Proofs.YtcjihaafohnbeaaGreatDoor
open Go.RowKit

theorem results_hy {tmps : Array Value} {U : World} {g : Nat} {a b c : Value} (h2 : tmps.getD 2 undef = .pointer (some ⟨g, 0, none⟩)) (h : Blk U g [a, b, c]) :
    (results Tryz.f35 tmps).run Tryz.prog U = .ok (.agg #[a, b, c]) U := by
  have c0 := h.cells 0 _ rfl
  have c1 := h.cells 1 _ rfl
  have c2 := h.cells 2 _ rfl
  have h2' : tmps[2]?.getD undef = .pointer (some ⟨g, 0, none⟩) := by simpa using h2
  simp [results, Tryz.results35, go_sem, h2', c0, c1, c2]
theorem Rows2.put {w w1 : World} {xs rs : List Value} (h : Rows2 w w1 xs rs) {g : Nat} (i : Nat) (v : Value) (hg : w.heap.size + 1 < g) : Rows2 w (w1.setCell ⟨g, i, none⟩ v) xs rs := ⟨h.below.setCell (by simp; omega) _, by simpa using h.size, h.x.other _ _ (by simp; omega), h.r.other _ _ (by simp; omega)⟩
theorem Blk.set4 {w : World} {g : Nat} {z0 z1 z2 z3 a b c d : Value} (h : Blk w g [z0, z1, z2, z3]) : Blk ((((w.setCell ⟨g, 0, none⟩ a).setCell ⟨g, 1, none⟩ b).setCell ⟨g, 2, none⟩ c).setCell ⟨g, 3, none⟩ d) g [a, b, c, d] :=
  (((h.set 0 a (by simp)).set 1 b (by simp)).set 2 c (by simp)).set 3 d (by simp)
theorem Blk.other4 {w : World} {g k : Nat} {vs : List Value} {a b c d : Value} (h : Blk w k vs) (hk : k ≠ g) : Blk ((((w.setCell ⟨g, 0, none⟩ a).setCell ⟨g, 1, none⟩ b).setCell ⟨g, 2, none⟩ c).setCell ⟨g, 3, none⟩ d) k vs :=
  (((h.other ⟨g, 0, none⟩ a hk).other ⟨g, 1, none⟩ b hk).other ⟨g, 2, none⟩ c hk).other ⟨g, 3, none⟩ d hk
theorem Blk.new1 (w : World) (o : Obj) (vs : List Value) (t : TypeId) (hn : 0 < vs.length) : Blk ((w.alloc o).alloc (.cells vs.toArray t)) (w.heap.size + 1) vs := by
  have h := Blk.new (w.alloc o) vs t hn
  rw [World.size_alloc] at h
  exact h
theorem Blk.new4 (w : World) (g : Nat) (a b c d : Value) (vs : List Value) (t : TypeId) (hn : 0 < vs.length) : Blk (((((w.setCell ⟨g, 0, none⟩ a).setCell ⟨g, 1, none⟩ b).setCell ⟨g, 2, none⟩ c).setCell ⟨g, 3, none⟩ d).alloc (.cells vs.toArray t)) w.heap.size vs := by
  have h := Blk.new ((((w.setCell ⟨g, 0, none⟩ a).setCell ⟨g, 1, none⟩ b).setCell ⟨g, 2, none⟩ c).setCell ⟨g, 3, none⟩ d) vs t hn
  have e : ((((w.setCell ⟨g, 0, none⟩ a).setCell ⟨g, 1, none⟩ b).setCell ⟨g, 2, none⟩ c).setCell ⟨g, 3, none⟩ d).heap.size = w.heap.size := by simp
  rw [e] at h
  exact h
/-- Two blocks and two numbers behind them. -/
structure Tri (w w1 : World) (xs rs : List Value) (g3 g4 : Nat) (ps qs : List Value) : Prop where
  rows : Rows2 w w1 xs rs
  p : Blk w1 g3 ps
  q : Blk w1 g4 qs
theorem Tri.later {w w1 w2 : World} {xs rs ps qs : List Value} {g3 g4 : Nat} (h : Tri w w1 xs rs g3 g4 ps qs) (hb : Below w1.heap.size w1 w2) : Tri w w2 xs rs g3 g4 ps qs := ⟨h.rows.later hb, h.p.later hb, h.q.later hb⟩
theorem Tri.drew {w w1 : World} {xs rs ps qs : List Value} {g3 g4 : Nat} (h : Tri w w1 xs rs g3 g4 ps qs) : Tri w w1.drew xs rs g3 g4 ps qs := ⟨h.rows.drew, h.p.drew, h.q.drew⟩
theorem xs_self (x : Nat) : xs x x = 0 := by unfold xs; omega
theorem gsS_zero {d1 d2 : Nat} {p1 p2 m : Int} : gsS 256 0 d1 p1 0 d2 p2 m = 0 := by unfold gsS suS; simp

set_option maxHeartbeats 8000000 in
set_option maxRecDepth 10000 in
theorem soft_hy (x y : Nat) (op m z : Int) (hx : x < 18446744073709551616) (hy : y < 18446744073709551616) (hm : 0 ≤ m ∧ m ≤ 4) (w : World) (hT : Tab w) :
    Calls Tryz.prog 35 #[.agg #[.int .u8 op, .int .u8 m, .int .u64 x, .int .u64 y, .int .u64 z]] w fun e w' => e = .returned (.agg #[.int .u64 (sdB x y m), .int .u8 (sdF x y m), .bool false]) ∧ Below w.heap.size w w' := by
  have HK : Hid (∀ w, Calls Tryz.prog 54 #[.agg #[.int .u8 op, .int .u8 m, .int .u64 x, .int .u64 y, .int .u64 z]] w fun e w' => e = .returned (.agg #[.int .i64 (kind x), .int .i64 (kind y)]) ∧ Below w.heap.size w w') := fun w => kindsOf_any x y op m z hx hy w
  have HAI : Hid (∀ w, Calls Tryz.prog 36 #[.agg #[.int .u8 op, .int .u8 m, .int .u64 x, .int .u64 y, .int .u64 z]] w fun e w' => e = .returned (.bool (anI (kind x) (kind y))) ∧ Below w.heap.size w w') := fun w => anI_any x y op m z hx hy w
  have HEX : Hid (∀ w, Calls Tryz.prog 58 #[.agg #[.int .u8 0, .int .u8 0, .int .u64 x, .int .u64 x, .int .u64 0]] w fun e w' => e = .returned (.agg #[.int .u64 0, .int .u64 (wd (mant x * mant x) 0 : Nat), .int .u64 (wd (mant x * mant x) 1 : Nat), .int .i64 (pow x + pow x)]) ∧ Below w.heap.size w w') := fun w => by
    have := exactProduct_any x x 0 0 0 hx hx w
    rw [xs_self] at this
    exact this
  have HWX : Hid (∀ w, Calls Tryz.prog 61 #[.agg #[.int .u64 0, .int .u64 (wd (mant x * mant x) 0 : Nat), .int .u64 (wd (mant x * mant x) 1 : Nat), .int .i64 (pow x + pow x)]] w fun e w' => e = .returned (.agg #[.int .u64 0, .int .u64 (wd (mant x * mant x) 0 : Nat), .int .u64 (wd (mant x * mant x) 1 : Nat), .int .u64 (wd (mant x * mant x) 2 : Nat), .int .u64 (wd (mant x * mant x) 3 : Nat), .int .i64 (pow x + pow x)]) ∧ Below w.heap.size w w') := fun w => wider_any 0 (mant x * mant x) (pow x + pow x) (Nat.lt_of_lt_of_le (Nat.mul_lt_mul'' (mant_lt x) (mant_lt x)) (by decide)) w
  have qx := pow_range x
  have lx := sq_bl x
  have Mx : Hid (¬ kind x = 0 → mant x ≠ 0) := mant_some hx
  have HEY : Hid (∀ w, Calls Tryz.prog 58 #[.agg #[.int .u8 0, .int .u8 0, .int .u64 y, .int .u64 y, .int .u64 0]] w fun e w' => e = .returned (.agg #[.int .u64 0, .int .u64 (wd (mant y * mant y) 0 : Nat), .int .u64 (wd (mant y * mant y) 1 : Nat), .int .i64 (pow y + pow y)]) ∧ Below w.heap.size w w') := fun w => by
    have := exactProduct_any y y 0 0 0 hy hy w
    rw [xs_self] at this
    exact this
  have HWY : Hid (∀ w, Calls Tryz.prog 61 #[.agg #[.int .u64 0, .int .u64 (wd (mant y * mant y) 0 : Nat), .int .u64 (wd (mant y * mant y) 1 : Nat), .int .i64 (pow y + pow y)]] w fun e w' => e = .returned (.agg #[.int .u64 0, .int .u64 (wd (mant y * mant y) 0 : Nat), .int .u64 (wd (mant y * mant y) 1 : Nat), .int .u64 (wd (mant y * mant y) 2 : Nat), .int .u64 (wd (mant y * mant y) 3 : Nat), .int .i64 (pow y + pow y)]) ∧ Below w.heap.size w w') := fun w => wider_any 0 (mant y * mant y) (pow y + pow y) (Nat.lt_of_lt_of_le (Nat.mul_lt_mul'' (mant_lt y) (mant_lt y)) (by decide)) w
  have qy := pow_range y
  have ly := sq_bl y
  have My : Hid (¬ kind y = 0 → mant y ≠ 0) := mant_some hy
  have HES : Hid (∀ w, Calls Tryz.prog 64 #[.agg #[.int .u64 0, .int .u64 (wd (mant x * mant x) 0 : Nat), .int .u64 (wd (mant x * mant x) 1 : Nat), .int .u64 (wd (mant x * mant x) 2 : Nat), .int .u64 (wd (mant x * mant x) 3 : Nat), .int .i64 (pow x + pow x)], .agg #[.int .u64 0, .int .u64 (wd (mant y * mant y) 0 : Nat), .int .u64 (wd (mant y * mant y) 1 : Nat), .int .u64 (wd (mant y * mant y) 2 : Nat), .int .u64 (wd (mant y * mant y) 3 : Nat), .int .i64 (pow y + pow y)], .int .u8 m] w fun e w' => e = .returned (.agg #[.int .u64 0, .int .u64 (wd (hyS x y) 0 : Nat), .int .u64 (wd (hyS x y) 1 : Nat), .int .u64 (wd (hyS x y) 2 : Nat), .int .u64 (wd (hyS x y) 3 : Nat), .int .i64 (hyP x y)]) ∧ Below w.heap.size w w') := fun w => by
    have := W4.exactSum_any 0 0 (mant x * mant x) (mant y * mant y) (pow x + pow x) (pow y + pow y) m (by omega) (by omega) (by omega) (by omega) (by omega) (by omega) w
    rw [gsS_zero] at this
    exact this
  have HER : Hid ((mant x ≠ 0 ∨ mant y ≠ 0) → ∀ w1, Calls Tryz.prog 62 #[.agg #[.int .u64 0, .int .u64 (wd (hyS x y) 0 : Nat), .int .u64 (wd (hyS x y) 1 : Nat), .int .u64 (wd (hyS x y) 2 : Nat), .int .u64 (wd (hyS x y) 3 : Nat), .int .i64 (hyP x y)], .int .i64 2] w1 fun e w' => ∃ O : Nat, Hid (∀ w2, Below w.heap.size w w2 → Calls Tryz.prog 57 #[.agg #[.int .u64 0, .int .u64 (O : Nat), .int .u64 0, .int .i64 (rtP 2 128 (hyS x y) (hyP x y))], .int .u8 m] w2 fun e w' => e = .returned (.agg #[.int .u64 (roundB 0 (sqD (ssD x y) (ssP x y)) (sqP (ssP x y)) m), .int .u8 (roundF 0 (sqD (ssD x y) (ssP x y)) (sqP (ssP x y)) m), .bool false]) ∧ Below w2.heap.size w2 w') ∧ e = .returned (.agg #[.int .u64 0, .int .u64 (O : Nat), .int .u64 0, .int .i64 (rtP 2 128 (hyS x y) (hyP x y))]) ∧ Below w1.heap.size w1 w') := fun hn w1 => by
    obtain ⟨h0, hL⟩ := hyL hn
    obtain ⟨t, _, hpt, _, hl, _⟩ := hy_mark hn
    have hP := gsP_range (n := 256) (s1 := 0) (s2 := 0) (d1 := mant x * mant x) (d2 := mant y * mant y) (p1 := pow x + pow x) (p2 := pow y + pow y) (by omega) (by omega) (by omega) (by omega) (by omega)
    have hP' : -5000 ≤ hyP x y ∧ hyP x y ≤ 5000 := hP
    have hS4 : hyS x y < 18446744073709551616 ^ 4 := Nat.lt_of_lt_of_le hl (by decide)
    refine (exactRoot2 0 (hyS x y) (hyP x y) h0 hS4 hL (by omega) w1).mono ?_
    rintro e w' ⟨W, g1, g2, g3, rfl, hb⟩
    refine ⟨_, fun w2 hb2 => ?_, rfl, hb⟩
    obtain ⟨r1, r2⟩ := hy_round (m := m) hn g2 g3
    have hO := odd_lt (decide (pw2 W = rtG 2 128 (hyS x y) (hyP x y))) g1
    have ow := one_word hO
    have hLr := rtL_range (d := 2) (below := 128) (p := hyP x y) (by decide) h0 hS4
    have := W2.round_any 0 (odd W (decide (pw2 W = rtG 2 128 (hyS x y) (hyP x y)))) (rtP 2 128 (hyS x y) (hyP x y)) m (by omega) (by omega) hm (by unfold rtP; omega) w2 (hT.later hb2)
    rw [ow.1, ow.2] at this
    rw [r1, r2]
    exact this
  have HPB : Hid (sdB x y m = (if kind x = 3 ∨ kind y = 3 then 9218868437227405312 else if kind x = 0 ∧ kind y = 0 then 0 else roundB 0 (sqD (ssD x y) (ssP x y)) (sqP (ssP x y)) m)) := rfl
  have HPF : Hid (sdF x y m = (if kind x = 3 ∨ kind y = 3 then 0 else if kind x = 0 ∧ kind y = 0 then 0 else roundF 0 (sqD (ssD x y) (ssP x y)) (sqP (ssP x y)) m)) := rfl
  clear hx hy hm hT qx qy lx ly
  generalize sdB x y m = B at *
  generalize sdF x y m = F at *
  generalize roundB 0 (sqD (ssD x y) (ssP x y)) (sqP (ssP x y)) m = RB at *
  generalize roundF 0 (sqD (ssD x y) (ssP x y)) (sqP (ssP x y)) m = RF at *
  generalize rtP 2 128 (hyS x y) (hyP x y) = PP at *
  generalize hyP x y = HP at *
  generalize wd (hyS x y) 0 = s0 at *
  generalize wd (mant x * mant x) 0 = a0 at *
  generalize wd (mant y * mant y) 0 = b0 at *
  generalize wd (hyS x y) 1 = s1 at *
  generalize wd (mant x * mant x) 1 = a1 at *
  generalize wd (mant y * mant y) 1 = b1 at *
  generalize wd (hyS x y) 2 = s2 at *
  generalize wd (mant x * mant x) 2 = a2 at *
  generalize wd (mant y * mant y) 2 = b2 at *
  generalize wd (hyS x y) 3 = s3 at *
  generalize wd (mant x * mant x) 3 = a3 at *
  generalize wd (mant y * mant y) 3 = b3 at *
  generalize pow x + pow x = px at *
  generalize pow y + pow y = py at *
  generalize kind (x : Int) = KX at *
  generalize kind (y : Int) = KY at *
  have K0 : Hid (Rows2 w ((w.alloc (.cells #[.int .u8 op, .int .u8 m, .int .u64 x, .int .u64 y, .int .u64 z] 33)).alloc (.cells #[.int .u64 0, .int .u8 0, .bool false] 36)) [.int .u8 op, .int .u8 m, .int .u64 x, .int .u64 y, .int .u64 z] [.int .u64 0, .int .u8 0, .bool false]) := Rows2.start w _ _ _ _ (by simp) (by simp)
  by_cases c0 : KX = 3 ∨ KY = 3
  · have hai : anI KX KY = true := by unfold anI; rcases c0 with h | h <;> simp [h]
    have HV : Hid (B = 9218868437227405312 ∧ F = 0) := ⟨by rw [HPB.out, if_pos c0], by rw [HPF.out, if_pos c0]⟩
    rw [hai] at HAI
    clear c0 HPB HPF Mx My HER hai
    go_enter Tryz.func35, Tryz.ntmps35
    go_wp2_with fail
    refine (HAI.out _).mono ?_
    rintro e w1 ⟨rfl, hb1⟩
    have K1 : Hid (Rows2 w w1 [.int .u8 op, .int .u8 m, .int .u64 x, .int .u64 y, .int .u64 z] [.int .u64 0, .int .u8 0, .bool false]) := K0.out.later hb1
    clear hb1 K0
    have c0 := K1.out.x.cells 0 _ rfl
    have c1 := K1.out.x.cells 1 _ rfl
    have c2 := K1.out.x.cells 2 _ rfl
    have c3 := K1.out.x.cells 3 _ rfl
    have c4 := K1.out.x.cells 4 _ rfl
    have r0 := K1.out.r.cells 0 _ rfl
    have r1 := K1.out.r.cells 1 _ rfl
    have r2 := K1.out.r.cells 2 _ rfl
    have f0 := K1.out.r.live 0 _ rfl
    have f1 := K1.out.r.live 1 _ rfl
    have f2 := K1.out.r.live 2 _ rfl
    have z1 := K1.out.size
    have z0 : w.heap.size < _ := K1.out.x.lt
    go_wp2_with fail
    go_light
    refine bodyPost_ret (v := .agg #[.int .u64 9218868437227405312, .int .u8 0, .bool false]) (results_hy rfl (((K1.out.r.set 0 _ (by simp)).set 1 _ (by simp)).set 2 _ (by simp))) rfl ⟨by rw [HV.out.1, HV.out.2], ?_⟩
    exact ((K1.out.below.setCell (by simp) _).setCell (by simp) _).setCell (by simp) _
  have hai : anI KX KY = false := by unfold anI; simp; omega
  rw [hai] at HAI
  by_cases c1 : KX = 0 ∧ KY = 0
  · have hz : (KX == 0 && KY == 0) = true := by simp [c1]
    have HV : Hid (B = 0 ∧ F = 0) := ⟨by rw [HPB.out, if_neg c0, if_pos c1], by rw [HPF.out, if_neg c0, if_pos c1]⟩
    have hep := fun w => eq_pair KX KY 0 0 w
    rw [hz] at hep
    clear c0 c1 HPB HPF Mx My HER hai hz
    go_enter Tryz.func35, Tryz.ntmps35
    go_wp2_with fail
    refine (HAI.out _).mono ?_
    rintro e w1 ⟨rfl, hb1⟩
    have K1 : Hid (Rows2 w w1 [.int .u8 op, .int .u8 m, .int .u64 x, .int .u64 y, .int .u64 z] [.int .u64 0, .int .u8 0, .bool false]) := K0.out.later hb1
    clear hb1 K0
    have c0 := K1.out.x.cells 0 _ rfl
    have c1 := K1.out.x.cells 1 _ rfl
    have c2 := K1.out.x.cells 2 _ rfl
    have c3 := K1.out.x.cells 3 _ rfl
    have c4 := K1.out.x.cells 4 _ rfl
    have r0 := K1.out.r.cells 0 _ rfl
    have r1 := K1.out.r.cells 1 _ rfl
    have r2 := K1.out.r.cells 2 _ rfl
    have f0 := K1.out.r.live 0 _ rfl
    have f1 := K1.out.r.live 1 _ rfl
    have f2 := K1.out.r.live 2 _ rfl
    have z1 := K1.out.size
    have z0 : w.heap.size < _ := K1.out.x.lt
    go_wp2_with fail
    refine (HK.out _).mono ?_
    rintro e w2 ⟨rfl, hb2⟩
    have K2 : Hid (Rows2 w w2 [.int .u8 op, .int .u8 m, .int .u64 x, .int .u64 y, .int .u64 z] [.int .u64 0, .int .u8 0, .bool false]) := K1.out.later hb2
    clear hb2 K1 c0 c1 c2 c3 c4 r0 r1 r2 f0 f1 f2 z1 z0
    have c0 := K2.out.x.cells 0 _ rfl
    have c1 := K2.out.x.cells 1 _ rfl
    have c2 := K2.out.x.cells 2 _ rfl
    have c3 := K2.out.x.cells 3 _ rfl
    have c4 := K2.out.x.cells 4 _ rfl
    have r0 := K2.out.r.cells 0 _ rfl
    have r1 := K2.out.r.cells 1 _ rfl
    have r2 := K2.out.r.cells 2 _ rfl
    have f0 := K2.out.r.live 0 _ rfl
    have f1 := K2.out.r.live 1 _ rfl
    have f2 := K2.out.r.live 2 _ rfl
    have z1 := K2.out.size
    have z0 : w.heap.size < _ := K2.out.x.lt
    go_wp2_with fail
    go_light
    refine bodyPost_ret (v := .agg #[.int .u64 0, .int .u8 0, .bool false]) (results_hy rfl (((K2.out.r.set 0 _ (by simp)).set 1 _ (by simp)).set 2 _ (by simp))) rfl ⟨by rw [HV.out.1, HV.out.2], ?_⟩
    exact ((K2.out.below.setCell (by simp) _).setCell (by simp) _).setCell (by simp) _
  · have hz : (KX == 0 && KY == 0) = false := by rw [Bool.and_eq_false_iff]; simp; omega
    have HV : Hid (B = RB ∧ F = RF) := ⟨by rw [HPB.out, if_neg c0, if_neg c1], by rw [HPF.out, if_neg c0, if_neg c1]⟩
    have hep := fun w => eq_pair KX KY 0 0 w
    rw [hz] at hep
    have HERY : Hid (_) := HER.out (by
      rcases Classical.em (KX = 0) with g | g
      · exact .inr (My.out (by omega))
      · exact .inl (Mx.out g))
    clear c0 c1 HPB HPF Mx My HER hai hz
    go_enter Tryz.func35, Tryz.ntmps35
    go_wp2_with fail
    refine (HAI.out _).mono ?_
    rintro e w1 ⟨rfl, hb1⟩
    have K1 : Hid (Rows2 w w1 [.int .u8 op, .int .u8 m, .int .u64 x, .int .u64 y, .int .u64 z] [.int .u64 0, .int .u8 0, .bool false]) := K0.out.later hb1
    clear hb1 K0
    have c0 := K1.out.x.cells 0 _ rfl
    have c1 := K1.out.x.cells 1 _ rfl
    have c2 := K1.out.x.cells 2 _ rfl
    have c3 := K1.out.x.cells 3 _ rfl
    have c4 := K1.out.x.cells 4 _ rfl
    have r0 := K1.out.r.cells 0 _ rfl
    have r1 := K1.out.r.cells 1 _ rfl
    have r2 := K1.out.r.cells 2 _ rfl
    have f0 := K1.out.r.live 0 _ rfl
    have f1 := K1.out.r.live 1 _ rfl
    have f2 := K1.out.r.live 2 _ rfl
    have z1 := K1.out.size
    have z0 : w.heap.size < _ := K1.out.x.lt
    go_wp2_with fail
    refine (HK.out _).mono ?_
    rintro e w2 ⟨rfl, hb2⟩
    have K2 : Hid (Rows2 w w2 [.int .u8 op, .int .u8 m, .int .u64 x, .int .u64 y, .int .u64 z] [.int .u64 0, .int .u8 0, .bool false]) := K1.out.later hb2
    clear hb2 K1 c0 c1 c2 c3 c4 r0 r1 r2 f0 f1 f2 z1 z0
    have c0 := K2.out.x.cells 0 _ rfl
    have c1 := K2.out.x.cells 1 _ rfl
    have c2 := K2.out.x.cells 2 _ rfl
    have c3 := K2.out.x.cells 3 _ rfl
    have c4 := K2.out.x.cells 4 _ rfl
    have r0 := K2.out.r.cells 0 _ rfl
    have r1 := K2.out.r.cells 1 _ rfl
    have r2 := K2.out.r.cells 2 _ rfl
    have f0 := K2.out.r.live 0 _ rfl
    have f1 := K2.out.r.live 1 _ rfl
    have f2 := K2.out.r.live 2 _ rfl
    have z1 := K2.out.size
    have z0 : w.heap.size < _ := K2.out.x.lt
    have hz4 : 0 < ([.int .u64 0, .int .u64 0, .int .u64 0, .int .i64 0] : List Value).length := by simp
    have hp4 : 0 < ([.int .u64 0, .int .u64 (a0 : Nat), .int .u64 (a1 : Nat), .int .i64 px] : List Value).length := by simp
    have hq4 : 0 < ([.int .u64 0, .int .u64 (b0 : Nat), .int .u64 (b1 : Nat), .int .i64 py] : List Value).length := by simp
    go_upto_region 5 with fail
    go_cut [3, 4] from 5 to 37 (fun s3 s4 wx => ∃ g3 g4, s3 = .pointer (some ⟨g3, 0, none⟩) ∧ s4 = .pointer (some ⟨g4, 0, none⟩) ∧ w.heap.size + 1 < g3 ∧ w.heap.size + 1 < g4 ∧ Rows2 w wx [.int .u8 op, .int .u8 m, .int .u64 x, .int .u64 y, .int .u64 z] [.int .u64 0, .int .u8 0, .bool false] ∧ Blk wx g3 [.int .u64 0, .int .u64 (a0 : Nat), .int .u64 (a1 : Nat), .int .i64 px] ∧ Blk wx g4 [.int .u64 0, .int .u64 (b0 : Nat), .int .u64 (b1 : Nat), .int .i64 py])
    case first =>
      go_region_held3 (fun w' => w'.cell? ⟨w.heap.size, 2, none⟩ = some (.int .u64 x) ∧ w'.cell? ⟨w.heap.size, 3, none⟩ = some (.int .u64 y))
        (first | (with_reducible exact ⟨ya, yb⟩) | (with_reducible exact ⟨xa, xb⟩) | ((with_reducible refine ⟨?_, ?_⟩) <;> ((repeat (first | rw [cellSet4 _ _ _ _ _ _ _ (by first | (simp; done) | (simp; omega))] | rw [World.cell?_alloc_lt _ _ _ (by first | assumption | (simp; done) | (simp; omega))])); assumption)) | (go_keep; done))
        (first | (go_at_call_of 58 (Value.agg #[.int .u8 0, .int .u8 0, .int .u64 (x : Int), .int .u64 (x : Int), .int .u64 0]); refine (HEX.out _).mono ?_; rintro e w' ⟨rfl, hb⟩; have hs3 := hb.size; (try simp only [World.size_alloc, World.size_drew] at hs3); (first | ((with_reducible have N0 : Blk w' (w2.heap.size) [.int .u64 0, .int .u64 0, .int .u64 0, .int .i64 0] := Blk.later (Blk.alloc (Blk.new _ _ _ hz4) _) hb); have NA : Hid (Blk w' (w2.heap.size) [.int .u64 0, .int .u64 0, .int .u64 0, .int .i64 0]) := N0; clear N0; skip) | ((with_reducible have N0 : Blk w' (w2.heap.size) [.int .u64 0, .int .u64 0, .int .u64 0, .int .i64 0] := Blk.later (Blk.drew (Blk.alloc (Blk.new _ _ _ hz4) _)) hb); have NA : Hid (Blk w' (w2.heap.size) [.int .u64 0, .int .u64 0, .int .u64 0, .int .i64 0]) := N0; clear N0; skip) | ((with_reducible have N0 : Blk w' (w2.heap.size) [.int .u64 0, .int .u64 0, .int .u64 0, .int .i64 0] := Blk.later (Blk.new _ _ _ hz4) hb); have NA : Hid (Blk w' (w2.heap.size) [.int .u64 0, .int .u64 0, .int .u64 0, .int .i64 0]) := N0; clear N0; skip) | ((with_reducible have N0 : Blk w' (w2.heap.size) [.int .u64 0, .int .u64 0, .int .u64 0, .int .i64 0] := Blk.later (Blk.drew (Blk.new _ _ _ hz4)) hb); have NA : Hid (Blk w' (w2.heap.size) [.int .u64 0, .int .u64 0, .int .u64 0, .int .i64 0]) := N0; clear N0; skip) | skip); (first | ((with_reducible have N0 : Blk w' (w2.heap.size + 1) [.int .u64 0, .int .u64 0, .int .u64 0, .int .i64 0] := Blk.later (Blk.new1 _ _ _ _ hz4) hb); have NB : Hid (Blk w' (w2.heap.size + 1) [.int .u64 0, .int .u64 0, .int .u64 0, .int .i64 0]) := N0; clear N0; skip) | ((with_reducible have N0 : Blk w' (w2.heap.size + 1) [.int .u64 0, .int .u64 0, .int .u64 0, .int .i64 0] := Blk.later (Blk.drew (Blk.new1 _ _ _ _ hz4)) hb); have NB : Hid (Blk w' (w2.heap.size + 1) [.int .u64 0, .int .u64 0, .int .u64 0, .int .i64 0]) := N0; clear N0; skip) | skip); have K3 : Hid (Rows2 w w' [.int .u8 op, .int .u8 m, .int .u64 x, .int .u64 y, .int .u64 z] [.int .u64 0, .int .u8 0, .bool false]) := Rows2.later (by repeat (with_reducible first | exact K2.out | refine Rows2.drew ?_ | refine Rows2.alloc ?_ _)) hb; have xa := K3.out.x.cells 2 _ rfl; have xb := K3.out.x.cells 3 _ rfl; have z3 := K3.out.size; clear hb) | (go_at_call_of 58 (Value.agg #[.int .u8 0, .int .u8 0, .int .u64 (y : Int), .int .u64 (y : Int), .int .u64 0]); refine (HEY.out _).mono ?_; rintro e w' ⟨rfl, hb⟩; have hs4 := hb.size; (try simp only [World.size_alloc] at hs4); (first | ((with_reducible have N0 : Blk w' (w2.heap.size) [.int .u64 0, .int .u64 0, .int .u64 0, .int .i64 0] := Blk.later (NA.out) hb); have NC : Hid (Blk w' (w2.heap.size) [.int .u64 0, .int .u64 0, .int .u64 0, .int .i64 0]) := N0; clear N0; have lNC := NC.out.lt; have nNC0 := NC.out.cells 0 _ rfl; have mNC0 := NC.out.live 0 _ rfl; have nNC1 := NC.out.cells 1 _ rfl; have mNC1 := NC.out.live 1 _ rfl; have nNC2 := NC.out.cells 2 _ rfl; have mNC2 := NC.out.live 2 _ rfl; have nNC3 := NC.out.cells 3 _ rfl; have mNC3 := NC.out.live 3 _ rfl) | ((with_reducible have N0 : Blk w' (w2.heap.size) [.int .u64 0, .int .u64 0, .int .u64 0, .int .i64 0] := Blk.later (Blk.drew (NA.out)) hb); have NC : Hid (Blk w' (w2.heap.size) [.int .u64 0, .int .u64 0, .int .u64 0, .int .i64 0]) := N0; clear N0; have lNC := NC.out.lt; have nNC0 := NC.out.cells 0 _ rfl; have mNC0 := NC.out.live 0 _ rfl; have nNC1 := NC.out.cells 1 _ rfl; have mNC1 := NC.out.live 1 _ rfl; have nNC2 := NC.out.cells 2 _ rfl; have mNC2 := NC.out.live 2 _ rfl; have nNC3 := NC.out.cells 3 _ rfl; have mNC3 := NC.out.live 3 _ rfl) | ((with_reducible have N0 : Blk w' (w2.heap.size) [.int .u64 0, .int .u64 0, .int .u64 0, .int .i64 0] := Blk.later (Blk.alloc (NA.out) _) hb); have NC : Hid (Blk w' (w2.heap.size) [.int .u64 0, .int .u64 0, .int .u64 0, .int .i64 0]) := N0; clear N0; have lNC := NC.out.lt; have nNC0 := NC.out.cells 0 _ rfl; have mNC0 := NC.out.live 0 _ rfl; have nNC1 := NC.out.cells 1 _ rfl; have mNC1 := NC.out.live 1 _ rfl; have nNC2 := NC.out.cells 2 _ rfl; have mNC2 := NC.out.live 2 _ rfl; have nNC3 := NC.out.cells 3 _ rfl; have mNC3 := NC.out.live 3 _ rfl) | ((with_reducible have N0 : Blk w' (w2.heap.size) [.int .u64 0, .int .u64 0, .int .u64 0, .int .i64 0] := Blk.later (Blk.alloc (Blk.alloc (NA.out) _) _) hb); have NC : Hid (Blk w' (w2.heap.size) [.int .u64 0, .int .u64 0, .int .u64 0, .int .i64 0]) := N0; clear N0; have lNC := NC.out.lt; have nNC0 := NC.out.cells 0 _ rfl; have mNC0 := NC.out.live 0 _ rfl; have nNC1 := NC.out.cells 1 _ rfl; have mNC1 := NC.out.live 1 _ rfl; have nNC2 := NC.out.cells 2 _ rfl; have mNC2 := NC.out.live 2 _ rfl; have nNC3 := NC.out.cells 3 _ rfl; have mNC3 := NC.out.live 3 _ rfl) | skip); (first | ((with_reducible have N0 : Blk w' (w2.heap.size + 1) [.int .u64 0, .int .u64 0, .int .u64 0, .int .i64 0] := Blk.later (NB.out) hb); have ND : Hid (Blk w' (w2.heap.size + 1) [.int .u64 0, .int .u64 0, .int .u64 0, .int .i64 0]) := N0; clear N0; have lND := ND.out.lt; have nND0 := ND.out.cells 0 _ rfl; have mND0 := ND.out.live 0 _ rfl; have nND1 := ND.out.cells 1 _ rfl; have mND1 := ND.out.live 1 _ rfl; have nND2 := ND.out.cells 2 _ rfl; have mND2 := ND.out.live 2 _ rfl; have nND3 := ND.out.cells 3 _ rfl; have mND3 := ND.out.live 3 _ rfl) | ((with_reducible have N0 : Blk w' (w2.heap.size + 1) [.int .u64 0, .int .u64 0, .int .u64 0, .int .i64 0] := Blk.later (Blk.drew (NB.out)) hb); have ND : Hid (Blk w' (w2.heap.size + 1) [.int .u64 0, .int .u64 0, .int .u64 0, .int .i64 0]) := N0; clear N0; have lND := ND.out.lt; have nND0 := ND.out.cells 0 _ rfl; have mND0 := ND.out.live 0 _ rfl; have nND1 := ND.out.cells 1 _ rfl; have mND1 := ND.out.live 1 _ rfl; have nND2 := ND.out.cells 2 _ rfl; have mND2 := ND.out.live 2 _ rfl; have nND3 := ND.out.cells 3 _ rfl; have mND3 := ND.out.live 3 _ rfl) | ((with_reducible have N0 : Blk w' (w2.heap.size + 1) [.int .u64 0, .int .u64 0, .int .u64 0, .int .i64 0] := Blk.later (Blk.alloc (NB.out) _) hb); have ND : Hid (Blk w' (w2.heap.size + 1) [.int .u64 0, .int .u64 0, .int .u64 0, .int .i64 0]) := N0; clear N0; have lND := ND.out.lt; have nND0 := ND.out.cells 0 _ rfl; have mND0 := ND.out.live 0 _ rfl; have nND1 := ND.out.cells 1 _ rfl; have mND1 := ND.out.live 1 _ rfl; have nND2 := ND.out.cells 2 _ rfl; have mND2 := ND.out.live 2 _ rfl; have nND3 := ND.out.cells 3 _ rfl; have mND3 := ND.out.live 3 _ rfl) | ((with_reducible have N0 : Blk w' (w2.heap.size + 1) [.int .u64 0, .int .u64 0, .int .u64 0, .int .i64 0] := Blk.later (Blk.alloc (Blk.alloc (NB.out) _) _) hb); have ND : Hid (Blk w' (w2.heap.size + 1) [.int .u64 0, .int .u64 0, .int .u64 0, .int .i64 0]) := N0; clear N0; have lND := ND.out.lt; have nND0 := ND.out.cells 0 _ rfl; have mND0 := ND.out.live 0 _ rfl; have nND1 := ND.out.cells 1 _ rfl; have mND1 := ND.out.live 1 _ rfl; have nND2 := ND.out.cells 2 _ rfl; have mND2 := ND.out.live 2 _ rfl; have nND3 := ND.out.cells 3 _ rfl; have mND3 := ND.out.live 3 _ rfl) | skip); (first | ((with_reducible have N0 : Blk w' (_) [.int .u64 0, .int .u64 0, .int .u64 0, .int .i64 0] := Blk.later (Blk.alloc (Blk.new _ _ _ hz4) _) hb); have NE : Hid (Blk w' (_) [.int .u64 0, .int .u64 0, .int .u64 0, .int .i64 0]) := N0; clear N0; have lNE := NE.out.lt; have nNE0 := NE.out.cells 0 _ rfl; have mNE0 := NE.out.live 0 _ rfl; have nNE1 := NE.out.cells 1 _ rfl; have mNE1 := NE.out.live 1 _ rfl; have nNE2 := NE.out.cells 2 _ rfl; have mNE2 := NE.out.live 2 _ rfl; have nNE3 := NE.out.cells 3 _ rfl; have mNE3 := NE.out.live 3 _ rfl) | ((with_reducible have N0 : Blk w' (_) [.int .u64 0, .int .u64 0, .int .u64 0, .int .i64 0] := Blk.later (Blk.drew (Blk.alloc (Blk.new _ _ _ hz4) _)) hb); have NE : Hid (Blk w' (_) [.int .u64 0, .int .u64 0, .int .u64 0, .int .i64 0]) := N0; clear N0; have lNE := NE.out.lt; have nNE0 := NE.out.cells 0 _ rfl; have mNE0 := NE.out.live 0 _ rfl; have nNE1 := NE.out.cells 1 _ rfl; have mNE1 := NE.out.live 1 _ rfl; have nNE2 := NE.out.cells 2 _ rfl; have mNE2 := NE.out.live 2 _ rfl; have nNE3 := NE.out.cells 3 _ rfl; have mNE3 := NE.out.live 3 _ rfl) | ((with_reducible have N0 : Blk w' (_) [.int .u64 0, .int .u64 0, .int .u64 0, .int .i64 0] := Blk.later (Blk.new _ _ _ hz4) hb); have NE : Hid (Blk w' (_) [.int .u64 0, .int .u64 0, .int .u64 0, .int .i64 0]) := N0; clear N0; have lNE := NE.out.lt; have nNE0 := NE.out.cells 0 _ rfl; have mNE0 := NE.out.live 0 _ rfl; have nNE1 := NE.out.cells 1 _ rfl; have mNE1 := NE.out.live 1 _ rfl; have nNE2 := NE.out.cells 2 _ rfl; have mNE2 := NE.out.live 2 _ rfl; have nNE3 := NE.out.cells 3 _ rfl; have mNE3 := NE.out.live 3 _ rfl) | ((with_reducible have N0 : Blk w' (_) [.int .u64 0, .int .u64 0, .int .u64 0, .int .i64 0] := Blk.later (Blk.drew (Blk.new _ _ _ hz4)) hb); have NE : Hid (Blk w' (_) [.int .u64 0, .int .u64 0, .int .u64 0, .int .i64 0]) := N0; clear N0; have lNE := NE.out.lt; have nNE0 := NE.out.cells 0 _ rfl; have mNE0 := NE.out.live 0 _ rfl; have nNE1 := NE.out.cells 1 _ rfl; have mNE1 := NE.out.live 1 _ rfl; have nNE2 := NE.out.cells 2 _ rfl; have mNE2 := NE.out.live 2 _ rfl; have nNE3 := NE.out.cells 3 _ rfl; have mNE3 := NE.out.live 3 _ rfl) | skip); (first | ((with_reducible have N0 : Blk w' (_) [.int .u64 0, .int .u64 0, .int .u64 0, .int .i64 0] := Blk.later (Blk.new1 _ _ _ _ hz4) hb); have NF : Hid (Blk w' (_) [.int .u64 0, .int .u64 0, .int .u64 0, .int .i64 0]) := N0; clear N0; have lNF := NF.out.lt; have nNF0 := NF.out.cells 0 _ rfl; have mNF0 := NF.out.live 0 _ rfl; have nNF1 := NF.out.cells 1 _ rfl; have mNF1 := NF.out.live 1 _ rfl; have nNF2 := NF.out.cells 2 _ rfl; have mNF2 := NF.out.live 2 _ rfl; have nNF3 := NF.out.cells 3 _ rfl; have mNF3 := NF.out.live 3 _ rfl) | ((with_reducible have N0 : Blk w' (_) [.int .u64 0, .int .u64 0, .int .u64 0, .int .i64 0] := Blk.later (Blk.drew (Blk.new1 _ _ _ _ hz4)) hb); have NF : Hid (Blk w' (_) [.int .u64 0, .int .u64 0, .int .u64 0, .int .i64 0]) := N0; clear N0; have lNF := NF.out.lt; have nNF0 := NF.out.cells 0 _ rfl; have mNF0 := NF.out.live 0 _ rfl; have nNF1 := NF.out.cells 1 _ rfl; have mNF1 := NF.out.live 1 _ rfl; have nNF2 := NF.out.cells 2 _ rfl; have mNF2 := NF.out.live 2 _ rfl; have nNF3 := NF.out.cells 3 _ rfl; have mNF3 := NF.out.live 3 _ rfl) | skip); have K4 : Hid (Rows2 w w' [.int .u8 op, .int .u8 m, .int .u64 x, .int .u64 y, .int .u64 z] [.int .u64 0, .int .u8 0, .bool false]) := Rows2.later (by repeat (with_reducible first | exact K3.out | refine Rows2.drew ?_ | refine Rows2.alloc ?_ _)) hb; have ya := K4.out.x.cells 2 _ rfl; have yb := K4.out.x.cells 3 _ rfl; have z4 := K4.out.size; clear hb))
      all_goals (try go_wp2_with fail)
      all_goals go_meet
      all_goals go_light
      all_goals exact ⟨_, _, rfl, rfl, by omega, by omega, by repeat (with_reducible first | exact K4.out | refine Rows2.drew ?_ | refine Rows2.alloc ?_ _ | refine Rows2.put ?_ _ _ (by omega)), by repeat (with_reducible first | exact NC.out | exact ND.out | exact NE.out | exact NF.out | exact Blk.new _ _ _ hp4 | exact Blk.new _ _ _ hq4 | exact Blk.new4 _ _ _ _ _ _ _ _ hp4 | exact Blk.new4 _ _ _ _ _ _ _ _ hq4 | exact Blk.new1 _ _ _ _ hp4 | exact Blk.new1 _ _ _ _ hq4 | refine Blk.set4 (z0 := .int .u64 0) (z1 := .int .u64 0) (z2 := .int .u64 0) (z3 := .int .i64 0) ?_ | refine Blk.other4 ?_ (by omega) | refine Blk.drew ?_ | refine Blk.alloc ?_ _), by repeat (with_reducible first | exact NC.out | exact ND.out | exact NE.out | exact NF.out | exact Blk.new _ _ _ hp4 | exact Blk.new _ _ _ hq4 | exact Blk.new4 _ _ _ _ _ _ _ _ hp4 | exact Blk.new4 _ _ _ _ _ _ _ _ hq4 | exact Blk.new1 _ _ _ _ hp4 | exact Blk.new1 _ _ _ _ hq4 | refine Blk.set4 (z0 := .int .u64 0) (z1 := .int .u64 0) (z2 := .int .u64 0) (z3 := .int .i64 0) ?_ | refine Blk.other4 ?_ (by omega) | refine Blk.drew ?_ | refine Blk.alloc ?_ _)⟩
    case rest =>
      obtain ⟨g3, g4, rfl, rfl, e3, e4, hk, h3, h4⟩ := hcut
      have T0 : Hid (Tri w wc [.int .u8 op, .int .u8 m, .int .u64 x, .int .u64 y, .int .u64 z] [.int .u64 0, .int .u8 0, .bool false] g3 g4 [.int .u64 0, .int .u64 (a0 : Nat), .int .u64 (a1 : Nat), .int .i64 px] [.int .u64 0, .int .u64 (b0 : Nat), .int .u64 (b1 : Nat), .int .i64 py]) := ⟨hk, h3, h4⟩
      clear hk h3 h4 K2 HK HAI HEX HEY hep c0 c1 c2 c3 c4 r0 r1 r2 f0 f1 f2 z1 z0 hz4 hp4 hq4
      have t1 := T0.out.rows.x.cells 1 _ rfl
      have p0 := T0.out.p.cells 0 _ rfl
      have p1 := T0.out.p.cells 1 _ rfl
      have p2 := T0.out.p.cells 2 _ rfl
      have p3 := T0.out.p.cells 3 _ rfl
      have q0 := T0.out.q.cells 0 _ rfl
      have q1 := T0.out.q.cells 1 _ rfl
      have q2 := T0.out.q.cells 2 _ rfl
      have q3 := T0.out.q.cells 3 _ rfl
      have l3 := T0.out.p.lt
      have l4 := T0.out.q.lt
      have z1 := T0.out.rows.size
      go_wp2_with fail
      go_region_held3 (fun w' => w'.cell? ⟨w.heap.size, 1, none⟩ = some (.int .u8 m) ∧ w'.cell? ⟨g3, 0, none⟩ = some (.int .u64 0) ∧ w'.cell? ⟨g3, 1, none⟩ = some (.int .u64 (a0 : Nat)) ∧ w'.cell? ⟨g3, 2, none⟩ = some (.int .u64 (a1 : Nat)) ∧ w'.cell? ⟨g3, 3, none⟩ = some (.int .i64 px) ∧ w'.cell? ⟨g4, 0, none⟩ = some (.int .u64 0) ∧ w'.cell? ⟨g4, 1, none⟩ = some (.int .u64 (b0 : Nat)) ∧ w'.cell? ⟨g4, 2, none⟩ = some (.int .u64 (b1 : Nat)) ∧ w'.cell? ⟨g4, 3, none⟩ = some (.int .i64 py))
        (first | (with_reducible exact ⟨xT5, pT50, pT51, pT52, pT53, qT50, qT51, qT52, qT53⟩) | (with_reducible exact ⟨xT4, pT40, pT41, pT42, pT43, qT40, qT41, qT42, qT43⟩) | (with_reducible exact ⟨xT3, pT30, pT31, pT32, pT33, qT30, qT31, qT32, qT33⟩) | (with_reducible exact ⟨xT2, pT20, pT21, pT22, pT23, qT20, qT21, qT22, qT23⟩) | (with_reducible exact ⟨xT1, pT10, pT11, pT12, pT13, qT10, qT11, qT12, qT13⟩) | ((with_reducible refine ⟨?_, ?_, ?_, ?_, ?_, ?_, ?_, ?_, ?_⟩) <;> (rw [cellSet3 _ _ _ _ _ _ (by first | (simp; done) | (simp; omega))]; assumption)) | (go_keep; done))
        (first | (go_at_call_of 61 (Value.agg #[.int .u64 0, .int .u64 ((a0 : Nat) : Int), .int .u64 ((a1 : Nat) : Int), .int .i64 px]); refine (HWX.out _).mono ?_; rintro e w' ⟨rfl, hb⟩; have T1 : Hid (Tri w w' [.int .u8 op, .int .u8 m, .int .u64 x, .int .u64 y, .int .u64 z] [.int .u64 0, .int .u8 0, .bool false] g3 g4 [.int .u64 0, .int .u64 (a0 : Nat), .int .u64 (a1 : Nat), .int .i64 px] [.int .u64 0, .int .u64 (b0 : Nat), .int .u64 (b1 : Nat), .int .i64 py]) := Tri.later (by repeat (with_reducible first | exact T0.out | refine Tri.drew ?_)) hb; have xT1 := T1.out.rows.x.cells 1 _ rfl; have pT10 := T1.out.p.cells 0 _ rfl; have qT10 := T1.out.q.cells 0 _ rfl; have pT11 := T1.out.p.cells 1 _ rfl; have qT11 := T1.out.q.cells 1 _ rfl; have pT12 := T1.out.p.cells 2 _ rfl; have qT12 := T1.out.q.cells 2 _ rfl; have pT13 := T1.out.p.cells 3 _ rfl; have qT13 := T1.out.q.cells 3 _ rfl; clear hb) | (go_at_call_of 61 (Value.agg #[.int .u64 0, .int .u64 ((b0 : Nat) : Int), .int .u64 ((b1 : Nat) : Int), .int .i64 py]); refine (HWY.out _).mono ?_; rintro e w' ⟨rfl, hb⟩; have T2 : Hid (Tri w w' [.int .u8 op, .int .u8 m, .int .u64 x, .int .u64 y, .int .u64 z] [.int .u64 0, .int .u8 0, .bool false] g3 g4 [.int .u64 0, .int .u64 (a0 : Nat), .int .u64 (a1 : Nat), .int .i64 px] [.int .u64 0, .int .u64 (b0 : Nat), .int .u64 (b1 : Nat), .int .i64 py]) := Tri.later (by repeat (with_reducible first | exact T1.out | refine Tri.drew ?_)) hb; have xT2 := T2.out.rows.x.cells 1 _ rfl; have pT20 := T2.out.p.cells 0 _ rfl; have qT20 := T2.out.q.cells 0 _ rfl; have pT21 := T2.out.p.cells 1 _ rfl; have qT21 := T2.out.q.cells 1 _ rfl; have pT22 := T2.out.p.cells 2 _ rfl; have qT22 := T2.out.q.cells 2 _ rfl; have pT23 := T2.out.p.cells 3 _ rfl; have qT23 := T2.out.q.cells 3 _ rfl; clear hb) | (go_at_call 64; refine (HES.out _).mono ?_; rintro e w' ⟨rfl, hb⟩; have T3 : Hid (Tri w w' [.int .u8 op, .int .u8 m, .int .u64 x, .int .u64 y, .int .u64 z] [.int .u64 0, .int .u8 0, .bool false] g3 g4 [.int .u64 0, .int .u64 (a0 : Nat), .int .u64 (a1 : Nat), .int .i64 px] [.int .u64 0, .int .u64 (b0 : Nat), .int .u64 (b1 : Nat), .int .i64 py]) := Tri.later (by repeat (with_reducible first | exact T2.out | refine Tri.drew ?_)) hb; have xT3 := T3.out.rows.x.cells 1 _ rfl; have pT30 := T3.out.p.cells 0 _ rfl; have qT30 := T3.out.q.cells 0 _ rfl; have pT31 := T3.out.p.cells 1 _ rfl; have qT31 := T3.out.q.cells 1 _ rfl; have pT32 := T3.out.p.cells 2 _ rfl; have qT32 := T3.out.q.cells 2 _ rfl; have pT33 := T3.out.p.cells 3 _ rfl; have qT33 := T3.out.q.cells 3 _ rfl; clear hb) | (go_at_call 62; refine (HERY.out _).mono ?_; rintro e w' ⟨O, HR, rfl, hb⟩; have T4 : Hid (Tri w w' [.int .u8 op, .int .u8 m, .int .u64 x, .int .u64 y, .int .u64 z] [.int .u64 0, .int .u8 0, .bool false] g3 g4 [.int .u64 0, .int .u64 (a0 : Nat), .int .u64 (a1 : Nat), .int .i64 px] [.int .u64 0, .int .u64 (b0 : Nat), .int .u64 (b1 : Nat), .int .i64 py]) := Tri.later (by repeat (with_reducible first | exact T3.out | refine Tri.drew ?_)) hb; have xT4 := T4.out.rows.x.cells 1 _ rfl; have pT40 := T4.out.p.cells 0 _ rfl; have qT40 := T4.out.q.cells 0 _ rfl; have pT41 := T4.out.p.cells 1 _ rfl; have qT41 := T4.out.q.cells 1 _ rfl; have pT42 := T4.out.p.cells 2 _ rfl; have qT42 := T4.out.q.cells 2 _ rfl; have pT43 := T4.out.p.cells 3 _ rfl; have qT43 := T4.out.q.cells 3 _ rfl; clear hb) | (go_at_call 57; refine (HR.out _ (by exact Rows2.below (Tri.rows (g3 := g3) (g4 := g4) (xs := [.int .u8 op, .int .u8 m, .int .u64 x, .int .u64 y, .int .u64 z]) (rs := [.int .u64 0, .int .u8 0, .bool false]) (ps := [.int .u64 0, .int .u64 (a0 : Nat), .int .u64 (a1 : Nat), .int .i64 px]) (qs := [.int .u64 0, .int .u64 (b0 : Nat), .int .u64 (b1 : Nat), .int .i64 py]) (by repeat (with_reducible first | exact T4.out | refine Tri.drew ?_))))).mono ?_; rintro e w' ⟨rfl, hb⟩; have T5 : Hid (Tri w w' [.int .u8 op, .int .u8 m, .int .u64 x, .int .u64 y, .int .u64 z] [.int .u64 0, .int .u8 0, .bool false] g3 g4 [.int .u64 0, .int .u64 (a0 : Nat), .int .u64 (a1 : Nat), .int .i64 px] [.int .u64 0, .int .u64 (b0 : Nat), .int .u64 (b1 : Nat), .int .i64 py]) := Tri.later (by repeat (with_reducible first | exact T4.out | refine Tri.drew ?_)) hb; have xT5 := T5.out.rows.x.cells 1 _ rfl; have pT50 := T5.out.p.cells 0 _ rfl; have qT50 := T5.out.q.cells 0 _ rfl; have pT51 := T5.out.p.cells 1 _ rfl; have qT51 := T5.out.q.cells 1 _ rfl; have pT52 := T5.out.p.cells 2 _ rfl; have qT52 := T5.out.q.cells 2 _ rfl; have pT53 := T5.out.p.cells 3 _ rfl; have qT53 := T5.out.q.cells 3 _ rfl; have s0 := T5.out.rows.r.cells 0 _ rfl; have t0 := T5.out.rows.r.live 0 _ rfl; have s1 := T5.out.rows.r.cells 1 _ rfl; have t1 := T5.out.rows.r.live 1 _ rfl; have s2 := T5.out.rows.r.cells 2 _ rfl; have t2 := T5.out.rows.r.live 2 _ rfl; clear hb))
      all_goals (try go_wp2_with fail)
      all_goals go_light
      all_goals refine bodyPost_ret (v := .agg #[.int .u64 RB, .int .u8 RF, .bool false]) (results_hy rfl (((T5.out.rows.r.set 0 _ (by simp)).set 1 _ (by simp)).set 2 _ (by simp))) rfl ⟨by rw [HV.out.1, HV.out.2], ?_⟩
      all_goals exact ((T5.out.rows.below.setCell (by simp) _).setCell (by simp) _).setCell (by simp) _
end Go.Proofs.YtcjihaafohnbeaaGreatDoor
