import Derived.Test.YtcjihaafohnbeaaDoorRA4
import Derived.Test.YtcjihaafohnbeaaDoorRefI
namespace Go.Proofs.YtcjihaafohnbeaaDoor.W4
open Go.RowKit

/-- Two numbers, read as results. -/
theorem results_al {tmps : Array Value} {U : World} {g g' : Nat} {a0 a1 a2 a3 a4 a5 b0 b1 b2 b3 b4 b5 : Value} (h4 : tmps.getD 4 undef = .pointer (some ⟨g, 0, none⟩)) (h5 : tmps.getD 5 undef = .pointer (some ⟨g', 0, none⟩)) (h : Blk U g [a0, a1, a2, a3, a4, a5]) (h' : Blk U g' [b0, b1, b2, b3, b4, b5]) :
    (results Tryd.f67 tmps).run Tryd.prog U = .ok (.tuple #[.agg #[a0, a1, a2, a3, a4, a5], .agg #[b0, b1, b2, b3, b4, b5]]) U := by
  have c0 := h.cells 0 _ rfl
  have c1 := h.cells 1 _ rfl
  have c2 := h.cells 2 _ rfl
  have c3 := h.cells 3 _ rfl
  have c4 := h.cells 4 _ rfl
  have c5 := h.cells 5 _ rfl
  have e0 := h'.cells 0 _ rfl
  have e1 := h'.cells 1 _ rfl
  have e2 := h'.cells 2 _ rfl
  have e3 := h'.cells 3 _ rfl
  have e4 := h'.cells 4 _ rfl
  have e5 := h'.cells 5 _ rfl
  have h4' : tmps[4]?.getD undef = .pointer (some ⟨g, 0, none⟩) := by simpa using h4
  have h5' : tmps[5]?.getD undef = .pointer (some ⟨g', 0, none⟩) := by simpa using h5
  simp [results, Tryd.results67, go_sem, h4', h5', c0, c1, c2, c3, c4, c5, e0, e1, e2, e3, e4, e5]

set_option maxHeartbeats 8000000 in
set_option maxRecDepth 10000 in
theorem aligned_ge (s1 s2 d1 d2 : Nat) (p1 p2 : Int) (h1 : d1 < 18446744073709551616 ^ 4) (h2 : d2 < 18446744073709551616 ^ 4) (hb : Go.bitLen d1 + 2 ≤ 256) (hp1 : -5000 ≤ p1 ∧ p1 ≤ 5000) (hp2 : -5000 ≤ p2 ∧ p2 ≤ 5000) (hge : p2 ≤ p1) (w : World) :
    Calls Tryd.prog 67 #[.agg #[.int .u64 s1, .int .u64 (wd d1 0), .int .u64 (wd d1 1), .int .u64 (wd d1 2), .int .u64 (wd d1 3), .int .i64 p1], .agg #[.int .u64 s2, .int .u64 (wd d2 0), .int .u64 (wd d2 1), .int .u64 (wd d2 2), .int .u64 (wd d2 3), .int .i64 p2]] w fun e w' =>
      e = .returned (.tuple #[.agg #[.int .u64 s1, .int .u64 (wd (d1 * 2 ^ (lift 256 d1 (p1 - p2)).toNat) 0), .int .u64 (wd (d1 * 2 ^ (lift 256 d1 (p1 - p2)).toNat) 1), .int .u64 (wd (d1 * 2 ^ (lift 256 d1 (p1 - p2)).toNat) 2), .int .u64 (wd (d1 * 2 ^ (lift 256 d1 (p1 - p2)).toNat) 3), .int .i64 (p1 - lift 256 d1 (p1 - p2))],
        .agg #[.int .u64 s2, .int .u64 (wd (mk d2 (p1 - p2 - lift 256 d1 (p1 - p2)).toNat) 0), .int .u64 (wd (mk d2 (p1 - p2 - lift 256 d1 (p1 - p2)).toNat) 1), .int .u64 (wd (mk d2 (p1 - p2 - lift 256 d1 (p1 - p2)).toNat) 2), .int .u64 (wd (mk d2 (p1 - p2 - lift 256 d1 (p1 - p2)).toNat) 3), .int .i64 (p1 - lift 256 d1 (p1 - p2))]]) ∧ Below w.heap.size w w' := by
  obtain ⟨a1, a2⟩ := hp1
  obtain ⟨a3, a4⟩ := hp2
  obtain ⟨bl, hbl⟩ : ∃ b : Int, (Go.bitLen d1 : Int) = b := ⟨_, rfl⟩
  have hb0 : 0 ≤ bl := by omega
  have hb1 : bl + 2 ≤ 256 := by omega
  have hlift : lift 256 d1 (p1 - p2) = (min (p1 - p2) (256 - bl - 1)) := by unfold lift; rw [hbl]; rfl
  rw [hlift]
  have HRm : Hid (∀ w, Calls Tryd.prog 60 #[.agg #[.int .u64 (wd d1 0), .int .u64 (wd d1 1), .int .u64 (wd d1 2), .int .u64 (wd d1 3)]] w fun e w' => e = .returned (.int .i64 (256 - bl)) ∧ Below w.heap.size w w') := fun w => by rw [← hbl]; exact room_any d1 h1 w
  have HLf : Hid (∀ w, Calls Tryd.prog 62 #[.agg #[.int .u64 (wd d1 0), .int .u64 (wd d1 1), .int .u64 (wd d1 2), .int .u64 (wd d1 3)], .int .u64 (min (p1 - p2) (256 - bl - 1))] w fun e w' => e = .returned (.agg #[.int .u64 (wd (d1 * 2 ^ (min (p1 - p2) (256 - bl - 1)).toNat) 0), .int .u64 (wd (d1 * 2 ^ (min (p1 - p2) (256 - bl - 1)).toNat) 1), .int .u64 (wd (d1 * 2 ^ (min (p1 - p2) (256 - bl - 1)).toNat) 2), .int .u64 (wd (d1 * 2 ^ (min (p1 - p2) (256 - bl - 1)).toNat) 3)]) ∧ Below w.heap.size w w') := fun w => left_any d1 h1 _ (by omega) (by omega) w
  have HCt : Hid (∀ w, Calls Tryd.prog 84 #[.agg #[.int .u64 (wd d2 0), .int .u64 (wd d2 1), .int .u64 (wd d2 2), .int .u64 (wd d2 3)], .int .u64 (p1 - p2 - (min (p1 - p2) (256 - bl - 1)))] w fun e w' => e = .returned (.tuple #[.agg #[.int .u64 (wd (d2 / 2 ^ (p1 - p2 - (min (p1 - p2) (256 - bl - 1))).toNat) 0), .int .u64 (wd (d2 / 2 ^ (p1 - p2 - (min (p1 - p2) (256 - bl - 1))).toNat) 1), .int .u64 (wd (d2 / 2 ^ (p1 - p2 - (min (p1 - p2) (256 - bl - 1))).toNat) 2), .int .u64 (wd (d2 / 2 ^ (p1 - p2 - (min (p1 - p2) (256 - bl - 1))).toNat) 3)], .int .u8 (restN d2 (p1 - p2 - (min (p1 - p2) (256 - bl - 1))).toNat)]) ∧ Below w.heap.size w w') := fun w => cut_any d2 h2 _ (by omega) (by omega) w
  have hone := or_one (wd (d2 / 2 ^ (p1 - p2 - (min (p1 - p2) (256 - bl - 1))).toNat) 0) (wd_lt _ _)
  have HN : Hid (restN d2 (p1 - p2 - (min (p1 - p2) (256 - bl - 1))).toNat = 0 → wd (mk d2 (p1 - p2 - (min (p1 - p2) (256 - bl - 1))).toNat) 0 = wd (d2 / 2 ^ (p1 - p2 - (min (p1 - p2) (256 - bl - 1))).toNat) 0 ∧ wd (mk d2 (p1 - p2 - (min (p1 - p2) (256 - bl - 1))).toNat) 1 = wd (d2 / 2 ^ (p1 - p2 - (min (p1 - p2) (256 - bl - 1))).toNat) 1 ∧ wd (mk d2 (p1 - p2 - (min (p1 - p2) (256 - bl - 1))).toNat) 2 = wd (d2 / 2 ^ (p1 - p2 - (min (p1 - p2) (256 - bl - 1))).toNat) 2 ∧ wd (mk d2 (p1 - p2 - (min (p1 - p2) (256 - bl - 1))).toNat) 3 = wd (d2 / 2 ^ (p1 - p2 - (min (p1 - p2) (256 - bl - 1))).toNat) 3) := fun h => by
    rw [mk_none h]; exact ⟨rfl, rfl, rfl, rfl⟩
  have HS : Hid (restN d2 (p1 - p2 - (min (p1 - p2) (256 - bl - 1))).toNat ≠ 0 → wd (mk d2 (p1 - p2 - (min (p1 - p2) (256 - bl - 1))).toNat) 0 = wd (d2 / 2 ^ (p1 - p2 - (min (p1 - p2) (256 - bl - 1))).toNat) 0 + (1 - wd (d2 / 2 ^ (p1 - p2 - (min (p1 - p2) (256 - bl - 1))).toNat) 0 % 2) ∧ wd (mk d2 (p1 - p2 - (min (p1 - p2) (256 - bl - 1))).toNat) 1 = wd (d2 / 2 ^ (p1 - p2 - (min (p1 - p2) (256 - bl - 1))).toNat) 1 ∧ wd (mk d2 (p1 - p2 - (min (p1 - p2) (256 - bl - 1))).toNat) 2 = wd (d2 / 2 ^ (p1 - p2 - (min (p1 - p2) (256 - bl - 1))).toNat) 2 ∧ wd (mk d2 (p1 - p2 - (min (p1 - p2) (256 - bl - 1))).toNat) 3 = wd (d2 / 2 ^ (p1 - p2 - (min (p1 - p2) (256 - bl - 1))).toNat) 3) := fun h => by
    rw [mk_some h]; exact ⟨wd_odd0 _, wd_odd _ 0, wd_odd _ 1, wd_odd _ 2⟩
  generalize wd (d1 * 2 ^ (min (p1 - p2) (256 - bl - 1)).toNat) 0 = X0 at *
  generalize wd (mk d2 (p1 - p2 - (min (p1 - p2) (256 - bl - 1))).toNat) 0 = Y0 at *
  generalize wd (d2 / 2 ^ (p1 - p2 - (min (p1 - p2) (256 - bl - 1))).toNat) 0 = Q0 at *
  generalize wd (d1 * 2 ^ (min (p1 - p2) (256 - bl - 1)).toNat) 1 = X1 at *
  generalize wd (mk d2 (p1 - p2 - (min (p1 - p2) (256 - bl - 1))).toNat) 1 = Y1 at *
  generalize wd (d2 / 2 ^ (p1 - p2 - (min (p1 - p2) (256 - bl - 1))).toNat) 1 = Q1 at *
  generalize wd (d1 * 2 ^ (min (p1 - p2) (256 - bl - 1)).toNat) 2 = X2 at *
  generalize wd (mk d2 (p1 - p2 - (min (p1 - p2) (256 - bl - 1))).toNat) 2 = Y2 at *
  generalize wd (d2 / 2 ^ (p1 - p2 - (min (p1 - p2) (256 - bl - 1))).toNat) 2 = Q2 at *
  generalize wd (d1 * 2 ^ (min (p1 - p2) (256 - bl - 1)).toNat) 3 = X3 at *
  generalize wd (mk d2 (p1 - p2 - (min (p1 - p2) (256 - bl - 1))).toNat) 3 = Y3 at *
  generalize wd (d2 / 2 ^ (p1 - p2 - (min (p1 - p2) (256 - bl - 1))).toNat) 3 = Q3 at *
  generalize restN d2 (p1 - p2 - (min (p1 - p2) (256 - bl - 1))).toNat = R at *
  generalize wd d1 0 = u0 at *
  generalize wd d2 0 = v0 at *
  generalize wd d1 1 = u1 at *
  generalize wd d2 1 = v1 at *
  generalize wd d1 2 = u2 at *
  generalize wd d2 2 = v2 at *
  generalize wd d1 3 = u3 at *
  generalize wd d2 3 = v3 at *
  clear h1 h2 hb hbl hlift
  go_enter Tryd.func67, Tryd.ntmps67
  go_wp2_with fail
  refine (HRm.out _).mono ?_
  rintro e w0 ⟨rfl, hb0⟩
  have H0 : Hid (Rows4 w w0 [.int .u64 s1, .int .u64 u0, .int .u64 u1, .int .u64 u2, .int .u64 u3, .int .i64 p1] [.int .u64 s2, .int .u64 v0, .int .u64 v1, .int .u64 v2, .int .u64 v3, .int .i64 p2] [.int .u64 0, .int .u64 0, .int .u64 0, .int .u64 0, .int .u64 0, .int .i64 0] [.int .u64 0, .int .u64 0, .int .u64 0, .int .u64 0, .int .u64 0, .int .i64 0]) := (Rows4.start w _ _ _ _ _ _ _ _ (by simp) (by simp) (by simp) (by simp)).later hb0
  clear hb0
  have x0 := H0.out.x.cells 0 _ rfl
  have x1 := H0.out.x.cells 1 _ rfl
  have x2 := H0.out.x.cells 2 _ rfl
  have x3 := H0.out.x.cells 3 _ rfl
  have x4 := H0.out.x.cells 4 _ rfl
  have x5 := H0.out.x.cells 5 _ rfl
  have z0 := H0.out.size
  go_wp2_with fail
  refine (HLf.out _).mono ?_
  rintro e w1 ⟨rfl, hb1⟩
  have H1 : Hid (Rows4 w w1 [.int .u64 s1, .int .u64 u0, .int .u64 u1, .int .u64 u2, .int .u64 u3, .int .i64 p1] [.int .u64 s2, .int .u64 v0, .int .u64 v1, .int .u64 v2, .int .u64 v3, .int .i64 p2] [.int .u64 0, .int .u64 0, .int .u64 0, .int .u64 0, .int .u64 0, .int .i64 0] [.int .u64 0, .int .u64 0, .int .u64 0, .int .u64 0, .int .u64 0, .int .i64 0]) := H0.out.later hb1
  clear hb1 z0 x0 x1 x2 x3 x4 x5 H0
  have x0 := H1.out.x.cells 0 _ rfl
  have x1 := H1.out.x.cells 1 _ rfl
  have x2 := H1.out.x.cells 2 _ rfl
  have x3 := H1.out.x.cells 3 _ rfl
  have x4 := H1.out.x.cells 4 _ rfl
  have x5 := H1.out.x.cells 5 _ rfl
  have xf0 := H1.out.x.live 0 _ rfl
  have xf1 := H1.out.x.live 1 _ rfl
  have xf2 := H1.out.x.live 2 _ rfl
  have xf3 := H1.out.x.live 3 _ rfl
  have xf4 := H1.out.x.live 4 _ rfl
  have xf5 := H1.out.x.live 5 _ rfl
  have y0 := H1.out.y.cells 0 _ rfl
  have y1 := H1.out.y.cells 1 _ rfl
  have y2 := H1.out.y.cells 2 _ rfl
  have y3 := H1.out.y.cells 3 _ rfl
  have y4 := H1.out.y.cells 4 _ rfl
  have y5 := H1.out.y.cells 5 _ rfl
  have z1 := H1.out.size
  go_wp2_with fail
  refine (HCt.out _).mono ?_
  rintro e w2 ⟨rfl, hb2⟩
  have H2 : Hid (Rows4 w w2 [.int .u64 s1, .int .u64 X0, .int .u64 X1, .int .u64 X2, .int .u64 X3, .int .i64 (p1 - (min (p1 - p2) (256 - bl - 1)))] [.int .u64 s2, .int .u64 v0, .int .u64 v1, .int .u64 v2, .int .u64 v3, .int .i64 p2] [.int .u64 0, .int .u64 0, .int .u64 0, .int .u64 0, .int .u64 0, .int .i64 0] [.int .u64 0, .int .u64 0, .int .u64 0, .int .u64 0, .int .u64 0, .int .i64 0]) := ((((((H1.out.setX 1 _ (by simp)).setX 2 _ (by simp)).setX 3 _ (by simp)).setX 4 _ (by simp)).setX 5 _ (by simp))).later hb2
  clear hb2 z1 x0 x1 x2 x3 x4 x5 xf0 xf1 xf2 xf3 xf4 xf5 y0 y1 y2 y3 y4 y5 H1
  have x0 := H2.out.x.cells 0 _ rfl
  have x1 := H2.out.x.cells 1 _ rfl
  have x2 := H2.out.x.cells 2 _ rfl
  have x3 := H2.out.x.cells 3 _ rfl
  have x4 := H2.out.x.cells 4 _ rfl
  have x5 := H2.out.x.cells 5 _ rfl
  have y0 := H2.out.y.cells 0 _ rfl
  have y1 := H2.out.y.cells 1 _ rfl
  have y2 := H2.out.y.cells 2 _ rfl
  have y3 := H2.out.y.cells 3 _ rfl
  have y4 := H2.out.y.cells 4 _ rfl
  have y5 := H2.out.y.cells 5 _ rfl
  have yf0 := H2.out.y.live 0 _ rfl
  have yf1 := H2.out.y.live 1 _ rfl
  have yf2 := H2.out.y.live 2 _ rfl
  have yf3 := H2.out.y.live 3 _ rfl
  have yf4 := H2.out.y.live 4 _ rfl
  have yf5 := H2.out.y.live 5 _ rfl
  have z2 := H2.out.size
  have zz1 : w.heap.size < w2.heap.size := by omega
  have zz2 : w.heap.size + 1 < w2.heap.size := by omega
  have zz3 : w.heap.size + 2 < w2.heap.size := by omega
  by_cases hR : R = 0
  · have hRb : (R != 0) = false := by simp [hR]
    have HYQ : Hid (((Y0 : Nat) : Int) = ((Q0 : Nat) : Int) ∧ ((Y1 : Nat) : Int) = ((Q1 : Nat) : Int) ∧ ((Y2 : Nat) : Int) = ((Q2 : Nat) : Int) ∧ ((Y3 : Nat) : Int) = ((Q3 : Nat) : Int)) := (by have := HN.out hR; omega : ((Y0 : Nat) : Int) = ((Q0 : Nat) : Int) ∧ ((Y1 : Nat) : Int) = ((Q1 : Nat) : Int) ∧ ((Y2 : Nat) : Int) = ((Q2 : Nat) : Int) ∧ ((Y3 : Nat) : Int) = ((Q3 : Nat) : Int))
    clear hR
    go_wp2_with fail
    go_cut [] from 10 to 61 (fun wx => Rows4 w wx [.int .u64 s1, .int .u64 X0, .int .u64 X1, .int .u64 X2, .int .u64 X3, .int .i64 (p1 - (min (p1 - p2) (256 - bl - 1)))] [.int .u64 s2, .int .u64 Y0, .int .u64 Y1, .int .u64 Y2, .int .u64 Y3, .int .i64 (p1 - (min (p1 - p2) (256 - bl - 1)))] [.int .u64 0, .int .u64 0, .int .u64 0, .int .u64 0, .int .u64 0, .int .i64 0] [.int .u64 0, .int .u64 0, .int .u64 0, .int .u64 0, .int .u64 0, .int .i64 0])
    case first =>
      go_region
      go_wp2_with fail
      go_meet
      go_light
      obtain ⟨k0, k1, k2, k3⟩ := HYQ.out
      rw [k0, k1, k2, k3]
      exact (((((((H2.out.setY 1 _ (by simp)).setY 2 _ (by simp)).setY 3 _ (by simp)).setY 4 _ (by simp)).setY 5 _ (by simp))).alloc _).drew
    case rest =>
      have H3 : Hid (Rows4 w wc [.int .u64 s1, .int .u64 X0, .int .u64 X1, .int .u64 X2, .int .u64 X3, .int .i64 (p1 - (min (p1 - p2) (256 - bl - 1)))] [.int .u64 s2, .int .u64 Y0, .int .u64 Y1, .int .u64 Y2, .int .u64 Y3, .int .i64 (p1 - (min (p1 - p2) (256 - bl - 1)))] [.int .u64 0, .int .u64 0, .int .u64 0, .int .u64 0, .int .u64 0, .int .i64 0] [.int .u64 0, .int .u64 0, .int .u64 0, .int .u64 0, .int .u64 0, .int .i64 0]) := hcut
      clear hcut x0 x1 x2 x3 x4 x5 y0 y1 y2 y3 y4 y5 yf0 yf1 yf2 yf3 yf4 yf5 z2 zz1 zz2 zz3
      have x0 := H3.out.x.cells 0 _ rfl
      have x1 := H3.out.x.cells 1 _ rfl
      have x2 := H3.out.x.cells 2 _ rfl
      have x3 := H3.out.x.cells 3 _ rfl
      have x4 := H3.out.x.cells 4 _ rfl
      have x5 := H3.out.x.cells 5 _ rfl
      have xf0 := H3.out.x.live 0 _ rfl
      have xf1 := H3.out.x.live 1 _ rfl
      have xf2 := H3.out.x.live 2 _ rfl
      have xf3 := H3.out.x.live 3 _ rfl
      have xf4 := H3.out.x.live 4 _ rfl
      have xf5 := H3.out.x.live 5 _ rfl
      have y0 := H3.out.y.cells 0 _ rfl
      have y1 := H3.out.y.cells 1 _ rfl
      have y2 := H3.out.y.cells 2 _ rfl
      have y3 := H3.out.y.cells 3 _ rfl
      have y4 := H3.out.y.cells 4 _ rfl
      have y5 := H3.out.y.cells 5 _ rfl
      have yf0 := H3.out.y.live 0 _ rfl
      have yf1 := H3.out.y.live 1 _ rfl
      have yf2 := H3.out.y.live 2 _ rfl
      have yf3 := H3.out.y.live 3 _ rfl
      have yf4 := H3.out.y.live 4 _ rfl
      have yf5 := H3.out.y.live 5 _ rfl
      have r0 := H3.out.r.cells 0 _ rfl
      have r1 := H3.out.r.cells 1 _ rfl
      have r2 := H3.out.r.cells 2 _ rfl
      have r3 := H3.out.r.cells 3 _ rfl
      have r4 := H3.out.r.cells 4 _ rfl
      have r5 := H3.out.r.cells 5 _ rfl
      have rf0 := H3.out.r.live 0 _ rfl
      have rf1 := H3.out.r.live 1 _ rfl
      have rf2 := H3.out.r.live 2 _ rfl
      have rf3 := H3.out.r.live 3 _ rfl
      have rf4 := H3.out.r.live 4 _ rfl
      have rf5 := H3.out.r.live 5 _ rfl
      have q0 := H3.out.q.cells 0 _ rfl
      have q1 := H3.out.q.cells 1 _ rfl
      have q2 := H3.out.q.cells 2 _ rfl
      have q3 := H3.out.q.cells 3 _ rfl
      have q4 := H3.out.q.cells 4 _ rfl
      have q5 := H3.out.q.cells 5 _ rfl
      have qf0 := H3.out.q.live 0 _ rfl
      have qf1 := H3.out.q.live 1 _ rfl
      have qf2 := H3.out.q.live 2 _ rfl
      have qf3 := H3.out.q.live 3 _ rfl
      have qf4 := H3.out.q.live 4 _ rfl
      have qf5 := H3.out.q.live 5 _ rfl
      have z3 := H3.out.size
      go_wp2_with fail
      go_region
      go_wp2_with fail
      go_light
      refine bodyPost_ret (v := .tuple #[.agg #[.int .u64 s1, .int .u64 X0, .int .u64 X1, .int .u64 X2, .int .u64 X3, .int .i64 (p1 - (min (p1 - p2) (256 - bl - 1)))], .agg #[.int .u64 s2, .int .u64 Y0, .int .u64 Y1, .int .u64 Y2, .int .u64 Y3, .int .i64 (p1 - (min (p1 - p2) (256 - bl - 1)))]]) (results_al rfl rfl (((((((((((((H3.out.r.set 0 _ (by simp)).set 1 _ (by simp)).set 2 _ (by simp)).set 3 _ (by simp)).set 4 _ (by simp)).set 5 _ (by simp)).other _ _ (by simp)).other _ _ (by simp)).other _ _ (by simp)).other _ _ (by simp)).other _ _ (by simp)).other _ _ (by simp)).drew) (((((((((((((H3.out.q.other _ _ (by simp)).other _ _ (by simp)).other _ _ (by simp)).other _ _ (by simp)).other _ _ (by simp)).other _ _ (by simp)).set 0 _ (by simp)).set 1 _ (by simp)).set 2 _ (by simp)).set 3 _ (by simp)).set 4 _ (by simp)).set 5 _ (by simp)).drew)) rfl ⟨rfl, ?_⟩
      exact (((((((((((((H3.out.below.setCell (by simp <;> omega) _).setCell (by simp <;> omega) _).setCell (by simp <;> omega) _).setCell (by simp <;> omega) _).setCell (by simp <;> omega) _).setCell (by simp <;> omega) _).setCell (by simp <;> omega) _).setCell (by simp <;> omega) _).setCell (by simp <;> omega) _).setCell (by simp <;> omega) _).setCell (by simp <;> omega) _).setCell (by simp <;> omega) _)).drew
  · have hRb : (R != 0) = true := by simp [hR]
    have HYQ : Hid (((Y0 : Nat) : Int) = ((Q0 + (1 - Q0 % 2) : Nat) : Int) ∧ ((Y1 : Nat) : Int) = ((Q1 : Nat) : Int) ∧ ((Y2 : Nat) : Int) = ((Q2 : Nat) : Int) ∧ ((Y3 : Nat) : Int) = ((Q3 : Nat) : Int)) := (by have := HS.out hR; omega : ((Y0 : Nat) : Int) = ((Q0 + (1 - Q0 % 2) : Nat) : Int) ∧ ((Y1 : Nat) : Int) = ((Q1 : Nat) : Int) ∧ ((Y2 : Nat) : Int) = ((Q2 : Nat) : Int) ∧ ((Y3 : Nat) : Int) = ((Q3 : Nat) : Int))
    clear hR
    go_wp2_with fail
    go_cut [] from 10 to 61 (fun wx => Rows4 w wx [.int .u64 s1, .int .u64 X0, .int .u64 X1, .int .u64 X2, .int .u64 X3, .int .i64 (p1 - (min (p1 - p2) (256 - bl - 1)))] [.int .u64 s2, .int .u64 Y0, .int .u64 Y1, .int .u64 Y2, .int .u64 Y3, .int .i64 (p1 - (min (p1 - p2) (256 - bl - 1)))] [.int .u64 0, .int .u64 0, .int .u64 0, .int .u64 0, .int .u64 0, .int .i64 0] [.int .u64 0, .int .u64 0, .int .u64 0, .int .u64 0, .int .u64 0, .int .i64 0])
    case first =>
      go_region
      go_wp2_with fail
      go_meet
      go_light
      obtain ⟨k0, k1, k2, k3⟩ := HYQ.out
      rw [k0, k1, k2, k3]
      exact (((((((H2.out.setY 1 _ (by simp)).setY 2 _ (by simp)).setY 3 _ (by simp)).setY 4 _ (by simp)).setY 5 _ (by simp))).alloc _).drew
    case rest =>
      have H3 : Hid (Rows4 w wc [.int .u64 s1, .int .u64 X0, .int .u64 X1, .int .u64 X2, .int .u64 X3, .int .i64 (p1 - (min (p1 - p2) (256 - bl - 1)))] [.int .u64 s2, .int .u64 Y0, .int .u64 Y1, .int .u64 Y2, .int .u64 Y3, .int .i64 (p1 - (min (p1 - p2) (256 - bl - 1)))] [.int .u64 0, .int .u64 0, .int .u64 0, .int .u64 0, .int .u64 0, .int .i64 0] [.int .u64 0, .int .u64 0, .int .u64 0, .int .u64 0, .int .u64 0, .int .i64 0]) := hcut
      clear hcut x0 x1 x2 x3 x4 x5 y0 y1 y2 y3 y4 y5 yf0 yf1 yf2 yf3 yf4 yf5 z2 zz1 zz2 zz3
      have x0 := H3.out.x.cells 0 _ rfl
      have x1 := H3.out.x.cells 1 _ rfl
      have x2 := H3.out.x.cells 2 _ rfl
      have x3 := H3.out.x.cells 3 _ rfl
      have x4 := H3.out.x.cells 4 _ rfl
      have x5 := H3.out.x.cells 5 _ rfl
      have xf0 := H3.out.x.live 0 _ rfl
      have xf1 := H3.out.x.live 1 _ rfl
      have xf2 := H3.out.x.live 2 _ rfl
      have xf3 := H3.out.x.live 3 _ rfl
      have xf4 := H3.out.x.live 4 _ rfl
      have xf5 := H3.out.x.live 5 _ rfl
      have y0 := H3.out.y.cells 0 _ rfl
      have y1 := H3.out.y.cells 1 _ rfl
      have y2 := H3.out.y.cells 2 _ rfl
      have y3 := H3.out.y.cells 3 _ rfl
      have y4 := H3.out.y.cells 4 _ rfl
      have y5 := H3.out.y.cells 5 _ rfl
      have yf0 := H3.out.y.live 0 _ rfl
      have yf1 := H3.out.y.live 1 _ rfl
      have yf2 := H3.out.y.live 2 _ rfl
      have yf3 := H3.out.y.live 3 _ rfl
      have yf4 := H3.out.y.live 4 _ rfl
      have yf5 := H3.out.y.live 5 _ rfl
      have r0 := H3.out.r.cells 0 _ rfl
      have r1 := H3.out.r.cells 1 _ rfl
      have r2 := H3.out.r.cells 2 _ rfl
      have r3 := H3.out.r.cells 3 _ rfl
      have r4 := H3.out.r.cells 4 _ rfl
      have r5 := H3.out.r.cells 5 _ rfl
      have rf0 := H3.out.r.live 0 _ rfl
      have rf1 := H3.out.r.live 1 _ rfl
      have rf2 := H3.out.r.live 2 _ rfl
      have rf3 := H3.out.r.live 3 _ rfl
      have rf4 := H3.out.r.live 4 _ rfl
      have rf5 := H3.out.r.live 5 _ rfl
      have q0 := H3.out.q.cells 0 _ rfl
      have q1 := H3.out.q.cells 1 _ rfl
      have q2 := H3.out.q.cells 2 _ rfl
      have q3 := H3.out.q.cells 3 _ rfl
      have q4 := H3.out.q.cells 4 _ rfl
      have q5 := H3.out.q.cells 5 _ rfl
      have qf0 := H3.out.q.live 0 _ rfl
      have qf1 := H3.out.q.live 1 _ rfl
      have qf2 := H3.out.q.live 2 _ rfl
      have qf3 := H3.out.q.live 3 _ rfl
      have qf4 := H3.out.q.live 4 _ rfl
      have qf5 := H3.out.q.live 5 _ rfl
      have z3 := H3.out.size
      go_wp2_with fail
      go_region
      go_wp2_with fail
      go_light
      refine bodyPost_ret (v := .tuple #[.agg #[.int .u64 s1, .int .u64 X0, .int .u64 X1, .int .u64 X2, .int .u64 X3, .int .i64 (p1 - (min (p1 - p2) (256 - bl - 1)))], .agg #[.int .u64 s2, .int .u64 Y0, .int .u64 Y1, .int .u64 Y2, .int .u64 Y3, .int .i64 (p1 - (min (p1 - p2) (256 - bl - 1)))]]) (results_al rfl rfl (((((((((((((H3.out.r.set 0 _ (by simp)).set 1 _ (by simp)).set 2 _ (by simp)).set 3 _ (by simp)).set 4 _ (by simp)).set 5 _ (by simp)).other _ _ (by simp)).other _ _ (by simp)).other _ _ (by simp)).other _ _ (by simp)).other _ _ (by simp)).other _ _ (by simp)).drew) (((((((((((((H3.out.q.other _ _ (by simp)).other _ _ (by simp)).other _ _ (by simp)).other _ _ (by simp)).other _ _ (by simp)).other _ _ (by simp)).set 0 _ (by simp)).set 1 _ (by simp)).set 2 _ (by simp)).set 3 _ (by simp)).set 4 _ (by simp)).set 5 _ (by simp)).drew)) rfl ⟨rfl, ?_⟩
      exact (((((((((((((H3.out.below.setCell (by simp <;> omega) _).setCell (by simp <;> omega) _).setCell (by simp <;> omega) _).setCell (by simp <;> omega) _).setCell (by simp <;> omega) _).setCell (by simp <;> omega) _).setCell (by simp <;> omega) _).setCell (by simp <;> omega) _).setCell (by simp <;> omega) _).setCell (by simp <;> omega) _).setCell (by simp <;> omega) _).setCell (by simp <;> omega) _)).drew
set_option maxHeartbeats 8000000 in
set_option maxRecDepth 10000 in
theorem aligned_lt (s1 s2 d1 d2 : Nat) (p1 p2 : Int) (h1 : d1 < 18446744073709551616 ^ 4) (h2 : d2 < 18446744073709551616 ^ 4) (hb : Go.bitLen d1 + 2 ≤ 256) (hp1 : -5000 ≤ p1 ∧ p1 ≤ 5000) (hp2 : -5000 ≤ p2 ∧ p2 ≤ 5000) (hge : p2 < p1) (w : World) :
    Calls Tryd.prog 67 #[.agg #[.int .u64 s2, .int .u64 (wd d2 0), .int .u64 (wd d2 1), .int .u64 (wd d2 2), .int .u64 (wd d2 3), .int .i64 p2], .agg #[.int .u64 s1, .int .u64 (wd d1 0), .int .u64 (wd d1 1), .int .u64 (wd d1 2), .int .u64 (wd d1 3), .int .i64 p1]] w fun e w' =>
      e = .returned (.tuple #[.agg #[.int .u64 s1, .int .u64 (wd (d1 * 2 ^ (lift 256 d1 (p1 - p2)).toNat) 0), .int .u64 (wd (d1 * 2 ^ (lift 256 d1 (p1 - p2)).toNat) 1), .int .u64 (wd (d1 * 2 ^ (lift 256 d1 (p1 - p2)).toNat) 2), .int .u64 (wd (d1 * 2 ^ (lift 256 d1 (p1 - p2)).toNat) 3), .int .i64 (p1 - lift 256 d1 (p1 - p2))],
        .agg #[.int .u64 s2, .int .u64 (wd (mk d2 (p1 - p2 - lift 256 d1 (p1 - p2)).toNat) 0), .int .u64 (wd (mk d2 (p1 - p2 - lift 256 d1 (p1 - p2)).toNat) 1), .int .u64 (wd (mk d2 (p1 - p2 - lift 256 d1 (p1 - p2)).toNat) 2), .int .u64 (wd (mk d2 (p1 - p2 - lift 256 d1 (p1 - p2)).toNat) 3), .int .i64 (p1 - lift 256 d1 (p1 - p2))]]) ∧ Below w.heap.size w w' := by
  obtain ⟨a1, a2⟩ := hp1
  obtain ⟨a3, a4⟩ := hp2
  obtain ⟨bl, hbl⟩ : ∃ b : Int, (Go.bitLen d1 : Int) = b := ⟨_, rfl⟩
  have hb0 : 0 ≤ bl := by omega
  have hb1 : bl + 2 ≤ 256 := by omega
  have hlift : lift 256 d1 (p1 - p2) = (min (p1 - p2) (256 - bl - 1)) := by unfold lift; rw [hbl]; rfl
  rw [hlift]
  have HRm : Hid (∀ w, Calls Tryd.prog 60 #[.agg #[.int .u64 (wd d1 0), .int .u64 (wd d1 1), .int .u64 (wd d1 2), .int .u64 (wd d1 3)]] w fun e w' => e = .returned (.int .i64 (256 - bl)) ∧ Below w.heap.size w w') := fun w => by rw [← hbl]; exact room_any d1 h1 w
  have HLf : Hid (∀ w, Calls Tryd.prog 62 #[.agg #[.int .u64 (wd d1 0), .int .u64 (wd d1 1), .int .u64 (wd d1 2), .int .u64 (wd d1 3)], .int .u64 (min (p1 - p2) (256 - bl - 1))] w fun e w' => e = .returned (.agg #[.int .u64 (wd (d1 * 2 ^ (min (p1 - p2) (256 - bl - 1)).toNat) 0), .int .u64 (wd (d1 * 2 ^ (min (p1 - p2) (256 - bl - 1)).toNat) 1), .int .u64 (wd (d1 * 2 ^ (min (p1 - p2) (256 - bl - 1)).toNat) 2), .int .u64 (wd (d1 * 2 ^ (min (p1 - p2) (256 - bl - 1)).toNat) 3)]) ∧ Below w.heap.size w w') := fun w => left_any d1 h1 _ (by omega) (by omega) w
  have HCt : Hid (∀ w, Calls Tryd.prog 84 #[.agg #[.int .u64 (wd d2 0), .int .u64 (wd d2 1), .int .u64 (wd d2 2), .int .u64 (wd d2 3)], .int .u64 (p1 - p2 - (min (p1 - p2) (256 - bl - 1)))] w fun e w' => e = .returned (.tuple #[.agg #[.int .u64 (wd (d2 / 2 ^ (p1 - p2 - (min (p1 - p2) (256 - bl - 1))).toNat) 0), .int .u64 (wd (d2 / 2 ^ (p1 - p2 - (min (p1 - p2) (256 - bl - 1))).toNat) 1), .int .u64 (wd (d2 / 2 ^ (p1 - p2 - (min (p1 - p2) (256 - bl - 1))).toNat) 2), .int .u64 (wd (d2 / 2 ^ (p1 - p2 - (min (p1 - p2) (256 - bl - 1))).toNat) 3)], .int .u8 (restN d2 (p1 - p2 - (min (p1 - p2) (256 - bl - 1))).toNat)]) ∧ Below w.heap.size w w') := fun w => cut_any d2 h2 _ (by omega) (by omega) w
  have hone := or_one (wd (d2 / 2 ^ (p1 - p2 - (min (p1 - p2) (256 - bl - 1))).toNat) 0) (wd_lt _ _)
  have HN : Hid (restN d2 (p1 - p2 - (min (p1 - p2) (256 - bl - 1))).toNat = 0 → wd (mk d2 (p1 - p2 - (min (p1 - p2) (256 - bl - 1))).toNat) 0 = wd (d2 / 2 ^ (p1 - p2 - (min (p1 - p2) (256 - bl - 1))).toNat) 0 ∧ wd (mk d2 (p1 - p2 - (min (p1 - p2) (256 - bl - 1))).toNat) 1 = wd (d2 / 2 ^ (p1 - p2 - (min (p1 - p2) (256 - bl - 1))).toNat) 1 ∧ wd (mk d2 (p1 - p2 - (min (p1 - p2) (256 - bl - 1))).toNat) 2 = wd (d2 / 2 ^ (p1 - p2 - (min (p1 - p2) (256 - bl - 1))).toNat) 2 ∧ wd (mk d2 (p1 - p2 - (min (p1 - p2) (256 - bl - 1))).toNat) 3 = wd (d2 / 2 ^ (p1 - p2 - (min (p1 - p2) (256 - bl - 1))).toNat) 3) := fun h => by
    rw [mk_none h]; exact ⟨rfl, rfl, rfl, rfl⟩
  have HS : Hid (restN d2 (p1 - p2 - (min (p1 - p2) (256 - bl - 1))).toNat ≠ 0 → wd (mk d2 (p1 - p2 - (min (p1 - p2) (256 - bl - 1))).toNat) 0 = wd (d2 / 2 ^ (p1 - p2 - (min (p1 - p2) (256 - bl - 1))).toNat) 0 + (1 - wd (d2 / 2 ^ (p1 - p2 - (min (p1 - p2) (256 - bl - 1))).toNat) 0 % 2) ∧ wd (mk d2 (p1 - p2 - (min (p1 - p2) (256 - bl - 1))).toNat) 1 = wd (d2 / 2 ^ (p1 - p2 - (min (p1 - p2) (256 - bl - 1))).toNat) 1 ∧ wd (mk d2 (p1 - p2 - (min (p1 - p2) (256 - bl - 1))).toNat) 2 = wd (d2 / 2 ^ (p1 - p2 - (min (p1 - p2) (256 - bl - 1))).toNat) 2 ∧ wd (mk d2 (p1 - p2 - (min (p1 - p2) (256 - bl - 1))).toNat) 3 = wd (d2 / 2 ^ (p1 - p2 - (min (p1 - p2) (256 - bl - 1))).toNat) 3) := fun h => by
    rw [mk_some h]; exact ⟨wd_odd0 _, wd_odd _ 0, wd_odd _ 1, wd_odd _ 2⟩
  generalize wd (d1 * 2 ^ (min (p1 - p2) (256 - bl - 1)).toNat) 0 = X0 at *
  generalize wd (mk d2 (p1 - p2 - (min (p1 - p2) (256 - bl - 1))).toNat) 0 = Y0 at *
  generalize wd (d2 / 2 ^ (p1 - p2 - (min (p1 - p2) (256 - bl - 1))).toNat) 0 = Q0 at *
  generalize wd (d1 * 2 ^ (min (p1 - p2) (256 - bl - 1)).toNat) 1 = X1 at *
  generalize wd (mk d2 (p1 - p2 - (min (p1 - p2) (256 - bl - 1))).toNat) 1 = Y1 at *
  generalize wd (d2 / 2 ^ (p1 - p2 - (min (p1 - p2) (256 - bl - 1))).toNat) 1 = Q1 at *
  generalize wd (d1 * 2 ^ (min (p1 - p2) (256 - bl - 1)).toNat) 2 = X2 at *
  generalize wd (mk d2 (p1 - p2 - (min (p1 - p2) (256 - bl - 1))).toNat) 2 = Y2 at *
  generalize wd (d2 / 2 ^ (p1 - p2 - (min (p1 - p2) (256 - bl - 1))).toNat) 2 = Q2 at *
  generalize wd (d1 * 2 ^ (min (p1 - p2) (256 - bl - 1)).toNat) 3 = X3 at *
  generalize wd (mk d2 (p1 - p2 - (min (p1 - p2) (256 - bl - 1))).toNat) 3 = Y3 at *
  generalize wd (d2 / 2 ^ (p1 - p2 - (min (p1 - p2) (256 - bl - 1))).toNat) 3 = Q3 at *
  generalize restN d2 (p1 - p2 - (min (p1 - p2) (256 - bl - 1))).toNat = R at *
  generalize wd d1 0 = u0 at *
  generalize wd d2 0 = v0 at *
  generalize wd d1 1 = u1 at *
  generalize wd d2 1 = v1 at *
  generalize wd d1 2 = u2 at *
  generalize wd d2 2 = v2 at *
  generalize wd d1 3 = u3 at *
  generalize wd d2 3 = v3 at *
  clear h1 h2 hb hbl hlift
  go_enter Tryd.func67, Tryd.ntmps67
  go_wp2_with fail
  refine (HRm.out _).mono ?_
  rintro e w0 ⟨rfl, hb0⟩
  have H0 : Hid (Rows4 w w0 [.int .u64 s1, .int .u64 u0, .int .u64 u1, .int .u64 u2, .int .u64 u3, .int .i64 p1] [.int .u64 s2, .int .u64 v0, .int .u64 v1, .int .u64 v2, .int .u64 v3, .int .i64 p2] [.int .u64 0, .int .u64 0, .int .u64 0, .int .u64 0, .int .u64 0, .int .i64 0] [.int .u64 0, .int .u64 0, .int .u64 0, .int .u64 0, .int .u64 0, .int .i64 0]) := (Rows4.start w _ _ _ _ _ _ _ _ (by simp) (by simp) (by simp) (by simp)).later hb0
  clear hb0
  have x0 := H0.out.x.cells 0 _ rfl
  have x1 := H0.out.x.cells 1 _ rfl
  have x2 := H0.out.x.cells 2 _ rfl
  have x3 := H0.out.x.cells 3 _ rfl
  have x4 := H0.out.x.cells 4 _ rfl
  have x5 := H0.out.x.cells 5 _ rfl
  have z0 := H0.out.size
  go_wp2_with fail
  refine (HLf.out _).mono ?_
  rintro e w1 ⟨rfl, hb1⟩
  have H1 : Hid (Rows4 w w1 [.int .u64 s1, .int .u64 u0, .int .u64 u1, .int .u64 u2, .int .u64 u3, .int .i64 p1] [.int .u64 s2, .int .u64 v0, .int .u64 v1, .int .u64 v2, .int .u64 v3, .int .i64 p2] [.int .u64 0, .int .u64 0, .int .u64 0, .int .u64 0, .int .u64 0, .int .i64 0] [.int .u64 0, .int .u64 0, .int .u64 0, .int .u64 0, .int .u64 0, .int .i64 0]) := H0.out.later hb1
  clear hb1 z0 x0 x1 x2 x3 x4 x5 H0
  have x0 := H1.out.x.cells 0 _ rfl
  have x1 := H1.out.x.cells 1 _ rfl
  have x2 := H1.out.x.cells 2 _ rfl
  have x3 := H1.out.x.cells 3 _ rfl
  have x4 := H1.out.x.cells 4 _ rfl
  have x5 := H1.out.x.cells 5 _ rfl
  have xf0 := H1.out.x.live 0 _ rfl
  have xf1 := H1.out.x.live 1 _ rfl
  have xf2 := H1.out.x.live 2 _ rfl
  have xf3 := H1.out.x.live 3 _ rfl
  have xf4 := H1.out.x.live 4 _ rfl
  have xf5 := H1.out.x.live 5 _ rfl
  have y0 := H1.out.y.cells 0 _ rfl
  have y1 := H1.out.y.cells 1 _ rfl
  have y2 := H1.out.y.cells 2 _ rfl
  have y3 := H1.out.y.cells 3 _ rfl
  have y4 := H1.out.y.cells 4 _ rfl
  have y5 := H1.out.y.cells 5 _ rfl
  have z1 := H1.out.size
  go_wp2_with fail
  refine (HCt.out _).mono ?_
  rintro e w2 ⟨rfl, hb2⟩
  have H2 : Hid (Rows4 w w2 [.int .u64 s1, .int .u64 X0, .int .u64 X1, .int .u64 X2, .int .u64 X3, .int .i64 (p1 - (min (p1 - p2) (256 - bl - 1)))] [.int .u64 s2, .int .u64 v0, .int .u64 v1, .int .u64 v2, .int .u64 v3, .int .i64 p2] [.int .u64 0, .int .u64 0, .int .u64 0, .int .u64 0, .int .u64 0, .int .i64 0] [.int .u64 0, .int .u64 0, .int .u64 0, .int .u64 0, .int .u64 0, .int .i64 0]) := ((((((H1.out.setX 1 _ (by simp)).setX 2 _ (by simp)).setX 3 _ (by simp)).setX 4 _ (by simp)).setX 5 _ (by simp))).later hb2
  clear hb2 z1 x0 x1 x2 x3 x4 x5 xf0 xf1 xf2 xf3 xf4 xf5 y0 y1 y2 y3 y4 y5 H1
  have x0 := H2.out.x.cells 0 _ rfl
  have x1 := H2.out.x.cells 1 _ rfl
  have x2 := H2.out.x.cells 2 _ rfl
  have x3 := H2.out.x.cells 3 _ rfl
  have x4 := H2.out.x.cells 4 _ rfl
  have x5 := H2.out.x.cells 5 _ rfl
  have y0 := H2.out.y.cells 0 _ rfl
  have y1 := H2.out.y.cells 1 _ rfl
  have y2 := H2.out.y.cells 2 _ rfl
  have y3 := H2.out.y.cells 3 _ rfl
  have y4 := H2.out.y.cells 4 _ rfl
  have y5 := H2.out.y.cells 5 _ rfl
  have yf0 := H2.out.y.live 0 _ rfl
  have yf1 := H2.out.y.live 1 _ rfl
  have yf2 := H2.out.y.live 2 _ rfl
  have yf3 := H2.out.y.live 3 _ rfl
  have yf4 := H2.out.y.live 4 _ rfl
  have yf5 := H2.out.y.live 5 _ rfl
  have z2 := H2.out.size
  have zz1 : w.heap.size < w2.heap.size := by omega
  have zz2 : w.heap.size + 1 < w2.heap.size := by omega
  have zz3 : w.heap.size + 2 < w2.heap.size := by omega
  by_cases hR : R = 0
  · have hRb : (R != 0) = false := by simp [hR]
    have HYQ : Hid (((Y0 : Nat) : Int) = ((Q0 : Nat) : Int) ∧ ((Y1 : Nat) : Int) = ((Q1 : Nat) : Int) ∧ ((Y2 : Nat) : Int) = ((Q2 : Nat) : Int) ∧ ((Y3 : Nat) : Int) = ((Q3 : Nat) : Int)) := (by have := HN.out hR; omega : ((Y0 : Nat) : Int) = ((Q0 : Nat) : Int) ∧ ((Y1 : Nat) : Int) = ((Q1 : Nat) : Int) ∧ ((Y2 : Nat) : Int) = ((Q2 : Nat) : Int) ∧ ((Y3 : Nat) : Int) = ((Q3 : Nat) : Int))
    clear hR
    go_wp2_with fail
    go_cut [] from 10 to 61 (fun wx => Rows4 w wx [.int .u64 s1, .int .u64 X0, .int .u64 X1, .int .u64 X2, .int .u64 X3, .int .i64 (p1 - (min (p1 - p2) (256 - bl - 1)))] [.int .u64 s2, .int .u64 Y0, .int .u64 Y1, .int .u64 Y2, .int .u64 Y3, .int .i64 (p1 - (min (p1 - p2) (256 - bl - 1)))] [.int .u64 0, .int .u64 0, .int .u64 0, .int .u64 0, .int .u64 0, .int .i64 0] [.int .u64 0, .int .u64 0, .int .u64 0, .int .u64 0, .int .u64 0, .int .i64 0])
    case first =>
      go_region
      go_wp2_with fail
      go_meet
      go_light
      obtain ⟨k0, k1, k2, k3⟩ := HYQ.out
      rw [k0, k1, k2, k3]
      exact (((((((H2.out.setY 1 _ (by simp)).setY 2 _ (by simp)).setY 3 _ (by simp)).setY 4 _ (by simp)).setY 5 _ (by simp))).alloc _).drew
    case rest =>
      have H3 : Hid (Rows4 w wc [.int .u64 s1, .int .u64 X0, .int .u64 X1, .int .u64 X2, .int .u64 X3, .int .i64 (p1 - (min (p1 - p2) (256 - bl - 1)))] [.int .u64 s2, .int .u64 Y0, .int .u64 Y1, .int .u64 Y2, .int .u64 Y3, .int .i64 (p1 - (min (p1 - p2) (256 - bl - 1)))] [.int .u64 0, .int .u64 0, .int .u64 0, .int .u64 0, .int .u64 0, .int .i64 0] [.int .u64 0, .int .u64 0, .int .u64 0, .int .u64 0, .int .u64 0, .int .i64 0]) := hcut
      clear hcut x0 x1 x2 x3 x4 x5 y0 y1 y2 y3 y4 y5 yf0 yf1 yf2 yf3 yf4 yf5 z2 zz1 zz2 zz3
      have x0 := H3.out.x.cells 0 _ rfl
      have x1 := H3.out.x.cells 1 _ rfl
      have x2 := H3.out.x.cells 2 _ rfl
      have x3 := H3.out.x.cells 3 _ rfl
      have x4 := H3.out.x.cells 4 _ rfl
      have x5 := H3.out.x.cells 5 _ rfl
      have xf0 := H3.out.x.live 0 _ rfl
      have xf1 := H3.out.x.live 1 _ rfl
      have xf2 := H3.out.x.live 2 _ rfl
      have xf3 := H3.out.x.live 3 _ rfl
      have xf4 := H3.out.x.live 4 _ rfl
      have xf5 := H3.out.x.live 5 _ rfl
      have y0 := H3.out.y.cells 0 _ rfl
      have y1 := H3.out.y.cells 1 _ rfl
      have y2 := H3.out.y.cells 2 _ rfl
      have y3 := H3.out.y.cells 3 _ rfl
      have y4 := H3.out.y.cells 4 _ rfl
      have y5 := H3.out.y.cells 5 _ rfl
      have yf0 := H3.out.y.live 0 _ rfl
      have yf1 := H3.out.y.live 1 _ rfl
      have yf2 := H3.out.y.live 2 _ rfl
      have yf3 := H3.out.y.live 3 _ rfl
      have yf4 := H3.out.y.live 4 _ rfl
      have yf5 := H3.out.y.live 5 _ rfl
      have r0 := H3.out.r.cells 0 _ rfl
      have r1 := H3.out.r.cells 1 _ rfl
      have r2 := H3.out.r.cells 2 _ rfl
      have r3 := H3.out.r.cells 3 _ rfl
      have r4 := H3.out.r.cells 4 _ rfl
      have r5 := H3.out.r.cells 5 _ rfl
      have rf0 := H3.out.r.live 0 _ rfl
      have rf1 := H3.out.r.live 1 _ rfl
      have rf2 := H3.out.r.live 2 _ rfl
      have rf3 := H3.out.r.live 3 _ rfl
      have rf4 := H3.out.r.live 4 _ rfl
      have rf5 := H3.out.r.live 5 _ rfl
      have q0 := H3.out.q.cells 0 _ rfl
      have q1 := H3.out.q.cells 1 _ rfl
      have q2 := H3.out.q.cells 2 _ rfl
      have q3 := H3.out.q.cells 3 _ rfl
      have q4 := H3.out.q.cells 4 _ rfl
      have q5 := H3.out.q.cells 5 _ rfl
      have qf0 := H3.out.q.live 0 _ rfl
      have qf1 := H3.out.q.live 1 _ rfl
      have qf2 := H3.out.q.live 2 _ rfl
      have qf3 := H3.out.q.live 3 _ rfl
      have qf4 := H3.out.q.live 4 _ rfl
      have qf5 := H3.out.q.live 5 _ rfl
      have z3 := H3.out.size
      go_wp2_with fail
      go_region
      go_wp2_with fail
      go_light
      refine bodyPost_ret (v := .tuple #[.agg #[.int .u64 s1, .int .u64 X0, .int .u64 X1, .int .u64 X2, .int .u64 X3, .int .i64 (p1 - (min (p1 - p2) (256 - bl - 1)))], .agg #[.int .u64 s2, .int .u64 Y0, .int .u64 Y1, .int .u64 Y2, .int .u64 Y3, .int .i64 (p1 - (min (p1 - p2) (256 - bl - 1)))]]) (results_al rfl rfl (((((((((((((H3.out.r.set 0 _ (by simp)).set 1 _ (by simp)).set 2 _ (by simp)).set 3 _ (by simp)).set 4 _ (by simp)).set 5 _ (by simp)).other _ _ (by simp)).other _ _ (by simp)).other _ _ (by simp)).other _ _ (by simp)).other _ _ (by simp)).other _ _ (by simp)).drew) (((((((((((((H3.out.q.other _ _ (by simp)).other _ _ (by simp)).other _ _ (by simp)).other _ _ (by simp)).other _ _ (by simp)).other _ _ (by simp)).set 0 _ (by simp)).set 1 _ (by simp)).set 2 _ (by simp)).set 3 _ (by simp)).set 4 _ (by simp)).set 5 _ (by simp)).drew)) rfl ⟨rfl, ?_⟩
      exact (((((((((((((H3.out.below.setCell (by simp <;> omega) _).setCell (by simp <;> omega) _).setCell (by simp <;> omega) _).setCell (by simp <;> omega) _).setCell (by simp <;> omega) _).setCell (by simp <;> omega) _).setCell (by simp <;> omega) _).setCell (by simp <;> omega) _).setCell (by simp <;> omega) _).setCell (by simp <;> omega) _).setCell (by simp <;> omega) _).setCell (by simp <;> omega) _)).drew
  · have hRb : (R != 0) = true := by simp [hR]
    have HYQ : Hid (((Y0 : Nat) : Int) = ((Q0 + (1 - Q0 % 2) : Nat) : Int) ∧ ((Y1 : Nat) : Int) = ((Q1 : Nat) : Int) ∧ ((Y2 : Nat) : Int) = ((Q2 : Nat) : Int) ∧ ((Y3 : Nat) : Int) = ((Q3 : Nat) : Int)) := (by have := HS.out hR; omega : ((Y0 : Nat) : Int) = ((Q0 + (1 - Q0 % 2) : Nat) : Int) ∧ ((Y1 : Nat) : Int) = ((Q1 : Nat) : Int) ∧ ((Y2 : Nat) : Int) = ((Q2 : Nat) : Int) ∧ ((Y3 : Nat) : Int) = ((Q3 : Nat) : Int))
    clear hR
    go_wp2_with fail
    go_cut [] from 10 to 61 (fun wx => Rows4 w wx [.int .u64 s1, .int .u64 X0, .int .u64 X1, .int .u64 X2, .int .u64 X3, .int .i64 (p1 - (min (p1 - p2) (256 - bl - 1)))] [.int .u64 s2, .int .u64 Y0, .int .u64 Y1, .int .u64 Y2, .int .u64 Y3, .int .i64 (p1 - (min (p1 - p2) (256 - bl - 1)))] [.int .u64 0, .int .u64 0, .int .u64 0, .int .u64 0, .int .u64 0, .int .i64 0] [.int .u64 0, .int .u64 0, .int .u64 0, .int .u64 0, .int .u64 0, .int .i64 0])
    case first =>
      go_region
      go_wp2_with fail
      go_meet
      go_light
      obtain ⟨k0, k1, k2, k3⟩ := HYQ.out
      rw [k0, k1, k2, k3]
      exact (((((((H2.out.setY 1 _ (by simp)).setY 2 _ (by simp)).setY 3 _ (by simp)).setY 4 _ (by simp)).setY 5 _ (by simp))).alloc _).drew
    case rest =>
      have H3 : Hid (Rows4 w wc [.int .u64 s1, .int .u64 X0, .int .u64 X1, .int .u64 X2, .int .u64 X3, .int .i64 (p1 - (min (p1 - p2) (256 - bl - 1)))] [.int .u64 s2, .int .u64 Y0, .int .u64 Y1, .int .u64 Y2, .int .u64 Y3, .int .i64 (p1 - (min (p1 - p2) (256 - bl - 1)))] [.int .u64 0, .int .u64 0, .int .u64 0, .int .u64 0, .int .u64 0, .int .i64 0] [.int .u64 0, .int .u64 0, .int .u64 0, .int .u64 0, .int .u64 0, .int .i64 0]) := hcut
      clear hcut x0 x1 x2 x3 x4 x5 y0 y1 y2 y3 y4 y5 yf0 yf1 yf2 yf3 yf4 yf5 z2 zz1 zz2 zz3
      have x0 := H3.out.x.cells 0 _ rfl
      have x1 := H3.out.x.cells 1 _ rfl
      have x2 := H3.out.x.cells 2 _ rfl
      have x3 := H3.out.x.cells 3 _ rfl
      have x4 := H3.out.x.cells 4 _ rfl
      have x5 := H3.out.x.cells 5 _ rfl
      have xf0 := H3.out.x.live 0 _ rfl
      have xf1 := H3.out.x.live 1 _ rfl
      have xf2 := H3.out.x.live 2 _ rfl
      have xf3 := H3.out.x.live 3 _ rfl
      have xf4 := H3.out.x.live 4 _ rfl
      have xf5 := H3.out.x.live 5 _ rfl
      have y0 := H3.out.y.cells 0 _ rfl
      have y1 := H3.out.y.cells 1 _ rfl
      have y2 := H3.out.y.cells 2 _ rfl
      have y3 := H3.out.y.cells 3 _ rfl
      have y4 := H3.out.y.cells 4 _ rfl
      have y5 := H3.out.y.cells 5 _ rfl
      have yf0 := H3.out.y.live 0 _ rfl
      have yf1 := H3.out.y.live 1 _ rfl
      have yf2 := H3.out.y.live 2 _ rfl
      have yf3 := H3.out.y.live 3 _ rfl
      have yf4 := H3.out.y.live 4 _ rfl
      have yf5 := H3.out.y.live 5 _ rfl
      have r0 := H3.out.r.cells 0 _ rfl
      have r1 := H3.out.r.cells 1 _ rfl
      have r2 := H3.out.r.cells 2 _ rfl
      have r3 := H3.out.r.cells 3 _ rfl
      have r4 := H3.out.r.cells 4 _ rfl
      have r5 := H3.out.r.cells 5 _ rfl
      have rf0 := H3.out.r.live 0 _ rfl
      have rf1 := H3.out.r.live 1 _ rfl
      have rf2 := H3.out.r.live 2 _ rfl
      have rf3 := H3.out.r.live 3 _ rfl
      have rf4 := H3.out.r.live 4 _ rfl
      have rf5 := H3.out.r.live 5 _ rfl
      have q0 := H3.out.q.cells 0 _ rfl
      have q1 := H3.out.q.cells 1 _ rfl
      have q2 := H3.out.q.cells 2 _ rfl
      have q3 := H3.out.q.cells 3 _ rfl
      have q4 := H3.out.q.cells 4 _ rfl
      have q5 := H3.out.q.cells 5 _ rfl
      have qf0 := H3.out.q.live 0 _ rfl
      have qf1 := H3.out.q.live 1 _ rfl
      have qf2 := H3.out.q.live 2 _ rfl
      have qf3 := H3.out.q.live 3 _ rfl
      have qf4 := H3.out.q.live 4 _ rfl
      have qf5 := H3.out.q.live 5 _ rfl
      have z3 := H3.out.size
      go_wp2_with fail
      go_region
      go_wp2_with fail
      go_light
      refine bodyPost_ret (v := .tuple #[.agg #[.int .u64 s1, .int .u64 X0, .int .u64 X1, .int .u64 X2, .int .u64 X3, .int .i64 (p1 - (min (p1 - p2) (256 - bl - 1)))], .agg #[.int .u64 s2, .int .u64 Y0, .int .u64 Y1, .int .u64 Y2, .int .u64 Y3, .int .i64 (p1 - (min (p1 - p2) (256 - bl - 1)))]]) (results_al rfl rfl (((((((((((((H3.out.r.set 0 _ (by simp)).set 1 _ (by simp)).set 2 _ (by simp)).set 3 _ (by simp)).set 4 _ (by simp)).set 5 _ (by simp)).other _ _ (by simp)).other _ _ (by simp)).other _ _ (by simp)).other _ _ (by simp)).other _ _ (by simp)).other _ _ (by simp)).drew) (((((((((((((H3.out.q.other _ _ (by simp)).other _ _ (by simp)).other _ _ (by simp)).other _ _ (by simp)).other _ _ (by simp)).other _ _ (by simp)).set 0 _ (by simp)).set 1 _ (by simp)).set 2 _ (by simp)).set 3 _ (by simp)).set 4 _ (by simp)).set 5 _ (by simp)).drew)) rfl ⟨rfl, ?_⟩
      exact (((((((((((((H3.out.below.setCell (by simp <;> omega) _).setCell (by simp <;> omega) _).setCell (by simp <;> omega) _).setCell (by simp <;> omega) _).setCell (by simp <;> omega) _).setCell (by simp <;> omega) _).setCell (by simp <;> omega) _).setCell (by simp <;> omega) _).setCell (by simp <;> omega) _).setCell (by simp <;> omega) _).setCell (by simp <;> omega) _).setCell (by simp <;> omega) _)).drew
end Go.Proofs.YtcjihaafohnbeaaDoor.W4
