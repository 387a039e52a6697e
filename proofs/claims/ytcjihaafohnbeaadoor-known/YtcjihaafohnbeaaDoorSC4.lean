import Derived.Test.YtcjihaafohnbeaaDoorSB4
namespace Go.Proofs.YtcjihaafohnbeaaDoor.W4
open Go.RowKit

theorem exactSum_any (s1 s2 d1 d2 : Nat) (p1 p2 m : Int) (hs1 : s1 < 2) (hs2 : s2 < 2) (hb1 : Go.bitLen d1 + 2 ≤ 256) (hb2 : Go.bitLen d2 + 2 ≤ 256) (hp1 : -5000 ≤ p1 ∧ p1 ≤ 5000) (hp2 : -5000 ≤ p2 ∧ p2 ≤ 5000) (w : World) :
    Calls Tryd.prog 48 #[.agg #[.int .u64 s1, .int .u64 (wd d1 0), .int .u64 (wd d1 1), .int .u64 (wd d1 2), .int .u64 (wd d1 3), .int .i64 p1], .agg #[.int .u64 s2, .int .u64 (wd d2 0), .int .u64 (wd d2 1), .int .u64 (wd d2 2), .int .u64 (wd d2 3), .int .i64 p2], .int .u8 m] w fun e w' =>
      e = .returned (.agg #[.int .u64 (gsS 256 s1 d1 p1 s2 d2 p2 m), .int .u64 (wd (gsD 256 s1 d1 p1 s2 d2 p2) 0), .int .u64 (wd (gsD 256 s1 d1 p1 s2 d2 p2) 1), .int .u64 (wd (gsD 256 s1 d1 p1 s2 d2 p2) 2), .int .u64 (wd (gsD 256 s1 d1 p1 s2 d2 p2) 3), .int .i64 (gsP 256 s1 d1 p1 s2 d2 p2)]) ∧ Below w.heap.size w w' := by
  have l1 := lt_bl hb1
  have l2 := lt_bl hb2
  have g1 : d1 < 18446744073709551616 ^ 4 := Nat.lt_of_lt_of_le l1 (by decide)
  have g2 : d2 < 18446744073709551616 ^ 4 := Nat.lt_of_lt_of_le l2 (by decide)
  unfold gsS gsD gsP
  by_cases h : p2 ≤ p1
  · simp only [if_pos h]
    have hX := lifted_lt (a := p1 - p2) (by omega) hb1
    have hY := marked_lt (t := (p1 - p2 - lift 256 d1 (p1 - p2)).toNat) (by decide) hb2
    exact exactSum_al s1 s2 (wd d1 0 : Nat) (wd d1 1 : Nat) (wd d1 2 : Nat) (wd d1 3 : Nat) (wd d2 0 : Nat) (wd d2 1 : Nat) (wd d2 2 : Nat) (wd d2 3 : Nat) p1 p2 m _ s1 s2 _ _ hs1 hs2 hX hY w (fun w1 => aligned_ge s1 s2 d1 d2 p1 p2 g1 g2 hb1 hp1 hp2 h w1)
  · simp only [if_neg h]
    have hX := lifted_lt (a := p2 - p1) (by omega) hb2
    have hY := marked_lt (t := (p2 - p1 - lift 256 d2 (p2 - p1)).toNat) (by decide) hb1
    exact exactSum_al s1 s2 (wd d1 0 : Nat) (wd d1 1 : Nat) (wd d1 2 : Nat) (wd d1 3 : Nat) (wd d2 0 : Nat) (wd d2 1 : Nat) (wd d2 2 : Nat) (wd d2 3 : Nat) p1 p2 m _ s2 s1 _ _ hs2 hs1 hX hY w (fun w1 => aligned_lt s2 s1 d2 d1 p2 p1 g2 g1 hb2 hp2 hp1 (by omega) w1)

theorem results_rs {tmps : Array Value} {U : World} {g : Nat} {a b c : Value} (h6 : tmps.getD 6 undef = .pointer (some ⟨g, 0, none⟩)) (h : Blk U g [a, b, c]) :
    (results Tryd.f44 tmps).run Tryd.prog U = .ok (.agg #[a, b, c]) U := by
  have c0 := h.cells 0 _ rfl
  have c1 := h.cells 1 _ rfl
  have c2 := h.cells 2 _ rfl
  have h6' : tmps[6]?.getD undef = .pointer (some ⟨g, 0, none⟩) := by simpa using h6
  simp [results, Tryd.results44, go_sem, h6', c0, c1, c2]

set_option maxHeartbeats 8000000 in
set_option maxRecDepth 10000 in
theorem roundedSum_any (s1 s2 d1 d2 : Nat) (p1 p2 m : Int) (hs1 : s1 < 2) (hs2 : s2 < 2) (hb1 : Go.bitLen d1 + 2 ≤ 256) (hb2 : Go.bitLen d2 + 2 ≤ 256) (hp1 : -4000 ≤ p1 ∧ p1 ≤ 4000) (hp2 : -4000 ≤ p2 ∧ p2 ≤ 4000) (hm : 0 ≤ m ∧ m ≤ 4) (w : World) (hT : Tab w) :
    Calls Tryd.prog 44 #[.agg #[.int .u64 s1, .int .u64 (wd d1 0), .int .u64 (wd d1 1), .int .u64 (wd d1 2), .int .u64 (wd d1 3), .int .i64 p1], .agg #[.int .u64 s2, .int .u64 (wd d2 0), .int .u64 (wd d2 1), .int .u64 (wd d2 2), .int .u64 (wd d2 3), .int .i64 p2], .int .u8 m] w fun e w' =>
      e = .returned (.agg #[.int .u64 (rsB 256 s1 d1 p1 s2 d2 p2 m), .int .u8 (rsF 256 s1 d1 p1 s2 d2 p2 m), .bool false]) ∧ Below w.heap.size w w' := by
  have hlt := gsD_lt (s1 := s1) (s2 := s2) (p1 := p1) (p2 := p2) (n := 256) (by decide) hb1 hb2
  have hpr := gsP_range (s1 := s1) (s2 := s2) (n := 256) (by decide) hb1 hb2 hp1 hp2
  have hsl := gsS_lt (n := 256) (d1 := d1) (d2 := d2) (p1 := p1) (p2 := p2) (m := m) hs1 hs2
  have HES : Hid (∀ w, Calls Tryd.prog 48 #[.agg #[.int .u64 s1, .int .u64 (wd d1 0), .int .u64 (wd d1 1), .int .u64 (wd d1 2), .int .u64 (wd d1 3), .int .i64 p1], .agg #[.int .u64 s2, .int .u64 (wd d2 0), .int .u64 (wd d2 1), .int .u64 (wd d2 2), .int .u64 (wd d2 3), .int .i64 p2], .int .u8 m] w fun e w' =>
      e = .returned (.agg #[.int .u64 (gsS 256 s1 d1 p1 s2 d2 p2 m), .int .u64 (wd (gsD 256 s1 d1 p1 s2 d2 p2) 0), .int .u64 (wd (gsD 256 s1 d1 p1 s2 d2 p2) 1), .int .u64 (wd (gsD 256 s1 d1 p1 s2 d2 p2) 2), .int .u64 (wd (gsD 256 s1 d1 p1 s2 d2 p2) 3), .int .i64 (gsP 256 s1 d1 p1 s2 d2 p2)]) ∧ Below w.heap.size w w') := fun w => exactSum_any s1 s2 d1 d2 p1 p2 m hs1 hs2 hb1 hb2 (by omega) (by omega) w
  have HRD : Hid (∀ w1, Below w.heap.size w w1 → Calls Tryd.prog 57 #[.agg #[.int .u64 (gsS 256 s1 d1 p1 s2 d2 p2 m), .int .u64 (wd (gsD 256 s1 d1 p1 s2 d2 p2) 0), .int .u64 (wd (gsD 256 s1 d1 p1 s2 d2 p2) 1), .int .u64 (wd (gsD 256 s1 d1 p1 s2 d2 p2) 2), .int .u64 (wd (gsD 256 s1 d1 p1 s2 d2 p2) 3), .int .i64 (gsP 256 s1 d1 p1 s2 d2 p2)], .int .u8 m] w1 fun e w' =>
      e = .returned (.agg #[.int .u64 (roundB (gsS 256 s1 d1 p1 s2 d2 p2 m) (gsD 256 s1 d1 p1 s2 d2 p2) (gsP 256 s1 d1 p1 s2 d2 p2) m), .int .u8 (roundF (gsS 256 s1 d1 p1 s2 d2 p2 m) (gsD 256 s1 d1 p1 s2 d2 p2) (gsP 256 s1 d1 p1 s2 d2 p2) m), .bool false]) ∧ Below w1.heap.size w1 w') := fun w1 hb => round_any _ _ _ m hsl hlt hm hpr w1 (hT.later hb)
  have HS : Hid ((gsS 256 s1 d1 p1 s2 d2 p2 m : Int) = 0 ∨ (gsS 256 s1 d1 p1 s2 d2 p2 m : Int) = 1) := (by omega : (gsS 256 s1 d1 p1 s2 d2 p2 m : Int) = 0 ∨ (gsS 256 s1 d1 p1 s2 d2 p2 m : Int) = 1)
  have heq := eq_words (wd (gsD 256 s1 d1 p1 s2 d2 p2) 0 : Nat) (wd (gsD 256 s1 d1 p1 s2 d2 p2) 1 : Nat) (wd (gsD 256 s1 d1 p1 s2 d2 p2) 2 : Nat) (wd (gsD 256 s1 d1 p1 s2 d2 p2) 3 : Nat) 0 0 0 0
  have hw0 : (((wd (gsD 256 s1 d1 p1 s2 d2 p2) 0 : Nat) : Int) == 0 && ((wd (gsD 256 s1 d1 p1 s2 d2 p2) 1 : Nat) : Int) == 0 && ((wd (gsD 256 s1 d1 p1 s2 d2 p2) 2 : Nat) : Int) == 0 && ((wd (gsD 256 s1 d1 p1 s2 d2 p2) 3 : Nat) : Int) == 0) = decide (gsD 256 s1 d1 p1 s2 d2 p2 = 0) := by
    have := words_eq (D := gsD 256 s1 d1 p1 s2 d2 p2) (E := 0) hlt (by decide)
    rw [← this]
    simp [wd]
  rw [hw0] at heq
  clear hw0
  have H0 : Hid (gsD 256 s1 d1 p1 s2 d2 p2 = 0 → rsB 256 s1 d1 p1 s2 d2 p2 m = gsS 256 s1 d1 p1 s2 d2 p2 m * 9223372036854775808 ∧ rsF 256 s1 d1 p1 s2 d2 p2 m = 0) := fun h => by
    unfold rsB rsF; rw [if_pos h, if_pos h]; exact ⟨rfl, rfl⟩
  have H9 : Hid (¬ gsD 256 s1 d1 p1 s2 d2 p2 = 0 → rsB 256 s1 d1 p1 s2 d2 p2 m = roundB (gsS 256 s1 d1 p1 s2 d2 p2 m) (gsD 256 s1 d1 p1 s2 d2 p2) (gsP 256 s1 d1 p1 s2 d2 p2) m ∧ rsF 256 s1 d1 p1 s2 d2 p2 m = roundF (gsS 256 s1 d1 p1 s2 d2 p2 m) (gsD 256 s1 d1 p1 s2 d2 p2) (gsP 256 s1 d1 p1 s2 d2 p2) m) := fun h => by
    unfold rsB rsF; rw [if_neg h, if_neg h]; exact ⟨rfl, rfl⟩
  clear hlt hpr hsl hs1 hs2 hb1 hb2 hp1 hp2 hm hT
  generalize rsB 256 s1 d1 p1 s2 d2 p2 m = RB at *
  generalize rsF 256 s1 d1 p1 s2 d2 p2 m = RF at *
  generalize gsS 256 s1 d1 p1 s2 d2 p2 m = S at *
  generalize gsP 256 s1 d1 p1 s2 d2 p2 = P at *
  generalize gsD 256 s1 d1 p1 s2 d2 p2 = D at *
  generalize roundB S D P m = QB at *
  generalize roundF S D P m = QF at *
  generalize wd d1 0 = u0 at *
  generalize wd d2 0 = v0 at *
  generalize wd D 0 = x0 at *
  generalize wd d1 1 = u1 at *
  generalize wd d2 1 = v1 at *
  generalize wd D 1 = x1 at *
  generalize wd d1 2 = u2 at *
  generalize wd d2 2 = v2 at *
  generalize wd D 2 = x2 at *
  generalize wd d1 3 = u3 at *
  generalize wd d2 3 = v3 at *
  generalize wd D 3 = x3 at *
  go_enter Tryd.func44, Tryd.ntmps44
  go_wp2_with fail
  refine (HES.out _).mono ?_
  rintro e w1 ⟨rfl, hb1⟩
  have K0 : Hid (Rows3 w w1 [.int .u64 s1, .int .u64 u0, .int .u64 u1, .int .u64 u2, .int .u64 u3, .int .i64 p1] [.int .u64 s2, .int .u64 v0, .int .u64 v1, .int .u64 v2, .int .u64 v3, .int .i64 p2] [.int .u64 0, .int .u8 0, .bool false]) := (Rows3.start w _ _ _ _ _ _ (by simp) (by simp) (by simp)).later hb1
  clear hb1
  have xc0 := K0.out.x.cells 0 _ rfl
  have xc1 := K0.out.x.cells 1 _ rfl
  have xc2 := K0.out.x.cells 2 _ rfl
  have xc3 := K0.out.x.cells 3 _ rfl
  have xc4 := K0.out.x.cells 4 _ rfl
  have xc5 := K0.out.x.cells 5 _ rfl
  have xf0 := K0.out.x.live 0 _ rfl
  have xf1 := K0.out.x.live 1 _ rfl
  have xf2 := K0.out.x.live 2 _ rfl
  have xf3 := K0.out.x.live 3 _ rfl
  have xf4 := K0.out.x.live 4 _ rfl
  have xf5 := K0.out.x.live 5 _ rfl
  have rc0 := K0.out.r.cells 0 _ rfl
  have rc1 := K0.out.r.cells 1 _ rfl
  have rc2 := K0.out.r.cells 2 _ rfl
  have rf0 := K0.out.r.live 0 _ rfl
  have rf1 := K0.out.r.live 1 _ rfl
  have rf2 := K0.out.r.live 2 _ rfl
  have z0 := K0.out.size
  have z1 : w.heap.size < w1.heap.size := by omega
  obtain ⟨dB, hdB⟩ : ∃ c, c = decide (D = 0) := ⟨_, rfl⟩
  rw [← hdB] at heq
  by_cases hz : D = 0
  · have hd : dB = true := hdB.trans (decide_eq_true hz)
    obtain ⟨e1, e2⟩ := H0.out hz
    have HV : Hid (RB = S * 9223372036854775808 ∧ RF = 0) := ⟨e1, e2⟩
    clear hdB hz e1 e2 H0 H9
    subst hd
    go_wp2_with (go_at_call 40; refine (signed_any _ _ HS.out (by omega) _).mono ?_; rintro e w' ⟨rfl, rfl⟩)
    go_light
    refine bodyPost_ret (v := .agg #[.int .u64 (S * 9223372036854775808), .int .u8 0, .bool false]) (results_rs rfl (((((((((((K0.out.r.other _ _ (by simp)).other _ _ (by simp)).other _ _ (by simp)).other _ _ (by simp)).other _ _ (by simp)).other _ _ (by simp)).set 0 _ (by simp)).set 1 _ (by simp)).set 2 _ (by simp))).alloc _)) rfl ⟨by rw [HV.out.1, HV.out.2], ?_⟩
    exact ((((((((((K0.out.below.setCell (by simp <;> omega) _).setCell (by simp <;> omega) _).setCell (by simp <;> omega) _).setCell (by simp <;> omega) _).setCell (by simp <;> omega) _).setCell (by simp <;> omega) _).setCell (by simp <;> omega) _).setCell (by simp <;> omega) _).setCell (by simp <;> omega) _)).alloc (by simp; omega) _
  · have hd : dB = false := hdB.trans (decide_eq_false hz)
    obtain ⟨e1, e2⟩ := H9.out hz
    have HV : Hid (RB = QB ∧ RF = QF) := ⟨e1, e2⟩
    clear hdB hz e1 e2 H0 H9
    subst hd
    go_wp2_with fail
    refine (HRD.out _ ((((((((K0.out.below.setCell (by simp <;> omega) _).setCell (by simp <;> omega) _).setCell (by simp <;> omega) _).setCell (by simp <;> omega) _).setCell (by simp <;> omega) _).setCell (by simp <;> omega) _)).alloc (by simp; omega) _)).mono ?_
    rintro e w2 ⟨rfl, hb2⟩
    have K2 : Hid (Rows3 w w2 [.int .u64 S, .int .u64 x0, .int .u64 x1, .int .u64 x2, .int .u64 x3, .int .i64 P] [.int .u64 s2, .int .u64 v0, .int .u64 v1, .int .u64 v2, .int .u64 v3, .int .i64 p2] [.int .u64 0, .int .u8 0, .bool false]) := ((((((((K0.out.setX 0 _ (by simp)).setX 1 _ (by simp)).setX 2 _ (by simp)).setX 3 _ (by simp)).setX 4 _ (by simp)).setX 5 _ (by simp))).alloc _).later hb2
    clear hb2 z0 z1 xc0 xc1 xc2 xc3 xc4 xc5 xf0 xf1 xf2 xf3 xf4 xf5 rc0 rc1 rc2 rf0 rf1 rf2
    have rc0 := K2.out.r.cells 0 _ rfl
    have rc1 := K2.out.r.cells 1 _ rfl
    have rc2 := K2.out.r.cells 2 _ rfl
    have rf0 := K2.out.r.live 0 _ rfl
    have rf1 := K2.out.r.live 1 _ rfl
    have rf2 := K2.out.r.live 2 _ rfl
    go_wp2_with fail
    go_light
    refine bodyPost_ret (v := .agg #[.int .u64 QB, .int .u8 QF, .bool false]) (results_rs rfl (((K2.out.r.set 0 _ (by simp)).set 1 _ (by simp)).set 2 _ (by simp))) rfl ⟨by rw [HV.out.1, HV.out.2], ?_⟩
    exact ((K2.out.below.setCell (by simp <;> omega) _).setCell (by simp <;> omega) _).setCell (by simp <;> omega) _
end Go.Proofs.YtcjihaafohnbeaaDoor.W4
