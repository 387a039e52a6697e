import Derived.Test.YtcjihaafohnbeaaDoorWB4
import Derived.Test.YtcjihaafohnbeaaDoorWC4
import Derived.Test.YtcjihaafohnbeaaDoorRound0
import Derived.Deep.RegionHeld3
namespace Go.Proofs.YtcjihaafohnbeaaDoor.W4
open Go.RowKit

set_option maxHeartbeats 1000000 in
theorem roundTo_up (s D : Nat) (p u m : Int) (_hs : s < 2) (hD : D < 18446744073709551616 ^ 4) (hp : -10000 ≤ p ∧ p ≤ 10000) (hu : -10000 ≤ u ∧ u ≤ 10000) (hk : u ≤ p)
    (hq : D * 2 ^ (p - u).toNat < 18446744073709551616) (w : World) :
    Calls Tryd.prog 81 #[.agg #[.int .u64 s, .int .u64 (wd D 0), .int .u64 (wd D 1), .int .u64 (wd D 2), .int .u64 (wd D 3), .int .i64 p], .int .i64 u, .int .u8 m] w fun e w' =>
      e = .returned (.tuple #[.int .u64 (cutQ s m D (u - p)), .bool (cutCh D (u - p))]) ∧ Below w.heap.size w w' := by
  have HC : Hid (((cutQ s m D (u - p) : Nat) : Int) = (wd (D * 2 ^ (p - u).toNat) 0 : Nat) ∧ cutCh D (u - p) = false) := by
    constructor
    · unfold wd cutQ
      rw [Nat.pow_zero, Nat.div_one, Nat.mod_eq_of_lt hq, if_pos (by omega), show -(u - p) = p - u by omega]
    · unfold cutCh; rw [if_pos (by omega)]
  obtain ⟨p1, p2⟩ := hp
  obtain ⟨u1, u2⟩ := hu
  clear hq
  have hix : ∀ (a0 a1 a2 a3 : Value) w, (Instr.index 71 (.agg #[a0, a1, a2, a3]) (.int .i64 0)).run Tryd.prog w = .ok a0 w := fun a0 a1 a2 a3 w => by kernel_rfl
  go_enter Tryd.func81, Tryd.ntmps81
  go_wp2_with fail
  refine (left_any D hD (p - u) (by omega) (by omega) _).mono ?_
  rintro e w1 ⟨rfl, hb1⟩
  have HB : Hid (Below w.heap.size w w1) := ((Below.refl _ _).alloc (Nat.le_refl _) _).trans (hb1.mono (by simp))
  clear hb1
  go_wp2_with fail
  go_ret2
  exact ⟨by rw [HC.out.1, HC.out.2]; rfl, HB.out⟩

set_option maxHeartbeats 1000000 in
theorem roundTo_down (s D : Nat) (p u m : Int) (hs : s < 2) (hD : D < 18446744073709551616 ^ 4) (hm : 0 ≤ m ∧ m ≤ 4) (hp : -10000 ≤ p ∧ p ≤ 10000) (hu : -10000 ≤ u ∧ u ≤ 10000) (hk : p < u)
    (hq : D / 2 ^ (u - p).toNat < 4611686018427387904) (w : World) (hT : Tab w) :
    Calls Tryd.prog 81 #[.agg #[.int .u64 s, .int .u64 (wd D 0), .int .u64 (wd D 1), .int .u64 (wd D 2), .int .u64 (wd D 3), .int .i64 p], .int .i64 u, .int .u8 m] w fun e w' =>
      e = .returned (.tuple #[.int .u64 (cutQ s m D (u - p)), .bool (cutCh D (u - p))]) ∧ Below w.heap.size w w' := by
  have HC : Hid (cutQ s m D (u - p) = D / 2 ^ (u - p).toNat + incr (grow m s (restN D (u - p).toNat)) (D / 2 ^ (u - p).toNat) ∧ cutCh D (u - p) = decide (restN D (u - p).toNat ≠ 0)) := by
    constructor
    · unfold cutQ; rw [if_neg (by omega)]
    · unfold cutCh; rw [if_neg (by omega)]
  have c0 : wd (D / 2 ^ (u - p).toNat) 0 = D / 2 ^ (u - p).toNat := by unfold wd; rw [Nat.pow_zero, Nat.div_one, Nat.mod_eq_of_lt (by omega)]
  have HCA : Hid (∀ w, Calls Tryd.prog 84 #[.agg #[.int .u64 (wd D 0), .int .u64 (wd D 1), .int .u64 (wd D 2), .int .u64 (wd D 3)], .int .u64 (u - p)] w fun e w' => e = .returned (.tuple #[.agg #[.int .u64 (D / 2 ^ (u - p).toNat : Nat), .int .u64 (wd (D / 2 ^ (u - p).toNat) 1), .int .u64 (wd (D / 2 ^ (u - p).toNat) 2), .int .u64 (wd (D / 2 ^ (u - p).toNat) 3)], .int .u8 (restN D (u - p).toNat)]) ∧ Below w.heap.size w w') := fun w => by
    have := cut_any D hD (u - p) (by omega) (by omega) w
    rw [c0] at this
    exact this
  clear c0
  generalize wd (D / 2 ^ (u - p).toNat) 1 = Q1 at *
  generalize wd (D / 2 ^ (u - p).toNat) 2 = Q2 at *
  generalize wd (D / 2 ^ (u - p).toNat) 3 = Q3 at *
  have hr := restN_range D (u - p).toNat
  generalize restN D (u - p).toNat = R at *
  generalize D / 2 ^ (u - p).toNat = Q at *
  obtain ⟨p1, p2⟩ := hp
  obtain ⟨u1, u2⟩ := hu
  obtain ⟨m1, m2⟩ := hm
  obtain ⟨r1, r2⟩ := hr
  generalize wd D 0 = x0 at *
  generalize wd D 1 = x1 at *
  generalize wd D 2 = x2 at *
  generalize wd D 3 = x3 at *
  go_enter Tryd.func81, Tryd.ntmps81
  go_wp2_with fail
  refine (HCA.out _).mono ?_
  rintro e w1 ⟨rfl, hb1⟩
  have HB : Hid (Below w.heap.size w w1) := ((Below.refl _ _).alloc (Nat.le_refl _) _).trans (hb1.mono (by simp))
  have s1 := hb1.size
  simp only [World.size_alloc] at s1
  have z1 : w.heap.size < w1.heap.size := by omega
  have x0 : w1.cell? ⟨w.heap.size, 0, none⟩ = some (.int .u64 s) := (hb1.cell (p := ⟨w.heap.size, 0, none⟩) (by simp)).trans (by go_simp)
  have hT1 := hT.later HB.out
  have z2 : 0 < w1.heap.size := by omega
  have g0 : w1.cell? ⟨0, m.toNat * 8 + s * 4 + R.toNat, none⟩ = some (.int .u8 (grow m s R)) := by
    have h := hT1 m.toNat s R.toNat (by omega) hs (by omega)
    rwa [show ((m.toNat : Nat) : Int) = m by omega, show ((R.toNat : Nat) : Int) = R by omega] at h
  have i1 : (s : Int) < 2 := by omega
  have i2 : m < 5 := by omega
  have i3 : R < 4 := by omega
  have hand : bits .and .u64 (Q : Int) 1 = (Q : Int) % 2 := and_low Q 1 (by omega) (by omega) (by omega)
  have q1 : (Q : Int) < 4611686018427387904 := by omega
  have q0 : 0 ≤ (Q : Int) % 2 := by omega
  have q2 : (Q : Int) % 2 ≤ 1 := by omega
  have hg := grow_range m s R
  generalize grow m s R = G at *
  clear hb1 hT hT1 hq hD HCA
  have hcs : G = 0 ∨ G = 1 ∨ G = 2 := by omega
  clear hg
  rcases hcs with rfl | rfl | rfl
  · go_wp2_with fail
    go_quiet (fail)
    go_wp2_with fail
    go_ret2
    exact ⟨by rw [HC.out.1, HC.out.2]; exact ret_kept (by simp [incr]) (bne_dec R), below_drewN (HB.out.alloc (by omega) _) _⟩
  · rcases (show (Q : Int) % 2 = 0 ∨ (Q : Int) % 2 = 1 by omega) with hpar | hpar
    · rw [hpar] at hand
      have HP : Hid (Q % 2 = 0) := (by omega : Q % 2 = 0)
      clear hpar q0 q2
      go_wp2_with fail
      go_quiet (fail)
      go_wp2_with fail
      go_ret2
      exact ⟨by rw [HC.out.1, HC.out.2]; exact ret_kept (by simp [incr, HP.out]) (bne_dec R), below_drewN (HB.out.alloc (by omega) _) _⟩
    · rw [hpar] at hand
      have HP : Hid (Q % 2 = 1) := (by omega : Q % 2 = 1)
      clear hpar q0 q2
      go_wp2_with fail
      go_quiet (fail)
      go_wp2_with fail
      go_ret2
      exact ⟨by rw [HC.out.1, HC.out.2]; exact ret_kept (by simp [incr, HP.out]) (bne_dec R), below_drewN (HB.out.alloc (by omega) _) _⟩
  · go_wp2_with fail
    go_quiet (fail)
    go_wp2_with fail
    go_ret2
    exact ⟨by rw [HC.out.1, HC.out.2]; exact ret_kept (by simp [incr]) (bne_dec R), below_drewN (HB.out.alloc (by omega) _) _⟩
theorem roundTo_any (s D : Nat) (p u m : Int) (hs : s < 2) (hD : D < 18446744073709551616 ^ 4) (hm : 0 ≤ m ∧ m ≤ 4) (hp : -10000 ≤ p ∧ p ≤ 10000) (hu : -10000 ≤ u ∧ u ≤ 10000)
    (hq1 : u ≤ p → D * 2 ^ (p - u).toNat < 18446744073709551616) (hq2 : p < u → D / 2 ^ (u - p).toNat < 4611686018427387904) (w : World) (hT : Tab w) :
    Calls Tryd.prog 81 #[.agg #[.int .u64 s, .int .u64 (wd D 0), .int .u64 (wd D 1), .int .u64 (wd D 2), .int .u64 (wd D 3), .int .i64 p], .int .i64 u, .int .u8 m] w fun e w' =>
      e = .returned (.tuple #[.int .u64 (cutQ s m D (u - p)), .bool (cutCh D (u - p))]) ∧ Below w.heap.size w w' := by
  by_cases h : u ≤ p
  · exact roundTo_up s D p u m hs hD hp hu h (hq1 h) w
  · exact roundTo_down s D p u m hs hD hm hp hu (by omega) (hq2 (by omega)) w hT

set_option maxHeartbeats 4000000 in
theorem round_any (s D : Nat) (p m : Int) (hs : s < 2) (hD : D < 18446744073709551616 ^ 4) (hm : 0 ≤ m ∧ m ≤ 4) (hp : -5000 ≤ p ∧ p ≤ 5000) (w : World) (hT : Tab w) :
    Calls Tryd.prog 57 #[.agg #[.int .u64 s, .int .u64 (wd D 0), .int .u64 (wd D 1), .int .u64 (wd D 2), .int .u64 (wd D 3), .int .i64 p], .int .u8 m] w fun e w' =>
      e = .returned (.agg #[.int .u64 (roundB s D p m), .int .u8 (roundF s D p m), .bool false]) ∧ Below w.heap.size w w' := by
  have hL : Go.bitLen D ≤ 256 := bitLen_le hD
  have HRT : Hid (∀ k : Int, (Go.bitLen D : Int) - 53 ≤ k → -6000 ≤ p + k → p + k ≤ 8000 → ∀ w1, Below w.heap.size w w1 → Calls Tryd.prog 81 #[.agg #[.int .u64 s, .int .u64 (wd D 0), .int .u64 (wd D 1), .int .u64 (wd D 2), .int .u64 (wd D 3), .int .i64 p], .int .i64 (p + k), .int .u8 m] w1 fun e w' =>
      e = .returned (.tuple #[.int .u64 (cutQ s m D k), .bool (cutCh D k)]) ∧ Below w1.heap.size w1 w') := by
    intro k hk k1 k2 w1 hb
    have := roundTo_any s D p (p + k) m hs hD hm (by omega) (by omega) (fun h => ?_) (fun h => ?_) w1 (hT.later hb)
    · rw [show p + k - p = k by omega] at this
      exact this
    · have := cut_up hk (by omega)
      rw [show (p - (p + k)) = -k by omega]; omega
    · have := cut_down hk (by omega)
      rw [show (p + k - p) = k by omega]; omega
  have HQ : Hid (cutQ s m D (Go.bitLen D - 53) ≤ 9007199254740992) := cutQ_le s m (Int.le_refl _)
  have HQ2 : Hid ((Go.bitLen D : Int) - 53 ≤ -1074 - p → cutQ s m D (-1074 - p) ≤ 9007199254740992) := fun h => cutQ_le s m h
  have HLen : Hid (∀ w, Calls Tryd.prog 80 #[.agg #[.int .u64 (wd D 0), .int .u64 (wd D 1), .int .u64 (wd D 2), .int .u64 (wd D 3)]] w fun e w' => e = .returned (.int .i64 (Go.bitLen D)) ∧ w' = w.alloc (.cells #[.int .u64 (wd D 0), .int .u64 (wd D 1), .int .u64 (wd D 2), .int .u64 (wd D 3)] 71)) := fun w => length_any D hD w
  generalize wd D 0 = x0 at *
  generalize wd D 1 = x1 at *
  generalize wd D 2 = x2 at *
  generalize wd D 3 = x3 at *
  clear hD
  obtain ⟨p1, p2⟩ := hp
  go_enter Tryd.func57, Tryd.ntmps57
  go_wp2_with fail
  go_region_held3 (fun w' => w'.cell? ⟨w.heap.size, 0, none⟩ = some (.int .u64 s) ∧ w'.cell? ⟨w.heap.size, 1, none⟩ = some (.int .u64 x0) ∧ w'.cell? ⟨w.heap.size, 2, none⟩ = some (.int .u64 x1) ∧ w'.cell? ⟨w.heap.size, 3, none⟩ = some (.int .u64 x2) ∧ w'.cell? ⟨w.heap.size, 4, none⟩ = some (.int .u64 x3) ∧ w'.cell? ⟨w.heap.size, 5, none⟩ = some (.int .i64 p)) (go_keep) ((go_at_call 80; refine (HLen.out _).mono ?_; rintro e w' ⟨rfl, rfl⟩))
  go_wp2_with fail
  rw [show p + (Go.bitLen D : Int) - 53 = p + ((Go.bitLen D : Int) - 53) by omega]
  refine (HRT.out _ (Int.le_refl _) (by omega) (by omega) _ ?_).mono ?_
  · exact (((((Below.refl _ _).alloc (Nat.le_refl _) _).alloc (by simp) _).alloc (by simp; omega) _).drew)
  rintro e w1 ⟨rfl, hb1⟩
  have HX1 : Hid (Boxed w w1 [.int .u64 s, .int .u64 x0, .int .u64 x1, .int .u64 x2, .int .u64 x3, .int .i64 p]) := ((Boxed.start w _ _ _ (by simp)).later ((((Below.refl _ _).alloc (Nat.le_refl _) _).drew).trans ⟨hb1.os, hb1.tape, hb1.output, hb1.size, fun k hk => hb1.block k (by simp at hk ⊢; omega)⟩))
  have w5 : IntKind.i64.wrap (IntKind.i64.wrap (p + (Go.bitLen D : Int)) - 53) = p + (Go.bitLen D : Int) - 53 := by rw [wrapI (p + (Go.bitLen D : Int)) (by omega) (by omega), wrapI _ (by omega) (by omega)]
  clear hb1
  have HS : Hid ((s : Int) = 0 ∨ (s : Int) = 1) := (by omega : (s : Int) = 0 ∨ (s : Int) = 1)
  have HTG : Hid (∀ w1, Below w.heap.size w w1 → Calls Tryd.prog 53 #[.int .u64 s, .int .u8 m] w1 fun e w' => e = .returned (.agg #[.int .u64 (overB s m), .int .u8 5, .bool false]) ∧ Below w1.heap.size w1 w') := fun w1 hb => tooGreat_any s m hs hm w1 (hT.later hb)
  have hq := HQ.out
  have hu1 : -6000 ≤ p + (Go.bitLen D : Int) - 53 := by omega
  have hu2 : p + (Go.bitLen D : Int) - 53 ≤ 5300 := by omega
  have c0 := HX1.out.c.cells 0 _ rfl
  have c1 := HX1.out.c.cells 1 _ rfl
  have c2 := HX1.out.c.cells 2 _ rfl
  have c3 := HX1.out.c.cells 3 _ rfl
  have c4 := HX1.out.c.cells 4 _ rfl
  have c5 := HX1.out.c.cells 5 _ rfl
  have r0 := HX1.out.r.cells 0 _ rfl
  have r1 := HX1.out.r.cells 1 _ rfl
  have r2 := HX1.out.r.cells 2 _ rfl
  have f0 := HX1.out.r.live 0 _ rfl
  have f1 := HX1.out.r.live 1 _ rfl
  have f2 := HX1.out.r.live 2 _ rfl
  have z1 := HX1.out.size
  have z0 : w.heap.size < w1.heap.size := by omega
  clear hT hm HLen
  by_cases hy : cutQ s m D (Go.bitLen D - 53) = 9007199254740992
  · have hyb : ((cutQ s m D (Go.bitLen D - 53) : Int) == 9007199254740992) = true := by simp [hy]
    by_cases ho : 971 < p + (Go.bitLen D : Int) - 53 + 1
    · have HRB := round_carry_over hy ho
      have HRB : Hid (roundB s D p m = overB s m ∧ roundF s D p m = 5) := HRB
      go_wp2_with fail
      refine (HTG.out _ HX1.out.below).mono ?_
      rintro e w2 ⟨rfl, hb2⟩
      have HX2 : Hid (Boxed w w2 [.int .u64 s, .int .u64 x0, .int .u64 x1, .int .u64 x2, .int .u64 x3, .int .i64 p]) := HX1.out.later hb2
      clear hb2 c0 c1 c2 c3 c4 c5 r0 r1 r2 f0 f1 f2 z1 z0
      have c0 := HX2.out.c.cells 0 _ rfl
      have c1 := HX2.out.c.cells 1 _ rfl
      have c2 := HX2.out.c.cells 2 _ rfl
      have c3 := HX2.out.c.cells 3 _ rfl
      have c4 := HX2.out.c.cells 4 _ rfl
      have c5 := HX2.out.c.cells 5 _ rfl
      have r0 := HX2.out.r.cells 0 _ rfl
      have r1 := HX2.out.r.cells 1 _ rfl
      have r2 := HX2.out.r.cells 2 _ rfl
      have f0 := HX2.out.r.live 0 _ rfl
      have f1 := HX2.out.r.live 1 _ rfl
      have f2 := HX2.out.r.live 2 _ rfl
      have z1 := HX2.out.size
      have z0 : w.heap.size < w2.heap.size := by omega
      go_wp2_with fail
      refine bodyPost_ret (v := .agg #[.int .u64 (overB s m), .int .u8 5, .bool false]) (by simp [results, Tryd.results57, go_sem, *]) rfl ⟨by rw [HRB.out.1, HRB.out.2], ?_⟩
      exact ((HX2.out.below.setCell (by simp) _).setCell (by simp) _).setCell (by simp) _
    · by_cases ht : p + (Go.bitLen D : Int) - 53 + 1 < -1074
      · have HR0 : Hid (roundB s D p m = s * 9223372036854775808 + cutQ s m D (-1074 - p) ∧ roundF s D p m = (if cutCh D (-1074 - p) then 3 else 0)) := round_carry_tiny hy ht
        have hq2 := HQ2.out (by omega)
        go_wp2_with fail
        have hrt := HRT.out (-1074 - p) (by omega) (by omega) (by omega) _ HX1.out.below
        rw [show p + (-1074 - p) = -1074 by omega] at hrt
        refine hrt.mono ?_
        rintro e w2 ⟨rfl, hb2⟩
        have HX2 : Hid (Boxed w w2 [.int .u64 s, .int .u64 x0, .int .u64 x1, .int .u64 x2, .int .u64 x3, .int .i64 p]) := HX1.out.later hb2
        clear hrt hb2 c0 c1 c2 c3 c4 c5 r0 r1 r2 f0 f1 f2 z1 z0
        have c0 := HX2.out.c.cells 0 _ rfl
        have c1 := HX2.out.c.cells 1 _ rfl
        have c2 := HX2.out.c.cells 2 _ rfl
        have c3 := HX2.out.c.cells 3 _ rfl
        have c4 := HX2.out.c.cells 4 _ rfl
        have c5 := HX2.out.c.cells 5 _ rfl
        have r0 := HX2.out.r.cells 0 _ rfl
        have r1 := HX2.out.r.cells 1 _ rfl
        have r2 := HX2.out.r.cells 2 _ rfl
        have f0 := HX2.out.r.live 0 _ rfl
        have f1 := HX2.out.r.live 1 _ rfl
        have f2 := HX2.out.r.live 2 _ rfl
        have z1 := HX2.out.size
        have z0 : w.heap.size < w2.heap.size := by omega
        rcases Bool.eq_false_or_eq_true (cutCh D (-1074 - p)) with hch | hch
        · have HRB : Hid (roundB s D p m = s * 9223372036854775808 + cutQ s m D (-1074 - p) ∧ roundF s D p m = 3) := ⟨HR0.out.1, by rw [HR0.out.2, hch]; rfl⟩
          generalize cutCh D (-1074 - p) = ch at *
          subst hch
          go_wp2_with (go_at_call 40; refine (signed_any _ _ HS.out (by omega) _).mono ?_; rintro e w' ⟨rfl, rfl⟩)
          refine bodyPost_ret (v := .agg #[.int .u64 (s * 9223372036854775808 + cutQ s m D (-1074 - p)), .int .u8 3, .bool false]) (by simp [results, Tryd.results57, go_sem, *]) rfl ⟨by rw [HRB.out.1, HRB.out.2], ?_⟩
          exact (((HX2.out.below.setCell (by simp) _).setCell (by simp) _).setCell (by simp) _).alloc (by simp; omega) _
        · have HRB : Hid (roundB s D p m = s * 9223372036854775808 + cutQ s m D (-1074 - p) ∧ roundF s D p m = 0) := ⟨HR0.out.1, by rw [HR0.out.2, hch]; rfl⟩
          generalize cutCh D (-1074 - p) = ch at *
          subst hch
          go_wp2_with (go_at_call 40; refine (signed_any _ _ HS.out (by omega) _).mono ?_; rintro e w' ⟨rfl, rfl⟩)
          refine bodyPost_ret (v := .agg #[.int .u64 (s * 9223372036854775808 + cutQ s m D (-1074 - p)), .int .u8 0, .bool false]) (by simp [results, Tryd.results57, go_sem, *]) rfl ⟨by rw [HRB.out.1, HRB.out.2], ?_⟩
          exact (((HX2.out.below.setCell (by simp) _).setCell (by simp) _).setCell (by simp) _).alloc (by simp; omega) _
      · have HR0 : Hid (roundB s D p m = s * 9223372036854775808 + ((p + Go.bitLen D - 53 + 1 + 1074) * 4503599627370496 + 4503599627370496) ∧ roundF s D p m = (if cutCh D (Go.bitLen D - 53) then 1 else 0)) := round_carry hy (by omega) (by omega)
        rcases Bool.eq_false_or_eq_true (cutCh D (Go.bitLen D - 53)) with hch | hch
        · have HRB : Hid (roundB s D p m = s * 9223372036854775808 + ((p + Go.bitLen D - 53 + 1 + 1074) * 4503599627370496 + 4503599627370496) ∧ roundF s D p m = 1) := ⟨HR0.out.1, by rw [HR0.out.2, hch]; rfl⟩
          generalize cutCh D (Go.bitLen D - 53) = ch at *
          subst hch
          go_wp2_with (go_at_call 40; refine (signed_any _ _ HS.out (by omega) _).mono ?_; rintro e w' ⟨rfl, rfl⟩)
          refine bodyPost_ret (v := .agg #[.int .u64 (s * 9223372036854775808 + ((p + Go.bitLen D - 53 + 1 + 1074) * 4503599627370496 + 4503599627370496)), .int .u8 1, .bool false]) (by simp [results, Tryd.results57, go_sem, *]) rfl ⟨by rw [HRB.out.1, HRB.out.2], ?_⟩
          exact (((HX1.out.below.setCell (by simp) _).setCell (by simp) _).setCell (by simp) _).alloc (by simp; omega) _
        · have HRB : Hid (roundB s D p m = s * 9223372036854775808 + ((p + Go.bitLen D - 53 + 1 + 1074) * 4503599627370496 + 4503599627370496) ∧ roundF s D p m = 0) := ⟨HR0.out.1, by rw [HR0.out.2, hch]; rfl⟩
          generalize cutCh D (Go.bitLen D - 53) = ch at *
          subst hch
          go_wp2_with (go_at_call 40; refine (signed_any _ _ HS.out (by omega) _).mono ?_; rintro e w' ⟨rfl, rfl⟩)
          refine bodyPost_ret (v := .agg #[.int .u64 (s * 9223372036854775808 + ((p + Go.bitLen D - 53 + 1 + 1074) * 4503599627370496 + 4503599627370496)), .int .u8 0, .bool false]) (by simp [results, Tryd.results57, go_sem, *]) rfl ⟨by rw [HRB.out.1, HRB.out.2], ?_⟩
          exact (((HX1.out.below.setCell (by simp) _).setCell (by simp) _).setCell (by simp) _).alloc (by simp; omega) _
  · have hyb : ((cutQ s m D (Go.bitLen D - 53) : Int) == 9007199254740992) = false := by simp; omega
    by_cases ho : 971 < p + (Go.bitLen D : Int) - 53
    · have HRB := round_over hy ho
      have HRB : Hid (roundB s D p m = overB s m ∧ roundF s D p m = 5) := HRB
      go_wp2_with fail
      refine (HTG.out _ HX1.out.below).mono ?_
      rintro e w2 ⟨rfl, hb2⟩
      have HX2 : Hid (Boxed w w2 [.int .u64 s, .int .u64 x0, .int .u64 x1, .int .u64 x2, .int .u64 x3, .int .i64 p]) := HX1.out.later hb2
      clear hb2 c0 c1 c2 c3 c4 c5 r0 r1 r2 f0 f1 f2 z1 z0
      have c0 := HX2.out.c.cells 0 _ rfl
      have c1 := HX2.out.c.cells 1 _ rfl
      have c2 := HX2.out.c.cells 2 _ rfl
      have c3 := HX2.out.c.cells 3 _ rfl
      have c4 := HX2.out.c.cells 4 _ rfl
      have c5 := HX2.out.c.cells 5 _ rfl
      have r0 := HX2.out.r.cells 0 _ rfl
      have r1 := HX2.out.r.cells 1 _ rfl
      have r2 := HX2.out.r.cells 2 _ rfl
      have f0 := HX2.out.r.live 0 _ rfl
      have f1 := HX2.out.r.live 1 _ rfl
      have f2 := HX2.out.r.live 2 _ rfl
      have z1 := HX2.out.size
      have z0 : w.heap.size < w2.heap.size := by omega
      go_wp2_with fail
      refine bodyPost_ret (v := .agg #[.int .u64 (overB s m), .int .u8 5, .bool false]) (by simp [results, Tryd.results57, go_sem, *]) rfl ⟨by rw [HRB.out.1, HRB.out.2], ?_⟩
      exact ((HX2.out.below.setCell (by simp) _).setCell (by simp) _).setCell (by simp) _
    · by_cases ht : p + (Go.bitLen D : Int) - 53 < -1074
      · have HR0 : Hid (roundB s D p m = s * 9223372036854775808 + cutQ s m D (-1074 - p) ∧ roundF s D p m = (if cutCh D (-1074 - p) then 3 else 0)) := round_tiny hy ht
        have hq2 := HQ2.out (by omega)
        go_wp2_with fail
        have hrt := HRT.out (-1074 - p) (by omega) (by omega) (by omega) _ HX1.out.below
        rw [show p + (-1074 - p) = -1074 by omega] at hrt
        refine hrt.mono ?_
        rintro e w2 ⟨rfl, hb2⟩
        have HX2 : Hid (Boxed w w2 [.int .u64 s, .int .u64 x0, .int .u64 x1, .int .u64 x2, .int .u64 x3, .int .i64 p]) := HX1.out.later hb2
        clear hrt hb2 c0 c1 c2 c3 c4 c5 r0 r1 r2 f0 f1 f2 z1 z0
        have c0 := HX2.out.c.cells 0 _ rfl
        have c1 := HX2.out.c.cells 1 _ rfl
        have c2 := HX2.out.c.cells 2 _ rfl
        have c3 := HX2.out.c.cells 3 _ rfl
        have c4 := HX2.out.c.cells 4 _ rfl
        have c5 := HX2.out.c.cells 5 _ rfl
        have r0 := HX2.out.r.cells 0 _ rfl
        have r1 := HX2.out.r.cells 1 _ rfl
        have r2 := HX2.out.r.cells 2 _ rfl
        have f0 := HX2.out.r.live 0 _ rfl
        have f1 := HX2.out.r.live 1 _ rfl
        have f2 := HX2.out.r.live 2 _ rfl
        have z1 := HX2.out.size
        have z0 : w.heap.size < w2.heap.size := by omega
        rcases Bool.eq_false_or_eq_true (cutCh D (-1074 - p)) with hch | hch
        · have HRB : Hid (roundB s D p m = s * 9223372036854775808 + cutQ s m D (-1074 - p) ∧ roundF s D p m = 3) := ⟨HR0.out.1, by rw [HR0.out.2, hch]; rfl⟩
          generalize cutCh D (-1074 - p) = ch at *
          subst hch
          go_wp2_with (go_at_call 40; refine (signed_any _ _ HS.out (by omega) _).mono ?_; rintro e w' ⟨rfl, rfl⟩)
          refine bodyPost_ret (v := .agg #[.int .u64 (s * 9223372036854775808 + cutQ s m D (-1074 - p)), .int .u8 3, .bool false]) (by simp [results, Tryd.results57, go_sem, *]) rfl ⟨by rw [HRB.out.1, HRB.out.2], ?_⟩
          exact (((HX2.out.below.setCell (by simp) _).setCell (by simp) _).setCell (by simp) _).alloc (by simp; omega) _
        · have HRB : Hid (roundB s D p m = s * 9223372036854775808 + cutQ s m D (-1074 - p) ∧ roundF s D p m = 0) := ⟨HR0.out.1, by rw [HR0.out.2, hch]; rfl⟩
          generalize cutCh D (-1074 - p) = ch at *
          subst hch
          go_wp2_with (go_at_call 40; refine (signed_any _ _ HS.out (by omega) _).mono ?_; rintro e w' ⟨rfl, rfl⟩)
          refine bodyPost_ret (v := .agg #[.int .u64 (s * 9223372036854775808 + cutQ s m D (-1074 - p)), .int .u8 0, .bool false]) (by simp [results, Tryd.results57, go_sem, *]) rfl ⟨by rw [HRB.out.1, HRB.out.2], ?_⟩
          exact (((HX2.out.below.setCell (by simp) _).setCell (by simp) _).setCell (by simp) _).alloc (by simp; omega) _
      · have HR0 : Hid (roundB s D p m = s * 9223372036854775808 + ((p + Go.bitLen D - 53 + 1074) * 4503599627370496 + cutQ s m D (Go.bitLen D - 53)) ∧ roundF s D p m = (if cutCh D (Go.bitLen D - 53) then 1 else 0)) := round_plain hy (by omega) (by omega)
        rcases Bool.eq_false_or_eq_true (cutCh D (Go.bitLen D - 53)) with hch | hch
        · have HRB : Hid (roundB s D p m = s * 9223372036854775808 + ((p + Go.bitLen D - 53 + 1074) * 4503599627370496 + cutQ s m D (Go.bitLen D - 53)) ∧ roundF s D p m = 1) := ⟨HR0.out.1, by rw [HR0.out.2, hch]; rfl⟩
          generalize cutCh D (Go.bitLen D - 53) = ch at *
          subst hch
          go_wp2_with (go_at_call 40; refine (signed_any _ _ HS.out (by omega) _).mono ?_; rintro e w' ⟨rfl, rfl⟩)
          refine bodyPost_ret (v := .agg #[.int .u64 (s * 9223372036854775808 + ((p + Go.bitLen D - 53 + 1074) * 4503599627370496 + cutQ s m D (Go.bitLen D - 53))), .int .u8 1, .bool false]) (by simp [results, Tryd.results57, go_sem, *]) rfl ⟨by rw [HRB.out.1, HRB.out.2], ?_⟩
          exact (((HX1.out.below.setCell (by simp) _).setCell (by simp) _).setCell (by simp) _).alloc (by simp; omega) _
        · have HRB : Hid (roundB s D p m = s * 9223372036854775808 + ((p + Go.bitLen D - 53 + 1074) * 4503599627370496 + cutQ s m D (Go.bitLen D - 53)) ∧ roundF s D p m = 0) := ⟨HR0.out.1, by rw [HR0.out.2, hch]; rfl⟩
          generalize cutCh D (Go.bitLen D - 53) = ch at *
          subst hch
          go_wp2_with (go_at_call 40; refine (signed_any _ _ HS.out (by omega) _).mono ?_; rintro e w' ⟨rfl, rfl⟩)
          refine bodyPost_ret (v := .agg #[.int .u64 (s * 9223372036854775808 + ((p + Go.bitLen D - 53 + 1074) * 4503599627370496 + cutQ s m D (Go.bitLen D - 53))), .int .u8 0, .bool false]) (by simp [results, Tryd.results57, go_sem, *]) rfl ⟨by rw [HRB.out.1, HRB.out.2], ?_⟩
          exact (((HX1.out.below.setCell (by simp) _).setCell (by simp) _).setCell (by simp) _).alloc (by simp; omega) _
end Go.Proofs.YtcjihaafohnbeaaDoor.W4
