import Derived.Test.YtcjihaafohnbeaaDoorRd3
import Derived.Test.YtcjihaafohnbeaaDoorOdB
namespace Go.Proofs.YtcjihaafohnbeaaDoor
open Go.RowKit

theorem two_shift (N i : Nat) : 2 * (N * 2 ^ i) = N * 2 ^ (i + 1) := by rw [Nat.pow_succ, Nat.mul_comm 2, Nat.mul_assoc]
/-- A whole number's bits. -/
def wholeB (s : Int) (N : Nat) : Int := roundB s N 0 0
theorem whole_round {s m : Int} {N : Nat} (hN : N < 9007199254740992) (h0 : N ≠ 0) :
    roundB s N 0 m = s * 9223372036854775808 + (((Go.bitLen N : Int) + 1021) * 4503599627370496 + (N * 2 ^ (53 - Go.bitLen N) : Nat)) ∧ roundF s N 0 m = 0 := by
  have hb := bitLen_le (n := 53) hN
  have hp := bl_pos h0
  have hk : (Go.bitLen N : Int) - 53 ≤ 0 := by omega
  have hc : cutQ s m N ((Go.bitLen N : Int) - 53) = N * 2 ^ (53 - Go.bitLen N) := by
    unfold cutQ
    rw [if_pos hk, show (-((Go.bitLen N : Int) - 53)).toNat = 53 - Go.bitLen N by omega]
  have hl := cut_up (D := N) (k := (Go.bitLen N : Int) - 53) (Int.le_refl _) hk
  rw [show (-((Go.bitLen N : Int) - 53)).toNat = 53 - Go.bitLen N by omega] at hl
  have hr := round_plain (s := s) (m := m) (D := N) (p := 0) (by rw [hc]; omega) (by omega) (by omega)
  rw [hr.1, hr.2, hc]
  refine ⟨by omega, ?_⟩
  unfold cutCh
  rw [if_pos hk]
  rfl
/-- A number that is N, by whatever digits. -/
theorem same_whole {s m : Int} {N t D : Nat} {p : Int} (hN : N < 9007199254740992) (h0 : N ≠ 0) (hD : D = N * 2 ^ t) (hp : p = -(t : Int)) : roundB s D p m = wholeB s N ∧ roundF s D p m = 0 := by
  subst hD hp
  obtain ⟨e1, e2⟩ := round_scale (s := s) (m := m) (p := -(t : Int)) t h0
  rw [show -(t : Int) + t = 0 by omega] at e1 e2
  obtain ⟨f1, f2⟩ := whole_round (s := s) (m := m) hN h0
  obtain ⟨g1, _⟩ := whole_round (s := s) (m := 0) hN h0
  unfold wholeB
  rw [e1, e2, f1, f2, g1]
  exact ⟨rfl, rfl⟩
theorem top_bits {N : Nat} (hN : N < 9007199254740992) (h0 : N ≠ 0) : 4503599627370496 ≤ N * 2 ^ (53 - Go.bitLen N) ∧ N * 2 ^ (53 - Go.bitLen N) < 9007199254740992 := by
  have hb := bitLen_le (n := 53) hN
  have hp := bl_pos h0
  have g := Go.bitLen_spec N
  constructor
  · have h1 := Nat.mul_le_mul_right (2 ^ (53 - Go.bitLen N)) (g.2 h0)
    rw [← Nat.pow_add, show Go.bitLen N - 1 + (53 - Go.bitLen N) = 52 by omega] at h1
    exact h1
  · have h1 := Nat.mul_lt_mul_of_pos_right g.1 (Nat.two_pow_pos (53 - Go.bitLen N))
    rw [← Nat.pow_add, show Go.bitLen N + (53 - Go.bitLen N) = 53 by omega] at h1
    exact h1
/-- The parts of a whole number's bits. -/
structure Whole (x s N t : Nat) : Prop where
  lt : x < 18446744073709551616
  sg : sgn x = s
  mt : mant x = N * 2 ^ t
  pw : pow x = -(t : Int)
  kd : kind x = 2
  bits : (x : Int) = wholeB s N
theorem whole_parts {s N : Nat} (hs : s < 2) (hN : N < 9007199254740992) (h0 : N ≠ 0) : ∃ x : Nat, Whole x s N (53 - Go.bitLen N) := by
  have hb := bitLen_le (n := 53) hN
  have hp := bl_pos h0
  obtain ⟨t1, t2⟩ := top_bits hN h0
  obtain ⟨f1, _⟩ := whole_round (s := (s : Nat)) (m := 0) hN h0
  generalize hM : N * 2 ^ (53 - Go.bitLen N) = M at *
  refine ⟨s * 9223372036854775808 + ((Go.bitLen N + 1021) * 4503599627370496 + M), ?_, ?_, ?_, ?_, ?_, ?_⟩
  · omega
  · unfold sgn; omega
  · unfold mant; rw [if_neg (by omega), hM]; omega
  · unfold pow; rw [if_neg (by omega)]; omega
  · unfold kind kindB; rw [if_neg (by omega), if_neg (by omega), if_pos (by omega)]
  · unfold wholeB; rw [f1]; omega
theorem xs_of {x y s1 s2 N1 N2 t1 t2 : Nat} (h1 : Whole x s1 N1 t1) (h2 : Whole y s2 N2 t2) : xs x y = (s1 + s2) % 2 := by unfold xs; rw [h1.sg, h2.sg]

theorem kn_mul {x y s1 s2 N1 N2 t1 t2 : Nat} {m : Int} (h1 : Whole x s1 N1 t1) (h2 : Whole y s2 N2 t2) (n1 : N1 ≠ 0) (n2 : N2 ≠ 0) (hN : N1 * N2 < 9007199254740992) : prodB x y m = wholeB ((s1 + s2) % 2 : Nat) (N1 * N2) ∧ prodF x y m = 0 := by
  have k1 := h1.kd
  have k2 := h2.kd
  unfold prodB prodF
  rw [if_neg (by omega), if_neg (by omega), if_neg (by omega), if_neg (by omega), if_neg (by omega), if_neg (by omega), xs_of h1 h2]
  exact same_whole (t := t1 + t2) hN (fun e => by rcases Nat.mul_eq_zero.1 e with g | g; exact n1 g; exact n2 g) (by rw [h1.mt, h2.mt, Nat.pow_add, Nat.mul_mul_mul_comm]) (by rw [h1.pw, h2.pw]; omega)
theorem kn_div {x y s1 s2 N1 N2 t1 t2 : Nat} {m : Int} (h1 : Whole x s1 (N1 * N2) t1) (h2 : Whole y s2 N2 t2) (n1 : N1 ≠ 0) (n2 : N2 ≠ 0) (l2 : t2 ≤ 53) (hN : N1 < 9007199254740992) : divB x y m = wholeB ((s1 + s2) % 2 : Nat) N1 ∧ divF x y m = 0 := by
  have k1 := h1.kd
  have k2 := h2.kd
  unfold divB divF
  rw [if_neg (by omega), if_neg (by omega), if_neg (by omega), if_neg (by omega), if_neg (by omega), if_neg (by omega), if_neg (by omega), if_neg (by omega), xs_of h1 h2]
  have e : mant x * 2 ^ 120 = N1 * 2 ^ (t1 + 120 - t2) * mant y := by
    rw [h1.mt, h2.mt, Nat.mul_assoc, ← Nat.pow_add, Nat.mul_mul_mul_comm, ← Nat.pow_add, show t1 + 120 - t2 + t2 = t1 + 120 by omega]
  have hp : 0 < mant y := by rw [h2.mt]; exact Nat.mul_pos (Nat.pos_of_ne_zero n2) (Nat.two_pow_pos _)
  have q : quD (mant x) (mant y) = N1 * 2 ^ (t1 + 121 - t2) := by
    have q1 : mant x * 2 ^ 120 / mant y = N1 * 2 ^ (t1 + 120 - t2) := by rw [e, Nat.mul_div_cancel _ hp]
    have q2 : mant x * 2 ^ 120 % mant y = 0 := by rw [e]; exact Nat.mul_mod_left _ _
    unfold quD
    rw [q1, q2]
    show 2 * (N1 * 2 ^ (t1 + 120 - t2)) = _
    rw [show t1 + 121 - t2 = (t1 + 120 - t2) + 1 by omega]
    exact two_shift _ _
  exact same_whole (t := t1 + 121 - t2) hN n1 q (by rw [h1.pw, h2.pw]; omega)
theorem kn_sq {x N t : Nat} {m : Int} (h1 : Whole x 0 (N * N) t) (n1 : N ≠ 0) (hN : N < 9007199254740992) : sqB x m = wholeB 0 N ∧ sqF x m = 0 := by
  have k1 := h1.kd
  have hs := h1.sg
  unfold sqB sqF
  rw [if_neg (by omega), if_neg (by omega), if_neg (by omega), if_neg (by omega), if_neg (by omega), if_neg (by omega)]
  have hK : ∃ i : Nat, t + sqK (pow x) = 2 * i := by
    have hp := h1.pw
    unfold sqK
    split
    · exact ⟨(t + 130) / 2, by omega⟩
    · exact ⟨(t + 131) / 2, by omega⟩
  obtain ⟨i, hi⟩ := hK
  have hA : sqA (mant x) (pow x) = N * 2 ^ i * (N * 2 ^ i) := by
    unfold sqA
    rw [h1.mt, Nat.mul_assoc, ← Nat.pow_add, hi, sq_shift]
  have hD : sqD (mant x) (pow x) = N * 2 ^ (i + 1) := by
    unfold sqD
    rw [hA, sqR_sq, decide_eq_true rfl]
    show 2 * (N * 2 ^ i) = _
    exact two_shift _ _
  exact same_whole (t := i + 1) hN n1 hD (by unfold sqP; rw [h1.pw]; rw [h1.pw] at hi; omega)
theorem kn_cb {x s N t : Nat} {m : Int} (h1 : Whole x s (N * (N * N)) t) (n1 : N ≠ 0) (hN : N < 9007199254740992) : cbB x m = wholeB s N ∧ cbF x m = 0 := by
  have k1 := h1.kd
  unfold cbB cbF
  rw [if_neg (by omega), if_neg (by omega), h1.sg]
  have hK : ∃ i : Nat, t + cbK (pow x) = 3 * i := by
    have hp := h1.pw
    have := cbJ_dvd (pow x)
    unfold cbK
    exact ⟨(t + (190 + cbJ (pow x))) / 3, by omega⟩
  obtain ⟨i, hi⟩ := hK
  have hA : cbA (mant x) (pow x) = N * 2 ^ i * (N * 2 ^ i * (N * 2 ^ i)) := by
    unfold cbA
    rw [h1.mt, Nat.mul_assoc, ← Nat.pow_add, hi, cb_shift]
  have hD : cbD (mant x) (pow x) = N * 2 ^ (i + 1) := by
    unfold cbD
    rw [hA, cbR_cb, decide_eq_true rfl]
    show 2 * (N * 2 ^ i) = _
    exact two_shift _ _
  exact same_whole (t := i + 1) hN n1 hD (by unfold cbP; rw [h1.pw]; rw [h1.pw] at hi; omega)
theorem al_whole {N1 t1 t2 : Nat} {d : Nat} {p q : Int} (hd : d = N1 * 2 ^ t1) (hp : p = -(t1 : Int)) (hq : q = -(t2 : Int)) : alN d p q = N1 * 2 ^ max t1 t2 := by
  unfold alN
  rw [hd, Nat.mul_assoc, ← Nat.pow_add]
  congr 2
  omega
theorem kn_sd {x y s1 s2 N1 N2 N t1 t2 : Nat} {m : Int} (h1 : Whole x s1 N1 t1) (h2 : Whole y s2 N2 t2) (n1 : N ≠ 0) (hN : N < 9007199254740992) (he : N1 * N1 + N2 * N2 = N * N) : sdB x y m = wholeB 0 N ∧ sdF x y m = 0 := by
  have k1 := h1.kd
  have k2 := h2.kd
  unfold sdB sdF
  rw [if_neg (by omega), if_neg (by omega), if_neg (by omega), if_neg (by omega)]
  have hP : ssP x y = -((max (t1 + t1) (t2 + t2) : Nat) : Int) := by unfold ssP; rw [h1.pw, h2.pw]; omega
  have hS : ssD x y = N * N * 2 ^ max (t1 + t1) (t2 + t2) := by
    unfold ssD
    rw [al_whole (N1 := N1 * N1) (t1 := t1 + t1) (t2 := t2 + t2) (by rw [h1.mt, Nat.mul_mul_mul_comm, ← Nat.pow_add]) (by rw [h1.pw]; omega) (by rw [h2.pw]; omega),
      al_whole (N1 := N2 * N2) (t1 := t2 + t2) (t2 := t1 + t1) (by rw [h2.mt, Nat.mul_mul_mul_comm, ← Nat.pow_add]) (by rw [h2.pw]; omega) (by rw [h1.pw]; omega), Nat.max_comm (t2 + t2), ← Nat.add_mul, he]
  generalize hT : max (t1 + t1) (t2 + t2) = T at *
  have hK : ∃ i : Nat, T + sqK (ssP x y) = 2 * i := by
    unfold sqK
    rw [hP]
    split
    · exact ⟨(T + 130) / 2, by omega⟩
    · exact ⟨(T + 131) / 2, by omega⟩
  obtain ⟨i, hi⟩ := hK
  have hA : sqA (ssD x y) (ssP x y) = N * 2 ^ i * (N * 2 ^ i) := by
    unfold sqA
    rw [hS, Nat.mul_assoc, ← Nat.pow_add, hi, sq_shift]
  have hD : sqD (ssD x y) (ssP x y) = N * 2 ^ (i + 1) := by
    unfold sqD
    rw [hA, sqR_sq, decide_eq_true rfl]
    show 2 * (N * 2 ^ i) = _
    exact two_shift _ _
  exact same_whole (t := i + 1) hN n1 hD (by unfold sqP; rw [hP]; rw [hP] at hi; omega)

/-- A whole number by its sign and amount. -/
def sv (s N : Nat) : Int := if s = 1 then -(N : Int) else N
def wI (n : Int) : Int := if n = 0 then 0 else wholeB (if n < 0 then 1 else 0) n.natAbs
theorem wI_some {n : Int} {s N : Nat} (h0 : N ≠ 0) (hs : s < 2) (h : n = sv s N) : wI n = wholeB s N := by
  have e : (s = 0 ∧ n = N) ∨ (s = 1 ∧ n = -(N : Int)) := by
    unfold sv at h
    split at h <;> omega
  unfold wI
  rw [if_neg (by omega)]
  rcases e with ⟨rfl, rfl⟩ | ⟨rfl, rfl⟩
  · rw [if_neg (by omega), Int.natAbs_natCast]; rfl
  · rw [if_pos (by omega), Int.natAbs_neg, Int.natAbs_natCast]; rfl
theorem sOf_dc {s : Nat} (h : s < 2) : sOf (decide (s = 1)) = s := by
  have e : s = 0 ∨ s = 1 := by omega
  rcases e with rfl | rfl <;> rfl
/-- Whole numbers' sums. -/
theorem sum_whole {n s1 s2 d1 d2 N1 N2 t1 t2 : Nat} {p1 p2 m v : Int} (g1 : s1 < 2) (g2 : s2 < 2) (hn : 128 ≤ n) (hb1 : Go.bitLen d1 + 2 ≤ n) (hb2 : Go.bitLen d2 + 2 ≤ n)
    (hf1 : n - Go.bitLen d1 - 1 < p1 - p2 → d1 ≠ 0) (hf2 : n - Go.bitLen d2 - 1 < p2 - p1 → d2 ≠ 0) (e1 : d1 = N1 * 2 ^ t1) (q1 : p1 = -(t1 : Int)) (e2 : d2 = N2 * 2 ^ t2) (q2 : p2 = -(t2 : Int))
    (hv : v = sv s1 N1 + sv s2 N2) (h0 : v ≠ 0) (hl : v.natAbs < 9007199254740992) : rsB n s1 d1 p1 s2 d2 p2 m = wI v ∧ rsF n s1 d1 p1 s2 d2 p2 m = 0 := by
  obtain ⟨r1, r2⟩ := rs_doc (m := m) g1 g2 hn hb1 hb2 hf1 hf2
  rw [r1, r2]
  have a1 := al_whole (t2 := t2) e1 q1 q2
  have a2 := al_whole (t2 := t1) e2 q2 q1
  rw [Nat.max_comm] at a2
  have hmin : min p1 p2 = -((max t1 t2 : Nat) : Int) := by omega
  unfold dsB dsF dsG dsD dsP adB adF
  rw [a1, a2, hmin]
  generalize hT : max t1 t2 = T at *
  have hp := Nat.two_pow_pos T
  -- the amount, its sign, its power
  obtain ⟨s, N, hs, hN0, hNl, hsv, k1, k2, k3⟩ : ∃ s N : Nat, s < 2 ∧ N ≠ 0 ∧ N < 9007199254740992 ∧ v = sv s N ∧ snG (decide (s1 = 1)) (N1 * 2 ^ T) (decide (s2 = 1)) (N2 * 2 ^ T) = decide (s = 1) ∧ snD (decide (s1 = 1)) (N1 * 2 ^ T) (decide (s2 = 1)) (N2 * 2 ^ T) = N * 2 ^ T ∧ snP (decide (s1 = 1)) (N1 * 2 ^ T) (decide (s2 = 1)) (N2 * 2 ^ T) (-(T : Int)) = -(T : Int) := by
    by_cases hs : s1 = s2
    · subst hs
      have hh : v = sv s1 (N1 + N2) := by rw [hv]; unfold sv; split <;> omega
      refine ⟨s1, N1 + N2, g1, ?_, ?_, hh, ?_, ?_, ?_⟩
      · intro e; rw [e] at hh; apply h0; rw [hh]; unfold sv; split <;> rfl
      · rw [hh] at hl; unfold sv at hl; split at hl <;> omega
      · exact sn_same (p := 0).1
      · rw [(sn_same (p := 0)).2.1, ← Nat.add_mul]
      · exact sn_same.2.2
    · have hd : decide (s1 = 1) ≠ decide (s2 = 1) := by
        intro e
        have : (s1 = 0 ∧ s2 = 1) ∨ (s1 = 1 ∧ s2 = 0) := by omega
        rcases this with ⟨rfl, rfl⟩ | ⟨rfl, rfl⟩ <;> exact absurd e (by decide)
      have hc : (s1 = 0 ∧ s2 = 1) ∨ (s1 = 1 ∧ s2 = 0) := by omega
      rcases Nat.lt_trichotomy N2 N1 with hlt | heq | hlt
      · have hm : N2 * 2 ^ T < N1 * 2 ^ T := Nat.mul_lt_mul_of_pos_right hlt hp
        have sf := sn_first (p := -(T : Int)) hd hm
        refine ⟨s1, N1 - N2, g1, by omega, ?_, ?_, sf.1, ?_, sf.2.2⟩
        · rw [hv] at hl; unfold sv at hl; rcases hc with ⟨rfl, rfl⟩ | ⟨rfl, rfl⟩ <;> simp at hl <;> omega
        · rw [hv]; unfold sv; rcases hc with ⟨rfl, rfl⟩ | ⟨rfl, rfl⟩ <;> simp <;> omega
        · rw [sf.2.1, Nat.sub_mul]
      · exfalso; apply h0; rw [hv, heq]; unfold sv; rcases hc with ⟨rfl, rfl⟩ | ⟨rfl, rfl⟩ <;> simp <;> omega
      · have hm : N1 * 2 ^ T < N2 * 2 ^ T := Nat.mul_lt_mul_of_pos_right hlt hp
        have sf := sn_second (p := -(T : Int)) hd hm
        refine ⟨s2, N2 - N1, g2, by omega, ?_, ?_, sf.1, ?_, sf.2.2⟩
        · rw [hv] at hl; unfold sv at hl; rcases hc with ⟨rfl, rfl⟩ | ⟨rfl, rfl⟩ <;> simp at hl <;> omega
        · rw [hv]; unfold sv; rcases hc with ⟨rfl, rfl⟩ | ⟨rfl, rfl⟩ <;> simp <;> omega
        · rw [sf.2.1, Nat.sub_mul]
  rw [k1, k2, k3, wI_some hN0 hs hsv, sOf_dc hs]
  have hne : N * 2 ^ T ≠ 0 := shift_ne _ hN0
  rw [if_pos hne, if_pos hne]
  exact same_whole (t := T) hNl hN0 rfl rfl


set_option maxRecDepth 10000 in
set_option maxHeartbeats 1000000 in
theorem whole_in0 (P : Nat → Int) (L : Nat) (hL : L ≤ 53) (h0 : 0 < P 0) (h1 : P 0 < 9007199254740992) (hs : ∀ k, P (k + 1) = P k * 2) (hpos : ∀ k, 0 < P k) (hlt : ∀ k, k < L → P k < 4503599627370496) (hge : 4503599627370496 ≤ P L) (hl : P L < 9007199254740992) (w : World) :
    Calls Tryd.prog 18 #[.int .i64 (P 0)] w fun e w' => e = .returned (.int .u64 (0 * 9223372036854775808 + ((1075 - (L : Int)) * 4503599627370496 + (P L - 4503599627370496)))) ∧ w' = w := by
  have HS : Hid (∀ k, P (k + 1) = P k * 2) := hs
  have HP : Hid (∀ k, 0 < P k) := hpos
  have HLT : Hid (∀ k, k < L → P k < 4503599627370496) := hlt
  have HGE : Hid (4503599627370496 ≤ P L ∧ P L < 9007199254740992) := ⟨hge, hl⟩
  have hl53 : (L : Int) ≤ 53 := by omega
  clear hs hpos hlt hge hl hL
  generalize hv : P 0 = v at *
  have HV : Hid (P 0 = v) := hv
  clear hv
  have e0 : (v == 0) = false := by rw [beq_eq_false_iff_ne]; omega
  have e1 : (-v == 0) = false := by rw [beq_eq_false_iff_ne]; omega
  go_enter Tryd.func18, Tryd.ntmps18
  go_wp2
  go_loop [0, 4] (fun a e => ∃ (k : Nat) (u : Int), k ≤ L ∧ a = .int .i64 u ∧ e = .int .i64 (1075 - k) ∧ 0 < u ∧ Hid (u = P k)) (fun _ e => (intOf e).toNat)
  case atStart => exact ⟨0, v, Nat.zero_le _, rfl, rfl, h0, HV.out.symm⟩
  case round =>
    obtain ⟨k, u, hk, rfl, rfl, hu, hM⟩ := hrel
    by_cases h : u < 4503599627370496
    · have hkl : k < L := by
        rcases Nat.lt_or_ge k L with g | g
        · exact g
        · have e : k = L := by omega
          have := HGE.out.1
          rw [← e, ← hM.out] at this
          omega
      have HM2 : Hid (u * 2 = P (k + 1)) := (by rw [HS.out, ← hM.out] : u * 2 = P (k + 1))
      clear hM
      go_wp2_with fail
      go_round
      case rel => exact ⟨k + 1, u * 2, by omega, by go_num, by go_num, by omega, HM2⟩
      case measure => simp [intOf]; omega
    · have hkl : k = L := by
        rcases Nat.lt_or_ge k L with g | g
        · have := HLT.out k g
          rw [← hM.out] at this
          omega
        · omega
      have hi2 : u < 9007199254740992 := by have := HGE.out.2; rw [← hkl, ← hM.out] at this; exact this
      have HU : Hid (P L = u ∧ (L : Int) = k) := ⟨by rw [← hkl, ← hM.out], by rw [hkl]⟩
      clear hM hkl
      go_wp2_with fail
      go_ret
      exact ⟨by rw [HU.out.1, HU.out.2]; rfl, rfl⟩
set_option maxRecDepth 10000 in
set_option maxHeartbeats 1000000 in
theorem whole_in1 (P : Nat → Int) (L : Nat) (hL : L ≤ 53) (h0 : 0 < P 0) (h1 : P 0 < 9007199254740992) (hs : ∀ k, P (k + 1) = P k * 2) (hpos : ∀ k, 0 < P k) (hlt : ∀ k, k < L → P k < 4503599627370496) (hge : 4503599627370496 ≤ P L) (hl : P L < 9007199254740992) (w : World) :
    Calls Tryd.prog 18 #[.int .i64 (-(P 0))] w fun e w' => e = .returned (.int .u64 (1 * 9223372036854775808 + ((1075 - (L : Int)) * 4503599627370496 + (P L - 4503599627370496)))) ∧ w' = w := by
  have HS : Hid (∀ k, P (k + 1) = P k * 2) := hs
  have HP : Hid (∀ k, 0 < P k) := hpos
  have HLT : Hid (∀ k, k < L → P k < 4503599627370496) := hlt
  have HGE : Hid (4503599627370496 ≤ P L ∧ P L < 9007199254740992) := ⟨hge, hl⟩
  have hl53 : (L : Int) ≤ 53 := by omega
  clear hs hpos hlt hge hl hL
  generalize hv : P 0 = v at *
  have HV : Hid (P 0 = v) := hv
  clear hv
  have e0 : (v == 0) = false := by rw [beq_eq_false_iff_ne]; omega
  have e1 : (-v == 0) = false := by rw [beq_eq_false_iff_ne]; omega
  go_enter Tryd.func18, Tryd.ntmps18
  go_wp2
  go_loop [0, 4] (fun a e => ∃ (k : Nat) (u : Int), k ≤ L ∧ a = .int .i64 u ∧ e = .int .i64 (1075 - k) ∧ 0 < u ∧ Hid (u = P k)) (fun _ e => (intOf e).toNat)
  case atStart => exact ⟨0, v, Nat.zero_le _, rfl, rfl, h0, HV.out.symm⟩
  case round =>
    obtain ⟨k, u, hk, rfl, rfl, hu, hM⟩ := hrel
    by_cases h : u < 4503599627370496
    · have hkl : k < L := by
        rcases Nat.lt_or_ge k L with g | g
        · exact g
        · have e : k = L := by omega
          have := HGE.out.1
          rw [← e, ← hM.out] at this
          omega
      have HM2 : Hid (u * 2 = P (k + 1)) := (by rw [HS.out, ← hM.out] : u * 2 = P (k + 1))
      clear hM
      go_wp2_with fail
      go_round
      case rel => exact ⟨k + 1, u * 2, by omega, by go_num, by go_num, by omega, HM2⟩
      case measure => simp [intOf]; omega
    · have hkl : k = L := by
        rcases Nat.lt_or_ge k L with g | g
        · have := HLT.out k g
          rw [← hM.out] at this
          omega
        · omega
      have hi2 : u < 9007199254740992 := by have := HGE.out.2; rw [← hkl, ← hM.out] at this; exact this
      have HU : Hid (P L = u ∧ (L : Int) = k) := ⟨by rw [← hkl, ← hM.out], by rw [hkl]⟩
      clear hM hkl
      go_wp2_with fail
      go_ret
      exact ⟨by rw [HU.out.1, HU.out.2]; exact ret_int (by omega : 9223372036854775808 + (1075 - (k : Int)) * 4503599627370496 + (u - 4503599627370496) = _), rfl⟩
theorem whole_any (n : Int) (h : n.natAbs < 9007199254740992) (w : World) :
    Calls Tryd.prog 18 #[.int .i64 n] w fun e w' => e = .returned (.int .u64 (wI n)) ∧ w' = w := by
  by_cases h0 : n = 0
  · subst h0
    go_enter Tryd.func18, Tryd.ntmps18
    go_wp2
    go_ret
    exact ⟨rfl, rfl⟩
  have hN0 : n.natAbs ≠ 0 := by omega
  have hb := bitLen_le (n := 53) h
  have hp := bl_pos hN0
  have ht := top_bits h hN0
  have hg : ∀ k : Nat, k < 53 - Go.bitLen n.natAbs → n.natAbs * 2 ^ k < 4503599627370496 := fun k hk => by
    have g := (Go.bitLen_spec n.natAbs).1
    have h1 := Nat.mul_lt_mul_of_pos_right g (Nat.two_pow_pos k)
    rw [← Nat.pow_add] at h1
    exact Nat.lt_of_lt_of_le h1 (Nat.le_trans (Nat.pow_le_pow_right (by decide) (by omega : Go.bitLen n.natAbs + k ≤ 52)) (by decide))
  have q1 : ((n.natAbs * 2 ^ 0 : Nat) : Int) = (n.natAbs : Int) := by simp
  by_cases hn : 0 < n
  · have hw := (whole_round (s := 0) (m := 0) h hN0).1
    have hc := whole_in0 (fun k => ((n.natAbs * 2 ^ k : Nat) : Int)) (53 - Go.bitLen n.natAbs) (by omega) (by rw [q1]; omega) (by rw [q1]; omega) (fun k => by rw [Nat.pow_succ, ← Nat.mul_assoc]; omega) (fun k => by have := Nat.mul_pos (Nat.pos_of_ne_zero hN0) (Nat.two_pow_pos k); omega) (fun k hk => by have := hg k hk; omega) (by omega) (by omega) w
    rw [q1] at hc
    have e1 : wI n = 0 * 9223372036854775808 + ((1075 - ((53 - Go.bitLen n.natAbs : Nat) : Int)) * 4503599627370496 + (((n.natAbs * 2 ^ (53 - Go.bitLen n.natAbs) : Nat) : Int) - 4503599627370496)) := by
      rw [wI_some (s := 0) hN0 (by decide) (by unfold sv; simp; omega)]
      unfold wholeB
      have hw' : roundB ((0 : Nat) : Int) n.natAbs 0 0 = _ := hw
      rw [hw']
      omega
    rw [e1]
    have e2 : n = (n.natAbs : Int) := by omega
    rw [← e2] at hc
    exact hc
  
  · have hw := (whole_round (s := 1) (m := 0) h hN0).1
    have hc := whole_in1 (fun k => ((n.natAbs * 2 ^ k : Nat) : Int)) (53 - Go.bitLen n.natAbs) (by omega) (by rw [q1]; omega) (by rw [q1]; omega) (fun k => by rw [Nat.pow_succ, ← Nat.mul_assoc]; omega) (fun k => by have := Nat.mul_pos (Nat.pos_of_ne_zero hN0) (Nat.two_pow_pos k); omega) (fun k hk => by have := hg k hk; omega) (by omega) (by omega) w
    rw [q1] at hc
    have e1 : wI n = 1 * 9223372036854775808 + ((1075 - ((53 - Go.bitLen n.natAbs : Nat) : Int)) * 4503599627370496 + (((n.natAbs * 2 ^ (53 - Go.bitLen n.natAbs) : Nat) : Int) - 4503599627370496)) := by
      rw [wI_some (s := 1) hN0 (by decide) (by unfold sv; simp; omega)]
      unfold wholeB
      have hw' : roundB ((1 : Nat) : Int) n.natAbs 0 0 = _ := hw
      rw [hw']
      omega
    rw [e1]
    have e2 : n = -(n.natAbs : Int) := by omega
    rw [← e2] at hc
    exact hc

end Go.Proofs.YtcjihaafohnbeaaDoor
