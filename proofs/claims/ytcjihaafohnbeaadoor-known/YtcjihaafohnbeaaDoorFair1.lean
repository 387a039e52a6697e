import Derived.Test.YtcjihaafohnbeaaDoorRefDv
namespace Go.Proofs.YtcjihaafohnbeaaDoor
open Go.RowKit

theorem grow_most {m s r : Int} (h : ¬ grow m s r = 0) : grow m s 3 = 2 := by
  unfold grow at h ⊢
  (repeat' split) <;> (repeat' split at h) <;> omega
theorem grow_three (m s : Int) : grow m s 3 = 0 ∨ grow m s 3 = 2 := by unfold grow; (repeat' split) <;> omega
theorem incr_zero {g : Int} {q : Nat} (h : g = 0) : incr g q = 0 := by subst h; rfl
theorem incr_two {g : Int} {q : Nat} (h : g = 2) : incr g q = 1 := by subst h; rfl

/-- Rounded in any mode, a number's amount is t, or by one more, as its rest R and the mode have it; it is exact just if R is 0. -/
def Near (s : Int) (B F : Int → Int) (t R : Int) : Prop :=
  0 ≤ t ∧ t ≤ 9218868437227405311 ∧ 0 ≤ R ∧ R ≤ 3 ∧ ∀ m, 0 ≤ m → m ≤ 4 → ∃ j : Int, B m = s * 9223372036854775808 + (t + j) ∧ (j = 0 ∨ j = 1) ∧ (grow m s R = 0 → j = 0) ∧ (grow m s R = 2 → j = 1) ∧ F m % 2 = (if R = 0 then 0 else 1)

theorem near_over {s : Int} {D : Nat} {p : Int} (h : 971 < p + Go.bitLen D - 53) : Near s (roundB s D p) (roundF s D p) 9218868437227405311 3 := by
  refine ⟨by decide, by decide, by decide, by decide, fun m _ _ => ?_⟩
  have e : roundB s D p m = overB s m ∧ roundF s D p m = 5 := by
    by_cases hy : cutQ s m D (Go.bitLen D - 53) = 9007199254740992
    · exact round_carry_over hy (by omega)
    · exact round_over hy h
  rw [e.1, e.2]
  unfold overB
  rcases grow_three m s with g | g
  · exact ⟨0, by rw [g]; simp, Or.inl rfl, fun _ => rfl, fun h => by rw [g] at h; simp at h, by decide⟩
  · exact ⟨1, by rw [g]; simp, Or.inr rfl, fun h => by rw [g] at h; simp at h, fun _ => rfl, by decide⟩

/-- Nothing is cut off. -/
theorem near_exact {s : Int} {D : Nat} {p e : Int} (he : e = max (p + Go.bitLen D - 53) (-1074)) (hk : e ≤ p) (h971 : e ≤ 971) : Near s (roundB s D p) (roundF s D p) ((e + 1074) * 4503599627370496 + (D * 2 ^ (p - e).toNat : Nat)) 0 := by
  have hb : D * 2 ^ (p - e).toNat < 9007199254740992 := by
    have := cut_up (D := D) (k := e - p) (by omega) (by omega)
    rw [show (-(e - p)).toNat = (p - e).toNat by congr 1; omega] at this
    exact this
  have hq : ∀ m, cutQ s m D (e - p) = D * 2 ^ (p - e).toNat := fun m => by
    unfold cutQ; rw [if_pos (by omega), show (-(e - p)).toNat = (p - e).toNat by congr 1; omega]
  have hc : cutCh D (e - p) = false := by unfold cutCh; rw [if_pos (by omega)]
  have hn : ∀ m, ¬ cutQ s m D (Go.bitLen D - 53) = 9007199254740992 := fun m => by
    have := cut_up (D := D) (k := (Go.bitLen D : Int) - 53) (Int.le_refl _) (by omega)
    unfold cutQ
    rw [if_pos (by omega)]
    omega
  refine ⟨by omega, by omega, by decide, by decide, fun m _ _ => ⟨0, ?_, Or.inl rfl, fun _ => rfl, fun h => by rw [grow_none] at h; simp at h, ?_⟩⟩
  all_goals by_cases h : p + Go.bitLen D - 53 < -1074
  · rw [(round_tiny (hn m) h).1, show -1074 - p = e - p by omega, hq m]; omega
  · rw [(round_plain (hn m) (by omega) (by omega)).1, show (Go.bitLen D : Int) - 53 = e - p by omega, hq m]; omega
  · rw [(round_tiny (hn m) h).2, show -1074 - p = e - p by omega, hc]; simp
  · rw [(round_plain (hn m) (by omega) (by omega)).2, show (Go.bitLen D : Int) - 53 = e - p by omega, hc]; simp

theorem rest_some {D k : Nat} (h : restN D k = 0) : D % 2 ^ k = 0 := by unfold restN at h; (repeat' split at h) <;> first | assumption | omega
/-- A number whose 53 digits were all ones and grew: with one digit less it grows, too. -/
theorem carry_half {s m : Int} {D k : Nat} (h : D / 2 ^ k + incr (grow m s (restN D k)) (D / 2 ^ k) = 9007199254740992) (hl : D / 2 ^ k < 9007199254740992) :
    D / 2 ^ (k + 1) = 4503599627370495 ∧ restN D (k + 1) = 3 ∧ grow m s 3 = 2 ∧ ¬ restN D k = 0 := by
  have hi := incr_le (grow m s (restN D k)) (D / 2 ^ k)
  have hg : ¬ grow m s (restN D k) = 0 := fun g => by rw [incr_zero g] at h; omega
  have hr : ¬ restN D k = 0 := fun g => by rw [g, grow_none] at hg; exact hg rfl
  have hq : D / 2 ^ k = 9007199254740991 := by omega
  have hp : 0 < 2 ^ k := Nat.pow_pos (by decide)
  have e1 : D / 2 ^ (k + 1) = 4503599627370495 := by rw [Nat.pow_succ, ← Nat.div_div_eq_div_mul, hq]
  have hm : ¬ D % 2 ^ k = 0 := fun g => hr (by unfold restN; rw [if_pos g])
  have e2 : D % 2 ^ (k + 1) = 2 ^ k + D % 2 ^ k := by
    have h1 := Nat.div_add_mod D (2 ^ (k + 1))
    have h2 := Nat.div_add_mod D (2 ^ k)
    rw [e1] at h1
    rw [hq] at h2
    rw [Nat.pow_succ] at h1 ⊢
    omega
  refine ⟨e1, ?_, grow_most hg, hr⟩
  unfold restN
  rw [e2, Nat.pow_succ]
  rw [if_neg (by omega), if_neg (by omega), if_neg (by omega)]

/-- Cut off at e, whatever the mode: the carries fit. -/
theorem round_at {s m : Int} {D : Nat} {p e : Int} (he : e = max (p + Go.bitLen D - 53) (-1074)) (hk : p < e) (h971 : e ≤ 971) :
    roundB s D p m = s * 9223372036854775808 + ((e + 1074) * 4503599627370496 + cutQ s m D (e - p)) ∧ roundF s D p m % 2 = (if restN D (e - p).toNat = 0 then 0 else 1) := by
  have hc : cutCh D (e - p) = decide (restN D (e - p).toNat ≠ 0) := by unfold cutCh; rw [if_neg (by omega)]
  have hf1 : (if cutCh D (e - p) then (1 : Int) else 0) % 2 = (if restN D (e - p).toNat = 0 then 0 else 1) := by rw [hc]; by_cases h : restN D (e - p).toNat = 0 <;> simp [h]
  have hf3 : (if cutCh D (e - p) then (3 : Int) else 0) % 2 = (if restN D (e - p).toNat = 0 then 0 else 1) := by rw [hc]; by_cases h : restN D (e - p).toNat = 0 <;> simp [h]
  by_cases hy : cutQ s m D (Go.bitLen D - 53) = 9007199254740992
  · have hk0 : 0 < (Go.bitLen D : Int) - 53 := by
      apply Classical.byContradiction
      intro hn
      have := cut_up (D := D) (k := (Go.bitLen D : Int) - 53) (Int.le_refl _) (by omega)
      unfold cutQ at hy
      rw [if_pos (by omega)] at hy
      omega
    have hl := cut_down (D := D) (k := (Go.bitLen D : Int) - 53) (Int.le_refl _) hk0
    have hy' := hy
    unfold cutQ at hy'
    rw [if_neg (by omega)] at hy'
    obtain ⟨c1, c2, c3, c4⟩ := carry_half hy' hl
    by_cases h1 : p + Go.bitLen D - 53 + 1 < -1074
    · have e1 : -1074 - p = e - p := by omega
      have := round_carry_tiny (p := p) hy h1
      rw [e1] at this
      exact ⟨by rw [this.1]; omega, by rw [this.2]; exact hf3⟩
    · by_cases h2 : p + Go.bitLen D - 53 < -1074
      · have := round_carry (p := p) hy (by omega) (by omega)
        have e1 : (e - p).toNat = ((Go.bitLen D : Int) - 53).toNat + 1 := by omega
        have hq : cutQ s m D (e - p) = 4503599627370496 := by unfold cutQ; rw [if_neg (by omega), e1, c1, c2, incr_two c3]
        rw [this.1, this.2, hq, e1, c2]
        have hch : cutCh D (Go.bitLen D - 53) = true := by unfold cutCh; rw [if_neg (by omega)]; simp [c4]
        rw [hch]
        exact ⟨by omega, by decide⟩
      · have e1 : (Go.bitLen D : Int) - 53 = e - p := by omega
        have c4' : ¬ restN D (e - p).toNat = 0 := by rw [← e1]; exact c4
        by_cases h3 : 971 < p + Go.bitLen D - 53 + 1
        · have := round_carry_over (p := p) hy h3
          rw [this.1, this.2, ← e1, hy, e1, if_neg c4']
          unfold overB
          rw [if_pos c3]
          exact ⟨by omega, by decide⟩
        · have := round_carry (p := p) hy (by omega) (by omega)
          rw [this.1, this.2, ← e1, hy, e1, hf1]
          exact ⟨by omega, rfl⟩
  · by_cases h1 : p + Go.bitLen D - 53 < -1074
    · have e1 : -1074 - p = e - p := by omega
      have := round_tiny (p := p) hy h1
      rw [e1] at this
      exact ⟨by rw [this.1]; omega, by rw [this.2]; exact hf3⟩
    · have e1 : (Go.bitLen D : Int) - 53 = e - p := by omega
      have := round_plain (p := p) hy (by omega) (by omega)
      rw [e1] at this
      exact ⟨by rw [this.1]; omega, by rw [this.2]; exact hf1⟩

theorem near_cut {s : Int} {D : Nat} {p e : Int} (he : e = max (p + Go.bitLen D - 53) (-1074)) (hk : p < e) (h971 : e ≤ 971) : Near s (roundB s D p) (roundF s D p) ((e + 1074) * 4503599627370496 + (D / 2 ^ (e - p).toNat : Nat)) (restN D (e - p).toNat) := by
  have hb : D / 2 ^ (e - p).toNat < 9007199254740992 := cut_down (by omega) (by omega)
  have hq : ∀ m, cutQ s m D (e - p) = D / 2 ^ (e - p).toNat + incr (grow m s (restN D (e - p).toNat)) (D / 2 ^ (e - p).toNat) := fun m => by unfold cutQ; rw [if_neg (by omega)]
  have hr := restN_range D (e - p).toNat
  have hat : ∀ m, _ := fun m => round_at (s := s) (m := m) he hk h971
  generalize D / 2 ^ (e - p).toNat = q at *
  refine ⟨by omega, by omega, hr.1, hr.2, fun m h0 h4 => ⟨incr (grow m s (restN D (e - p).toNat)) q, ?_, ?_, fun g => by rw [incr_zero g]; rfl, fun g => by rw [incr_two g]; rfl, (hat m).2⟩⟩
  · rw [(hat m).1, hq m]; omega
  · have := incr_le (grow m s (restN D (e - p).toNat)) q; omega

/-- Of every number that is rounded. -/
theorem near_round (s : Int) (D : Nat) (p : Int) : ∃ t R, Near s (roundB s D p) (roundF s D p) t R := by
  by_cases h : 971 < p + Go.bitLen D - 53
  · exact ⟨_, _, near_over h⟩
  · by_cases hk : p < max (p + Go.bitLen D - 53) (-1074)
    · exact ⟨_, _, near_cut rfl hk (by omega)⟩
    · exact ⟨_, _, near_exact rfl (by omega) (by omega)⟩

/-- A number's place among all. -/
def ordI (b : Int) : Int := if 9223372036854775808 ≤ b then -(b - 9223372036854775808) else b
/-- Five results, a mode each, as the law asks for them. -/
structure Fair (B F : Int → Int) : Prop where
  le : ordI (B 4) ≤ ordI (B 3)
  near : ordI (B 3) - ordI (B 4) ≤ 1
  one : ∀ m, 0 ≤ m → m < 3 → ordI (B m) = ordI (B 3) ∨ ordI (B m) = ordI (B 4)
  flag : ∀ m, 0 ≤ m → m < 3 → F m % 2 = F 3 % 2
  toward : (0 < ordI (B 3) ∧ ordI (B 2) = ordI (B 4)) ∨ (ordI (B 4) < 0 ∧ ordI (B 2) = ordI (B 3)) ∨ ordI (B 3) = ordI (B 4)
  exact : F 3 % 2 = 0 ↔ ordI (B 3) = ordI (B 4)
theorem grow_up {R : Int} (h : 0 ≤ R) (g : ¬ R = 0) : grow 3 0 R = 2 := by simp [grow]; omega
theorem grow_down {R : Int} (h : 0 ≤ R) (g : ¬ R = 0) : grow 4 1 R = 2 := by simp [grow]; omega
theorem ord_mag {s t j : Int} (hs : s = 0 ∨ s = 1) (h0 : 0 ≤ t) (h1 : t ≤ 9218868437227405311) (hj : j = 0 ∨ j = 1) : ordI (s * 9223372036854775808 + (t + j)) = (if s = 0 then t + j else -(t + j)) := by
  unfold ordI
  rcases hs with rfl | rfl
  · rw [if_neg (by omega)]; simp
  · rw [if_pos (by omega), if_neg (by decide)]; omega
theorem fair_near {s : Int} {B F : Int → Int} {t R : Int} (hs : s = 0 ∨ s = 1) (h : Near s B F t R) : Fair B F := by
  obtain ⟨h1, h2, h3, h4, h⟩ := h
  obtain ⟨j0, a0, b0, c0, d0, f0⟩ := h 0 (by decide) (by decide)
  obtain ⟨j1, a1, b1, c1, d1, f1⟩ := h 1 (by decide) (by decide)
  obtain ⟨j2, a2, b2, c2, d2, f2⟩ := h 2 (by decide) (by decide)
  obtain ⟨j3, a3, b3, c3, d3, f3⟩ := h 3 (by decide) (by decide)
  obtain ⟨j4, a4, b4, c4, d4, f4⟩ := h 4 (by decide) (by decide)
  clear h
  have o0 := ord_mag hs h1 h2 b0
  have o1 := ord_mag hs h1 h2 b1
  have o2 := ord_mag hs h1 h2 b2
  have o3 := ord_mag hs h1 h2 b3
  have o4 := ord_mag hs h1 h2 b4
  rw [← a0] at o0
  rw [← a1] at o1
  rw [← a2] at o2
  rw [← a3] at o3
  rw [← a4] at o4
  have z2 : j2 = 0 := c2 (by simp [grow])
  have z0 : R = 0 → j0 = 0 := fun g => c0 (by rw [g]; exact grow_none _ _)
  have z1 : R = 0 → j1 = 0 := fun g => c1 (by rw [g]; exact grow_none _ _)
  have hF : ∀ m, 0 ≤ m → m < 3 → F m % 2 = F 3 % 2 := fun m g0 g3 => by
    obtain rfl | rfl | rfl : m = 0 ∨ m = 1 ∨ m = 2 := by clear f0 f1 f2 f3 f4 b0 b1 b2 b3 b4 c0 c1 c2 c3 c4 d0 d1 d2 d3 d4 a0 a1 a2 a3 a4 o0 o1 o2 o3 o4; omega
    · rw [f0, f3]
    · rw [f1, f3]
    · rw [f2, f3]
  have z3 : R = 0 → j3 = 0 := fun g => c3 (by rw [g]; exact grow_none _ _)
  have z4 : R = 0 → j4 = 0 := fun g => c4 (by rw [g]; exact grow_none _ _)
  subst z2
  have pick : ∀ (P : Int → Prop), P 0 → P 1 → P 2 → ∀ m, 0 ≤ m → m < 3 → P m := fun P p0 p1 p2 m g0 g3 => by
    obtain rfl | rfl | rfl : m = 0 ∨ m = 1 ∨ m = 2 := by clear f0 f1 f2 f3 f4 b0 b1 b2 b3 b4 c0 c1 c2 c3 c4 d0 d1 d2 d3 d4 a0 a1 a2 a3 a4 o0 o1 o2 o3 o4 z0 z1 z3 z4 hF; omega
    all_goals assumption
  rcases hs with rfl | rfl
  · have y4 : j4 = 0 := c4 (by simp [grow])
    have y3 : ¬ R = 0 → j3 = 1 := fun g => d3 (grow_up h3 g)
    subst y4
    simp only [if_true] at o0 o1 o2 o3 o4
    clear c0 c1 c2 c3 c4 d0 d1 d2 d3 d4 a0 a1 a2 a3 a4 f0 f1 f2 f4
    by_cases hR : R = 0
    · have x0 := z0 hR
      have x1 := z1 hR
      have x3 := z3 hR
      subst x0 x1 x3
      rw [if_pos hR] at f3
      exact ⟨by omega, by omega, pick _ (by omega) (by omega) (by omega), hF, by omega, by omega⟩
    · have x3 := y3 hR
      subst x3
      rw [if_neg hR] at f3
      exact ⟨by omega, by omega, pick _ (by omega) (by omega) (by omega), hF, by omega, by omega⟩
  · have y3 : j3 = 0 := c3 (by simp [grow])
    have y4 : ¬ R = 0 → j4 = 1 := fun g => d4 (grow_down h3 g)
    subst y3
    simp only [show ¬ ((1 : Int) = 0) by decide, if_false] at o0 o1 o2 o3 o4
    clear c0 c1 c2 c3 c4 d0 d1 d2 d3 d4 a0 a1 a2 a3 a4 f0 f1 f2 f4
    by_cases hR : R = 0
    · have x0 := z0 hR
      have x1 := z1 hR
      have x4 := z4 hR
      subst x0 x1 x4
      rw [if_pos hR] at f3
      exact ⟨by omega, by omega, pick _ (by omega) (by omega) (by omega), hF, by omega, by omega⟩
    · have x4 := y4 hR
      subst x4
      rw [if_neg hR] at f3
      exact ⟨by omega, by omega, pick _ (by omega) (by omega) (by omega), hF, by omega, by omega⟩
/-- One place for all modes, and no flags that tell otherwise. -/
theorem fair_one {B F : Int → Int} (v : Int) (hB : ∀ m, 0 ≤ m → m ≤ 4 → ordI (B m) = v) (hF : ∀ m, 0 ≤ m → m ≤ 4 → F m = 0) : Fair B F := by
  have b3 := hB 3 (by decide) (by decide)
  have b4 := hB 4 (by decide) (by decide)
  refine ⟨by omega, by omega, fun m h0 h3 => ?_, fun m h0 h3 => ?_, ?_, ?_⟩
  · have := hB m h0 (by omega); omega
  · rw [hF m h0 (by omega), hF 3 (by decide) (by decide)]
  · omega
  · rw [hF 3 (by decide) (by decide)]; omega

theorem Fair.same {B F B' F' : Int → Int} (h : Fair B F) (e : ∀ m, 0 ≤ m → m ≤ 4 → B' m = B m ∧ F' m = F m) : Fair B' F' := by
  have e2 := e 2 (by decide) (by decide)
  have e3 := e 3 (by decide) (by decide)
  have e4 := e 4 (by decide) (by decide)
  refine ⟨?_, ?_, fun m g0 g3 => ?_, fun m g0 g3 => ?_, ?_, ?_⟩
  · rw [e3.1, e4.1]; exact h.le
  · rw [e3.1, e4.1]; exact h.near
  · rw [e3.1, e4.1, (e m g0 (by omega)).1]; exact h.one m g0 g3
  · rw [e3.2, (e m g0 (by omega)).2]; exact h.flag m g0 g3
  · rw [e2.1, e3.1, e4.1]; exact h.toward
  · rw [e3.1, e3.2, e4.1]; exact h.exact
theorem suS_mode {s1 X s2 Y : Nat} (h : ¬ suD s1 X s2 Y = 0) (m m' : Int) : suS s1 X s2 Y m = suS s1 X s2 Y m' := by
  unfold suD at h
  unfold suS
  by_cases e : s1 = s2
  · rw [if_pos e, if_pos e]
  · rw [if_neg e] at h
    rw [if_neg e, if_neg e]
    by_cases g : X = Y
    · subst g; simp at h
    · rw [if_neg g, if_neg g]
theorem gsS_mode {n s1 d1 s2 d2 : Nat} {p1 p2 : Int} (h : ¬ gsD n s1 d1 p1 s2 d2 p2 = 0) (m m' : Int) : gsS n s1 d1 p1 s2 d2 p2 m = gsS n s1 d1 p1 s2 d2 p2 m' := by
  unfold gsD at h
  unfold gsS
  by_cases g : p2 ≤ p1
  · rw [if_pos g] at h; rw [if_pos g, if_pos g]; exact suS_mode h _ _
  · rw [if_neg g] at h; rw [if_neg g, if_neg g]; exact suS_mode h _ _
theorem fsS_mode {x y : Nat} (h : ¬ fsD x y = 0) (m m' : Int) : fsS x y m = fsS x y m' := gsS_mode h m m'

/-- Sums: all modes have the same NaN, or they are fair. -/
theorem sum_fair {x y : Nat} (hx : x < 18446744073709551616) (hy : y < 18446744073709551616) :
    (∀ m, sumB x y m = 9221120237041090560 ∧ sumF x y m = 16) ∨ Fair (sumB x y) (sumF x y) := by
  by_cases h1 : kind x = 3 ∧ kind y = 3 ∧ x ≠ y
  · left; intro m; unfold sumB sumF; rw [if_pos h1, if_pos h1]; exact ⟨rfl, rfl⟩
  right
  by_cases h2 : kind x = 3
  · refine fair_one (ordI x) (fun m _ _ => ?_) (fun m _ _ => ?_)
    · unfold sumB; rw [if_neg h1, if_pos h2]
    · unfold sumF; rw [if_neg h1, if_pos h2]
  by_cases h3 : kind y = 3
  · refine fair_one (ordI y) (fun m _ _ => ?_) (fun m _ _ => ?_)
    · unfold sumB; rw [if_neg h1, if_neg h2, if_pos h3]
    · unfold sumF; rw [if_neg h1, if_neg h2, if_pos h3]
  by_cases h4 : fsD x y = 0
  · refine fair_one 0 (fun m _ _ => ?_) (fun m _ _ => ?_)
    · have hs := fsS_lt (m := m) hx hy
      unfold sumB; rw [if_neg h1, if_neg h2, if_neg h3, if_pos h4]
      unfold ordI
      split <;> omega
    · unfold sumF; rw [if_neg h1, if_neg h2, if_neg h3, if_pos h4]
  · have : ∀ m, 0 ≤ m → m ≤ 4 → sumB x y m = roundB (fsS x y 0) (fsD x y) (fsP x y) m ∧ sumF x y m = roundF (fsS x y 0) (fsD x y) (fsP x y) m := fun m _ _ => by
      unfold sumB sumF
      rw [if_neg h1, if_neg h2, if_neg h3, if_neg h4, if_neg h1, if_neg h2, if_neg h3, if_neg h4, fsS_mode h4 m 0]
      exact ⟨rfl, rfl⟩
    have hs := fsS_lt (m := 0) hx hy
    exact (fair_near (by omega) (near_round (fsS x y 0) (fsD x y) (fsP x y)).choose_spec.choose_spec).same this

theorem prod_fair {x y : Nat} :
    (∀ m, prodB x y m = 9221120237041090560 ∧ prodF x y m = 16) ∨ Fair (prodB x y) (prodF x y) := by
  have hs := xs_lt x y
  by_cases h1 : (kind x = 3 ∨ kind y = 3) ∧ (kind x = 0 ∨ kind y = 0)
  · left; intro m; unfold prodB prodF; rw [if_pos h1, if_pos h1]; exact ⟨rfl, rfl⟩
  right
  by_cases h2 : kind x = 3 ∨ kind y = 3
  · refine fair_one (ordI (xs x y * 9223372036854775808 + 9218868437227405312)) (fun m _ _ => ?_) (fun m _ _ => ?_)
    · unfold prodB; rw [if_neg h1, if_pos h2]
    · unfold prodF; rw [if_neg h1, if_pos h2]
  by_cases h3 : kind x = 0 ∨ kind y = 0
  · refine fair_one (ordI (xs x y * 9223372036854775808)) (fun m _ _ => ?_) (fun m _ _ => ?_)
    · unfold prodB; rw [if_neg h1, if_neg h2, if_pos h3]
    · unfold prodF; rw [if_neg h1, if_neg h2, if_pos h3]
  · refine (fair_near (by omega) (near_round (xs x y) (mant x * mant y) (pow x + pow y)).choose_spec.choose_spec).same (fun m _ _ => ?_)
    unfold prodB prodF
    rw [if_neg h1, if_neg h2, if_neg h3, if_neg h1, if_neg h2, if_neg h3]
    exact ⟨rfl, rfl⟩
end Go.Proofs.YtcjihaafohnbeaaDoor
