import Derived.Test.YtcjihaafohnbeaaDoorOdd1
import Derived.Test.YtcjihaafohnbeaaDoorRefX
import Derived.Test.YtcjihaafohnbeaaDoorRtA
import Derived.Test.YtcjihaafohnbeaaDoorRtC
import Derived.Test.YtcjihaafohnbeaaDoorRefRt
namespace Go.Proofs.YtcjihaafohnbeaaDoor
open Go.RowKit

/-- A root with more places cut to fewer; f grows. -/
theorem root_cut {f : Nat → Nat} (hf : ∀ a b, a < b → f a < f b) {W R A j : Nat} (h1 : f (W * 2 ^ j) ≤ A) (h2 : A < f ((W + 1) * 2 ^ j)) (k1 : f R ≤ A) (k2 : A < f (R + 1)) :
    R / 2 ^ j = W ∧ (f (W * 2 ^ j) = A ↔ (f R = A ∧ R % 2 ^ j = 0)) := by
  have hm : ∀ a b, a ≤ b → f a ≤ f b := fun a b h => by
    rcases Nat.lt_or_eq_of_le h with h | h
    · exact Nat.le_of_lt (hf _ _ h)
    · rw [h]; exact Nat.le_refl _
  have g1 : W * 2 ^ j ≤ R := by
    rcases Nat.lt_or_ge R (W * 2 ^ j) with h | h
    · have := hm (R + 1) _ h; omega
    · exact h
  have g2 : R < (W + 1) * 2 ^ j := by
    rcases Nat.lt_or_ge R ((W + 1) * 2 ^ j) with h | h
    · exact h
    · have := hm _ _ h; omega
  have hp := Nat.two_pow_pos j
  have hq : R / 2 ^ j = W := by
    have a1 : W ≤ R / 2 ^ j := (Nat.le_div_iff_mul_le hp).2 g1
    have a2 : R / 2 ^ j < W + 1 := (Nat.div_lt_iff_lt_mul hp).2 g2
    omega
  refine ⟨hq, ?_⟩
  have hdm := Nat.div_add_mod R (2 ^ j)
  rw [hq, Nat.mul_comm] at hdm
  constructor
  · intro h
    have : R = W * 2 ^ j := by
      rcases Nat.lt_or_ge (W * 2 ^ j) R with g | g
      · have := hf _ _ g; omega
      · omega
    exact ⟨by rw [this, h], by rw [this, Nat.mul_mod_left]⟩
  · rintro ⟨h, g⟩
    rw [g, Nat.add_zero] at hdm
    rw [hdm, h]

theorem root_round {f : Nat → Nat} (hf : ∀ a b, a < b → f a < f b) {W R A j : Nat} {s m p : Int} (h1 : f (W * 2 ^ j) ≤ A) (h2 : A < f ((W + 1) * 2 ^ j)) (k1 : f R ≤ A) (k2 : A < f (R + 1)) (hb : 2 ^ 60 ≤ W) :
    roundB s (mkQ R (decide (f R = A))) p m = roundB s (odd W (decide (f (W * 2 ^ j) = A))) (p + j + 1) m ∧
    roundF s (mkQ R (decide (f R = A))) p m = roundF s (odd W (decide (f (W * 2 ^ j) = A))) (p + j + 1) m := by
  obtain ⟨hq, he⟩ := root_cut hf h1 h2 k1 k2
  have h3 : (2 : Nat) ^ (j + 1) = 2 * 2 ^ j := by rw [Nat.pow_succ, Nat.mul_comm]
  have hE : mkQ R (decide (f R = A)) / 2 ^ (j + 1) = W := by
    rw [h3, ← Nat.div_div_eq_div_mul]
    have : mkQ R (decide (f R = A)) / 2 = R := by unfold mkQ; split <;> omega
    rw [this, hq]
  rw [show p + j + 1 = p + ((j + 1 : Nat) : Int) by omega]
  by_cases hx : f (W * 2 ^ j) = A
  · obtain ⟨g1, g2⟩ := he.1 hx
    refine mark_round (.inl ⟨?_, ?_⟩) (by rw [hE]; exact hb)
    · rw [decide_eq_true g1, h3]
      show (2 * R) % (2 * 2 ^ j) = 0
      rw [Nat.mul_mod_mul_left, g2]
    · rw [hE, decide_eq_true hx]; rfl
  · refine mark_round (.inr ⟨?_, ?_⟩) (by rw [hE]; exact hb)
    · by_cases g1 : f R = A
      · rw [decide_eq_true g1, h3]
        show (2 * R) % (2 * 2 ^ j) ≠ 0
        rw [Nat.mul_mod_mul_left]
        intro h
        exact hx (he.2 ⟨g1, by omega⟩)
      · rw [decide_eq_false g1, h3]
        show (2 * R + 1) % (2 * 2 ^ j) ≠ 0
        intro h
        have h4 : (2 * R + 1) % (2 * 2 ^ j) % 2 = (2 * R + 1) % 2 := Nat.mod_mul_right_mod _ _ _
        rw [h] at h4
        omega
    · rw [hE, decide_eq_false hx]; rfl



/-- The greatest number up to n that meets a condition, or 0. -/
def most (P : Nat → Bool) : Nat → Nat
  | 0 => 0
  | n + 1 => if P (n + 1) then n + 1 else most P n
theorem most_le (P : Nat → Bool) (n : Nat) : most P n ≤ n := by
  induction n with
  | zero => exact Nat.le_refl _
  | succ n ih => unfold most; split <;> omega
theorem most_meets (P : Nat → Bool) (h0 : P 0 = true) (n : Nat) : P (most P n) = true := by
  induction n with
  | zero => exact h0
  | succ n ih =>
    unfold most
    by_cases h : P (n + 1) = true
    · rw [if_pos h]; exact h
    · rw [if_neg h]; exact ih
theorem most_last (P : Nat → Bool) (n k : Nat) (h : most P n < k) (hk : k ≤ n) : P k = false := by
  induction n with
  | zero => omega
  | succ n ih =>
    unfold most at h
    by_cases g : P (n + 1) = true
    · rw [if_pos g] at h; omega
    · rw [if_neg g] at h
      by_cases e : k = n + 1
      · subst e; simpa using g
      · exact ih h (by omega)
/-- The whole square root, and the whole cube root. -/
def sqR (a : Nat) : Nat := most (fun r => decide (r * r ≤ a)) a
def cbR (a : Nat) : Nat := most (fun r => decide (r * (r * r) ≤ a)) a
theorem sqR_spec (a : Nat) : sqR a * sqR a ≤ a ∧ a < (sqR a + 1) * (sqR a + 1) := by
  have h1 := most_meets (fun r => decide (r * r ≤ a)) (by simp) a
  have h2 := most_last (fun r => decide (r * r ≤ a)) a (sqR a + 1) (Nat.lt_succ_self _)
  refine ⟨of_decide_eq_true h1, ?_⟩
  by_cases h : sqR a + 1 ≤ a
  · have := of_decide_eq_false (h2 h); omega
  · have g1 := Nat.le_mul_self (sqR a + 1)
    omega
theorem cbR_spec (a : Nat) : cbR a * (cbR a * cbR a) ≤ a ∧ a < (cbR a + 1) * ((cbR a + 1) * (cbR a + 1)) := by
  have h1 := most_meets (fun r => decide (r * (r * r) ≤ a)) (by simp) a
  have h2 := most_last (fun r => decide (r * (r * r) ≤ a)) a (cbR a + 1) (Nat.lt_succ_self _)
  refine ⟨of_decide_eq_true h1, ?_⟩
  by_cases h : cbR a + 1 ≤ a
  · have := of_decide_eq_false (h2 h); omega
  · have g1 := Nat.le_mul_self (cbR a + 1)
    have g2 := Nat.mul_le_mul (Nat.le_refl (cbR a + 1)) g1
    omega
/-- The document's roots of an amount D times 2 ^ p: the digits, and the power behind them. -/
def sqA (D : Nat) (p : Int) : Nat := D * 2 ^ sqK p
def sqD (D : Nat) (p : Int) : Nat := mkQ (sqR (sqA D p)) (decide (sqR (sqA D p) * sqR (sqA D p) = sqA D p))
def sqP (p : Int) : Int := (p - sqK p) / 2 - 1
def rqA (D : Nat) (p : Int) : Nat := 2 ^ rqK D p
def rqD (D : Nat) (p : Int) : Nat := mkQ (sqR (rqA D p / D)) (decide (rqA D p % D = 0) && decide (sqR (rqA D p / D) * sqR (rqA D p / D) = rqA D p / D))
def rqP (D : Nat) (p : Int) : Int := (-rqK D p - p) / 2 - 1
def cbA (D : Nat) (p : Int) : Nat := D * 2 ^ cbK p
def cbD (D : Nat) (p : Int) : Nat := mkQ (cbR (cbA D p)) (decide (cbR (cbA D p) * (cbR (cbA D p) * cbR (cbA D p)) = cbA D p))
def cbP (p : Int) : Int := (p - cbK p) / 3 - 1

/-- The document's answers, where it is no NaN. -/
def sqB (x : Nat) (m : Int) : Int :=
  if kind x = 0 then x else if sgn x = 1 then 9221120237041090560 else if kind x = 3 then x else roundB 0 (sqD (mant x) (pow x)) (sqP (pow x)) m
def sqF (x : Nat) (m : Int) : Int :=
  if kind x = 0 then 0 else if sgn x = 1 then 16 else if kind x = 3 then 0 else roundF 0 (sqD (mant x) (pow x)) (sqP (pow x)) m
def rqB (x : Nat) (m : Int) : Int :=
  if kind x = 0 then (x : Int) + 9218868437227405312 else if sgn x = 1 then 9221120237041090560 else if kind x = 3 then 0 else roundB 0 (rqD (mant x) (pow x)) (rqP (mant x) (pow x)) m
def rqF (x : Nat) (m : Int) : Int :=
  if kind x = 0 then 8 else if sgn x = 1 then 16 else if kind x = 3 then 0 else roundF 0 (rqD (mant x) (pow x)) (rqP (mant x) (pow x)) m
def cbB (x : Nat) (m : Int) : Int :=
  if kind x = 3 ∨ kind x = 0 then x else roundB (sgn x) (cbD (mant x) (pow x)) (cbP (pow x)) m
def cbF (x : Nat) (m : Int) : Int :=
  if kind x = 3 ∨ kind x = 0 then 0 else roundF (sgn x) (cbD (mant x) (pow x)) (cbP (pow x)) m

/-- Two products, each times a power of two, held against one another. -/
theorem scale_le {a D x L y K : Nat} (h : x + K = y + L) : a * 2 ^ x ≤ D * 2 ^ L ↔ a * 2 ^ y ≤ D * 2 ^ K := by
  rw [← Nat.mul_le_mul_right_iff (Nat.two_pow_pos K), Nat.mul_assoc, ← Nat.pow_add, h, Nat.pow_add, ← Nat.mul_assoc, Nat.mul_right_comm D, Nat.mul_le_mul_right_iff (Nat.two_pow_pos L)]
theorem scale_lt {a D x L y K : Nat} (h : x + K = y + L) : D * 2 ^ L < a * 2 ^ x ↔ D * 2 ^ K < a * 2 ^ y := by
  have := scale_le (a := a) (D := D) h
  omega
theorem scale_eq {a D x L y K : Nat} (h : x + K = y + L) : a * 2 ^ x = D * 2 ^ L ↔ a * 2 ^ y = D * 2 ^ K := by
  rw [← Nat.mul_left_inj (Nat.ne_of_gt (Nat.two_pow_pos K)), Nat.mul_assoc, ← Nat.pow_add, h, Nat.pow_add, ← Nat.mul_assoc, Nat.mul_right_comm D, Nat.mul_left_inj (Nat.ne_of_gt (Nat.two_pow_pos L))]
theorem sq_shift (W j : Nat) : W * 2 ^ j * (W * 2 ^ j) = W * W * 2 ^ (2 * j) := by
  rw [Nat.mul_mul_mul_comm, ← Nat.pow_add, show j + j = 2 * j by omega]
theorem cb_shift (W j : Nat) : W * 2 ^ j * (W * 2 ^ j * (W * 2 ^ j)) = W * (W * W) * 2 ^ (3 * j) := by
  rw [sq_shift, Nat.mul_mul_mul_comm, ← Nat.pow_add, show j + 2 * j = 3 * j by omega]
theorem pw2_is (W : Nat) : pw2 W = W * W * 2 ^ 128 := by unfold pw2; rw [Nat.mul_right_comm]
theorem pw3_is (W : Nat) : pw3 W = W * (W * W) * 2 ^ 64 := by
  unfold pw3
  rw [Nat.mul_right_comm W, Nat.mul_right_comm (W * W), Nat.mul_assoc W W W]

/-- The digits that the program moves up fill the words. -/
theorem rtL_low {d below p : Int} {D : Nat} (hd : 2 ≤ d ∧ d ≤ 3) (_hL : 0 ≤ rtL d below D p) : 256 - d + 1 ≤ (Go.bitLen D : Int) + rtL d below D p := by
  have h1 := liftN_le (d := d) (p := p + below) (r := 256 - (Go.bitLen D : Int)) (by omega)
  unfold rtL at *
  omega
theorem rtG_ge {d below p : Int} {D : Nat} (n : Nat) (h0 : D ≠ 0) (hn : (n : Int) + 1 ≤ (Go.bitLen D : Int) + rtL d below D p) (hL : 0 ≤ rtL d below D p) : 2 ^ n ≤ rtG d below D p := by
  unfold rtG
  refine Nat.le_trans ?_ (Nat.mul_le_mul_right _ ((Go.bitLen_spec D).2 h0))
  rw [← Nat.pow_add]
  exact Nat.pow_le_pow_right (by decide) (by have := bl_pos h0; omega)
theorem big2 {W G : Nat} (h : G < pw2 (W + 1)) (hG : 2 ^ 254 ≤ G) : 2 ^ 60 ≤ W := by
  rcases Nat.lt_or_ge W (2 ^ 60) with g | g
  · have h1 : (W + 1) * (W + 1) ≤ 2 ^ 60 * 2 ^ 60 := Nat.mul_le_mul g g
    rw [pw2_is] at h
    have h2 := Nat.mul_le_mul_right (2 ^ 128) h1
    have h3 : 2 ^ 60 * 2 ^ 60 * 2 ^ 128 < 2 ^ 254 := by decide
    exact absurd (Nat.lt_of_lt_of_le h h2) (Nat.not_lt.2 (Nat.le_trans (Nat.le_of_lt h3) hG))
  · exact g
theorem big3 {W G : Nat} (h : G < pw3 (W + 1)) (hG : 2 ^ 253 ≤ G) : 2 ^ 60 ≤ W := by
  rcases Nat.lt_or_ge W (2 ^ 60) with g | g
  · have h1 : (W + 1) * ((W + 1) * (W + 1)) ≤ 2 ^ 60 * (2 ^ 60 * 2 ^ 60) := Nat.mul_le_mul g (Nat.mul_le_mul g g)
    rw [pw3_is] at h
    have h2 := Nat.mul_le_mul_right (2 ^ 64) h1
    have h3 : 2 ^ 60 * (2 ^ 60 * 2 ^ 60) * 2 ^ 64 < 2 ^ 253 := by decide
    exact absurd (Nat.lt_of_lt_of_le h h2) (Nat.not_lt.2 (Nat.le_trans (Nat.le_of_lt h3) hG))
  · exact g

theorem sq_round {D W : Nat} {p s m : Int} (h0 : D ≠ 0) (hL : 0 ≤ rtL 2 128 D p) (h1 : pw2 W ≤ rtG 2 128 D p) (h2 : rtG 2 128 D p < pw2 (W + 1)) :
    roundB s (sqD D p) (sqP p) m = roundB s (odd W (decide (pw2 W = rtG 2 128 D p))) (rtP 2 128 D p) m ∧ roundF s (sqD D p) (sqP p) m = roundF s (odd W (decide (pw2 W = rtG 2 128 D p))) (rtP 2 128 D p) m := by
  have hlow := rtL_low (by decide) hL
  have hb : 2 ^ 60 ≤ W := big2 h2 (rtG_ge 254 h0 (by omega) hL)
  obtain ⟨k, hk⟩ := liftN_dvd 2 (p + 128) (256 - (Go.bitLen D : Int))
  have hup := (liftN_le (d := 2) (p := p + 128) (r := 256 - (Go.bitLen D : Int)) (by omega)).1
  have hpos := bl_pos h0
  have hK : (p - sqK p) % 2 = 0 ∧ 130 ≤ sqK p := by unfold sqK; split <;> omega
  have hk' : p + 128 - rtL 2 128 D p = 2 * k := hk
  have hu' : rtL 2 128 D p ≤ 256 - (Go.bitLen D : Int) := hup
  obtain ⟨j, hj⟩ : ∃ j : Nat, (128 : Int) + sqK p = 2 * j + rtL 2 128 D p := ⟨((128 + (sqK p : Int) - rtL 2 128 D p) / 2).toNat, by omega⟩
  have hs : 128 + sqK p = 2 * j + (rtL 2 128 D p).toNat := by omega
  have hf : ∀ a b : Nat, a < b → (fun a => a * a) a < (fun a => a * a) b := sq_grows
  have g1 : (fun a => a * a) (W * 2 ^ j) ≤ sqA D p := by
    show W * 2 ^ j * (W * 2 ^ j) ≤ D * 2 ^ sqK p
    rw [sq_shift, ← scale_le hs, ← pw2_is]
    exact h1
  have g2 : sqA D p < (fun a => a * a) ((W + 1) * 2 ^ j) := by
    show D * 2 ^ sqK p < (W + 1) * 2 ^ j * ((W + 1) * 2 ^ j)
    rw [sq_shift, ← scale_lt hs, ← pw2_is]
    exact h2
  have g3 : ((fun a => a * a) (W * 2 ^ j) = sqA D p) = (pw2 W = rtG 2 128 D p) := propext (by
    show W * 2 ^ j * (W * 2 ^ j) = D * 2 ^ sqK p ↔ pw2 W = D * 2 ^ (rtL 2 128 D p).toNat
    rw [sq_shift, ← scale_eq hs, ← pw2_is])
  have h := root_round (s := s) (m := m) (p := sqP p) hf g1 g2 (sqR_spec _).1 (sqR_spec _).2 hb
  have e1 : sqP p + j + 1 = rtP 2 128 D p := by unfold sqP rtP; omega
  rw [e1] at h
  simp only [g3] at h
  exact h

theorem cb_round {D W : Nat} {p s m : Int} (h0 : D ≠ 0) (hL : 0 ≤ rtL 3 64 D p) (h1 : pw3 W ≤ rtG 3 64 D p) (h2 : rtG 3 64 D p < pw3 (W + 1)) :
    roundB s (cbD D p) (cbP p) m = roundB s (odd W (decide (pw3 W = rtG 3 64 D p))) (rtP 3 64 D p) m ∧ roundF s (cbD D p) (cbP p) m = roundF s (odd W (decide (pw3 W = rtG 3 64 D p))) (rtP 3 64 D p) m := by
  have hlow := rtL_low (by decide) hL
  have hb : 2 ^ 60 ≤ W := big3 h2 (rtG_ge 253 h0 (by omega) hL)
  obtain ⟨k, hk⟩ := liftN_dvd 3 (p + 64) (256 - (Go.bitLen D : Int))
  have hup := (liftN_le (d := 3) (p := p + 64) (r := 256 - (Go.bitLen D : Int)) (by omega)).1
  have hpos := bl_pos h0
  have hK1 := cbJ_dvd p
  have hK : (p - cbK p) % 3 = 0 ∧ 190 ≤ cbK p := by unfold cbK; omega
  have hk' : p + 64 - rtL 3 64 D p = 3 * k := hk
  have hu' : rtL 3 64 D p ≤ 256 - (Go.bitLen D : Int) := hup
  obtain ⟨j, hj⟩ : ∃ j : Nat, (64 : Int) + cbK p = 3 * j + rtL 3 64 D p := ⟨((64 + (cbK p : Int) - rtL 3 64 D p) / 3).toNat, by omega⟩
  have hs : 64 + cbK p = 3 * j + (rtL 3 64 D p).toNat := by omega
  have hf : ∀ a b : Nat, a < b → (fun a => a * (a * a)) a < (fun a => a * (a * a)) b := cb_grows
  have g1 : (fun a => a * (a * a)) (W * 2 ^ j) ≤ cbA D p := by
    show W * 2 ^ j * (W * 2 ^ j * (W * 2 ^ j)) ≤ D * 2 ^ cbK p
    rw [cb_shift, ← scale_le hs, ← pw3_is]
    exact h1
  have g2 : cbA D p < (fun a => a * (a * a)) ((W + 1) * 2 ^ j) := by
    show D * 2 ^ cbK p < (W + 1) * 2 ^ j * ((W + 1) * 2 ^ j * ((W + 1) * 2 ^ j))
    rw [cb_shift, ← scale_lt hs, ← pw3_is]
    exact h2
  have g3 : ((fun a => a * (a * a)) (W * 2 ^ j) = cbA D p) = (pw3 W = rtG 3 64 D p) := propext (by
    show W * 2 ^ j * (W * 2 ^ j * (W * 2 ^ j)) = D * 2 ^ cbK p ↔ pw3 W = D * 2 ^ (rtL 3 64 D p).toNat
    rw [cb_shift, ← scale_eq hs, ← pw3_is])
  have h := root_round (s := s) (m := m) (p := cbP p) hf g1 g2 (cbR_spec _).1 (cbR_spec _).2 hb
  have e1 : cbP p + j + 1 = rtP 3 64 D p := by unfold cbP rtP; omega
  rw [e1] at h
  simp only [g3] at h
  exact h

theorem rq_round {D W : Nat} {p s m : Int} (h0 : D ≠ 0) (hD : D < 9007199254740992) (h1 : W * W * ivE D p ≤ 2 ^ 188) (h2 : 2 ^ 188 < (W + 1) * (W + 1) * ivE D p) :
    roundB s (rqD D p) (rqP D p) m = roundB s (odd W (decide (W * W * ivE D p = 2 ^ 188))) (ivP D p) m ∧ roundF s (rqD D p) (rqP D p) m = roundF s (odd W (decide (W * W * ivE D p = 2 ^ 188))) (ivP D p) m := by
  obtain ⟨l1, l2, l3, l4⟩ := ivL_range (p := p) h0 hD
  obtain ⟨e1, e2⟩ := ivE_lt (p := p) h0 hD
  have hb : 2 ^ 60 ≤ W := by
    rcases Nat.lt_or_ge W (2 ^ 60) with g | g
    · have g1 : (W + 1) * (W + 1) ≤ 2 ^ 60 * 2 ^ 60 := Nat.mul_le_mul g g
      have g2 := Nat.mul_le_mul g1 (Nat.le_of_lt e1)
      have g3 : 2 ^ 60 * 2 ^ 60 * 18446744073709551616 < 2 ^ 188 := by decide
      exact absurd (Nat.lt_of_lt_of_le h2 g2) (Nat.not_lt.2 (Nat.le_of_lt g3))
    · exact g
  obtain ⟨k, hk⟩ := liftN_dvd 2 p (64 - (Go.bitLen D : Int))
  have hk' : p - ivL D p = 2 * k := hk
  have hK : (p + rqK D p) % 2 = 0 ∧ 240 ≤ rqK D p := by unfold rqK; split <;> omega
  obtain ⟨j, hj⟩ : ∃ j : Nat, (188 : Int) + 2 * j = rqK D p + ivL D p := ⟨((rqK D p + ivL D p - 188) / 2).toNat, by omega⟩
  have hs : (ivL D p).toNat + rqK D p = 2 * j + 188 := by omega
  have hD0 := Nat.pos_of_ne_zero h0
  have hf : ∀ a b : Nat, a < b → (fun a => a * a * D) a < (fun a => a * a * D) b := sqd_grows h0
  have rw1 : ∀ V : Nat, V * V * ivE D p = V * V * D * 2 ^ (ivL D p).toNat := fun V => by unfold ivE; exact (Nat.mul_assoc _ _ _).symm
  have rw2 : ∀ V : Nat, V * 2 ^ j * (V * 2 ^ j) * D = V * V * D * 2 ^ (2 * j) := fun V => by rw [sq_shift, Nat.mul_right_comm]
  have g1 : (fun a => a * a * D) (W * 2 ^ j) ≤ rqA D p := by
    show W * 2 ^ j * (W * 2 ^ j) * D ≤ 2 ^ rqK D p
    have := (scale_le (a := W * W * D) (D := 1) hs).1 (by rw [← rw1, Nat.one_mul]; exact h1)
    rw [rw2]; simpa using this
  have g2 : rqA D p < (fun a => a * a * D) ((W + 1) * 2 ^ j) := by
    show 2 ^ rqK D p < (W + 1) * 2 ^ j * ((W + 1) * 2 ^ j) * D
    have := (scale_lt (a := (W + 1) * (W + 1) * D) (D := 1) hs).1 (by rw [← rw1, Nat.one_mul]; exact h2)
    rw [rw2]; simpa using this
  have g3 : ((fun a => a * a * D) (W * 2 ^ j) = rqA D p) = (W * W * ivE D p = 2 ^ 188) := propext (by
    show W * 2 ^ j * (W * 2 ^ j) * D = 2 ^ rqK D p ↔ _
    have := scale_eq (a := W * W * D) (D := 1) hs
    rw [rw2, rw1]
    simpa using this.symm)
  have k1 : (fun a => a * a * D) (sqR (rqA D p / D)) ≤ rqA D p := (Nat.le_div_iff_mul_le hD0).1 (sqR_spec (rqA D p / D)).1
  have k2 : rqA D p < (fun a => a * a * D) (sqR (rqA D p / D) + 1) := (Nat.div_lt_iff_lt_mul hD0).1 (sqR_spec (rqA D p / D)).2
  have h := root_round (s := s) (m := m) (p := rqP D p) hf g1 g2 k1 k2 hb
  have e3 : rqP D p + j + 1 = ivP D p := by unfold rqP ivP; omega
  have e4 : (decide ((fun a => a * a * D) (sqR (rqA D p / D)) = rqA D p)) = (decide (rqA D p % D = 0) && decide (sqR (rqA D p / D) * sqR (rqA D p / D) = rqA D p / D)) := by
    rw [Bool.eq_iff_iff]
    simp only [decide_eq_true_eq, Bool.and_eq_true]
    constructor
    · intro e
      have : rqA D p % D = 0 := by rw [← e]; exact Nat.mul_mod_left _ _
      exact ⟨this, (Nat.div_eq_of_eq_mul_left hD0 e.symm).symm⟩
    · rintro ⟨e, f⟩
      rw [f]
      exact Nat.div_mul_cancel (Nat.dvd_of_mod_eq_zero e)
  rw [e3, e4] at h
  simp only [g3] at h
  exact h

end Go.Proofs.YtcjihaafohnbeaaDoor
