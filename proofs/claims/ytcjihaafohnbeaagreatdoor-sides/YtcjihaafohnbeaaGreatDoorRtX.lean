import Derived.Test.YtcjihaafohnbeaaGreatDoorRtH
import Derived.Test.YtcjihaafohnbeaaGreatDoorSC4
import Derived.Test.YtcjihaafohnbeaaGreatDoorRefQ
import Derived.Test.YtcjihaafohnbeaaGreatDoorDo9
namespace Go.Proofs.YtcjihaafohnbeaaGreatDoor
open Go.RowKit

/-- The sum of two squares: its digits and its power. -/
def ssD (x y : Nat) : Nat := alN (mant x * mant x) (pow x + pow x) (pow y + pow y) + alN (mant y * mant y) (pow y + pow y) (pow x + pow x)
def ssP (x y : Nat) : Int := min (pow x + pow x) (pow y + pow y)
def sdB (x y : Nat) (m : Int) : Int :=
  if kind x = 3 ∨ kind y = 3 then 9218868437227405312
  else if kind x = 0 ∧ kind y = 0 then 0
  else roundB 0 (sqD (ssD x y) (ssP x y)) (sqP (ssP x y)) m
def sdF (x y : Nat) (m : Int) : Int :=
  if kind x = 3 ∨ kind y = 3 then 0
  else if kind x = 0 ∧ kind y = 0 then 0
  else roundF 0 (sqD (ssD x y) (ssP x y)) (sqP (ssP x y)) m
theorem ssP_range (x y : Nat) : -2148 ≤ ssP x y ∧ ssP x y ≤ 1944 := by
  have := pow_range x
  have := pow_range y
  unfold ssP; omega
theorem shift_ne {D : Nat} (k : Nat) (h : D ≠ 0) : D * 2 ^ k ≠ 0 := fun e => by
  have := Nat.two_pow_pos k
  rcases Nat.mul_eq_zero.1 e with g | g
  · exact h g
  · omega
theorem al_some {D : Nat} (p q : Int) (h : D ≠ 0) : alN D p q ≠ 0 := shift_ne _ h
theorem sq_some {D : Nat} (h : D ≠ 0) : D * D ≠ 0 := fun e => by rcases Nat.mul_eq_zero.1 e with g | g <;> exact h g
theorem ssD_some {x y : Nat} (h : mant x ≠ 0 ∨ mant y ≠ 0) : ssD x y ≠ 0 := by
  unfold ssD
  rcases h with h | h
  · have := al_some (pow x + pow x) (pow y + pow y) (sq_some h)
    omega
  · have := al_some (pow y + pow y) (pow x + pow x) (sq_some h)
    omega

/-- A number with a mark in place of what was cut off, held against even numbers. -/
theorem mark_le {E S t V : Nat} (hm : (E % 2 ^ t = 0 ∧ S = E / 2 ^ t) ∨ (E % 2 ^ t ≠ 0 ∧ S = E / 2 ^ t + (1 - E / 2 ^ t % 2))) (hV : V % 2 = 0) : (V ≤ S ↔ V * 2 ^ t ≤ E) ∧ (V = S ↔ V * 2 ^ t = E) := by
  have h1 : V ≤ E / 2 ^ t ↔ V * 2 ^ t ≤ E := Nat.le_div_iff_mul_le (Nat.two_pow_pos t)
  have hdm := Nat.div_add_mod E (2 ^ t)
  rcases hm with ⟨h, rfl⟩ | ⟨h, rfl⟩
  · refine ⟨h1, ?_⟩
    rw [h, Nat.add_zero, Nat.mul_comm] at hdm
    constructor
    · intro e; rw [e, hdm]
    · intro e; rw [← e, Nat.mul_div_cancel _ (Nat.two_pow_pos t)]
  · refine ⟨?_, ?_⟩
    · rw [← h1]; omega
    · constructor
      · intro e; omega
      · intro e; exfalso; apply h; rw [← e]; exact Nat.mul_mod_left _ _

theorem sqm_round {E S W t : Nat} {p s m : Int} (hm : (E % 2 ^ t = 0 ∧ S = E / 2 ^ t) ∨ (E % 2 ^ t ≠ 0 ∧ S = E / 2 ^ t + (1 - E / 2 ^ t % 2))) (hS : 2 ^ 254 ≤ S) (hS2 : S < 2 ^ 255) (h1 : pw2 W ≤ rtG 2 128 S (p + t)) (h2 : rtG 2 128 S (p + t) < pw2 (W + 1)) :
    roundB s (sqD E p) (sqP p) m = roundB s (odd W (decide (pw2 W = rtG 2 128 S (p + t)))) (rtP 2 128 S (p + t)) m ∧ roundF s (sqD E p) (sqP p) m = roundF s (odd W (decide (pw2 W = rtG 2 128 S (p + t)))) (rtP 2 128 S (p + t)) m := by
  have hbl : Go.bitLen S = 255 := by
    have g1 := bitLen_le (n := 255) hS2
    have g2 := (Go.bitLen_spec S).1
    rcases Nat.lt_or_ge (Go.bitLen S) 255 with g | g
    · exact absurd (Nat.lt_of_lt_of_le g2 (Nat.pow_le_pow_right (n := 2) (by decide) (by omega : Go.bitLen S ≤ 254))) (Nat.not_lt.2 hS)
    · omega
  have hs0 : S ≠ 0 := fun e => by rw [e] at hbl; exact absurd hbl (by decide)
  have hl := liftN_le (d := 2) (p := p + t + 128) (r := 256 - (Go.bitLen S : Int)) (by omega)
  have hL : 0 ≤ rtL 2 128 S (p + t) ∧ rtL 2 128 S (p + t) ≤ 1 := by unfold rtL; omega
  have hb : 2 ^ 60 ≤ W := big2 h2 (rtG_ge 254 hs0 (by omega) hL.1)
  obtain ⟨k, hk⟩ := liftN_dvd 2 (p + t + 128) (256 - (Go.bitLen S : Int))
  have hk' : p + t + 128 - rtL 2 128 S (p + t) = 2 * k := hk
  have hK : (p - sqK p) % 2 = 0 ∧ 130 ≤ sqK p := by unfold sqK; split <;> omega
  obtain ⟨L, hLn⟩ : ∃ L : Nat, rtL 2 128 S (p + t) = L := ⟨(rtL 2 128 S (p + t)).toNat, by omega⟩
  obtain ⟨c, hc⟩ : ∃ c : Nat, 128 = c + 1 + L := ⟨127 - L, by omega⟩
  obtain ⟨j, hj⟩ : ∃ j : Nat, c + 1 + t + sqK p = 2 * j := ⟨(c + 1 + t + sqK p) / 2, by omega⟩
  have hG : rtG 2 128 S (p + t) = S * 2 ^ L := by unfold rtG; rw [hLn]; rfl
  have key : ∀ V : Nat, (V * V * 2 ^ 128 ≤ S * 2 ^ L ↔ V * V * 2 ^ (2 * j) ≤ E * 2 ^ sqK p) ∧ (V * V * 2 ^ 128 = S * 2 ^ L ↔ V * V * 2 ^ (2 * j) = E * 2 ^ sqK p) := fun V => by
    have q := mark_le (V := V * V * 2 ^ (c + 1)) hm (by rw [Nat.pow_succ, ← Nat.mul_assoc]; exact Nat.mul_mod_left _ _)
    have e1 : V * V * 2 ^ 128 = V * V * 2 ^ (c + 1) * 2 ^ L := by rw [Nat.mul_assoc (V * V) (2 ^ (c + 1)) (2 ^ L), ← Nat.pow_add, ← hc]
    have e2 : V * V * 2 ^ (2 * j) = V * V * 2 ^ (c + 1) * 2 ^ t * 2 ^ sqK p := by rw [← hj, Nat.pow_add, Nat.pow_add, ← Nat.mul_assoc, ← Nat.mul_assoc]
    rw [e1, e2, Nat.mul_le_mul_right_iff (Nat.two_pow_pos L), Nat.mul_le_mul_right_iff (Nat.two_pow_pos (sqK p)), Nat.mul_left_inj (Nat.ne_of_gt (Nat.two_pow_pos L)), Nat.mul_left_inj (Nat.ne_of_gt (Nat.two_pow_pos (sqK p)))]
    exact q
  rw [hG, pw2_is] at h1 h2
  have hf : ∀ a b : Nat, a < b → (fun a => a * a) a < (fun a => a * a) b := sq_grows
  have g1 : (fun a => a * a) (W * 2 ^ j) ≤ sqA E p := by
    show W * 2 ^ j * (W * 2 ^ j) ≤ E * 2 ^ sqK p
    rw [sq_shift]
    exact (key W).1.1 h1
  have g2 : sqA E p < (fun a => a * a) ((W + 1) * 2 ^ j) := by
    show E * 2 ^ sqK p < (W + 1) * 2 ^ j * ((W + 1) * 2 ^ j)
    rw [sq_shift]
    have := (key (W + 1)).1
    omega
  have g3 : ((fun a => a * a) (W * 2 ^ j) = sqA E p) = (pw2 W = rtG 2 128 S (p + t)) := propext (by
    show W * 2 ^ j * (W * 2 ^ j) = E * 2 ^ sqK p ↔ pw2 W = rtG 2 128 S (p + t)
    rw [sq_shift, hG, pw2_is]
    exact (key W).2.symm)
  have h := root_round (s := s) (m := m) (p := sqP p) hf g1 g2 (sqR_spec _).1 (sqR_spec _).2 hb
  have e1 : sqP p + j + 1 = rtP 2 128 S (p + t) := by unfold sqP rtP; omega
  rw [e1] at h
  simp only [g3] at h
  exact h

theorem gs_mark {d1 d2 : Nat} {p1 p2 : Int} (hp : p2 ≤ p1) (b1 : Go.bitLen d1 ≤ 106) (b2 : Go.bitLen d2 ≤ 106) (hf : p2 < p1 → d1 ≠ 0) (_h0 : d1 * 2 ^ (p1 - p2).toNat + d2 ≠ 0) :
    ∃ t : Nat, ((d1 * 2 ^ (p1 - p2).toNat + d2) % 2 ^ t = 0 ∧ d1 * 2 ^ (lift 256 d1 (p1 - p2)).toNat + mk d2 (p1 - p2 - lift 256 d1 (p1 - p2)).toNat = (d1 * 2 ^ (p1 - p2).toNat + d2) / 2 ^ t ∨
      (d1 * 2 ^ (p1 - p2).toNat + d2) % 2 ^ t ≠ 0 ∧ d1 * 2 ^ (lift 256 d1 (p1 - p2)).toNat + mk d2 (p1 - p2 - lift 256 d1 (p1 - p2)).toNat = (d1 * 2 ^ (p1 - p2).toNat + d2) / 2 ^ t + (1 - (d1 * 2 ^ (p1 - p2).toNat + d2) / 2 ^ t % 2)) ∧
      p1 - lift 256 d1 (p1 - p2) = p2 + t ∧ (t ≠ 0 → 2 ^ 254 ≤ d1 * 2 ^ (lift 256 d1 (p1 - p2)).toNat + mk d2 (p1 - p2 - lift 256 d1 (p1 - p2)).toNat) ∧ d1 * 2 ^ (lift 256 d1 (p1 - p2)).toNat + mk d2 (p1 - p2 - lift 256 d1 (p1 - p2)).toNat < 2 ^ 255 ∧
      (t = 0 → d1 * 2 ^ (lift 256 d1 (p1 - p2)).toNat + mk d2 (p1 - p2 - lift 256 d1 (p1 - p2)).toNat = d1 * 2 ^ (p1 - p2).toNat + d2) := by
  have hl := lift_le (n := 256) (d := d1) (a := p1 - p2) (by omega) (by omega)
  have hdef : lift 256 d1 (p1 - p2) = min (p1 - p2) (256 - Go.bitLen d1 - 1) := rfl
  obtain ⟨L, hL⟩ : ∃ L : Nat, lift 256 d1 (p1 - p2) = L := ⟨(lift 256 d1 (p1 - p2)).toNat, by omega⟩
  obtain ⟨t, ht⟩ : ∃ t : Nat, p1 - p2 - lift 256 d1 (p1 - p2) = t := ⟨(p1 - p2 - lift 256 d1 (p1 - p2)).toNat, by omega⟩
  rw [ht, hL, Int.toNat_natCast, Int.toNat_natCast]
  have ha : (p1 - p2).toNat = L + t := by omega
  rw [ha, Nat.pow_add, ← Nat.mul_assoc]
  have g1 := (Go.bitLen_spec d1).1
  have g2 := (Go.bitLen_spec d2).1
  have hmk : mk d2 t ≤ 2 ^ 106 := by
    have q1 := mk_le d2 t
    have q2 := Nat.div_le_self d2 (2 ^ t)
    have q3 := Nat.lt_of_lt_of_le g2 (Nat.pow_le_pow_right (n := 2) (by decide) b2)
    omega
  have hlt : d1 * 2 ^ L + mk d2 t < 2 ^ 255 := by
    have q1 : (d1 + 1) * 2 ^ L ≤ 2 ^ Go.bitLen d1 * 2 ^ L := Nat.mul_le_mul_right _ g1
    rw [← Nat.pow_add, Nat.add_mul, Nat.one_mul] at q1
    rcases Nat.lt_or_ge L 107 with q | q
    · have q2 : (2 : Nat) ^ (Go.bitLen d1 + L) ≤ 2 ^ 212 := Nat.pow_le_pow_right (by decide) (by omega)
      have q3 := Nat.two_pow_pos L
      have q4 : (2 : Nat) ^ 212 + 2 ^ 106 < 2 ^ 255 := by decide
      omega
    · have q2 : (2 : Nat) ^ (Go.bitLen d1 + L) ≤ 2 ^ 255 := Nat.pow_le_pow_right (by decide) (by omega)
      have q3 : (2 : Nat) ^ 107 ≤ 2 ^ L := Nat.pow_le_pow_right (by decide) q
      have q4 : (2 : Nat) ^ 106 < 2 ^ 107 := by decide
      omega
  refine ⟨t, ?_, by omega, ?_, hlt, ?_⟩
  · by_cases h : t = 0
    · subst h
      left
      have : mk d2 0 = d2 := by unfold mk; simp [Nat.mod_one]
      rw [this]
      simp [Nat.mod_one]
    · refine far_plus ?_
      obtain ⟨l, rfl⟩ : ∃ l, L = l + 1 := ⟨L - 1, by omega⟩
      rw [Nat.pow_succ, ← Nat.mul_assoc]
      exact Nat.mul_mod_left _ _
  · intro h
    have hd : d1 ≠ 0 := hf (by omega)
    have q1 := (Go.bitLen_spec d1).2 hd
    have q2 := bl_pos hd
    have q3 : 2 ^ (Go.bitLen d1 - 1) * 2 ^ L ≤ d1 * 2 ^ L := Nat.mul_le_mul_right _ q1
    rw [← Nat.pow_add, show Go.bitLen d1 - 1 + L = 254 by omega] at q3
    omega
  · intro h
    subst h
    have : mk d2 0 = d2 := by unfold mk; simp [Nat.mod_one]
    rw [this, Nat.pow_zero, Nat.mul_one]

/-- The program's sum of squares: its mark. -/
def hyS (x y : Nat) : Nat := gsD 256 0 (mant x * mant x) (pow x + pow x) 0 (mant y * mant y) (pow y + pow y)
def hyP (x y : Nat) : Int := gsP 256 0 (mant x * mant x) (pow x + pow x) 0 (mant y * mant y) (pow y + pow y)
theorem sq_bl (x : Nat) : Go.bitLen (mant x * mant x) ≤ 106 := bitLen_le (n := 106) (Nat.lt_of_lt_of_le (Nat.mul_lt_mul'' (mant_lt x) (mant_lt x)) (by decide))
theorem mant_high {x : Nat} (h : -1074 < pow x) : mant x ≠ 0 := by
  unfold pow at h
  unfold mant
  split
  · rename_i c
    rw [if_pos c] at h
    omega
  · omega
theorem hy_mark {x y : Nat} (h : mant x ≠ 0 ∨ mant y ≠ 0) : ∃ t : Nat, ((ssD x y % 2 ^ t = 0 ∧ hyS x y = ssD x y / 2 ^ t) ∨ (ssD x y % 2 ^ t ≠ 0 ∧ hyS x y = ssD x y / 2 ^ t + (1 - ssD x y / 2 ^ t % 2))) ∧ hyP x y = ssP x y + t ∧ (t ≠ 0 → 2 ^ 254 ≤ hyS x y) ∧ hyS x y < 2 ^ 255 ∧ (t = 0 → hyS x y = ssD x y) := by
  have h0 := ssD_some h
  have rx := pow_range x
  have ry := pow_range y
  by_cases hp : pow y + pow y ≤ pow x + pow x
  · have e1 : ssD x y = mant x * mant x * 2 ^ (pow x + pow x - (pow y + pow y)).toNat + mant y * mant y := by
      unfold ssD alN
      rw [show min (pow x + pow x) (pow y + pow y) = pow y + pow y by omega, show min (pow y + pow y) (pow x + pow x) = pow y + pow y by omega, Int.sub_self]
      simp
    have e2 : ssP x y = pow y + pow y := by unfold ssP; omega
    have e3 : hyS x y = mant x * mant x * 2 ^ (lift 256 (mant x * mant x) (pow x + pow x - (pow y + pow y))).toNat + mk (mant y * mant y) (pow x + pow x - (pow y + pow y) - lift 256 (mant x * mant x) (pow x + pow x - (pow y + pow y))).toNat := by
      unfold hyS gsD suD
      rw [if_pos hp, if_pos rfl]
    have e4 : hyP x y = pow x + pow x - lift 256 (mant x * mant x) (pow x + pow x - (pow y + pow y)) := by
      unfold hyP gsP suP
      rw [if_pos hp, if_pos rfl]
    rw [e1] at h0
    have := gs_mark hp (sq_bl x) (sq_bl y) (fun g => sq_some (mant_high (by omega))) h0
    rw [e1, e2, e3, e4]
    exact this
  · have hq : pow x + pow x ≤ pow y + pow y := by omega
    have e1 : ssD x y = mant y * mant y * 2 ^ (pow y + pow y - (pow x + pow x)).toNat + mant x * mant x := by
      unfold ssD alN
      rw [show min (pow x + pow x) (pow y + pow y) = pow x + pow x by omega, show min (pow y + pow y) (pow x + pow x) = pow x + pow x by omega, Int.sub_self]
      simp
      rw [Nat.add_comm]
    have e2 : ssP x y = pow x + pow x := by unfold ssP; omega
    have e3 : hyS x y = mant y * mant y * 2 ^ (lift 256 (mant y * mant y) (pow y + pow y - (pow x + pow x))).toNat + mk (mant x * mant x) (pow y + pow y - (pow x + pow x) - lift 256 (mant y * mant y) (pow y + pow y - (pow x + pow x))).toNat := by
      unfold hyS gsD suD
      rw [if_neg hp, if_pos rfl]
    have e4 : hyP x y = pow y + pow y - lift 256 (mant y * mant y) (pow y + pow y - (pow x + pow x)) := by
      unfold hyP gsP suP
      rw [if_neg hp, if_pos rfl]
    rw [e1] at h0
    have := gs_mark hq (sq_bl y) (sq_bl x) (fun g => sq_some (mant_high (by omega))) h0
    rw [e1, e2, e3, e4]
    exact this
theorem hyL {x y : Nat} (h : mant x ≠ 0 ∨ mant y ≠ 0) : hyS x y ≠ 0 ∧ 0 ≤ rtL 2 128 (hyS x y) (hyP x y) := by
  obtain ⟨t, hm, hp, hb, hl, he⟩ := hy_mark h
  have hbl := bitLen_le (n := 255) hl
  have h1 := liftN_le (d := 2) (p := hyP x y + 128) (r := 256 - (Go.bitLen (hyS x y) : Int)) (by omega)
  refine ⟨?_, by unfold rtL; omega⟩
  by_cases ht : t = 0
  · rw [he ht]; exact ssD_some h
  · have := hb ht
    have h2 := Nat.two_pow_pos 254
    omega
theorem hy_round {x y W : Nat} {m : Int} (h : mant x ≠ 0 ∨ mant y ≠ 0) (h1 : pw2 W ≤ rtG 2 128 (hyS x y) (hyP x y)) (h2 : rtG 2 128 (hyS x y) (hyP x y) < pw2 (W + 1)) :
    roundB 0 (sqD (ssD x y) (ssP x y)) (sqP (ssP x y)) m = roundB 0 (odd W (decide (pw2 W = rtG 2 128 (hyS x y) (hyP x y)))) (rtP 2 128 (hyS x y) (hyP x y)) m ∧ roundF 0 (sqD (ssD x y) (ssP x y)) (sqP (ssP x y)) m = roundF 0 (odd W (decide (pw2 W = rtG 2 128 (hyS x y) (hyP x y)))) (rtP 2 128 (hyS x y) (hyP x y)) m := by
  obtain ⟨hs0, hL⟩ := hyL h
  obtain ⟨t, hm, hp, hb, hl, he⟩ := hy_mark h
  by_cases ht : t = 0
  · subst ht
    have e1 : hyP x y = ssP x y := by omega
    rw [he rfl, e1] at h1 h2 hL
    rw [he rfl, e1]
    exact sq_round (ssD_some h) hL h1 h2
  · rw [hp] at h1 h2 ⊢
    exact sqm_round hm (hb ht) hl h1 h2
end Go.Proofs.YtcjihaafohnbeaaGreatDoor
