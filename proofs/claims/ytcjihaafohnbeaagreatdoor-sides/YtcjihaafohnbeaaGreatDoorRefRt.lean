import Derived.Test.YtcjihaafohnbeaaGreatDoorRefZ
import Derived.Deep.RegionHeld3
namespace Go.Proofs.YtcjihaafohnbeaaGreatDoor
open Go.RowKit

/-- Between a digit and the next: the root's amount lies from x up to x + 2^k. -/
theorem root_step {a x p : Nat} (h1 : x * x ≤ a) (h2 : a < (x + 2 * p) * (x + 2 * p)) : ((x + p) * (x + p) ≤ a → (x + p) * (x + p) ≤ a ∧ a < (x + p + p) * (x + p + p)) ∧ (a < (x + p) * (x + p) → x * x ≤ a ∧ a < (x + p) * (x + p)) :=
  ⟨fun h => ⟨h, by rw [Nat.add_assoc, ← Nat.two_mul]; exact h2⟩, fun h => ⟨h1, h⟩⟩
theorem root_start (a : Nat) : a < (0 + 2 ^ ((Go.bitLen a + 1) / 2 + 1)) * (0 + 2 ^ ((Go.bitLen a + 1) / 2 + 1)) := by
  rw [Nat.zero_add, ← Nat.pow_add]
  exact Nat.lt_of_lt_of_le (Go.bitLen_spec a).1 (Nat.pow_le_pow_right (by decide) (by omega))
theorem root_nd {a x : Nat} (h : x * x ≤ a) : nd x ≤ nd a := nd_mono (Nat.le_trans (Nat.le_mul_self x) h)

set_option maxRecDepth 10000 in
set_option maxHeartbeats 4000000 in
theorem root_any (a : Nat) (va : Value) (w : World) (ha : IsNat w va a) (sa : nd a ≤ 1000) :
    Calls Tryz.prog 74 #[va] w fun e w' => ∃ v R, e = .returned (.tuple #[v, .bool (decide (R * R = a))]) ∧ IsNat w' v R ∧ (R * R ≤ a ∧ a < (R + 1) * (R + 1)) ∧ Below w.heap.size w w' := by
  have HSZ : Hid (∀ w1, Below w.heap.size w w1 → Calls Tryz.prog 78 #[va] w1 fun e w' => e = .returned (.int .i64 (Go.bitLen a : Nat)) ∧ w' = w1) := fun w1 hb1 => size_any a va w1 (ha.later hb1) (by omega)
  have HA0 : Hid (IsNat w va a) := ha
  have hbl : Go.bitLen a ≤ 24000 := by unfold nd at sa; omega
  have HN : Hid (nd a ≤ 1000) := sa
  have HS0 : Hid (a < (0 + 2 ^ ((Go.bitLen a + 1) / 2 + 1)) * (0 + 2 ^ ((Go.bitLen a + 1) / 2 + 1))) := root_start a
  obtain ⟨L, hL⟩ : ∃ L, L = Go.bitLen a := ⟨_, rfl⟩
  rw [← hL] at HSZ HS0 hbl
  have l1 : (L : Int) ≤ 24000 := by omega
  have HNT : Hid (∀ (x : Nat) (w1 : World), x < 2 → Calls Tryz.prog 68 #[.int .i64 (x : Nat)] w1 fun e w' => ∃ a l c, e = .returned (.slice a l c) ∧ IsNat w' (.slice a l c) x ∧ Below w1.heap.size w1 w') := fun x w1 h => (nat_any x (by omega) w1).mono fun e w' ⟨v', he, hv, hb⟩ => by
    obtain ⟨a, len, cap, g, rfl, -, -, -⟩ := hv.slice
    exact ⟨a, len, cap, he, hv, hb⟩
  have HUP : Hid (∀ (k : Nat) (z : Int) (v : Value) (w1 : World), z = k → IsNat w1 v 1 → k ≤ 24000 → Calls Tryz.prog 71 #[v, .int .i64 z] w1 fun e w' => ∃ a l c, e = .returned (.slice a l c) ∧ IsNat w' (.slice a l c) (2 ^ k) ∧ Below w1.heap.size w1 w') := fun k z v w1 hz h hn => by
    subst hz
    refine (up_any 1 k v w1 h (by decide) (by omega)).mono fun e w' ⟨v', he, hv, hb⟩ => ?_
    obtain ⟨a, len, cap, g, rfl, -, -, -⟩ := hv.slice
    exact ⟨a, len, cap, he, by rw [Nat.one_mul] at hv; exact hv, hb⟩
  have HPL : Hid (∀ (x y : Nat) (v u : Value) (w1 : World), IsNat w1 v x → IsNat w1 u y → nd x ≤ 3000 → nd y ≤ 3000 → Calls Tryz.prog 75 #[v, u] w1 fun e w' => ∃ a l c, e = .returned (.slice a l c) ∧ IsNat w' (.slice a l c) (x + y) ∧ Below w1.heap.size w1 w') := fun x y v u w1 h1 h2 n1 n2 => (plus_any x y v u w1 h1 h2 (by omega) (by omega)).mono fun e w' ⟨v', he, hv, hb⟩ => by
    obtain ⟨a, len, cap, g, rfl, -, -, -⟩ := hv.slice
    exact ⟨a, len, cap, he, hv, hb⟩
  have HTM : Hid (∀ (x : Nat) (v : Value) (w1 : World), IsNat w1 v x → nd x ≤ 3000 → Calls Tryz.prog 70 #[v, v] w1 fun e w' => ∃ a l c, e = .returned (.slice a l c) ∧ IsNat w' (.slice a l c) (x * x) ∧ Below w1.heap.size w1 w') := fun x v w1 h1 n1 => (times_any x x v v w1 h1 h1 (by omega) (by omega)).mono fun e w' ⟨v', he, hv, hb⟩ => by
    obtain ⟨a, len, cap, g, rfl, -, -, -⟩ := hv.slice
    exact ⟨a, len, cap, he, hv, hb⟩
  have HCM : Hid (∀ (x : Nat) (v : Value) (w1 : World), IsNat w1 v x → IsNat w1 va a → nd x ≤ 9000 → Calls Tryz.prog 76 #[v, va] w1 fun e w' => e = .returned (.int .i64 (cmpI x a)) ∧ Below w1.heap.size w1 w') := fun x v w1 h1 h2 n1 => cmp_any x a v va w1 h1 h2 (by omega) (by omega)
  have HNX : Hid (∀ {x : Nat}, x * x ≤ a → nd x ≤ 1000) := fun {x} h => Nat.le_trans (root_nd h) sa
  have HNP : Hid (∀ {k : Nat}, k ≤ 13000 → nd (2 ^ k) ≤ 1000) := fun {k} h => Nat.le_trans (nd_of_lt (n := 2 ^ k) (k := k / 24 + 1) (Nat.pow_lt_pow_right (by decide) (by omega))) (by omega)
  have HNS : Hid (∀ {x y : Nat}, nd x ≤ 1000 → nd y ≤ 1000 → nd (x + y) ≤ 1001) := fun {x y} h1 h2 => Nat.le_trans (nd_add_le x y) (by omega)
  have HNM : Hid (∀ {x : Nat}, nd x ≤ 1001 → nd (x * x) ≤ 2002) := fun {x} h => Nat.le_trans (nd_mul_le x x) (by omega)
  clear hL hbl sa ha
  go_enter Tryz.func74, Tryz.ntmps74
  go_wp2_with fail
  refine (HSZ.out _ (Below.refl _ _)).mono ?_
  rintro e w0 ⟨rfl, rfl⟩
  go_wp2_with fail
  go_loopw [4, 5, 6, 7, 8, 9] (fun sx si _ _ _ _ wr => ∃ (k x : Nat) (a1 : Option Addr) (n1 c1 : Nat), k ≤ (L + 1) / 2 + 1 ∧ sx = .slice a1 n1 c1 ∧ si = .int .i64 ((k : Int) - 1) ∧ IsNat wr (.slice a1 n1 c1) x ∧ x * x ≤ a ∧ a < (x + 2 ^ k) * (x + 2 ^ k) ∧ Below w0.heap.size w0 wr) (fun _ si _ _ _ _ _ => (intOf si + 1).toNat)
  case atStart =>
    exact ⟨(L + 1) / 2 + 1, 0, none, 0, 0, Nat.le_refl _, rfl, by go_num, IsNat.nil _, Nat.zero_le _, HS0.out, Below.refl _ _⟩
  case round =>
    obtain ⟨k, x, a1, n1, c1, hk, rfl, rfl, hx, hlo, hhi, hbel⟩ := hrel
    match k, hk with
    | 0, _ =>
      have V0 : Hid (IsNat wr (.slice a1 n1 c1) x ∧ IsNat wr va a ∧ Below w0.heap.size w0 wr) := ⟨hx, HA0.out.later hbel, hbel⟩
      have HL : Hid (x * x ≤ a ∧ a < (x + 1) * (x + 1)) := ⟨hlo, by simpa using hhi⟩
      clear hx hlo hhi hbel
      go_wp2_with fail
      refine (HTM.out _ _ _ V0.out.1 (by have := HNX.out HL.out.1; omega)).mono ?_
      rintro e w1 ⟨b1, m1, d1, rfl, hv1, hb1⟩
      have V1 : Hid (IsNat w1 (.slice b1 m1 d1) (x * x) ∧ IsNat w1 (.slice a1 n1 c1) x ∧ IsNat w1 va a ∧ Below w0.heap.size w0 w1) := ⟨hv1, V0.out.1.later hb1, V0.out.2.1.later hb1, V0.out.2.2.trans (hb1.mono V0.out.2.2.size)⟩
      clear hv1 hb1 V0
      go_wp2_with fail
      refine (HCM.out _ _ _ V1.out.1 V1.out.2.2.1 (by have := HNM.out (show nd x ≤ 1001 by have := HNX.out HL.out.1; omega); omega)).mono ?_
      rintro e w2 ⟨rfl, hb2⟩
      have V2 : Hid (IsNat w2 (.slice a1 n1 c1) x ∧ Below w0.heap.size w0 w2) := ⟨V1.out.2.1.later hb2, V1.out.2.2.2.trans (hb2.mono V1.out.2.2.2.size)⟩
      have HZ : Hid ((cmpI (x * x) a == 0) = decide (x * x = a)) := (by
        by_cases e : x * x = a
        · rw [decide_eq_true e, cmpI_eq e]; rfl
        · rw [decide_eq_false e, cmpI_lt (by have := HL.out.1; omega)]; rfl : (cmpI (x * x) a == 0) = decide (x * x = a))
      clear hb2 V1
      generalize cmpI (x * x) a = CC at *
      go_wp2_with fail
      go_ret2
      exact ⟨_, x, by rw [← HZ.out]; rfl, V2.out.1, HL.out, V2.out.2⟩
    | i + 1, hk =>
      have V0 : Hid (IsNat wr (.slice a1 n1 c1) x ∧ IsNat wr va a ∧ Below w0.heap.size w0 wr) := ⟨hx, HA0.out.later hbel, hbel⟩
      have HST : Hid (((x + 2 ^ i) * (x + 2 ^ i) ≤ a → (x + 2 ^ i) * (x + 2 ^ i) ≤ a ∧ a < (x + 2 ^ i + 2 ^ i) * (x + 2 ^ i + 2 ^ i)) ∧ (a < (x + 2 ^ i) * (x + 2 ^ i) → x * x ≤ a ∧ a < (x + 2 ^ i) * (x + 2 ^ i))) := root_step hlo (by rw [Nat.pow_succ, Nat.mul_comm (2 ^ i)] at hhi; exact hhi)
      have HK : Hid (i + 1 ≤ (L + 1) / 2 + 1 ∧ i ≤ 13000 ∧ nd x ≤ 1000) := ⟨hk, by omega, HNX.out hlo⟩
      have j2 : (i : Int) ≤ 13000 := by omega
      clear hx hlo hhi hbel hk
      go_wp2_with fail
      refine (HNT.out 1 _ (by decide)).mono ?_
      rintro e w1 ⟨b1, m1, d1, rfl, hv1, hb1⟩
      have V1 : Hid (IsNat w1 (.slice b1 m1 d1) 1 ∧ IsNat w1 (.slice a1 n1 c1) x ∧ IsNat w1 va a ∧ Below w0.heap.size w0 w1) := ⟨hv1, V0.out.1.later hb1, V0.out.2.1.later hb1, V0.out.2.2.trans (hb1.mono V0.out.2.2.size)⟩
      clear hv1 hb1 V0
      go_wp2_with fail
      refine (HUP.out i _ _ _ (by omega) V1.out.1 (by have := HK.out.2.1; omega)).mono ?_
      rintro e w2 ⟨b2, m2, d2, rfl, hv2, hb2⟩
      have V2 : Hid (IsNat w2 (.slice b2 m2 d2) (2 ^ i) ∧ IsNat w2 (.slice a1 n1 c1) x ∧ IsNat w2 va a ∧ Below w0.heap.size w0 w2) := ⟨hv2, V1.out.2.1.later hb2, V1.out.2.2.1.later hb2, V1.out.2.2.2.trans (hb2.mono V1.out.2.2.2.size)⟩
      clear hv2 hb2 V1
      go_wp2_with fail
      refine (HPL.out _ _ _ _ _ V2.out.2.1 V2.out.1 (by have := HK.out.2.2; omega) (by have := HNP.out HK.out.2.1; omega)).mono ?_
      rintro e w3 ⟨b3, m3, d3, rfl, hv3, hb3⟩
      have V3 : Hid (IsNat w3 (.slice b3 m3 d3) (x + 2 ^ i) ∧ IsNat w3 (.slice a1 n1 c1) x ∧ IsNat w3 va a ∧ Below w0.heap.size w0 w3) := ⟨hv3, V2.out.2.1.later hb3, V2.out.2.2.1.later hb3, V2.out.2.2.2.trans (hb3.mono V2.out.2.2.2.size)⟩
      have HY : Hid (nd (x + 2 ^ i) ≤ 1001) := HNS.out HK.out.2.2 (HNP.out HK.out.2.1)
      clear hv3 hb3 V2
      obtain ⟨y, hy⟩ : ∃ y, y = x + 2 ^ i := ⟨_, rfl⟩
      rw [← hy] at HST HY V3
      have HE : Hid (y = x + 2 ^ i) := hy
      clear hy
      go_wp2_with fail
      refine (HTM.out _ _ _ V3.out.1 (by have := HY.out; omega)).mono ?_
      rintro e w4 ⟨b4, m4, d4, rfl, hv4, hb4⟩
      have V4 : Hid (IsNat w4 (.slice b4 m4 d4) (y * y) ∧ IsNat w4 (.slice b3 m3 d3) y ∧ IsNat w4 (.slice a1 n1 c1) x ∧ IsNat w4 va a ∧ Below w0.heap.size w0 w4) := ⟨hv4, V3.out.1.later hb4, V3.out.2.1.later hb4, V3.out.2.2.1.later hb4, V3.out.2.2.2.trans (hb4.mono V3.out.2.2.2.size)⟩
      clear hv4 hb4 V3
      go_wp2_with fail
      refine (HCM.out _ _ _ V4.out.1 V4.out.2.2.2.1 (by have := HNM.out HY.out; omega)).mono ?_
      rintro e w5 ⟨rfl, hb5⟩
      have V5 : Hid (IsNat w5 (.slice b3 m3 d3) y ∧ IsNat w5 (.slice a1 n1 c1) x ∧ Below w0.heap.size w0 w5) := ⟨V4.out.2.1.later hb5, V4.out.2.2.1.later hb5, V4.out.2.2.2.2.trans (hb5.mono V4.out.2.2.2.2.size)⟩
      clear hb5 V4
      by_cases hc : y * y ≤ a
      · have hci : cmpI (y * y) a ≤ 0 := by unfold cmpI; (repeat' split) <;> omega
        have HC : Hid (y * y ≤ a) := hc
        clear hc
        generalize cmpI (y * y) a = CC at *
        go_wp2_with fail
        go_roundw
        case rel =>
          go_light
          have e3 := HST.out.1 HC.out
          exact ⟨i, y, b3, m3, d3, by have := HK.out; omega, rfl, by go_num, V5.out.1, e3.1, e3.2, V5.out.2.2⟩
        case measure => simp [intOf]
      · have hci : 0 < cmpI (y * y) a := by rw [cmpI_gt (by omega)]; decide
        have HC : Hid (a < y * y) := (by omega : a < y * y)
        clear hc
        generalize cmpI (y * y) a = CC at *
        go_wp2_with fail
        go_roundw
        case rel =>
          go_light
          have e3 := HST.out.2 HC.out
          exact ⟨i, x, a1, n1, c1, by have := HK.out; omega, rfl, by go_num, V5.out.2.1, e3.1, by rw [← HE.out]; exact e3.2, V5.out.2.2⟩
        case measure => simp [intOf]
/-- There is one root. -/
theorem root_one {a R S : Nat} (h1 : R * R ≤ a) (h2 : a < (R + 1) * (R + 1)) (k1 : S * S ≤ a) (k2 : a < (S + 1) * (S + 1)) : R = S := by
  have g1 : ¬ R < S := fun h => by have := Nat.mul_le_mul (show R + 1 ≤ S from h) (show R + 1 ≤ S from h); omega
  have g2 : ¬ S < R := fun h => by have := Nat.mul_le_mul (show S + 1 ≤ R from h) (show S + 1 ≤ R from h); omega
  omega
theorem cube_one {a R S : Nat} (h1 : R * (R * R) ≤ a) (h2 : a < (R + 1) * ((R + 1) * (R + 1))) (k1 : S * (S * S) ≤ a) (k2 : a < (S + 1) * ((S + 1) * (S + 1))) : R = S := by
  have g1 : ¬ R < S := fun h => by
    have h' : R + 1 ≤ S := h
    have := Nat.mul_le_mul h' (Nat.mul_le_mul h' h'); omega
  have g2 : ¬ S < R := fun h => by
    have h' : S + 1 ≤ R := h
    have := Nat.mul_le_mul h' (Nat.mul_le_mul h' h'); omega
  omega


/-- The document's square root: how many digits are laid behind, for an even exponent. -/
def sqK (p : Int) : Nat := if p % 2 = 0 then 130 else 131
theorem sqK_even {p : Int} (h : p % 2 = 0) : sqK p = 130 := by unfold sqK; rw [if_pos h]
theorem sqK_odd {p : Int} (h : ¬ p % 2 = 0) : sqK p = 131 := by unfold sqK; rw [if_neg h]

set_option maxRecDepth 10000 in
set_option maxHeartbeats 4000000 in
theorem squareRoot_ref (n : Bool) (a1 : Option Addr) (l1 c1 D : Nat) (p : Int) (w : World) (h1 : IsNat w (.slice a1 l1 c1) D) (s1 : nd D ≤ 500) (hp : -8000 ≤ p ∧ p ≤ 8000) :
    Calls Tryz.prog 46 #[.agg #[.bool n, .slice a1 l1 c1, .int .i64 p]] w fun e w' =>
      ∃ a len cap R, e = .returned (.agg #[.bool false, .slice a len cap, .int .i64 ((p - sqK p) / 2 - 1)]) ∧ IsNat w' (.slice a len cap) (mkQ R (decide (R * R = D * 2 ^ sqK p))) ∧ (R * R ≤ D * 2 ^ sqK p ∧ D * 2 ^ sqK p < (R + 1) * (R + 1)) ∧ Below w.heap.size w w' := by
  have N1 : Hid (NumAt ((w.alloc (.cells #[.bool n, .slice a1 l1 c1, .int .i64 p] 63)).alloc (.cells #[.bool false, .slice none 0 0, .int .i64 0] 63)) w.heap.size n (.slice a1 l1 c1) D p) := ⟨by simp; omega, by go_simp, by go_simp, by go_simp, h1.later (((Below.refl _ _).alloc (Nat.le_refl _) _).alloc (by simp) _)⟩
  have E3 : Hid (Empty3 ((w.alloc (.cells #[.bool n, .slice a1 l1 c1, .int .i64 p] 63)).alloc (.cells #[.bool false, .slice none 0 0, .int .i64 0] 63)) (w.heap.size + 1)) := ⟨by simp, by go_simp, by go_simp, by go_simp, by go_simp, by go_simp, by go_simp⟩
  have B0 : Hid (Below w.heap.size w ((w.alloc (.cells #[.bool n, .slice a1 l1 c1, .int .i64 p] 63)).alloc (.cells #[.bool false, .slice none 0 0, .int .i64 0] 63))) := ((Below.refl _ _).alloc (Nat.le_refl _) _).alloc (by simp) _
  have HUP : Hid (∀ w1 (k : Nat) (z : Int), z = k → k ≤ 1000 → IsNat w1 (.slice a1 l1 c1) D → Calls Tryz.prog 71 #[.slice a1 l1 c1, .int .i64 z] w1 fun e w' => ∃ a l c, e = .returned (.slice a l c) ∧ IsNat w' (.slice a l c) (D * 2 ^ k) ∧ Below w1.heap.size w1 w') := fun w1 k z hz hk h => by
    subst hz
    refine (up_any D k _ w1 h (by omega) (by omega)).mono fun e w' ⟨v', he, hv, hb⟩ => ?_
    obtain ⟨a, len, cap, g, rfl, -, -, -⟩ := hv.slice
    exact ⟨a, len, cap, he, hv, hb⟩
  have nK : sqK p ≤ 131 := by unfold sqK; split <;> omega
  have nA : nd (D * 2 ^ sqK p) ≤ 600 := Nat.le_trans (nd_mul_le _ _) (by have h6 : nd (2 ^ sqK p) ≤ 6 := nd_of_lt (Nat.pow_lt_pow_right (by decide) (by omega)); omega)
  have HRT : Hid (∀ v w1, IsNat w1 v (D * 2 ^ sqK p) → Calls Tryz.prog 74 #[v] w1 fun e w' => ∃ a l c R, e = .returned (.tuple #[.slice a l c, .bool (decide (R * R = D * 2 ^ sqK p))]) ∧ IsNat w' (.slice a l c) R ∧ (R * R ≤ D * 2 ^ sqK p ∧ D * 2 ^ sqK p < (R + 1) * (R + 1)) ∧ Below w1.heap.size w1 w') := fun v w1 k1 => (root_any _ v w1 k1 (by omega)).mono fun e w' ⟨v', R, he, hv, hr, hb⟩ => by
    obtain ⟨a, len, cap, g, rfl, -, -, -⟩ := hv.slice
    exact ⟨a, len, cap, R, he, hv, hr, hb⟩
  have HMK : Hid (∀ (R : Nat) (wh : Bool) (z : Int) a l c w1, z = (p - sqK p) / 2 → R * R ≤ D * 2 ^ sqK p → IsNat w1 (.slice a l c) R → Calls Tryz.prog 73 #[.bool false, .slice a l c, .int .i64 z, .bool wh] w1 fun e' w' => ∃ a len cap, e' = .returned (.agg #[.bool false, .slice a len cap, .int .i64 ((p - sqK p) / 2 - 1)]) ∧ IsNat w' (.slice a len cap) (mkQ R wh) ∧ Below w1.heap.size w1 w') := fun R wh z a l c w1 hz hR k1 => by
    subst hz
    exact marked_ref _ _ _ _ a l c w1 k1 (by have := root_nd hR; omega) (by omega)
  clear h1 s1 nA nK
  by_cases hpar : p % 2 = 0
  · rw [sqK_even hpar] at *
    have hd : (2 : Int) ∣ p - 130 := by omega
    have g : ((p - 130).tmod 2 != 0) = false := by rw [Int.tmod_eq_zero_of_dvd hd]; rfl
    have TD : Hid ((p - 130).tdiv 2 = (p - ((130 : Nat) : Int)) / 2) := Int.tdiv_eq_ediv_of_dvd hd
    generalize (p - ((130 : Nat) : Int)) / 2 = q at *
    clear hd hpar
    obtain ⟨p3, p4⟩ := hp
    go_enter Tryz.func46, Tryz.ntmps46
    go_wp2_with fail
    generalize (w.alloc (.cells #[.bool n, .slice a1 l1 c1, .int .i64 p] 63)).alloc (.cells #[.bool false, .slice none 0 0, .int .i64 0] 63) = w0 at *
    refine (HUP.out _ 130 _ rfl (by decide) N1.out.nat).mono ?_
    rintro e w1 ⟨b1, m1, d1, rfl, hv1, hb1⟩
    have V1 : Hid (IsNat w1 (.slice b1 m1 d1) (D * 2 ^ 130) ∧ NumAt w1 w.heap.size n (.slice a1 l1 c1) D p ∧ Empty3 w1 (w.heap.size + 1) ∧ Below w.heap.size w w1) := ⟨hv1, N1.out.later hb1, E3.out.later hb1, B0.out.trans (hb1.mono B0.out.size)⟩
    clear hv1 hb1
    go_wp2_with fail
    refine (HRT.out _ _ V1.out.1).mono ?_
    rintro e w2 ⟨b2, m2, d2, R, rfl, hv2, hr2, hb2⟩
    have V2 : Hid (IsNat w2 (.slice b2 m2 d2) R ∧ NumAt w2 w.heap.size n (.slice a1 l1 c1) D p ∧ Empty3 w2 (w.heap.size + 1) ∧ Below w.heap.size w w2) := ⟨hv2, V1.out.2.1.later hb2, V1.out.2.2.1.later hb2, V1.out.2.2.2.trans (hb2.mono V1.out.2.2.2.size)⟩
    have HR : Hid (R * R ≤ D * 2 ^ 130 ∧ D * 2 ^ 130 < (R + 1) * (R + 1)) := hr2
    obtain ⟨wh, hwh⟩ : ∃ wh, wh = decide (R * R = D * 2 ^ 130) := ⟨_, rfl⟩
    rw [← hwh]
    have HW : Hid (wh = decide (R * R = D * 2 ^ 130)) := hwh
    clear hv2 hb2 V1 hr2 hwh
    have t2 := V2.out.2.1.c2
    have tl := V2.out.2.1.lt
    go_wp2_with fail
    refine (HMK.out R wh _ _ _ _ _ TD.out HR.out.1 V2.out.1).mono ?_
    rintro e w3 ⟨b3, m3, d3, rfl, hv3, hb3⟩
    have V3 : Hid (IsNat w3 (.slice b3 m3 d3) (mkQ R wh) ∧ Below w.heap.size w w3) := ⟨hv3, V2.out.2.2.2.trans (hb3.mono V2.out.2.2.2.size)⟩
    obtain ⟨k0, k1, k2, k3, k4, k5, k6⟩ := V2.out.2.2.1.later hb3
    clear hv3 hb3 V2 t2 tl
    go_wp2_with fail
    refine bodyPost_ret (v := .agg #[.bool false, .slice b3 m3 d3, .int .i64 (q - 1)]) (by simp [results, Tryz.results46, go_sem, k1, k2, k3]) rfl ⟨_, _, _, R, rfl, by rw [← HW.out]; exact set_num V3.out.1 k1, HR.out, ?_⟩
    exact ((V3.out.2.setCell (by simp) _).setCell (by simp) _).setCell (by simp) _
  · rw [sqK_odd hpar] at *
    have hd : (2 : Int) ∣ p - 131 := by omega
    have g : ((p - 130).tmod 2 != 0) = true := by
      have hn : ¬ (p - 130).tmod 2 = 0 := fun h => by have := Int.dvd_of_tmod_eq_zero h; omega
      simpa using hn
    have TD : Hid ((p - 131).tdiv 2 = (p - ((131 : Nat) : Int)) / 2) := Int.tdiv_eq_ediv_of_dvd hd
    generalize (p - ((131 : Nat) : Int)) / 2 = q at *
    clear hd hpar
    obtain ⟨p3, p4⟩ := hp
    go_enter Tryz.func46, Tryz.ntmps46
    go_wp2_with fail
    generalize (w.alloc (.cells #[.bool n, .slice a1 l1 c1, .int .i64 p] 63)).alloc (.cells #[.bool false, .slice none 0 0, .int .i64 0] 63) = w0 at *
    refine (HUP.out _ 131 _ rfl (by decide) N1.out.nat).mono ?_
    rintro e w1 ⟨b1, m1, d1, rfl, hv1, hb1⟩
    have V1 : Hid (IsNat w1 (.slice b1 m1 d1) (D * 2 ^ 131) ∧ NumAt w1 w.heap.size n (.slice a1 l1 c1) D p ∧ Empty3 w1 (w.heap.size + 1) ∧ Below w.heap.size w w1) := ⟨hv1, N1.out.later hb1, E3.out.later hb1, B0.out.trans (hb1.mono B0.out.size)⟩
    clear hv1 hb1
    go_wp2_with fail
    refine (HRT.out _ _ V1.out.1).mono ?_
    rintro e w2 ⟨b2, m2, d2, R, rfl, hv2, hr2, hb2⟩
    have V2 : Hid (IsNat w2 (.slice b2 m2 d2) R ∧ NumAt w2 w.heap.size n (.slice a1 l1 c1) D p ∧ Empty3 w2 (w.heap.size + 1) ∧ Below w.heap.size w w2) := ⟨hv2, V1.out.2.1.later hb2, V1.out.2.2.1.later hb2, V1.out.2.2.2.trans (hb2.mono V1.out.2.2.2.size)⟩
    have HR : Hid (R * R ≤ D * 2 ^ 131 ∧ D * 2 ^ 131 < (R + 1) * (R + 1)) := hr2
    obtain ⟨wh, hwh⟩ : ∃ wh, wh = decide (R * R = D * 2 ^ 131) := ⟨_, rfl⟩
    rw [← hwh]
    have HW : Hid (wh = decide (R * R = D * 2 ^ 131)) := hwh
    clear hv2 hb2 V1 hr2 hwh
    have t2 := V2.out.2.1.c2
    have tl := V2.out.2.1.lt
    go_wp2_with fail
    refine (HMK.out R wh _ _ _ _ _ TD.out HR.out.1 V2.out.1).mono ?_
    rintro e w3 ⟨b3, m3, d3, rfl, hv3, hb3⟩
    have V3 : Hid (IsNat w3 (.slice b3 m3 d3) (mkQ R wh) ∧ Below w.heap.size w w3) := ⟨hv3, V2.out.2.2.2.trans (hb3.mono V2.out.2.2.2.size)⟩
    obtain ⟨k0, k1, k2, k3, k4, k5, k6⟩ := V2.out.2.2.1.later hb3
    clear hv3 hb3 V2 t2 tl
    go_wp2_with fail
    refine bodyPost_ret (v := .agg #[.bool false, .slice b3 m3 d3, .int .i64 (q - 1)]) (by simp [results, Tryz.results46, go_sem, k1, k2, k3]) rfl ⟨_, _, _, R, rfl, by rw [← HW.out]; exact set_num V3.out.1 k1, HR.out, ?_⟩
    exact ((V3.out.2.setCell (by simp) _).setCell (by simp) _).setCell (by simp) _


/-- The document's reciprocal of a root: 2^rqK is divided. -/
def rqK (D : Nat) (p : Int) : Nat := if (p + (240 + (Go.bitLen D : Int))) % 2 = 0 then 240 + Go.bitLen D else 240 + Go.bitLen D + 1
theorem rqK_even {D : Nat} {p : Int} (h : (p + (240 + (Go.bitLen D : Int))) % 2 = 0) : rqK D p = 240 + Go.bitLen D := by unfold rqK; rw [if_pos h]
theorem rqK_odd {D : Nat} {p : Int} (h : ¬ (p + (240 + (Go.bitLen D : Int))) % 2 = 0) : rqK D p = 240 + Go.bitLen D + 1 := by unfold rqK; rw [if_neg h]

set_option maxRecDepth 10000 in
set_option maxHeartbeats 4000000 in
theorem reciprocal_ref (n : Bool) (a1 : Option Addr) (l1 c1 D : Nat) (p : Int) (w : World) (h1 : IsNat w (.slice a1 l1 c1) D) (h0 : D ≠ 0) (s1 : nd D ≤ 100) (hp : -4000 ≤ p ∧ p ≤ 4000) :
    Calls Tryz.prog 49 #[.agg #[.bool n, .slice a1 l1 c1, .int .i64 p]] w fun e w' =>
      ∃ a len cap R, e = .returned (.agg #[.bool false, .slice a len cap, .int .i64 ((-rqK D p - p) / 2 - 1)]) ∧ IsNat w' (.slice a len cap) (mkQ R (decide (2 ^ rqK D p % D = 0) && decide (R * R = 2 ^ rqK D p / D))) ∧ (R * R ≤ 2 ^ rqK D p / D ∧ 2 ^ rqK D p / D < (R + 1) * (R + 1)) ∧ Below w.heap.size w w' := by
  have N1 : Hid (NumAt ((w.alloc (.cells #[.bool n, .slice a1 l1 c1, .int .i64 p] 63)).alloc (.cells #[.bool false, .slice none 0 0, .int .i64 0] 63)) w.heap.size n (.slice a1 l1 c1) D p) := ⟨by simp; omega, by go_simp, by go_simp, by go_simp, h1.later (((Below.refl _ _).alloc (Nat.le_refl _) _).alloc (by simp) _)⟩
  have E3 : Hid (Empty3 ((w.alloc (.cells #[.bool n, .slice a1 l1 c1, .int .i64 p] 63)).alloc (.cells #[.bool false, .slice none 0 0, .int .i64 0] 63)) (w.heap.size + 1)) := ⟨by simp, by go_simp, by go_simp, by go_simp, by go_simp, by go_simp, by go_simp⟩
  have B0 : Hid (Below w.heap.size w ((w.alloc (.cells #[.bool n, .slice a1 l1 c1, .int .i64 p] 63)).alloc (.cells #[.bool false, .slice none 0 0, .int .i64 0] 63))) := ((Below.refl _ _).alloc (Nat.le_refl _) _).alloc (by simp) _
  have hbl : Go.bitLen D ≤ 2400 := by unfold nd at s1; omega
  have nK : rqK D p ≤ 2641 := by unfold rqK; split <;> omega
  have HSZ : Hid (∀ w1, IsNat w1 (.slice a1 l1 c1) D → Calls Tryz.prog 78 #[.slice a1 l1 c1] w1 fun e w' => e = .returned (.int .i64 (Go.bitLen D : Nat)) ∧ w' = w1) := fun w1 hb1 => size_any D _ w1 hb1 (by omega)
  have HNT : Hid (∀ (w1 : World), Calls Tryz.prog 68 #[.int .i64 1] w1 fun e w' => ∃ a l c, e = .returned (.slice a l c) ∧ IsNat w' (.slice a l c) 1 ∧ Below w1.heap.size w1 w') := fun w1 => (nat_any 1 (by omega) w1).mono fun e w' ⟨v', he, hv, hb⟩ => by
    obtain ⟨a, len, cap, g, rfl, -, -, -⟩ := hv.slice
    exact ⟨a, len, cap, he, hv, hb⟩
  have HUP : Hid (∀ v w1 (z : Int), z = rqK D p → IsNat w1 v 1 → Calls Tryz.prog 71 #[v, .int .i64 z] w1 fun e w' => ∃ a l c, e = .returned (.slice a l c) ∧ IsNat w' (.slice a l c) (2 ^ rqK D p) ∧ Below w1.heap.size w1 w') := fun v w1 z hz h => by
    subst hz
    refine (up_any 1 (rqK D p) _ w1 h (by decide) (by omega)).mono fun e w' ⟨v', he, hv, hb⟩ => ?_
    obtain ⟨a, len, cap, g, rfl, -, -, -⟩ := hv.slice
    exact ⟨a, len, cap, he, by rw [Nat.one_mul] at hv; exact hv, hb⟩
  have nA : nd (2 ^ rqK D p) ≤ 120 := Nat.le_trans (nd_of_lt (n := 2 ^ rqK D p) (k := rqK D p / 24 + 1) (Nat.pow_lt_pow_right (by decide) (by omega))) (by omega)
  have nB : nd (2 ^ rqK D p / D) ≤ 120 := Nat.le_trans (nd_mono (Nat.div_le_self _ _)) nA
  have HOV : Hid (∀ v w1, IsNat w1 v (2 ^ rqK D p) → IsNat w1 (.slice a1 l1 c1) D → Calls Tryz.prog 72 #[v, .slice a1 l1 c1] w1 fun e w' => ∃ a l c, e = .returned (.tuple #[.slice a l c, .bool (decide (2 ^ rqK D p % D = 0))]) ∧ IsNat w' (.slice a l c) (2 ^ rqK D p / D) ∧ Below w1.heap.size w1 w') := fun v w1 k1 k2 => (over_any _ D v _ w1 k1 k2 h0 (by omega) (by omega)).mono fun e w' ⟨v', he, hv, hb⟩ => by
    obtain ⟨a, len, cap, g, rfl, -, -, -⟩ := hv.slice
    exact ⟨a, len, cap, he, hv, hb⟩
  have HRT : Hid (∀ v w1, IsNat w1 v (2 ^ rqK D p / D) → Calls Tryz.prog 74 #[v] w1 fun e w' => ∃ a l c R, e = .returned (.tuple #[.slice a l c, .bool (decide (R * R = 2 ^ rqK D p / D))]) ∧ IsNat w' (.slice a l c) R ∧ (R * R ≤ 2 ^ rqK D p / D ∧ 2 ^ rqK D p / D < (R + 1) * (R + 1)) ∧ Below w1.heap.size w1 w') := fun v w1 k1 => (root_any _ v w1 k1 (by omega)).mono fun e w' ⟨v', R, he, hv, hr, hb⟩ => by
    obtain ⟨a, len, cap, g, rfl, -, -, -⟩ := hv.slice
    exact ⟨a, len, cap, R, he, hv, hr, hb⟩
  have HMK : Hid (∀ (R : Nat) (wh : Bool) (z : Int) a l c w1, z = (-(rqK D p : Int) - p) / 2 → R * R ≤ 2 ^ rqK D p / D → IsNat w1 (.slice a l c) R → Calls Tryz.prog 73 #[.bool false, .slice a l c, .int .i64 z, .bool wh] w1 fun e' w' => ∃ a len cap, e' = .returned (.agg #[.bool false, .slice a len cap, .int .i64 ((-(rqK D p : Int) - p) / 2 - 1)]) ∧ IsNat w' (.slice a len cap) (mkQ R wh) ∧ Below w1.heap.size w1 w') := fun R wh z a l c w1 hz hR k1 => by
    subst hz
    exact marked_ref _ _ _ _ a l c w1 k1 (by have := root_nd hR; omega) (by omega)
  have lb : (Go.bitLen D : Int) ≤ 2400 := by omega
  clear h1 s1 nA nB nK h0 hbl
  by_cases hpar : (p + (240 + (Go.bitLen D : Int))) % 2 = 0
  · have HKK : Hid (240 + (Go.bitLen D : Int) = (rqK D p : Int)) := (by rw [rqK_even hpar]; omega : 240 + (Go.bitLen D : Int) = (rqK D p : Int))
    have hd : (2 : Int) ∣ -(240 + (Go.bitLen D : Int)) - p := by omega
    have g : ((p + (240 + (Go.bitLen D : Int))).tmod 2 != 0) = false := by
      have hd2 : (2 : Int) ∣ p + (240 + (Go.bitLen D : Int)) := by omega
      rw [Int.tmod_eq_zero_of_dvd hd2]; rfl
    have TD : Hid ((-(240 + (Go.bitLen D : Int)) - p).tdiv 2 = (-(rqK D p : Int) - p) / 2) := (by rw [Int.tdiv_eq_ediv_of_dvd hd, HKK.out] : (-(240 + (Go.bitLen D : Int)) - p).tdiv 2 = (-(rqK D p : Int) - p) / 2)
    clear hd hpar
    generalize (-(rqK D p : Int) - p) / 2 = q at *
    generalize rqK D p = K at *
    have l0 : 0 ≤ (Go.bitLen D : Int) := by omega
    generalize (Go.bitLen D : Int) = L at *
    obtain ⟨p3, p4⟩ := hp
    go_enter Tryz.func49, Tryz.ntmps49
    go_wp2_with fail
    generalize (w.alloc (.cells #[.bool n, .slice a1 l1 c1, .int .i64 p] 63)).alloc (.cells #[.bool false, .slice none 0 0, .int .i64 0] 63) = w0 at *
    refine (HSZ.out _ N1.out.nat).mono ?_
    rintro e w0' ⟨rfl, rfl⟩
    have t2 := N1.out.c2
    have tl := N1.out.lt
    go_wp2_with fail
    refine (HNT.out _).mono ?_
    rintro e w1 ⟨b1, m1, d1, rfl, hv1, hb1⟩
    have V1 : Hid (IsNat w1 (.slice b1 m1 d1) 1 ∧ NumAt w1 w.heap.size n (.slice a1 l1 c1) D p ∧ Empty3 w1 (w.heap.size + 1) ∧ Below w.heap.size w w1) := ⟨hv1, N1.out.later hb1, E3.out.later hb1, B0.out.trans (hb1.mono B0.out.size)⟩
    clear hv1 hb1 t2 tl
    go_wp2_with fail
    refine (HUP.out _ _ _ HKK.out V1.out.1).mono ?_
    rintro e w2 ⟨b2, m2, d2, rfl, hv2, hb2⟩
    have V2 : Hid (IsNat w2 (.slice b2 m2 d2) (2 ^ K) ∧ NumAt w2 w.heap.size n (.slice a1 l1 c1) D p ∧ Empty3 w2 (w.heap.size + 1) ∧ Below w.heap.size w w2) := ⟨hv2, V1.out.2.1.later hb2, V1.out.2.2.1.later hb2, V1.out.2.2.2.trans (hb2.mono V1.out.2.2.2.size)⟩
    clear hv2 hb2 V1
    have t1 := V2.out.2.1.c1
    have tl := V2.out.2.1.lt
    go_wp2_with fail
    refine (HOV.out _ _ V2.out.1 V2.out.2.1.nat).mono ?_
    rintro e w3 ⟨b3, m3, d3, rfl, hv3, hb3⟩
    have V3 : Hid (IsNat w3 (.slice b3 m3 d3) (2 ^ K / D) ∧ NumAt w3 w.heap.size n (.slice a1 l1 c1) D p ∧ Empty3 w3 (w.heap.size + 1) ∧ Below w.heap.size w w3) := ⟨hv3, V2.out.2.1.later hb3, V2.out.2.2.1.later hb3, V2.out.2.2.2.trans (hb3.mono V2.out.2.2.2.size)⟩
    obtain ⟨wo, hwo⟩ : ∃ wo, wo = decide (2 ^ K % D = 0) := ⟨_, rfl⟩
    rw [← hwo]
    have HO : Hid (wo = decide (2 ^ K % D = 0)) := hwo
    clear hv3 hb3 V2 t1 tl hwo
    go_wp2_with fail
    refine (HRT.out _ _ V3.out.1).mono ?_
    rintro e w4 ⟨b4, m4, d4, R, rfl, hv4, hr4, hb4⟩
    have V4 : Hid (IsNat w4 (.slice b4 m4 d4) R ∧ NumAt w4 w.heap.size n (.slice a1 l1 c1) D p ∧ Empty3 w4 (w.heap.size + 1) ∧ Below w.heap.size w w4) := ⟨hv4, V3.out.2.1.later hb4, V3.out.2.2.1.later hb4, V3.out.2.2.2.trans (hb4.mono V3.out.2.2.2.size)⟩
    have HR : Hid (R * R ≤ 2 ^ K / D ∧ 2 ^ K / D < (R + 1) * (R + 1)) := hr4
    obtain ⟨wh, hwh⟩ : ∃ wh, wh = decide (R * R = 2 ^ K / D) := ⟨_, rfl⟩
    rw [← hwh]
    have HW : Hid (wh = decide (R * R = 2 ^ K / D)) := hwh
    clear hv4 hb4 V3 hr4 hwh
    have t2 := V4.out.2.1.c2
    have tl := V4.out.2.1.lt
    cases wo
    all_goals
      go_wp2_with fail
      refine (HMK.out R _ _ _ _ _ _ TD.out HR.out.1 V4.out.1).mono ?_
      rintro e w5 ⟨b5, m5, d5, rfl, hv5, hb5⟩
      have V5 := hv5
      have V6 : Hid (Below w.heap.size w w5) := V4.out.2.2.2.trans (hb5.mono V4.out.2.2.2.size)
      have HV : Hid (IsNat w5 (.slice b5 m5 d5) (mkQ R (decide (2 ^ K % D = 0) && decide (R * R = 2 ^ K / D)))) := (by rw [← HO.out, ← HW.out]; exact V5 : IsNat w5 (.slice b5 m5 d5) (mkQ R (decide (2 ^ K % D = 0) && decide (R * R = 2 ^ K / D))))
      obtain ⟨k0, k1, k2, k3, k4, k5, k6⟩ := V4.out.2.2.1.later hb5
      clear hv5 hb5 V5 t2 tl
      go_wp2_with fail
      refine bodyPost_ret (v := .agg #[.bool false, .slice b5 m5 d5, .int .i64 (q - 1)]) (by simp [results, Tryz.results49, go_sem, k1, k2, k3]) rfl ⟨_, _, _, R, rfl, set_num HV.out k1, HR.out, ?_⟩
      exact ((V6.out.setCell (by simp) _).setCell (by simp) _).setCell (by simp) _
  · have HKK : Hid (240 + (Go.bitLen D : Int) + 1 = (rqK D p : Int)) := (by rw [rqK_odd hpar]; omega : 240 + (Go.bitLen D : Int) + 1 = (rqK D p : Int))
    have hd : (2 : Int) ∣ -(240 + (Go.bitLen D : Int) + 1) - p := by omega
    have g : ((p + (240 + (Go.bitLen D : Int))).tmod 2 != 0) = true := by
      have hn : ¬ (p + (240 + (Go.bitLen D : Int))).tmod 2 = 0 := fun h => by have := Int.dvd_of_tmod_eq_zero h; omega
      simpa using hn
    have TD : Hid ((-(240 + (Go.bitLen D : Int) + 1) - p).tdiv 2 = (-(rqK D p : Int) - p) / 2) := (by rw [Int.tdiv_eq_ediv_of_dvd hd, HKK.out] : (-(240 + (Go.bitLen D : Int) + 1) - p).tdiv 2 = (-(rqK D p : Int) - p) / 2)
    clear hd hpar
    generalize (-(rqK D p : Int) - p) / 2 = q at *
    generalize rqK D p = K at *
    have l0 : 0 ≤ (Go.bitLen D : Int) := by omega
    generalize (Go.bitLen D : Int) = L at *
    obtain ⟨p3, p4⟩ := hp
    go_enter Tryz.func49, Tryz.ntmps49
    go_wp2_with fail
    generalize (w.alloc (.cells #[.bool n, .slice a1 l1 c1, .int .i64 p] 63)).alloc (.cells #[.bool false, .slice none 0 0, .int .i64 0] 63) = w0 at *
    refine (HSZ.out _ N1.out.nat).mono ?_
    rintro e w0' ⟨rfl, rfl⟩
    have t2 := N1.out.c2
    have tl := N1.out.lt
    go_wp2_with fail
    refine (HNT.out _).mono ?_
    rintro e w1 ⟨b1, m1, d1, rfl, hv1, hb1⟩
    have V1 : Hid (IsNat w1 (.slice b1 m1 d1) 1 ∧ NumAt w1 w.heap.size n (.slice a1 l1 c1) D p ∧ Empty3 w1 (w.heap.size + 1) ∧ Below w.heap.size w w1) := ⟨hv1, N1.out.later hb1, E3.out.later hb1, B0.out.trans (hb1.mono B0.out.size)⟩
    clear hv1 hb1 t2 tl
    go_wp2_with fail
    refine (HUP.out _ _ _ HKK.out V1.out.1).mono ?_
    rintro e w2 ⟨b2, m2, d2, rfl, hv2, hb2⟩
    have V2 : Hid (IsNat w2 (.slice b2 m2 d2) (2 ^ K) ∧ NumAt w2 w.heap.size n (.slice a1 l1 c1) D p ∧ Empty3 w2 (w.heap.size + 1) ∧ Below w.heap.size w w2) := ⟨hv2, V1.out.2.1.later hb2, V1.out.2.2.1.later hb2, V1.out.2.2.2.trans (hb2.mono V1.out.2.2.2.size)⟩
    clear hv2 hb2 V1
    have t1 := V2.out.2.1.c1
    have tl := V2.out.2.1.lt
    go_wp2_with fail
    refine (HOV.out _ _ V2.out.1 V2.out.2.1.nat).mono ?_
    rintro e w3 ⟨b3, m3, d3, rfl, hv3, hb3⟩
    have V3 : Hid (IsNat w3 (.slice b3 m3 d3) (2 ^ K / D) ∧ NumAt w3 w.heap.size n (.slice a1 l1 c1) D p ∧ Empty3 w3 (w.heap.size + 1) ∧ Below w.heap.size w w3) := ⟨hv3, V2.out.2.1.later hb3, V2.out.2.2.1.later hb3, V2.out.2.2.2.trans (hb3.mono V2.out.2.2.2.size)⟩
    obtain ⟨wo, hwo⟩ : ∃ wo, wo = decide (2 ^ K % D = 0) := ⟨_, rfl⟩
    rw [← hwo]
    have HO : Hid (wo = decide (2 ^ K % D = 0)) := hwo
    clear hv3 hb3 V2 t1 tl hwo
    go_wp2_with fail
    refine (HRT.out _ _ V3.out.1).mono ?_
    rintro e w4 ⟨b4, m4, d4, R, rfl, hv4, hr4, hb4⟩
    have V4 : Hid (IsNat w4 (.slice b4 m4 d4) R ∧ NumAt w4 w.heap.size n (.slice a1 l1 c1) D p ∧ Empty3 w4 (w.heap.size + 1) ∧ Below w.heap.size w w4) := ⟨hv4, V3.out.2.1.later hb4, V3.out.2.2.1.later hb4, V3.out.2.2.2.trans (hb4.mono V3.out.2.2.2.size)⟩
    have HR : Hid (R * R ≤ 2 ^ K / D ∧ 2 ^ K / D < (R + 1) * (R + 1)) := hr4
    obtain ⟨wh, hwh⟩ : ∃ wh, wh = decide (R * R = 2 ^ K / D) := ⟨_, rfl⟩
    rw [← hwh]
    have HW : Hid (wh = decide (R * R = 2 ^ K / D)) := hwh
    clear hv4 hb4 V3 hr4 hwh
    have t2 := V4.out.2.1.c2
    have tl := V4.out.2.1.lt
    cases wo
    all_goals
      go_wp2_with fail
      refine (HMK.out R _ _ _ _ _ _ TD.out HR.out.1 V4.out.1).mono ?_
      rintro e w5 ⟨b5, m5, d5, rfl, hv5, hb5⟩
      have V5 := hv5
      have V6 : Hid (Below w.heap.size w w5) := V4.out.2.2.2.trans (hb5.mono V4.out.2.2.2.size)
      have HV : Hid (IsNat w5 (.slice b5 m5 d5) (mkQ R (decide (2 ^ K % D = 0) && decide (R * R = 2 ^ K / D)))) := (by rw [← HO.out, ← HW.out]; exact V5 : IsNat w5 (.slice b5 m5 d5) (mkQ R (decide (2 ^ K % D = 0) && decide (R * R = 2 ^ K / D))))
      obtain ⟨k0, k1, k2, k3, k4, k5, k6⟩ := V4.out.2.2.1.later hb5
      clear hv5 hb5 V5 t2 tl
      go_wp2_with fail
      refine bodyPost_ret (v := .agg #[.bool false, .slice b5 m5 d5, .int .i64 (q - 1)]) (by simp [results, Tryz.results49, go_sem, k1, k2, k3]) rfl ⟨_, _, _, R, rfl, set_num HV.out k1, HR.out, ?_⟩
      exact ((V6.out.setCell (by simp) _).setCell (by simp) _).setCell (by simp) _


/-- The document's cube root: how many digits are laid behind. -/
def cbJ (p : Int) : Nat := ((p - 190) % 3).toNat
def cbK (p : Int) : Nat := 190 + cbJ p
theorem cbJ_lt (p : Int) : cbJ p ≤ 2 := by unfold cbJ; omega
theorem cbJ_dvd (p : Int) : (3 : Int) ∣ p - (190 + cbJ p) := by unfold cbJ; omega
theorem cbJ_not {p : Int} {j : Nat} (h : j < cbJ p) : ¬ (3 : Int) ∣ p - (190 + j) := by unfold cbJ at h; omega
theorem cube_start (a : Nat) : a < (0 + 2 ^ (Go.bitLen a / 3 + 2)) * ((0 + 2 ^ (Go.bitLen a / 3 + 2)) * (0 + 2 ^ (Go.bitLen a / 3 + 2))) := by
  rw [Nat.zero_add, ← Nat.pow_add, ← Nat.pow_add]
  exact Nat.lt_of_lt_of_le (Go.bitLen_spec a).1 (Nat.pow_le_pow_right (by decide) (by omega))
theorem cube_nd {a x : Nat} (h : x * (x * x) ≤ a) : nd x ≤ nd a := by
  by_cases h0 : x = 0
  · subst h0; rw [nd_zero]; omega
  · refine nd_mono (Nat.le_trans ?_ h)
    have h1 : x * 1 ≤ x * (x * x) := Nat.mul_le_mul_left _ (Nat.mul_pos (Nat.pos_of_ne_zero h0) (Nat.pos_of_ne_zero h0))
    rw [Nat.mul_one] at h1
    exact h1
theorem cube_step {a x p : Nat} (h1 : x * (x * x) ≤ a) (h2 : a < (x + 2 * p) * ((x + 2 * p) * (x + 2 * p))) : ((x + p) * ((x + p) * (x + p)) ≤ a → (x + p) * ((x + p) * (x + p)) ≤ a ∧ a < (x + p + p) * ((x + p + p) * (x + p + p))) ∧ (a < (x + p) * ((x + p) * (x + p)) → x * (x * x) ≤ a ∧ a < (x + p) * ((x + p) * (x + p))) :=
  ⟨fun h => ⟨h, by rw [Nat.add_assoc, ← Nat.two_mul]; exact h2⟩, fun h => ⟨h1, h⟩⟩

/-- What lies, ahead of the last call. -/
structure CbAt (w0 w1 : World) (n : Bool) (va : Value) (D : Nat) (p : Int) (vs : Value) (S : Nat) (vx : Value) (x : Nat) (vA : Value) (A : Nat) : Prop where
  s : IsNat w1 vs S
  x : IsNat w1 vx x
  a : IsNat w1 vA A
  num : NumAt w1 w0.heap.size n va D p
  emp : Empty3 w1 (w0.heap.size + 1)
  below : Below w0.heap.size w0 w1
theorem CbAt.later {w0 w1 w2 : World} {n : Bool} {va : Value} {D : Nat} {p : Int} {vs : Value} {S : Nat} {vx : Value} {x : Nat} {vA : Value} {A : Nat} (h : CbAt w0 w1 n va D p vs S vx x vA A) (hb : Below w1.heap.size w1 w2) : CbAt w0 w2 n va D p vs S vx x vA A :=
  ⟨h.s.later hb, h.x.later hb, h.a.later hb, h.num.later hb, h.emp.later hb, h.below.trans (hb.mono h.below.size)⟩

set_option maxRecDepth 10000 in
set_option maxHeartbeats 4000000 in
theorem cubeRoot_ref (n : Bool) (a1 : Option Addr) (l1 c1 D : Nat) (p : Int) (w : World) (h1 : IsNat w (.slice a1 l1 c1) D) (s1 : nd D ≤ 100) (hp : -4000 ≤ p ∧ p ≤ 4000) :
    Calls Tryz.prog 48 #[.agg #[.bool n, .slice a1 l1 c1, .int .i64 p]] w fun e w' =>
      ∃ a len cap R, e = .returned (.agg #[.bool n, .slice a len cap, .int .i64 ((p - cbK p) / 3 - 1)]) ∧ IsNat w' (.slice a len cap) (mkQ R (decide (R * (R * R) = D * 2 ^ cbK p))) ∧ (R * (R * R) ≤ D * 2 ^ cbK p ∧ D * 2 ^ cbK p < (R + 1) * ((R + 1) * (R + 1))) ∧ Below w.heap.size w w' := by
  have N1 : Hid (NumAt ((w.alloc (.cells #[.bool n, .slice a1 l1 c1, .int .i64 p] 63)).alloc (.cells #[.bool false, .slice none 0 0, .int .i64 0] 63)) w.heap.size n (.slice a1 l1 c1) D p) := ⟨by simp; omega, by go_simp, by go_simp, by go_simp, h1.later (((Below.refl _ _).alloc (Nat.le_refl _) _).alloc (by simp) _)⟩
  have E3 : Hid (Empty3 ((w.alloc (.cells #[.bool n, .slice a1 l1 c1, .int .i64 p] 63)).alloc (.cells #[.bool false, .slice none 0 0, .int .i64 0] 63)) (w.heap.size + 1)) := ⟨by simp, by go_simp, by go_simp, by go_simp, by go_simp, by go_simp, by go_simp⟩
  have B0 : Hid (Below w.heap.size w ((w.alloc (.cells #[.bool n, .slice a1 l1 c1, .int .i64 p] 63)).alloc (.cells #[.bool false, .slice none 0 0, .int .i64 0] 63))) := ((Below.refl _ _).alloc (Nat.le_refl _) _).alloc (by simp) _
  have nK : cbK p ≤ 192 := by have := cbJ_lt p; unfold cbK; omega
  have nA : nd (D * 2 ^ cbK p) ≤ 200 := Nat.le_trans (nd_mul_le _ _) (by have h6 : nd (2 ^ cbK p) ≤ 9 := nd_of_lt (Nat.pow_lt_pow_right (by decide) (by omega)); omega)
  have HUA : Hid (∀ w1 (z : Int), z = cbK p → IsNat w1 (.slice a1 l1 c1) D → Calls Tryz.prog 71 #[.slice a1 l1 c1, .int .i64 z] w1 fun e w' => ∃ a l c, e = .returned (.slice a l c) ∧ IsNat w' (.slice a l c) (D * 2 ^ cbK p) ∧ Below w1.heap.size w1 w') := fun w1 z hz h => by
    subst hz
    refine (up_any D (cbK p) _ w1 h (by omega) (by omega)).mono fun e w' ⟨v', he, hv, hb⟩ => ?_
    obtain ⟨a, len, cap, g, rfl, -, -, -⟩ := hv.slice
    exact ⟨a, len, cap, he, hv, hb⟩
  have HMK : Hid (∀ (R : Nat) (wh : Bool) (z : Int) a l c w1, z = (p - cbK p) / 3 → R * (R * R) ≤ D * 2 ^ cbK p → IsNat w1 (.slice a l c) R → Calls Tryz.prog 73 #[.bool n, .slice a l c, .int .i64 z, .bool wh] w1 fun e' w' => ∃ a len cap, e' = .returned (.agg #[.bool n, .slice a len cap, .int .i64 ((p - cbK p) / 3 - 1)]) ∧ IsNat w' (.slice a len cap) (mkQ R wh) ∧ Below w1.heap.size w1 w') := fun R wh z a l c w1 hz hR k1 => by
    subst hz
    exact marked_ref _ _ _ _ a l c w1 k1 (by have := cube_nd hR; omega) (by omega)
  have HJ1 : Hid (∀ j : Nat, j < cbJ p → ((p - (190 + (j : Int))).tmod 3 != 0) = true) := fun j hj => by
    have hn : ¬ (p - (190 + (j : Int))).tmod 3 = 0 := fun h => cbJ_not hj (Int.dvd_of_tmod_eq_zero h)
    simpa using hn
  have HJ2 : Hid (((p - (190 + (cbJ p : Int))).tmod 3 != 0) = false ∧ (p - (190 + (cbJ p : Int))).tdiv 3 = (p - (cbK p : Int)) / 3 ∧ (190 + (cbJ p : Int)) = (cbK p : Int)) :=
    ⟨by rw [Int.tmod_eq_zero_of_dvd (cbJ_dvd p)]; rfl, by rw [Int.tdiv_eq_ediv_of_dvd (cbJ_dvd p)]; rfl, rfl⟩
  have HQW : Hid (IntKind.i64.wrap ((IntKind.i64.wrap (p - (190 + (cbJ p : Int)))).tdiv 3) = (p - (cbK p : Int)) / 3) := (by
    have jl := cbJ_lt p
    have e : (p - (190 + (cbJ p : Int))) / 3 = (p - (cbK p : Int)) / 3 := rfl
    rw [Go.IntWalk.i64_in (p - (190 + (cbJ p : Int))) (by omega), Int.tdiv_eq_ediv_of_dvd (cbJ_dvd p), Go.IntWalk.i64_in _ (by omega), e] : IntKind.i64.wrap ((IntKind.i64.wrap (p - (190 + (cbJ p : Int)))).tdiv 3) = (p - (cbK p : Int)) / 3)
  have jl := cbJ_lt p
  have HN : Hid (nd (D * 2 ^ cbK p) ≤ 200) := nA
  obtain ⟨p3, p4⟩ := hp
  clear h1 s1 nK nA
  obtain ⟨A, hA⟩ : ∃ A, A = D * 2 ^ cbK p := ⟨_, rfl⟩
  rw [← hA] at HUA HMK HN
  rw [← hA]
  clear hA
  have hbl : Go.bitLen A ≤ 4800 := by have := HN.out; unfold nd at this; omega
  have HS0 : Hid (A < (0 + 2 ^ (Go.bitLen A / 3 + 2)) * ((0 + 2 ^ (Go.bitLen A / 3 + 2)) * (0 + 2 ^ (Go.bitLen A / 3 + 2)))) := cube_start A
  have HSZ : Hid (∀ v w1, IsNat w1 v A → Calls Tryz.prog 78 #[v] w1 fun e w' => e = .returned (.int .i64 (Go.bitLen A : Nat)) ∧ w' = w1) := fun v w1 hb1 => size_any A v w1 hb1 (by have := HN.out; omega)
  obtain ⟨L, hL⟩ : ∃ L, L = Go.bitLen A := ⟨_, rfl⟩
  rw [← hL] at HSZ HS0 hbl
  have ll1 : (L : Int) ≤ 4800 := by omega
  clear hL hbl
  have HNT : Hid (∀ (w1 : World), Calls Tryz.prog 68 #[.int .i64 1] w1 fun e w' => ∃ a l c, e = .returned (.slice a l c) ∧ IsNat w' (.slice a l c) 1 ∧ Below w1.heap.size w1 w') := fun w1 => (nat_any 1 (by omega) w1).mono fun e w' ⟨v', he, hv, hb⟩ => by
    obtain ⟨a, len, cap, g, rfl, -, -, -⟩ := hv.slice
    exact ⟨a, len, cap, he, hv, hb⟩
  have HUP : Hid (∀ (k : Nat) (z : Int) (v : Value) (w1 : World), z = k → IsNat w1 v 1 → k ≤ 24000 → Calls Tryz.prog 71 #[v, .int .i64 z] w1 fun e w' => ∃ a l c, e = .returned (.slice a l c) ∧ IsNat w' (.slice a l c) (2 ^ k) ∧ Below w1.heap.size w1 w') := fun k z v w1 hz h hn => by
    subst hz
    refine (up_any 1 k v w1 h (by decide) (by omega)).mono fun e w' ⟨v', he, hv, hb⟩ => ?_
    obtain ⟨a, len, cap, g, rfl, -, -, -⟩ := hv.slice
    exact ⟨a, len, cap, he, by rw [Nat.one_mul] at hv; exact hv, hb⟩
  have HPL : Hid (∀ (x y : Nat) (v u : Value) (w1 : World), IsNat w1 v x → IsNat w1 u y → nd x ≤ 3000 → nd y ≤ 3000 → Calls Tryz.prog 75 #[v, u] w1 fun e w' => ∃ a l c, e = .returned (.slice a l c) ∧ IsNat w' (.slice a l c) (x + y) ∧ Below w1.heap.size w1 w') := fun x y v u w1 h1 h2 n1 n2 => (plus_any x y v u w1 h1 h2 (by omega) (by omega)).mono fun e w' ⟨v', he, hv, hb⟩ => by
    obtain ⟨a, len, cap, g, rfl, -, -, -⟩ := hv.slice
    exact ⟨a, len, cap, he, hv, hb⟩
  have HTM : Hid (∀ (x y : Nat) (v u : Value) (w1 : World), IsNat w1 v x → IsNat w1 u y → nd x ≤ 3000 → nd y ≤ 3000 → Calls Tryz.prog 70 #[v, u] w1 fun e w' => ∃ a l c, e = .returned (.slice a l c) ∧ IsNat w' (.slice a l c) (x * y) ∧ Below w1.heap.size w1 w') := fun x y v u w1 h1 h2 n1 n2 => (times_any x y v u w1 h1 h2 (by omega) (by omega)).mono fun e w' ⟨v', he, hv, hb⟩ => by
    obtain ⟨a, len, cap, g, rfl, -, -, -⟩ := hv.slice
    exact ⟨a, len, cap, he, hv, hb⟩
  have HCM : Hid (∀ (x : Nat) (v u : Value) (w1 : World), IsNat w1 v x → IsNat w1 u A → nd x ≤ 9000 → Calls Tryz.prog 76 #[v, u] w1 fun e w' => e = .returned (.int .i64 (cmpI x A)) ∧ Below w1.heap.size w1 w') := fun x v u w1 h1 h2 n1 => cmp_any x A v u w1 h1 h2 (by omega) (by have := HN.out; omega)
  have HNX : Hid (∀ {x : Nat}, x * (x * x) ≤ A → nd x ≤ 200) := fun {x} h => Nat.le_trans (cube_nd h) HN.out
  have HNP : Hid (∀ {k : Nat}, k ≤ 2000 → nd (2 ^ k) ≤ 200) := fun {k} h => Nat.le_trans (nd_of_lt (n := 2 ^ k) (k := k / 24 + 1) (Nat.pow_lt_pow_right (by decide) (by omega))) (by omega)
  have HNS : Hid (∀ {x y : Nat}, nd x ≤ 200 → nd y ≤ 200 → nd (x + y) ≤ 201) := fun {x y} h1 h2 => Nat.le_trans (nd_add_le x y) (by omega)
  have HNM : Hid (∀ {x : Nat}, nd x ≤ 201 → nd (x * x) ≤ 402 ∧ nd (x * (x * x)) ≤ 603) := fun {x} h => by
    have h2 := nd_mul_le x x
    exact ⟨by omega, Nat.le_trans (nd_mul_le x (x * x)) (by omega)⟩
  generalize (p - (cbK p : Int)) / 3 = q at *
  generalize cbK p = KK at *
  generalize cbJ p = J at *
  go_enter Tryz.func48, Tryz.ntmps48
  go_wp2_with fail
  generalize (w.alloc (.cells #[.bool n, .slice a1 l1 c1, .int .i64 p] 63)).alloc (.cells #[.bool false, .slice none 0 0, .int .i64 0] 63) = w0 at *
  go_loopw [3] (fun sk wr => ∃ j : Nat, j ≤ J ∧ sk = .int .i64 (190 + (j : Int)) ∧ NumAt wr w.heap.size n (.slice a1 l1 c1) D p ∧ Empty3 wr (w.heap.size + 1) ∧ Below w.heap.size w wr) (fun sk _ => (J + 190 - intOf sk).toNat)
  case atStart => exact ⟨0, Nat.zero_le _, rfl, N1.out, E3.out, B0.out⟩
  case round =>
    obtain ⟨j, hj, rfl, hN, hE, hB⟩ := hrel
    have M1 : Hid (NumAt wr w.heap.size n (.slice a1 l1 c1) D p ∧ Empty3 wr (w.heap.size + 1) ∧ Below w.heap.size w wr) := ⟨hN, hE, hB⟩
    have t2 := hN.c2
    have tl := hN.lt
    clear hN hE hB N1 E3 B0
    by_cases hlt : j < J
    · have g := HJ1.out j hlt
      have HL : Hid (j < J) := hlt
      have jj : (j : Int) ≤ 2 := by omega
      clear hlt hj
      go_wp2_with fail
      go_roundw
      case rel => exact ⟨j + 1, by have := HL.out; omega, by go_num, M1.out.1, M1.out.2.1, M1.out.2.2⟩
      case measure => simp [intOf]; have := HL.out; omega
    · obtain rfl : j = J := by omega
      have g := HJ2.out.1
      have jj : (j : Int) ≤ 2 := by omega
      clear hlt hj
      have t1 := M1.out.1.c1
      go_wp2_with fail
      refine (HUA.out _ _ HJ2.out.2.2 M1.out.1.nat).mono ?_
      rintro e w1 ⟨b1, m1, d1, rfl, hv1, hb1⟩
      have V1 : Hid (IsNat w1 (.slice b1 m1 d1) A ∧ NumAt w1 w.heap.size n (.slice a1 l1 c1) D p ∧ Empty3 w1 (w.heap.size + 1) ∧ Below w.heap.size w w1) := ⟨hv1, M1.out.1.later hb1, M1.out.2.1.later hb1, M1.out.2.2.trans (hb1.mono M1.out.2.2.size)⟩
      clear hv1 hb1 M1 t1 t2 tl
      go_wp2_with fail
      refine (HSZ.out _ _ V1.out.1).mono ?_
      rintro e w1' ⟨rfl, rfl⟩
      go_wp2_with fail
      obtain ⟨W1, hW1⟩ : ∃ W1, W1 = w1' := ⟨_, rfl⟩
      go_loopw [5, 6, 7, 8, 9] (fun sx si _ _ _ wr => ∃ (k x : Nat) (a2 : Option Addr) (n2 c2 : Nat), k ≤ L / 3 + 2 ∧ sx = .slice a2 n2 c2 ∧ si = .int .i64 ((k : Int) - 1) ∧ IsNat wr (.slice a2 n2 c2) x ∧ x * (x * x) ≤ A ∧ A < (x + 2 ^ k) * ((x + 2 ^ k) * (x + 2 ^ k)) ∧ IsNat wr (.slice b1 m1 d1) A ∧ NumAt wr w.heap.size n (.slice a1 l1 c1) D p ∧ Empty3 wr (w.heap.size + 1) ∧ Below w.heap.size w wr) (fun _ si _ _ _ _ => (intOf si + 1).toNat)
      case atStart =>
        exact ⟨L / 3 + 2, 0, none, 0, 0, Nat.le_refl _, rfl, by go_num, IsNat.nil _, Nat.zero_le _, HS0.out, V1.out.1, V1.out.2.1, V1.out.2.2.1, V1.out.2.2.2⟩
      case round =>
        obtain ⟨k, x, a2, n2, c2, hk, rfl, rfl, hx, hlo, hhi, hA, hN, hE, hB⟩ := hrel
        have M2 : Hid (IsNat wr (.slice b1 m1 d1) A ∧ NumAt wr w.heap.size n (.slice a1 l1 c1) D p ∧ Empty3 wr (w.heap.size + 1) ∧ Below w.heap.size w wr ∧ IsNat wr (.slice a2 n2 c2) x) := ⟨hA, hN, hE, hB, hx⟩
        clear hA hN hE hB hx V1 hW1
        match k, hk with
        | 0, _ =>
          have HL : Hid (x * (x * x) ≤ A ∧ A < (x + 1) * ((x + 1) * (x + 1))) := ⟨hlo, by simpa using hhi⟩
          clear hlo hhi
          go_wp2_with fail
          refine (HTM.out _ _ _ _ _ M2.out.2.2.2.2 M2.out.2.2.2.2 (by have := HNX.out HL.out.1; omega) (by have := HNX.out HL.out.1; omega)).mono ?_
          rintro e w2 ⟨b2, m2, d2, rfl, hv2, hb2⟩
          have V2 : Hid (IsNat w2 (.slice b2 m2 d2) (x * x) ∧ IsNat w2 (.slice a2 n2 c2) x ∧ IsNat w2 (.slice b1 m1 d1) A ∧ NumAt w2 w.heap.size n (.slice a1 l1 c1) D p ∧ Empty3 w2 (w.heap.size + 1) ∧ Below w.heap.size w w2) := ⟨hv2, M2.out.2.2.2.2.later hb2, M2.out.1.later hb2, M2.out.2.1.later hb2, M2.out.2.2.1.later hb2, M2.out.2.2.2.1.trans (hb2.mono M2.out.2.2.2.1.size)⟩
          clear hv2 hb2 M2
          go_wp2_with fail
          refine (HTM.out _ _ _ _ _ V2.out.2.1 V2.out.1 (by have := HNX.out HL.out.1; omega) (by have := (HNM.out (show nd x ≤ 201 by have := HNX.out HL.out.1; omega)).1; omega)).mono ?_
          rintro e w3 ⟨b3, m3, d3, rfl, hv3, hb3⟩
          have V3 : Hid (IsNat w3 (.slice b3 m3 d3) (x * (x * x)) ∧ IsNat w3 (.slice a2 n2 c2) x ∧ IsNat w3 (.slice b1 m1 d1) A ∧ NumAt w3 w.heap.size n (.slice a1 l1 c1) D p ∧ Empty3 w3 (w.heap.size + 1) ∧ Below w.heap.size w w3) := ⟨hv3, V2.out.2.1.later hb3, V2.out.2.2.1.later hb3, V2.out.2.2.2.1.later hb3, V2.out.2.2.2.2.1.later hb3, V2.out.2.2.2.2.2.trans (hb3.mono V2.out.2.2.2.2.2.size)⟩
          clear hv3 hb3 V2
          have HZ : Hid ((cmpI (x * (x * x)) A == 0) = decide (x * (x * x) = A)) := (by
            by_cases e : x * (x * x) = A
            · rw [decide_eq_true e, cmpI_eq e]; rfl
            · rw [decide_eq_false e, cmpI_lt (by have := HL.out.1; omega)]; rfl : (cmpI (x * (x * x)) A == 0) = decide (x * (x * x) = A))
          have K0 : Hid (CbAt w w3 n (.slice a1 l1 c1) D p (.slice b3 m3 d3) (x * (x * x)) (.slice a2 n2 c2) x (.slice b1 m1 d1) A) := ⟨V3.out.1, V3.out.2.1, V3.out.2.2.1, V3.out.2.2.2.1, V3.out.2.2.2.2.1, V3.out.2.2.2.2.2⟩
          have HND : Hid (nd (x * (x * x)) ≤ 9000) := (by have := (HNM.out (show nd x ≤ 201 by have := HNX.out HL.out.1; omega)).2; omega : nd (x * (x * x)) ≤ 9000)
          have HC2 : Hid (∀ w1, IsNat w1 (.slice b3 m3 d3) (x * (x * x)) → IsNat w1 (.slice b1 m1 d1) A → Calls Tryz.prog 76 #[.slice b3 m3 d3, .slice b1 m1 d1] w1 fun e w' => e = .returned (.int .i64 (cmpI (x * (x * x)) A)) ∧ Below w1.heap.size w1 w') := fun w1 q1 q2 => HCM.out _ _ _ w1 q1 q2 HND.out
          clear V3
          generalize cmpI (x * (x * x)) A = CC at *
          go_wp2_with fail
          go_region_held3 (fun w' => w'.cell? ⟨w.heap.size, 0, none⟩ = some (.bool n) ∧ w'.cell? ⟨w.heap.size, 2, none⟩ = some (.int .i64 p))
            (first | (go_keep; done) | exact ⟨K0.out.num.c0, K0.out.num.c2⟩)
            (first | (go_at_call 76; refine (HC2.out _ (by exact K0.out.s.later ⟨rfl, rfl, rfl, Nat.le_refl _, fun _ _ => rfl⟩) (by exact K0.out.a.later ⟨rfl, rfl, rfl, Nat.le_refl _, fun _ _ => rfl⟩)).mono ?_; rintro e w' ⟨rfl, hb⟩; have K0 : Hid (CbAt w w' n (.slice a1 l1 c1) D p (.slice b3 m3 d3) (x * (x * x)) (.slice a2 n2 c2) x (.slice b1 m1 d1) A) := K0.out.later ⟨hb.os, hb.tape, hb.output, hb.size, hb.block⟩; clear hb) | (go_at_call 73; refine (HMK.out x _ _ _ _ _ _ HQW.out HL.out.1 (by exact K0.out.x.later ⟨rfl, rfl, rfl, Nat.le_refl _, fun _ _ => rfl⟩)).mono ?_; rintro e w5 ⟨b5, m5, d5, rfl, hv5, hb5⟩; have V5 : Hid (IsNat w5 (.slice b5 m5 d5) (mkQ x (CC == 0))) := hv5; have K0 : Hid (CbAt w w5 n (.slice a1 l1 c1) D p (.slice b3 m3 d3) (x * (x * x)) (.slice a2 n2 c2) x (.slice b1 m1 d1) A) := K0.out.later ⟨hb5.os, hb5.tape, hb5.output, hb5.size, hb5.block⟩; obtain ⟨k0, k1, k2, k3, k4, k5, k6⟩ := K0.out.emp; clear hv5 hb5))
          all_goals (try go_wp2_with fail)
          all_goals
            refine bodyPost_ret (v := .agg #[.bool n, .slice b5 m5 d5, .int .i64 (q - 1)]) (by simp [results, Tryz.results48, go_sem, k1, k2, k3]) rfl ⟨_, _, _, x, rfl, by rw [← HZ.out]; exact set_num V5.out k1, HL.out, ?_⟩
            exact ((K0.out.below.setCell (by simp) _).setCell (by simp) _).setCell (by simp) _
        | i + 1, hk =>
          have HST : Hid (((x + 2 ^ i) * ((x + 2 ^ i) * (x + 2 ^ i)) ≤ A → (x + 2 ^ i) * ((x + 2 ^ i) * (x + 2 ^ i)) ≤ A ∧ A < (x + 2 ^ i + 2 ^ i) * ((x + 2 ^ i + 2 ^ i) * (x + 2 ^ i + 2 ^ i))) ∧ (A < (x + 2 ^ i) * ((x + 2 ^ i) * (x + 2 ^ i)) → x * (x * x) ≤ A ∧ A < (x + 2 ^ i) * ((x + 2 ^ i) * (x + 2 ^ i)))) := cube_step hlo (by rw [Nat.pow_succ, Nat.mul_comm (2 ^ i)] at hhi; exact hhi)
          have HK : Hid (i + 1 ≤ L / 3 + 2 ∧ i ≤ 2000 ∧ nd x ≤ 200) := ⟨hk, by omega, HNX.out hlo⟩
          have j2 : (i : Int) ≤ 2000 := by omega
          clear hlo hhi hk
          go_wp2_with fail
          refine (HNT.out _).mono ?_
          rintro e w2 ⟨b2, m2, d2, rfl, hv2, hb2⟩
          have V2 : Hid (IsNat w2 (.slice b2 m2 d2) 1 ∧ IsNat w2 (.slice a2 n2 c2) x ∧ IsNat w2 (.slice b1 m1 d1) A ∧ NumAt w2 w.heap.size n (.slice a1 l1 c1) D p ∧ Empty3 w2 (w.heap.size + 1) ∧ Below w.heap.size w w2) := ⟨hv2, M2.out.2.2.2.2.later hb2, M2.out.1.later hb2, M2.out.2.1.later hb2, M2.out.2.2.1.later hb2, M2.out.2.2.2.1.trans (hb2.mono M2.out.2.2.2.1.size)⟩
          clear hv2 hb2 M2
          go_wp2_with fail
          refine (HUP.out i _ _ _ (by omega) V2.out.1 (by have := HK.out.2.1; omega)).mono ?_
          rintro e w3 ⟨b3, m3, d3, rfl, hv3, hb3⟩
          have V3 : Hid (IsNat w3 (.slice b3 m3 d3) (2 ^ i) ∧ IsNat w3 (.slice a2 n2 c2) x ∧ IsNat w3 (.slice b1 m1 d1) A ∧ NumAt w3 w.heap.size n (.slice a1 l1 c1) D p ∧ Empty3 w3 (w.heap.size + 1) ∧ Below w.heap.size w w3) := ⟨hv3, V2.out.2.1.later hb3, V2.out.2.2.1.later hb3, V2.out.2.2.2.1.later hb3, V2.out.2.2.2.2.1.later hb3, V2.out.2.2.2.2.2.trans (hb3.mono V2.out.2.2.2.2.2.size)⟩
          clear hv3 hb3 V2
          go_wp2_with fail
          refine (HPL.out _ _ _ _ _ V3.out.2.1 V3.out.1 (by have := HK.out.2.2; omega) (by have := HNP.out HK.out.2.1; omega)).mono ?_
          rintro e w4 ⟨b4, m4, d4, rfl, hv4, hb4⟩
          have V4 : Hid (IsNat w4 (.slice b4 m4 d4) (x + 2 ^ i) ∧ IsNat w4 (.slice a2 n2 c2) x ∧ IsNat w4 (.slice b1 m1 d1) A ∧ NumAt w4 w.heap.size n (.slice a1 l1 c1) D p ∧ Empty3 w4 (w.heap.size + 1) ∧ Below w.heap.size w w4) := ⟨hv4, V3.out.2.1.later hb4, V3.out.2.2.1.later hb4, V3.out.2.2.2.1.later hb4, V3.out.2.2.2.2.1.later hb4, V3.out.2.2.2.2.2.trans (hb4.mono V3.out.2.2.2.2.2.size)⟩
          have HY : Hid (nd (x + 2 ^ i) ≤ 201) := HNS.out HK.out.2.2 (HNP.out HK.out.2.1)
          clear hv4 hb4 V3
          obtain ⟨y, hy⟩ : ∃ y, y = x + 2 ^ i := ⟨_, rfl⟩
          rw [← hy] at HST HY V4
          have HEY : Hid (y = x + 2 ^ i) := hy
          clear hy
          go_wp2_with fail
          refine (HTM.out _ _ _ _ _ V4.out.1 V4.out.1 (by have := HY.out; omega) (by have := HY.out; omega)).mono ?_
          rintro e w5 ⟨b5, m5, d5, rfl, hv5, hb5⟩
          have V5 : Hid (IsNat w5 (.slice b5 m5 d5) (y * y) ∧ IsNat w5 (.slice b4 m4 d4) y ∧ IsNat w5 (.slice a2 n2 c2) x ∧ IsNat w5 (.slice b1 m1 d1) A ∧ NumAt w5 w.heap.size n (.slice a1 l1 c1) D p ∧ Empty3 w5 (w.heap.size + 1) ∧ Below w.heap.size w w5) := ⟨hv5, V4.out.1.later hb5, V4.out.2.1.later hb5, V4.out.2.2.1.later hb5, V4.out.2.2.2.1.later hb5, V4.out.2.2.2.2.1.later hb5, V4.out.2.2.2.2.2.trans (hb5.mono V4.out.2.2.2.2.2.size)⟩
          clear hv5 hb5 V4
          go_wp2_with fail
          refine (HTM.out _ _ _ _ _ V5.out.2.1 V5.out.1 (by have := HY.out; omega) (by have := (HNM.out HY.out).1; omega)).mono ?_
          rintro e w6 ⟨b6, m6, d6, rfl, hv6, hb6⟩
          have V6 : Hid (IsNat w6 (.slice b6 m6 d6) (y * (y * y)) ∧ IsNat w6 (.slice b4 m4 d4) y ∧ IsNat w6 (.slice a2 n2 c2) x ∧ IsNat w6 (.slice b1 m1 d1) A ∧ NumAt w6 w.heap.size n (.slice a1 l1 c1) D p ∧ Empty3 w6 (w.heap.size + 1) ∧ Below w.heap.size w w6) := ⟨hv6, V5.out.2.1.later hb6, V5.out.2.2.1.later hb6, V5.out.2.2.2.1.later hb6, V5.out.2.2.2.2.1.later hb6, V5.out.2.2.2.2.2.1.later hb6, V5.out.2.2.2.2.2.2.trans (hb6.mono V5.out.2.2.2.2.2.2.size)⟩
          clear hv6 hb6 V5
          go_wp2_with fail
          refine (HCM.out _ _ _ _ V6.out.1 V6.out.2.2.2.1 (by have := (HNM.out HY.out).2; omega)).mono ?_
          rintro e w7 ⟨rfl, hb7⟩
          have V7 : Hid (IsNat w7 (.slice b4 m4 d4) y ∧ IsNat w7 (.slice a2 n2 c2) x ∧ IsNat w7 (.slice b1 m1 d1) A ∧ NumAt w7 w.heap.size n (.slice a1 l1 c1) D p ∧ Empty3 w7 (w.heap.size + 1) ∧ Below w.heap.size w w7) := ⟨V6.out.2.1.later hb7, V6.out.2.2.1.later hb7, V6.out.2.2.2.1.later hb7, V6.out.2.2.2.2.1.later hb7, V6.out.2.2.2.2.2.1.later hb7, V6.out.2.2.2.2.2.2.trans (hb7.mono V6.out.2.2.2.2.2.2.size)⟩
          clear hb7 V6
          by_cases hc : y * (y * y) ≤ A
          · have hci : cmpI (y * (y * y)) A ≤ 0 := by unfold cmpI; (repeat' split) <;> omega
            have HC : Hid (y * (y * y) ≤ A) := hc
            clear hc
            generalize cmpI (y * (y * y)) A = CC at *
            go_wp2_with fail
            go_roundw
            case rel =>
              go_light
              have e3 := HST.out.1 HC.out
              exact ⟨i, y, b4, m4, d4, by have := HK.out; omega, rfl, by go_num, V7.out.1, e3.1, e3.2, V7.out.2.2⟩
            case measure => simp [intOf]
          · have hci : 0 < cmpI (y * (y * y)) A := by rw [cmpI_gt (by omega)]; decide
            have HC : Hid (A < y * (y * y)) := (by omega : A < y * (y * y))
            clear hc
            generalize cmpI (y * (y * y)) A = CC at *
            go_wp2_with fail
            go_roundw
            case rel =>
              go_light
              have e3 := HST.out.2 HC.out
              exact ⟨i, x, a2, n2, c2, by have := HK.out; omega, rfl, by go_num, V7.out.2.1, e3.1, by rw [← HEY.out]; exact e3.2, V7.out.2.2⟩
            case measure => simp [intOf]

end Go.Proofs.YtcjihaafohnbeaaGreatDoor
