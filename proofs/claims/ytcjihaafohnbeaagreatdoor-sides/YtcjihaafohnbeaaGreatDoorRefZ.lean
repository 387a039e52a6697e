import Derived.Test.YtcjihaafohnbeaaGreatDoorRefT
namespace Go.Proofs.YtcjihaafohnbeaaGreatDoor
open Go.RowKit

theorem i64_and1 (n : Int) : bits .and .i64 n 1 = n % 2 := by
  have h1 : (BitVec.ofInt 64 1).toNat = 2 ^ 1 - 1 := by decide
  have key : (BitVec.ofInt 64 n &&& BitVec.ofInt 64 1).toNat = (n % ((2 ^ 64 : Nat) : Int)).toNat % 2 ^ 1 := by
    rw [BitVec.toNat_and, BitVec.toNat_ofInt, h1, Nat.and_two_pow_sub_one_eq_mod]
  show IntKind.i64.wrap ((BitVec.ofInt 64 n &&& BitVec.ofInt 64 1).toNat : Nat) = n % 2
  rw [key, IntKind.wrap_i64]
  omega
/-- A digit to the base 2, out of one to the base 2^24. -/
theorem bit_dig {l : List Nat} (h : Digits l) (i : Nat) : dig l (i / 24) / 2 ^ (i % 24) % 2 = val l / 2 ^ i % 2 := by
  rw [val_dig h]
  have hi : i = 24 * (i / 24) + i % 24 := by omega
  have hlt : i % 24 < 24 := Nat.mod_lt _ (by decide)
  conv => rhs; rw [hi, Nat.pow_add, ← Nat.div_div_eq_div_mul]
  generalize val l / 2 ^ (24 * (i / 24)) = E
  generalize i % 24 = s at *
  have hp : (2 : Nat) ^ s * 2 ^ (24 - s) = 16777216 := by rw [← Nat.pow_add, show s + (24 - s) = 24 by omega]
  have h2 : 2 ∣ 2 ^ (24 - s) := ⟨2 ^ (23 - s), by rw [← Nat.pow_succ']; congr 1; omega⟩
  rw [← hp, Nat.mod_mul_right_div_self, Nat.mod_mod_of_dvd _ h2]
/-- One more digit of a quotient. -/
theorem over_step {T b t : Nat} (hb : b ≠ 0) (ht : t < 2) : (b ≤ 2 * (T % b) + t → (2 * T + t) / b = 2 * (T / b) + 1 ∧ (2 * T + t) % b = 2 * (T % b) + t - b) ∧ (2 * (T % b) + t < b → (2 * T + t) / b = 2 * (T / b) ∧ (2 * T + t) % b = 2 * (T % b) + t) := by
  have hd := Nat.div_add_mod T b
  have hm := Nat.mod_lt T (show 0 < b by omega)
  have hpos : 0 < b := by omega
  have e : 2 * T + t = (2 * (T % b) + t) + b * (2 * (T / b)) := by rw [Nat.mul_left_comm]; omega
  constructor
  · intro h
    have e2 : 2 * T + t = (2 * (T % b) + t - b) + b * (2 * (T / b) + 1) := by rw [Nat.mul_add, Nat.mul_one]; omega
    rw [e2, Nat.add_mul_div_left _ _ hpos, Nat.add_mul_mod_self_left, Nat.div_eq_of_lt (by omega), Nat.mod_eq_of_lt (by omega)]
    omega
  · intro h
    rw [e, Nat.add_mul_div_left _ _ hpos, Nat.add_mul_mod_self_left, Nat.div_eq_of_lt (by omega), Nat.mod_eq_of_lt (by omega)]
    omega
theorem half_step (a i : Nat) : a / 2 ^ i = 2 * (a / 2 ^ (i + 1)) + a / 2 ^ i % 2 := by
  rw [Nat.pow_succ, ← Nat.div_div_eq_div_mul]
  omega

set_option maxRecDepth 10000 in
set_option maxHeartbeats 4000000 in
theorem over_any (a b : Nat) (va vb : Value) (w : World) (ha : IsNat w va a) (hb : IsNat w vb b) (h0 : b ≠ 0) (sa : nd a ≤ 1000) (sb : nd b ≤ 1000) :
    Calls Tryz.prog 72 #[va, vb] w fun e w' => ∃ v, e = .returned (.tuple #[v, .bool (decide (a % b = 0))]) ∧ IsNat w' v (a / b) ∧ Below w.heap.size w w' := by
  have HSZ : Hid (∀ w1, Below w.heap.size w w1 → Calls Tryz.prog 78 #[va] w1 fun e w' => e = .returned (.int .i64 (Go.bitLen a : Nat)) ∧ w' = w1) := fun w1 hb1 => size_any a va w1 (ha.later hb1) (by omega)
  have HA0 : Hid (IsNat w va a) := ha
  have HB0 : Hid (IsNat w vb b) := hb
  obtain ⟨la, ra, ea, na⟩ := ha
  have hbit : ∀ i, dig la (i / 24) / 2 ^ (i % 24) % 2 = a / 2 ^ i % 2 := fun i => by rw [bit_dig ra.1, ea]
  have hbl : Go.bitLen a ≤ 24 * la.length := by rw [na]; unfold nd; omega
  have hlen : la.length ≤ 1000 := by omega
  have hdl := dig_lt ra.1
  obtain ⟨A, capa, ga, rfl, hc1, hc2, hA, hgA, cA⟩ := ra.open
  have HDG : Hid ((∀ i, dig la (i / 24) / 2 ^ (i % 24) % 2 = a / 2 ^ i % 2) ∧ (∀ k, dig la k < 16777216)) := ⟨hbit, hdl⟩
  have HCA : Hid ((∀ j, j < la.length → w.cell? ⟨ga, j, none⟩ = some (.int .i64 (dig la j : Nat))) ∧ (0 < la.length → A = some ⟨ga, 0, none⟩) ∧ (0 < la.length → ga < w.heap.size)) := ⟨cA, hA, hgA⟩
  have HUP : Hid (∀ (x : Nat) (v : Value) (w1 : World), IsNat w1 v x → nd x ≤ 2000 → Calls Tryz.prog 71 #[v, .int .i64 1] w1 fun e w' => ∃ a l c, e = .returned (.slice a l c) ∧ IsNat w' (.slice a l c) (2 * x) ∧ Below w1.heap.size w1 w') := fun x v w1 h hn => (up_any x 1 v w1 h (by omega) (by decide)).mono fun e w' ⟨v', he, hv, hb⟩ => by
    obtain ⟨a, len, cap, g, rfl, -, -, -⟩ := hv.slice
    exact ⟨a, len, cap, he, by rw [Nat.mul_comm]; exact hv, hb⟩
  have HNT : Hid (∀ (x : Nat) (w1 : World), x < 2 → Calls Tryz.prog 68 #[.int .i64 (x : Nat)] w1 fun e w' => ∃ a l c, e = .returned (.slice a l c) ∧ IsNat w' (.slice a l c) x ∧ Below w1.heap.size w1 w') := fun x w1 h => (nat_any x (by omega) w1).mono fun e w' ⟨v', he, hv, hb⟩ => by
    obtain ⟨a, len, cap, g, rfl, -, -, -⟩ := hv.slice
    exact ⟨a, len, cap, he, hv, hb⟩
  have HPL : Hid (∀ (x y : Nat) (v u : Value) (w1 : World), IsNat w1 v x → IsNat w1 u y → nd x ≤ 3000 → nd y ≤ 3000 → Calls Tryz.prog 75 #[v, u] w1 fun e w' => ∃ a l c, e = .returned (.slice a l c) ∧ IsNat w' (.slice a l c) (x + y) ∧ Below w1.heap.size w1 w') := fun x y v u w1 h1 h2 n1 n2 => (plus_any x y v u w1 h1 h2 (by omega) (by omega)).mono fun e w' ⟨v', he, hv, hb⟩ => by
    obtain ⟨a, len, cap, g, rfl, -, -, -⟩ := hv.slice
    exact ⟨a, len, cap, he, hv, hb⟩
  have HMI : Hid (∀ (x : Nat) (v : Value) (w1 : World), b ≤ x → IsNat w1 v x → IsNat w1 vb b → nd x ≤ 3000 → Calls Tryz.prog 77 #[v, vb] w1 fun e w' => ∃ a l c, e = .returned (.slice a l c) ∧ IsNat w' (.slice a l c) (x - b) ∧ Below w1.heap.size w1 w') := fun x v w1 hx h1 h2 n1 => (minus_any x b v vb w1 hx h1 h2 (by omega)).mono fun e w' ⟨v', he, hv, hb⟩ => by
    obtain ⟨a, len, cap, g, rfl, -, -, -⟩ := hv.slice
    exact ⟨a, len, cap, he, hv, hb⟩
  have HCM : Hid (∀ (x : Nat) (v : Value) (w1 : World), IsNat w1 v x → IsNat w1 vb b → nd x ≤ 3000 → Calls Tryz.prog 76 #[v, vb] w1 fun e w' => e = .returned (.int .i64 (cmpI x b)) ∧ Below w1.heap.size w1 w') := fun x v w1 h1 h2 n1 => cmp_any x b v vb w1 h1 h2 (by omega) (by omega)
  have HND : Hid ((∀ k, nd (a / 2 ^ k / b) ≤ 1000) ∧ (∀ k, nd (a / 2 ^ k % b) ≤ 1000)) := ⟨fun k => Nat.le_trans (nd_mono (Nat.le_trans (Nat.div_le_self _ _) (Nat.div_le_self _ _))) sa, fun k => Nat.le_trans (nd_mono (Nat.le_of_lt (Nat.mod_lt _ (by omega)))) sb⟩
  have HE0 : Hid (a / 2 ^ Go.bitLen a = 0) := Nat.div_eq_of_lt (Go.bitLen_spec a).1
  have HB1 : Hid (b ≠ 0) := h0
  have l1 : (Go.bitLen a : Int) ≤ 24000 := by omega
  have HLN : Hid (Go.bitLen a ≤ 24 * la.length ∧ la.length ≤ 1000 ∧ la.length ≤ capa) := ⟨hbl, hlen, hc1⟩
  obtain ⟨LL, hLL⟩ : ∃ L, L = la.length := ⟨_, rfl⟩
  have i1 : (la.length : Int) ≤ 1000 := by omega
  have i2 : (la.length : Int) ≤ (capa : Int) := by omega
  clear ra ea na sa sb hb h0 hbit hbl hlen hdl hc1 hc2 hA hgA cA
  go_enter Tryz.func72, Tryz.ntmps72
  go_wp2_with fail
  refine (HSZ.out _ (Below.refl _ _)).mono ?_
  rintro e w0 ⟨rfl, rfl⟩
  go_wp2_with fail
  go_loopw [6, 7, 8, 9, 10] (fun sq sr si _ _ wr => ∃ (k : Nat) (a1 : Option Addr) (n1 c1 : Nat) (a2 : Option Addr) (n2 c2 : Nat), k ≤ Go.bitLen a ∧ sq = .slice a1 n1 c1 ∧ sr = .slice a2 n2 c2 ∧ si = .int .i64 ((k : Int) - 1) ∧ IsNat wr (.slice a1 n1 c1) (a / 2 ^ k / b) ∧ IsNat wr (.slice a2 n2 c2) (a / 2 ^ k % b) ∧ Below w0.heap.size w0 wr) (fun _ _ si _ _ _ => (intOf si + 1).toNat)
  case atStart => exact ⟨Go.bitLen a, none, 0, 0, none, 0, 0, Nat.le_refl _, rfl, rfl, rfl, by rw [HE0.out, Nat.zero_div]; exact IsNat.nil _, by rw [HE0.out, Nat.zero_mod]; exact IsNat.nil _, Below.refl _ _⟩
  case round =>
    obtain ⟨k, a1, n1, c1, a2, n2, c2, hk, rfl, rfl, rfl, hq, hr, hbel⟩ := hrel
    match k, hk with
    | 0, _ =>
      have HV : Hid (IsNat wr (.slice a1 n1 c1) (a / b) ∧ Below w0.heap.size w0 wr) := ⟨by have := hq; simpa using this, hbel⟩
      have hz : (n2 = 0) ↔ (a % b = 0) := by
        have h := hr
        rw [Nat.pow_zero, Nat.div_one] at h
        obtain ⟨a', len', cap', g', he, hl, -, -⟩ := h.slice
        cases he
        constructor
        · intro e; exact nd_none (by rw [← hl, e])
        · intro e; rw [hl, e, nd_zero]
      have HZ : Hid (((n2 : Int) == 0) = decide (a % b = 0)) := (by
        by_cases e : n2 = 0
        · rw [decide_eq_true (hz.1 e), beq_iff_eq]; omega
        · rw [decide_eq_false (fun g => e (hz.2 g)), beq_eq_false_iff_ne]; omega : ((n2 : Int) == 0) = decide (a % b = 0))
      clear hz hq hr hbel
      go_wp2_with fail
      go_ret2
      exact ⟨_, by rw [← HZ.out]; rfl, HV.out.1, HV.out.2⟩
    | i + 1, hk =>
      have HQ : Hid (IsNat wr (.slice a1 n1 c1) (a / 2 ^ (i + 1) / b)) := hq
      have HR : Hid (IsNat wr (.slice a2 n2 c2) (a / 2 ^ (i + 1) % b)) := hr
      have HW : Hid (Below w0.heap.size w0 wr) := hbel
      have HK : Hid (i + 1 ≤ Go.bitLen a) := hk
      clear hq hr hbel
      have hi : i / 24 < la.length := by have := HLN.out; omega
      have x0 : wr.cell? ⟨ga, i / 24, none⟩ = some (.int .i64 (dig la (i / 24) : Nat)) := (HW.out.cell (p := ⟨ga, i / 24, none⟩) (HCA.out.2.2 (by omega))).trans (HCA.out.1 _ hi)
      obtain rfl : A = some ⟨ga, 0, none⟩ := HCA.out.2.1 (by omega)
      have HT : Hid (dig la (i / 24) / 2 ^ (i % 24) % 2 = a / 2 ^ i % 2 ∧ dig la (i / 24) < 16777216) := ⟨HDG.out.1 i, HDG.out.2 _⟩
      have zg : ga < wr.heap.size := Nat.lt_of_lt_of_le (HCA.out.2.2 (by omega)) HW.out.size
      have e1 : ((i : Int) / 24).toNat = i / 24 := by omega
      have e2 : ((i : Int) % 24).toNat = i % 24 := by omega
      have j1 : (i : Int) / 24 < (la.length : Int) := by omega
      have j2 : (i : Int) ≤ 24000 := by omega
      generalize dig la (i / 24) = d at *
      obtain ⟨t, ht⟩ : ∃ t : Nat, t = a / 2 ^ i % 2 := ⟨_, rfl⟩
      have hbt : bits .and .i64 ((d : Int) / 2 ^ (i % 24)) 1 = (t : Int) := by
        rw [i64_and1, show ((2 : Int) ^ (i % 24)) = ((2 ^ (i % 24) : Nat) : Int) by simp, show (d : Int) / ((2 ^ (i % 24) : Nat) : Int) = ((d / 2 ^ (i % 24) : Nat) : Int) by simp, ht, ← HT.out.1]
        omega
      have HTT : Hid (t < 2 ∧ a / 2 ^ i = 2 * (a / 2 ^ (i + 1)) + t) := ⟨by omega, by rw [ht]; exact half_step a i⟩
      obtain ⟨T, hTT⟩ : ∃ T, T = a / 2 ^ (i + 1) := ⟨_, rfl⟩
      have HST : Hid ((b ≤ 2 * (T % b) + t → a / 2 ^ i / b = 2 * (T / b) + 1 ∧ a / 2 ^ i % b = 2 * (T % b) + t - b) ∧ (2 * (T % b) + t < b → a / 2 ^ i / b = 2 * (T / b) ∧ a / 2 ^ i % b = 2 * (T % b) + t)) := (by rw [HTT.out.2, ← hTT]; exact over_step HB1.out HTT.out.1 : (b ≤ 2 * (T % b) + t → a / 2 ^ i / b = 2 * (T / b) + 1 ∧ a / 2 ^ i % b = 2 * (T % b) + t - b) ∧ (2 * (T % b) + t < b → a / 2 ^ i / b = 2 * (T / b) ∧ a / 2 ^ i % b = 2 * (T % b) + t))
      have HQ : Hid (IsNat wr (.slice a1 n1 c1) (T / b) ∧ nd (T / b) ≤ 1000) := ⟨by rw [hTT]; exact HQ.out, by rw [hTT]; exact HND.out.1 _⟩
      have HR : Hid (IsNat wr (.slice a2 n2 c2) (T % b) ∧ nd (T % b) ≤ 1000) := ⟨by rw [hTT]; exact HR.out, by rw [hTT]; exact HND.out.2 _⟩
      have HBV : Hid (IsNat wr vb b) := HB0.out.later HW.out
      clear hk hi HSZ HCA ht hTT
      have n2le : ∀ {x : Nat}, nd x ≤ 1000 → nd (2 * x) ≤ 1001 := fun {x} h => Nat.le_trans (nd_mul_le 2 x) (by have h2 : nd 2 = 1 := (by decide); omega)
      have HN2 : Hid (∀ {x : Nat}, nd x ≤ 1000 → nd (2 * x) ≤ 1001) := n2le
      have HN3 : Hid (∀ {x y : Nat}, nd x ≤ 1001 → y < 2 → nd (x + y) ≤ 1002 ∧ nd y ≤ 1) := fun {x y} h hy => by
        have hy1 : nd y ≤ 1 := nd_of_lt (by omega)
        exact ⟨Nat.le_trans (nd_add_le x y) (by omega), hy1⟩
      clear n2le
      go_wp2_with fail
      refine (HUP.out _ _ _ HR.out.1 (by have := HR.out.2; omega)).mono ?_
      rintro e w1 ⟨b1, m1, d1, rfl, hv1, hb1⟩
      have V1 : Hid (IsNat w1 (.slice b1 m1 d1) (2 * (T % b)) ∧ IsNat w1 (.slice a1 n1 c1) (T / b) ∧ IsNat w1 vb b ∧ Below w0.heap.size w0 w1) := ⟨hv1, HQ.out.1.later hb1, HBV.out.later hb1, HW.out.trans (hb1.mono HW.out.size)⟩
      clear hv1 hb1 x0 zg
      go_wp2_with fail
      refine (HNT.out t _ HTT.out.1).mono ?_
      rintro e w2 ⟨b2, m2, d2, rfl, hv2, hb2⟩
      have V2 : Hid (IsNat w2 (.slice b1 m1 d1) (2 * (T % b)) ∧ IsNat w2 (.slice b2 m2 d2) t ∧ IsNat w2 (.slice a1 n1 c1) (T / b) ∧ IsNat w2 vb b ∧ Below w0.heap.size w0 w2) := ⟨V1.out.1.later hb2, hv2, V1.out.2.1.later hb2, V1.out.2.2.1.later hb2, V1.out.2.2.2.trans (hb2.mono V1.out.2.2.2.size)⟩
      clear hv2 hb2 V1
      go_wp2_with fail
      refine (HPL.out _ _ _ _ _ V2.out.1 V2.out.2.1 (by have := HN2.out HR.out.2; omega) (by have := (HN3.out (HN2.out HR.out.2) HTT.out.1).2; omega)).mono ?_
      rintro e w3 ⟨b3, m3, d3, rfl, hv3, hb3⟩
      have V3 : Hid (IsNat w3 (.slice b3 m3 d3) (2 * (T % b) + t) ∧ IsNat w3 (.slice a1 n1 c1) (T / b) ∧ IsNat w3 vb b ∧ Below w0.heap.size w0 w3) := ⟨hv3, V2.out.2.2.1.later hb3, V2.out.2.2.2.1.later hb3, V2.out.2.2.2.2.trans (hb3.mono V2.out.2.2.2.2.size)⟩
      clear hv3 hb3 V2
      go_wp2_with fail
      refine (HUP.out _ _ _ V3.out.2.1 (by have := HQ.out.2; omega)).mono ?_
      rintro e w4 ⟨b4, m4, d4, rfl, hv4, hb4⟩
      have V4 : Hid (IsNat w4 (.slice b4 m4 d4) (2 * (T / b)) ∧ IsNat w4 (.slice b3 m3 d3) (2 * (T % b) + t) ∧ IsNat w4 vb b ∧ Below w0.heap.size w0 w4) := ⟨hv4, V3.out.1.later hb4, V3.out.2.2.1.later hb4, V3.out.2.2.2.trans (hb4.mono V3.out.2.2.2.size)⟩
      clear hv4 hb4 V3
      go_wp2_with fail
      refine (HCM.out _ _ _ V4.out.2.1 V4.out.2.2.1 (by have := (HN3.out (HN2.out HR.out.2) HTT.out.1).1; omega)).mono ?_
      rintro e w5 ⟨rfl, hb5⟩
      have V5 : Hid (IsNat w5 (.slice b4 m4 d4) (2 * (T / b)) ∧ IsNat w5 (.slice b3 m3 d3) (2 * (T % b) + t) ∧ IsNat w5 vb b ∧ Below w0.heap.size w0 w5) := ⟨V4.out.1.later hb5, V4.out.2.1.later hb5, V4.out.2.2.1.later hb5, V4.out.2.2.2.trans (hb5.mono V4.out.2.2.2.size)⟩
      clear hb5 V4
      by_cases hc : b ≤ 2 * (T % b) + t
      · have hci : 0 ≤ cmpI (2 * (T % b) + t) b := by unfold cmpI; (repeat' split) <;> omega
        have HC : Hid (b ≤ 2 * (T % b) + t) := hc
        clear hc
        generalize cmpI (2 * (T % b) + t) b = CC at *
        go_wp2_with fail
        refine (HMI.out _ _ _ HC.out V5.out.2.1 V5.out.2.2.1 (by have := (HN3.out (HN2.out HR.out.2) HTT.out.1).1; omega)).mono ?_
        rintro e w6 ⟨b6, m6, d6, rfl, hv6, hb6⟩
        have V6 : Hid (IsNat w6 (.slice b6 m6 d6) (2 * (T % b) + t - b) ∧ IsNat w6 (.slice b4 m4 d4) (2 * (T / b)) ∧ Below w0.heap.size w0 w6) := ⟨hv6, V5.out.1.later hb6, V5.out.2.2.2.trans (hb6.mono V5.out.2.2.2.size)⟩
        clear hv6 hb6 V5
        go_wp2_with fail
        refine (HNT.out 1 _ (by decide)).mono ?_
        rintro e w7 ⟨b7, m7, d7, rfl, hv7, hb7⟩
        have V7 : Hid (IsNat w7 (.slice b7 m7 d7) 1 ∧ IsNat w7 (.slice b6 m6 d6) (2 * (T % b) + t - b) ∧ IsNat w7 (.slice b4 m4 d4) (2 * (T / b)) ∧ Below w0.heap.size w0 w7) := ⟨hv7, V6.out.1.later hb7, V6.out.2.1.later hb7, V6.out.2.2.trans (hb7.mono V6.out.2.2.size)⟩
        clear hv7 hb7 V6
        go_wp2_with fail
        refine (HPL.out _ _ _ _ _ V7.out.2.2.1 V7.out.1 (by have := HN2.out HQ.out.2; omega) (by have h1 : nd 1 = 1 := (by decide); omega)).mono ?_
        rintro e w8 ⟨b8, m8, d8, rfl, hv8, hb8⟩
        have V8 : Hid (IsNat w8 (.slice b8 m8 d8) (2 * (T / b) + 1) ∧ IsNat w8 (.slice b6 m6 d6) (2 * (T % b) + t - b) ∧ Below w0.heap.size w0 w8) := ⟨hv8, V7.out.2.1.later hb8, V7.out.2.2.2.trans (hb8.mono V7.out.2.2.2.size)⟩
        clear hv8 hb8 V7
        go_wp2_with fail
        go_roundw
        case rel =>
          go_light
          have e3 := HST.out.1 HC.out
          exact ⟨i, b8, m8, d8, b6, m6, d6, by have := HK.out; omega, rfl, rfl, by go_num, by rw [e3.1]; exact V8.out.1, by rw [e3.2]; exact V8.out.2.1, V8.out.2.2⟩
        case measure => simp [intOf]
      · have hci : cmpI (2 * (T % b) + t) b < 0 := by rw [cmpI_lt (show 2 * (T % b) + t < b by omega)]; decide
        have HC : Hid (2 * (T % b) + t < b) := (by omega : 2 * (T % b) + t < b)
        clear hc
        generalize cmpI (2 * (T % b) + t) b = CC at *
        go_wp2_with fail
        go_roundw
        case rel =>
          go_light
          have e3 := HST.out.2 HC.out
          exact ⟨i, b4, m4, d4, b3, m3, d3, by have := HK.out; omega, rfl, rfl, by go_num, by rw [e3.1]; exact V5.out.1, by rw [e3.2]; exact V5.out.2.1, V5.out.2.2.2⟩
        case measure => simp [intOf]

/-- A quotient's amount, with one more digit behind it. -/
def mkQ (q : Nat) (whole : Bool) : Nat := if whole then 2 * q else 2 * q + 1
set_option maxRecDepth 10000 in
set_option maxHeartbeats 4000000 in
theorem marked_ref (neg whole : Bool) (q : Nat) (e : Int) (a1 : Option Addr) (l1 c1 : Nat) (w : World) (h : IsNat w (.slice a1 l1 c1) q) (hn : nd q ≤ 1000) (he : -10000 ≤ e ∧ e ≤ 10000) :
    Calls Tryz.prog 73 #[.bool neg, .slice a1 l1 c1, .int .i64 e, .bool whole] w fun e' w' =>
      ∃ a len cap, e' = .returned (.agg #[.bool neg, .slice a len cap, .int .i64 (e - 1)]) ∧ IsNat w' (.slice a len cap) (mkQ q whole) ∧ Below w.heap.size w w' := by
  have E3 : Hid (Empty3 (w.alloc (.cells #[.bool false, .slice none 0 0, .int .i64 0] 63)) w.heap.size) := ⟨by simp, by go_simp, by go_simp, by go_simp, by go_simp, by go_simp, by go_simp⟩
  have B0 : Hid (Below w.heap.size w (w.alloc (.cells #[.bool false, .slice none 0 0, .int .i64 0] 63))) := (Below.refl _ _).alloc (Nat.le_refl _) _
  have HUP : Hid (∀ w1, Below w.heap.size w w1 → Calls Tryz.prog 71 #[.slice a1 l1 c1, .int .i64 1] w1 fun e w' => ∃ a l c, e = .returned (.slice a l c) ∧ IsNat w' (.slice a l c) (2 * q) ∧ Below w1.heap.size w1 w') := fun w1 hb1 => (up_any q 1 _ w1 (h.later hb1) (by omega) (by decide)).mono fun e w' ⟨v', he, hv, hb⟩ => by
    obtain ⟨a, len, cap, g, rfl, -, -, -⟩ := hv.slice
    exact ⟨a, len, cap, he, by rw [Nat.mul_comm]; exact hv, hb⟩
  have HNT : Hid (∀ (w1 : World), Calls Tryz.prog 68 #[.int .i64 1] w1 fun e w' => ∃ a l c, e = .returned (.slice a l c) ∧ IsNat w' (.slice a l c) 1 ∧ Below w1.heap.size w1 w') := fun w1 => (nat_any 1 (by omega) w1).mono fun e w' ⟨v', he, hv, hb⟩ => by
    obtain ⟨a, len, cap, g, rfl, -, -, -⟩ := hv.slice
    exact ⟨a, len, cap, he, hv, hb⟩
  have n2 : nd (2 * q) ≤ 1001 := Nat.le_trans (nd_mul_le 2 q) (by have h2 : nd 2 = 1 := (by decide); omega)
  have HPL : Hid (∀ (v u : Value) (w1 : World), IsNat w1 v (2 * q) → IsNat w1 u 1 → Calls Tryz.prog 75 #[v, u] w1 fun e w' => ∃ a l c, e = .returned (.slice a l c) ∧ IsNat w' (.slice a l c) (2 * q + 1) ∧ Below w1.heap.size w1 w') := fun v u w1 h1 h2 => (plus_any (2 * q) 1 v u w1 h1 h2 (by omega) (by have h1 : nd 1 = 1 := (by decide); omega)).mono fun e w' ⟨v', he, hv, hb⟩ => by
    obtain ⟨a, len, cap, g, rfl, -, -, -⟩ := hv.slice
    exact ⟨a, len, cap, he, hv, hb⟩
  obtain ⟨e1, e2⟩ := he
  clear h hn n2
  cases whole
  · have HQ : Hid (mkQ q false = 2 * q + 1) := rfl
    go_enter Tryz.func73, Tryz.ntmps73
    go_wp2_with fail
    refine (HUP.out _ B0.out).mono ?_
    rintro e' w1 ⟨b1, m1, d1, rfl, hv1, hb1⟩
    have V1 : Hid (IsNat w1 (.slice b1 m1 d1) (2 * q) ∧ Below w.heap.size w w1 ∧ Empty3 w1 w.heap.size) := ⟨hv1, B0.out.trans (hb1.mono B0.out.size), E3.out.later hb1⟩
    clear hv1 hb1
    go_wp2_with fail
    refine (HNT.out _).mono ?_
    rintro e' w2 ⟨b2, m2, d2, rfl, hv2, hb2⟩
    have V2 : Hid (IsNat w2 (.slice b1 m1 d1) (2 * q) ∧ IsNat w2 (.slice b2 m2 d2) 1 ∧ Below w.heap.size w w2 ∧ Empty3 w2 w.heap.size) := ⟨V1.out.1.later hb2, hv2, V1.out.2.1.trans (hb2.mono V1.out.2.1.size), V1.out.2.2.later hb2⟩
    clear hv2 hb2 V1
    go_wp2_with fail
    refine (HPL.out _ _ _ V2.out.1 V2.out.2.1).mono ?_
    rintro e' w3 ⟨b3, m3, d3, rfl, hv3, hb3⟩
    have V3 : Hid (IsNat w3 (.slice b3 m3 d3) (2 * q + 1) ∧ Below w.heap.size w w3) := ⟨hv3, V2.out.2.2.1.trans (hb3.mono V2.out.2.2.1.size)⟩
    obtain ⟨k0, k1, k2, k3, k4, k5, k6⟩ := V2.out.2.2.2.later hb3
    clear hv3 hb3 V2
    go_wp2_with fail
    refine bodyPost_ret (v := .agg #[.bool neg, .slice b3 m3 d3, .int .i64 (e - 1)]) (by simp [results, Tryz.results73, go_sem, k1, k2, k3]) rfl ⟨_, _, _, rfl, by rw [HQ.out]; exact set_num V3.out.1 k1, ?_⟩
    exact ((V3.out.2.setCell (by simp) _).setCell (by simp) _).setCell (by simp) _
  · have HQ : Hid (mkQ q true = 2 * q) := rfl
    go_enter Tryz.func73, Tryz.ntmps73
    go_wp2_with fail
    refine (HUP.out _ B0.out).mono ?_
    rintro e' w1 ⟨b1, m1, d1, rfl, hv1, hb1⟩
    have V1 : Hid (IsNat w1 (.slice b1 m1 d1) (2 * q) ∧ Below w.heap.size w w1) := ⟨hv1, B0.out.trans (hb1.mono B0.out.size)⟩
    obtain ⟨k0, k1, k2, k3, k4, k5, k6⟩ := E3.out.later hb1
    clear hv1 hb1
    go_wp2_with fail
    refine bodyPost_ret (v := .agg #[.bool neg, .slice b1 m1 d1, .int .i64 (e - 1)]) (by simp [results, Tryz.results73, go_sem, k1, k2, k3]) rfl ⟨_, _, _, rfl, by rw [HQ.out]; exact set_num V1.out.1 k1, ?_⟩
    exact ((V1.out.2.setCell (by simp) _).setCell (by simp) _).setCell (by simp) _

/-- The document's quotient: its amount. -/
def quD (D1 D2 : Nat) : Nat := mkQ (D1 * 2 ^ 120 / D2) (decide (D1 * 2 ^ 120 % D2 = 0))
set_option maxRecDepth 10000 in
set_option maxHeartbeats 4000000 in
theorem quotient_ref (n1 n2 : Bool) (a1 a2 : Option Addr) (l1 c1 l2 c2 D1 D2 : Nat) (p1 p2 : Int) (w : World) (h1 : IsNat w (.slice a1 l1 c1) D1) (h2 : IsNat w (.slice a2 l2 c2) D2) (h0 : D2 ≠ 0) (s1 : nd D1 ≤ 500) (s2 : nd D2 ≤ 1000) (hp1 : -4000 ≤ p1 ∧ p1 ≤ 4000) (hp2 : -4000 ≤ p2 ∧ p2 ≤ 4000) :
    Calls Tryz.prog 45 #[.agg #[.bool n1, .slice a1 l1 c1, .int .i64 p1], .agg #[.bool n2, .slice a2 l2 c2, .int .i64 p2]] w fun e w' =>
      ∃ a len cap, e = .returned (.agg #[.bool (n1 != n2), .slice a len cap, .int .i64 (p1 - 120 - p2 - 1)]) ∧ IsNat w' (.slice a len cap) (quD D1 D2) ∧ Below w.heap.size w w' := by
  have N1 : Hid (NumAt (((w.alloc (.cells #[.bool n1, .slice a1 l1 c1, .int .i64 p1] 63)).alloc (.cells #[.bool n2, .slice a2 l2 c2, .int .i64 p2] 63)).alloc (.cells #[.bool false, .slice none 0 0, .int .i64 0] 63)) w.heap.size n1 (.slice a1 l1 c1) D1 p1) := ⟨by simp; omega, by go_simp, by go_simp, by go_simp, h1.later ((((Below.refl _ _).alloc (Nat.le_refl _) _).alloc (by simp) _).alloc (by simp; omega) _)⟩
  have N2 : Hid (NumAt (((w.alloc (.cells #[.bool n1, .slice a1 l1 c1, .int .i64 p1] 63)).alloc (.cells #[.bool n2, .slice a2 l2 c2, .int .i64 p2] 63)).alloc (.cells #[.bool false, .slice none 0 0, .int .i64 0] 63)) (w.heap.size + 1) n2 (.slice a2 l2 c2) D2 p2) := ⟨by simp, by go_simp, by go_simp, by go_simp, h2.later ((((Below.refl _ _).alloc (Nat.le_refl _) _).alloc (by simp) _).alloc (by simp; omega) _)⟩
  have E3 : Hid (Empty3 (((w.alloc (.cells #[.bool n1, .slice a1 l1 c1, .int .i64 p1] 63)).alloc (.cells #[.bool n2, .slice a2 l2 c2, .int .i64 p2] 63)).alloc (.cells #[.bool false, .slice none 0 0, .int .i64 0] 63)) (w.heap.size + 2)) := ⟨by simp, by go_simp, by go_simp, by go_simp, by go_simp, by go_simp, by go_simp⟩
  have B0 : Hid (Below w.heap.size w (((w.alloc (.cells #[.bool n1, .slice a1 l1 c1, .int .i64 p1] 63)).alloc (.cells #[.bool n2, .slice a2 l2 c2, .int .i64 p2] 63)).alloc (.cells #[.bool false, .slice none 0 0, .int .i64 0] 63))) := (((Below.refl _ _).alloc (Nat.le_refl _) _).alloc (by simp) _).alloc (by simp; omega) _
  have HUP : Hid (∀ w1, IsNat w1 (.slice a1 l1 c1) D1 → Calls Tryz.prog 71 #[.slice a1 l1 c1, .int .i64 120] w1 fun e w' => ∃ a l c, e = .returned (.slice a l c) ∧ IsNat w' (.slice a l c) (D1 * 2 ^ 120) ∧ Below w1.heap.size w1 w') := fun w1 h => (up_any D1 120 _ w1 h (by omega) (by decide)).mono fun e w' ⟨v', he, hv, hb⟩ => by
    obtain ⟨a, len, cap, g, rfl, -, -, -⟩ := hv.slice
    exact ⟨a, len, cap, he, hv, hb⟩
  have nA : nd (D1 * 2 ^ 120) ≤ 600 := Nat.le_trans (nd_mul_le _ _) (by have h6 : nd (2 ^ 120) ≤ 6 := nd_of_lt (by decide); omega)
  have HOV : Hid (∀ v w1, IsNat w1 v (D1 * 2 ^ 120) → IsNat w1 (.slice a2 l2 c2) D2 → Calls Tryz.prog 72 #[v, .slice a2 l2 c2] w1 fun e w' => ∃ a l c, e = .returned (.tuple #[.slice a l c, .bool (decide (D1 * 2 ^ 120 % D2 = 0))]) ∧ IsNat w' (.slice a l c) (D1 * 2 ^ 120 / D2) ∧ Below w1.heap.size w1 w') := fun v w1 k1 k2 => (over_any _ D2 v _ w1 k1 k2 h0 (by omega) s2).mono fun e w' ⟨v', he, hv, hb⟩ => by
    obtain ⟨a, len, cap, g, rfl, -, -, -⟩ := hv.slice
    exact ⟨a, len, cap, he, hv, hb⟩
  have HMK : Hid (∀ a l c w1, IsNat w1 (.slice a l c) (D1 * 2 ^ 120 / D2) → Calls Tryz.prog 73 #[.bool (n1 != n2), .slice a l c, .int .i64 (p1 - 120 - p2), .bool (decide (D1 * 2 ^ 120 % D2 = 0))] w1 fun e' w' => ∃ a len cap, e' = .returned (.agg #[.bool (n1 != n2), .slice a len cap, .int .i64 (p1 - 120 - p2 - 1)]) ∧ IsNat w' (.slice a len cap) (quD D1 D2) ∧ Below w1.heap.size w1 w') := fun a l c w1 k1 => marked_ref _ _ _ _ a l c w1 k1 (Nat.le_trans (nd_mono (Nat.div_le_self _ _)) (by omega)) (by omega)
  obtain ⟨p3, p4⟩ := hp1
  obtain ⟨p5, p6⟩ := hp2
  clear h1 h2 s1 s2 nA h0
  generalize quD D1 D2 = QD at *
  generalize D1 * 2 ^ 120 / D2 = QQ at *
  generalize decide (D1 * 2 ^ 120 % D2 = 0) = wh at *
  generalize D1 * 2 ^ 120 = DD at *
  go_enter Tryz.func45, Tryz.ntmps45
  go_wp2_with fail
  generalize ((w.alloc (.cells #[.bool n1, .slice a1 l1 c1, .int .i64 p1] 63)).alloc (.cells #[.bool n2, .slice a2 l2 c2, .int .i64 p2] 63)).alloc (.cells #[.bool false, .slice none 0 0, .int .i64 0] 63) = w0 at *
  refine (HUP.out _ N1.out.nat).mono ?_
  rintro e w1 ⟨b1, m1, d1, rfl, hv1, hb1⟩
  have V1 : Hid (IsNat w1 (.slice b1 m1 d1) DD ∧ NumAt w1 w.heap.size n1 (.slice a1 l1 c1) D1 p1 ∧ NumAt w1 (w.heap.size + 1) n2 (.slice a2 l2 c2) D2 p2 ∧ Empty3 w1 (w.heap.size + 2) ∧ Below w.heap.size w w1) := ⟨hv1, N1.out.later hb1, N2.out.later hb1, E3.out.later hb1, B0.out.trans (hb1.mono B0.out.size)⟩
  clear hv1 hb1
  have t1 := V1.out.2.2.1.c1
  have t2 := V1.out.2.2.1.lt
  go_wp2_with fail
  refine (HOV.out _ _ V1.out.1 V1.out.2.2.1.nat).mono ?_
  rintro e w2 ⟨b2, m2, d2, rfl, hv2, hb2⟩
  have V2 : Hid (IsNat w2 (.slice b2 m2 d2) QQ ∧ NumAt w2 w.heap.size n1 (.slice a1 l1 c1) D1 p1 ∧ NumAt w2 (w.heap.size + 1) n2 (.slice a2 l2 c2) D2 p2 ∧ Empty3 w2 (w.heap.size + 2) ∧ Below w.heap.size w w2) := ⟨hv2, V1.out.2.1.later hb2, V1.out.2.2.1.later hb2, V1.out.2.2.2.1.later hb2, V1.out.2.2.2.2.trans (hb2.mono V1.out.2.2.2.2.size)⟩
  clear hv2 hb2 V1 t1 t2
  have t0 := V2.out.2.1.c0
  have t2 := V2.out.2.1.c2
  have u0 := V2.out.2.2.1.c0
  have u2 := V2.out.2.2.1.c2
  have tl := V2.out.2.1.lt
  have ul := V2.out.2.2.1.lt
  go_wp2_with fail
  refine (HMK.out _ _ _ _ V2.out.1).mono ?_
  rintro e w3 ⟨b3, m3, d3, rfl, hv3, hb3⟩
  have V3 : Hid (IsNat w3 (.slice b3 m3 d3) QD ∧ Below w.heap.size w w3) := ⟨hv3, V2.out.2.2.2.2.trans (hb3.mono V2.out.2.2.2.2.size)⟩
  obtain ⟨k0, k1, k2, k3, k4, k5, k6⟩ := V2.out.2.2.2.1.later hb3
  clear hv3 hb3 V2 t0 t2 u0 u2 tl ul
  go_wp2_with fail
  refine bodyPost_ret (v := .agg #[.bool (n1 != n2), .slice b3 m3 d3, .int .i64 (p1 - 120 - p2 - 1)]) (by simp [results, Tryz.results45, go_sem, k1, k2, k3]) rfl ⟨_, _, _, rfl, set_num V3.out.1 k1, ?_⟩
  exact ((V3.out.2.setCell (by simp; omega) _).setCell (by simp; omega) _).setCell (by simp; omega) _
end Go.Proofs.YtcjihaafohnbeaaGreatDoor
