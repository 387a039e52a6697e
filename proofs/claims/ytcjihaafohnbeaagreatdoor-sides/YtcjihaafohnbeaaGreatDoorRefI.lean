import Derived.Test.YtcjihaafohnbeaaGreatDoorRefH
import Derived.Test.YtcjihaafohnbeaaGreatDoorRound0
import Derived.Deep.RegionHeld3
import Derived.Test.YtcjihaafohnbeaaGreatDoorSoft0
namespace Go.Proofs.YtcjihaafohnbeaaGreatDoor
open Go.RowKit

def moreB (m : Int) (neg half none odd whole : Bool) : Bool :=
  if m = 0 then half && (!none || odd) else if m = 1 then half else if m = 3 then !neg && !whole else if m = 4 then neg && !whole else false
def sOf (neg : Bool) : Int := if neg then 1 else 0
/-- One digit more: as the rest and the mode have it. -/
theorem more_incr {m : Int} (hm : 0 ≤ m ∧ m ≤ 4) (neg : Bool) (D k : Nat) (hk : 0 < k) :
    (if moreB m neg (decide (D / 2 ^ (k - 1) % 2 = 1)) (decide (D % 2 ^ (k - 1) = 0)) (decide (D / 2 ^ k % 2 = 1)) (decide (D % 2 ^ k = 0)) then 1 else 0) = incr (grow m (sOf neg) (restN D k)) (D / 2 ^ k) := by
  obtain ⟨j, rfl⟩ : ∃ j, k = j + 1 := ⟨k - 1, by omega⟩
  rw [show j + 1 - 1 = j by omega]
  have hp := Nat.two_pow_pos j
  have e1 : D % 2 ^ (j + 1) = D % 2 ^ j + 2 ^ j * (D / 2 ^ j % 2) := by rw [Nat.pow_succ, Nat.mod_mul]
  have h2 := Nat.mod_lt D hp
  have hc : (restN D (j + 1) = 0 ∧ D / 2 ^ j % 2 = 0 ∧ D % 2 ^ j = 0 ∧ D % 2 ^ (j + 1) = 0) ∨ (restN D (j + 1) = 1 ∧ D / 2 ^ j % 2 = 0 ∧ D % 2 ^ j ≠ 0 ∧ D % 2 ^ (j + 1) ≠ 0) ∨ (restN D (j + 1) = 2 ∧ D / 2 ^ j % 2 = 1 ∧ D % 2 ^ j = 0 ∧ D % 2 ^ (j + 1) ≠ 0) ∨ (restN D (j + 1) = 3 ∧ D / 2 ^ j % 2 = 1 ∧ D % 2 ^ j ≠ 0 ∧ D % 2 ^ (j + 1) ≠ 0) := by
    unfold restN
    rw [e1, Nat.pow_succ]
    have h3 : D / 2 ^ j % 2 = 0 ∨ D / 2 ^ j % 2 = 1 := by omega
    rcases h3 with h3 | h3
    · rw [h3, Nat.mul_zero, Nat.add_zero]
      by_cases h4 : D % 2 ^ j = 0
      · exact .inl ⟨by rw [if_pos h4], rfl, h4, h4⟩
      · exact .inr (.inl ⟨by rw [if_neg h4, if_pos (by omega)], rfl, h4, h4⟩)
    · rw [h3, Nat.mul_one]
      by_cases h4 : D % 2 ^ j = 0
      · exact .inr (.inr (.inl ⟨by rw [if_neg (by omega), if_neg (by omega), if_pos (by omega)], rfl, h4, by omega⟩))
      · exact .inr (.inr (.inr ⟨by rw [if_neg (by omega), if_neg (by omega), if_neg (by omega)], rfl, h4, by omega⟩))
  have hq : D / 2 ^ (j + 1) % 2 = 0 ∨ D / 2 ^ (j + 1) % 2 = 1 := by omega
  have hm5 : m = 0 ∨ m = 1 ∨ m = 2 ∨ m = 3 ∨ m = 4 := by omega
  clear e1 h2
  generalize D / 2 ^ (j + 1) = q at *
  unfold moreB incr grow sOf
  rcases hc with ⟨a, b, c, d⟩ | ⟨a, b, c, d⟩ | ⟨a, b, c, d⟩ | ⟨a, b, c, d⟩ <;> rcases hq with h | h <;> rcases hm5 with rfl | rfl | rfl | rfl | rfl <;> cases neg <;> simp [a, b, c, d, h]

/-- A number's first digit is its own, by two. -/
theorem low_bit {l : List Nat} {n : Nat} (hd : Digits l) (hv : val l = n) : dig l 0 % 2 = n % 2 := by
  have := val_dig hd 0
  rw [hv] at this
  rw [this]
  simp
theorem IsNat.slice {w : World} {v : Value} {n : Nat} (h : IsNat w v n) : ∃ (a : Option Addr) (len cap g : Nat), v = .slice a len cap ∧ len = nd n ∧ (0 < len → a = some ⟨g, 0, none⟩) ∧ (0 < len → ∃ d : Nat, d < 16777216 ∧ d % 2 = n % 2 ∧ w.cell? ⟨g, 0, none⟩ = some (.int .i64 (d : Nat))) := by
  obtain ⟨l, hr, hv, hl⟩ := h
  obtain ⟨a, cap, g, h1, _, _, h2, _, h3⟩ := hr.open
  exact ⟨a, l.length, cap, g, h1, hl, h2, fun hp => ⟨dig l 0, dig_lt hr.1 0, low_bit hr.1 hv, h3 0 hp⟩⟩

theorem half_bool (d : Nat) : ((d : Int) % 2 == 1) = decide (d % 2 = 1) := by
  by_cases h : d % 2 = 1
  · rw [decide_eq_true h, beq_iff_eq]; omega
  · rw [decide_eq_false h, beq_eq_false_iff_ne]; omega
theorem nd_none {n : Nat} (h : 0 = nd n) : n = 0 := by
  apply Classical.byContradiction
  intro hn
  have := nd_pos hn
  omega
theorem moreB_mode {m : Int} {neg half none odd whole : Bool} :
    (m = 0 → moreB m neg half none odd whole = (half && (!none || odd))) ∧ (m = 1 → moreB m neg half none odd whole = half) ∧ (m = 2 → moreB m neg half none odd whole = false) ∧ (m = 3 → moreB m neg half none odd whole = (!neg && !whole)) ∧ (m = 4 → moreB m neg half none odd whole = (neg && !whole)) := by
  refine ⟨?_, ?_, ?_, ?_, ?_⟩ <;> (rintro rfl; rfl)

set_option maxRecDepth 10000 in
set_option maxHeartbeats 4000000 in
theorem rcut_any (D : Nat) (k : Int) (neg : Bool) (m : Int) (va : Value) (w : World) (ha : IsNat w va D) (sa : nd D ≤ 5000) (hk : -50000 ≤ k ∧ k ≤ 50000) (hm : 0 ≤ m ∧ m ≤ 4) :
    Calls Tryz.prog 101 #[va, .int .i64 k, .bool neg, .int .i64 m] w fun e w' => ∃ v, e = .returned (.tuple #[v, .bool (cutCh D k)]) ∧ IsNat w' v (cutQ (sOf neg) m D k) ∧ Below w.heap.size w w' := by
  have HA : Hid (IsNat w va D) := ha
  have hk1 := hk.1
  have hk2 := hk.2
  clear ha hk
  by_cases h0 : k ≤ 0
  · have HE : Hid (cutCh D k = false ∧ cutQ (sOf neg) m D k = D * 2 ^ (-k).toNat) := ⟨by unfold cutCh; rw [if_pos h0], by unfold cutQ; rw [if_pos h0]⟩
    obtain ⟨j, rfl⟩ : ∃ j : Nat, k = -(j : Int) := ⟨(-k).toNat, by omega⟩
    have hjt : (- -(j : Int)).toNat = j := by omega
    rw [hjt] at HE
    have hjb : j ≤ 50000 := by omega
    have hw1 := wrap64_small (j : Int) (by omega) (by omega)
    clear hjt hk1 hk2
    go_enter Tryz.func101, Tryz.ntmps101
    go_wp2_with fail
    refine (up_any D j va _ HA.out (by omega) (by omega)).mono ?_
    rintro e w1 ⟨v, rfl, hv, hb⟩
    have HV : Hid (IsNat w1 v (D * 2 ^ j) ∧ Below w.heap.size w w1) := ⟨hv, hb⟩
    clear hv hb
    go_wp2_with fail
    refine bodyPost_ret (v := .tuple #[v, .bool false]) (by simp [results, Tryz.results101, go_sem]) rfl ⟨_, by rw [HE.out.1], ?_, HV.out.2⟩
    rw [HE.out.2]
    exact HV.out.1
  · obtain ⟨j, rfl⟩ : ∃ j : Nat, k = (j : Int) := ⟨k.toNat, by omega⟩
    have hj0 : 0 < j := by omega
    obtain ⟨i, hi⟩ : ∃ i : Nat, j - 1 = i := ⟨_, rfl⟩
    have hji : (j : Int) - 1 = (i : Int) := by omega
    have HE : Hid (cutCh D j = !decide (D % 2 ^ j = 0) ∧ cutQ (sOf neg) m D j = D / 2 ^ j + (if moreB m neg (decide (D / 2 ^ i % 2 = 1)) (decide (D % 2 ^ i = 0)) (decide (D / 2 ^ j % 2 = 1)) (decide (D % 2 ^ j = 0)) then 1 else 0)) := by
      refine ⟨?_, ?_⟩
      · unfold cutCh
        rw [if_neg h0, Int.toNat_natCast]
        have : restN D j ≠ 0 ↔ D % 2 ^ j ≠ 0 := by
          unfold restN
          by_cases h : D % 2 ^ j = 0
          · rw [if_pos h]; simp [h]
          · rw [if_neg h]; (repeat' split) <;> simp [h]
        by_cases h : D % 2 ^ j = 0
        · rw [decide_eq_false (by rw [this]; simp [h]), decide_eq_true h]; rfl
        · rw [decide_eq_true (this.2 h), decide_eq_false h]; rfl
      · unfold cutQ
        rw [if_neg h0, Int.toNat_natCast, ← more_incr hm neg D j hj0, hi]
    have hqs : nd (D / 2 ^ j) ≤ 5000 := Nat.le_trans (nd_mono (Nat.div_le_self _ _)) sa
    have HNQ : Hid (nd (D / 2 ^ j) ≤ 5000) := hqs
    clear hqs
    go_enter Tryz.func101, Tryz.ntmps101
    go_wp2_with fail
    refine (down_any D j va _ HA.out (by omega) (by omega)).mono ?_
    rintro e w1 ⟨vq, rfl, hq, hb1⟩
    have HQ : Hid (IsNat w1 vq (D / 2 ^ j) ∧ Below w.heap.size w w1) := ⟨hq, hb1⟩
    clear hq hb1
    generalize hW : decide (D % 2 ^ j = 0) = W at *
    go_wp2_with fail
    refine (down_any D i va _ (HA.out.later HQ.out.2) (by omega) (by omega)).mono ?_
    rintro e w2 ⟨vh, rfl, hh, hb2⟩
    have HH : Hid (IsNat w2 vh (D / 2 ^ i) ∧ IsNat w2 vq (D / 2 ^ j) ∧ Below w.heap.size w w2) := ⟨hh, HQ.out.1.later hb2, HQ.out.2.trans (hb2.mono HQ.out.2.size)⟩
    clear hh hb2 HQ
    generalize hN : decide (D % 2 ^ i = 0) = N at *
    generalize hHf : decide (D / 2 ^ i % 2 = 1) = H at *
    generalize hO : decide (D / 2 ^ j % 2 = 1) = O at *
    have HHf : Hid (decide (D / 2 ^ i % 2 = 1) = H) := hHf
    have HO : Hid (decide (D / 2 ^ j % 2 = 1) = O) := hO
    have HW : Hid (decide (D % 2 ^ j = 0) = W) := hW
    clear hW hN hHf hO hji
    obtain ⟨ah, lh, ch, gh, rfl, elh, hah, hch⟩ := HH.out.1.slice
    obtain ⟨aq, lq, cq, gq, rfl, elq, haq, hcq⟩ := HH.out.2.1.slice
    have HPH : Hid (lh = nd (D / 2 ^ i) ∧ (0 < lh → ah = some ⟨gh, 0, none⟩) ∧ (0 < lh → ∃ d : Nat, d < 16777216 ∧ d % 2 = D / 2 ^ i % 2 ∧ w2.cell? ⟨gh, 0, none⟩ = some (.int .i64 (d : Nat)))) := ⟨elh, hah, hch⟩
    have HPQ : Hid (lq = nd (D / 2 ^ j) ∧ (0 < lq → aq = some ⟨gq, 0, none⟩) ∧ (0 < lq → ∃ d : Nat, d < 16777216 ∧ d % 2 = D / 2 ^ j % 2 ∧ w2.cell? ⟨gq, 0, none⟩ = some (.int .i64 (d : Nat)))) := ⟨elq, haq, hcq⟩
    clear elh hah hch elq haq hcq
    go_upto_region 5 with fail
    go_cut [14] from 17 to 91 (fun s wx => s = .bool H ∧ wx = w2)
    case first =>
      by_cases hl : 0 < lh
      · obtain ⟨d, hd, hd2, hc⟩ := HPH.out.2.2 hl
        obtain rfl := HPH.out.2.1 hl
        have HB : Hid (((d : Int) % 2 == 1) = H) := (by rw [← HHf.out, ← hd2]; exact half_bool d : ((d : Int) % 2 == 1) = H)
        have hl' : (0 : Int) < (lh : Int) := by omega
        clear hd2
        go_wp2_with fail
        go_meet
        exact ⟨by rw [HB.out], rfl⟩
      · obtain rfl : lh = 0 := by omega
        have HB : Hid (H = false) := by
          rw [← HHf.out, nd_none HPH.out.1]
          rfl
        go_wp2_with fail
        go_meet
        exact ⟨by rw [HB.out], rfl⟩
    case rest =>
      obtain ⟨rfl, rfl⟩ := hcut
      go_upto_region 6 with fail
      go_cut [15] from 17 to 91 (fun s wx => s = .bool O ∧ wx = wc)
      case first =>
        by_cases hl : 0 < lq
        · obtain ⟨d, hd, hd2, hc⟩ := HPQ.out.2.2 hl
          obtain rfl := HPQ.out.2.1 hl
          have HB : Hid (((d : Int) % 2 == 1) = O) := (by rw [← HO.out, ← hd2]; exact half_bool d : ((d : Int) % 2 == 1) = O)
          have hl' : (0 : Int) < (lq : Int) := by omega
          clear hd2
          go_wp2_with fail
          go_meet
          exact ⟨by rw [HB.out], rfl⟩
        · obtain rfl : lq = 0 := by omega
          have HB : Hid (O = false) := by
            rw [← HO.out, nd_none HPQ.out.1]
            rfl
          go_wp2_with fail
          go_meet
          exact ⟨by rw [HB.out], rfl⟩
      case rest =>
        obtain ⟨rfl, rfl⟩ := hcut
        have hmm := moreB_mode (m := m) (neg := neg) (half := H) (none := N) (odd := O) (whole := W)
        obtain rfl | rfl | rfl | rfl | rfl : m = 0 ∨ m = 1 ∨ m = 2 ∨ m = 3 ∨ m = 4 := by omega
        · rw [hmm.1 rfl] at HE
          clear hmm hm
          cases H
          · simp only [Bool.false_and, Bool.false_eq_true, if_false, Nat.add_zero] at HE
            go_wp2_with fail
            refine bodyPost_ret (v := .tuple #[.slice aq lq cq, .bool (!W)]) (by simp [results, Tryz.results101, go_sem]) rfl ⟨_, by rw [HE.out.1], ?_, HH.out.2.2⟩
            rw [HE.out.2]
            exact HH.out.2.1
          · cases N
            · simp only [Bool.true_and, Bool.not_false, Bool.true_or, if_true] at HE
              go_wp2_with fail
              refine (nat_any 1 (by decide) _).mono ?_
              rintro e w3 ⟨v1, rfl, hv1, hb3⟩
              have HV1 : Hid (IsNat w3 v1 1 ∧ IsNat w3 (.slice aq lq cq) (D / 2 ^ j) ∧ Below w.heap.size w w3) := ⟨hv1, HH.out.2.1.later hb3, HH.out.2.2.trans (hb3.mono HH.out.2.2.size)⟩
              clear hv1 hb3
              go_wp2_with fail
              refine (plus_any (D / 2 ^ j) 1 _ _ _ HV1.out.2.1 HV1.out.1 (by have := HNQ.out; omega) (by decide)).mono ?_
              rintro e w4 ⟨v2, rfl, hv2, hb4⟩
              have HV2 : Hid (IsNat w4 v2 (D / 2 ^ j + 1) ∧ Below w.heap.size w w4) := ⟨hv2, HV1.out.2.2.trans (hb4.mono HV1.out.2.2.size)⟩
              clear hv2 hb4
              go_wp2_with fail
              refine bodyPost_ret (v := .tuple #[v2, .bool (!W)]) (by simp [results, Tryz.results101, go_sem]) rfl ⟨_, by rw [HE.out.1], ?_, HV2.out.2⟩
              rw [HE.out.2]
              exact HV2.out.1
            · cases O
              · simp only [Bool.true_and, Bool.not_true, Bool.false_or, Bool.false_eq_true, if_false, Nat.add_zero] at HE
                go_wp2_with fail
                refine bodyPost_ret (v := .tuple #[.slice aq lq cq, .bool (!W)]) (by simp [results, Tryz.results101, go_sem]) rfl ⟨_, by rw [HE.out.1], ?_, HH.out.2.2⟩
                rw [HE.out.2]
                exact HH.out.2.1
              · simp only [Bool.true_and, Bool.not_true, Bool.false_or, if_true] at HE
                go_wp2_with fail
                refine (nat_any 1 (by decide) _).mono ?_
                rintro e w3 ⟨v1, rfl, hv1, hb3⟩
                have HV1 : Hid (IsNat w3 v1 1 ∧ IsNat w3 (.slice aq lq cq) (D / 2 ^ j) ∧ Below w.heap.size w w3) := ⟨hv1, HH.out.2.1.later hb3, HH.out.2.2.trans (hb3.mono HH.out.2.2.size)⟩
                clear hv1 hb3
                go_wp2_with fail
                refine (plus_any (D / 2 ^ j) 1 _ _ _ HV1.out.2.1 HV1.out.1 (by have := HNQ.out; omega) (by decide)).mono ?_
                rintro e w4 ⟨v2, rfl, hv2, hb4⟩
                have HV2 : Hid (IsNat w4 v2 (D / 2 ^ j + 1) ∧ Below w.heap.size w w4) := ⟨hv2, HV1.out.2.2.trans (hb4.mono HV1.out.2.2.size)⟩
                clear hv2 hb4
                go_wp2_with fail
                refine bodyPost_ret (v := .tuple #[v2, .bool (!W)]) (by simp [results, Tryz.results101, go_sem]) rfl ⟨_, by rw [HE.out.1], ?_, HV2.out.2⟩
                rw [HE.out.2]
                exact HV2.out.1
        · rw [hmm.2.1 rfl] at HE
          clear hmm hm
          cases H
          · simp only [Bool.false_eq_true, if_false, Nat.add_zero] at HE
            go_wp2_with fail
            refine bodyPost_ret (v := .tuple #[.slice aq lq cq, .bool (!W)]) (by simp [results, Tryz.results101, go_sem]) rfl ⟨_, by rw [HE.out.1], ?_, HH.out.2.2⟩
            rw [HE.out.2]
            exact HH.out.2.1
          · simp only [if_true] at HE
            go_wp2_with fail
            refine (nat_any 1 (by decide) _).mono ?_
            rintro e w3 ⟨v1, rfl, hv1, hb3⟩
            have HV1 : Hid (IsNat w3 v1 1 ∧ IsNat w3 (.slice aq lq cq) (D / 2 ^ j) ∧ Below w.heap.size w w3) := ⟨hv1, HH.out.2.1.later hb3, HH.out.2.2.trans (hb3.mono HH.out.2.2.size)⟩
            clear hv1 hb3
            go_wp2_with fail
            refine (plus_any (D / 2 ^ j) 1 _ _ _ HV1.out.2.1 HV1.out.1 (by have := HNQ.out; omega) (by decide)).mono ?_
            rintro e w4 ⟨v2, rfl, hv2, hb4⟩
            have HV2 : Hid (IsNat w4 v2 (D / 2 ^ j + 1) ∧ Below w.heap.size w w4) := ⟨hv2, HV1.out.2.2.trans (hb4.mono HV1.out.2.2.size)⟩
            clear hv2 hb4
            go_wp2_with fail
            refine bodyPost_ret (v := .tuple #[v2, .bool (!W)]) (by simp [results, Tryz.results101, go_sem]) rfl ⟨_, by rw [HE.out.1], ?_, HV2.out.2⟩
            rw [HE.out.2]
            exact HV2.out.1
        · rw [hmm.2.2.1 rfl] at HE
          clear hmm hm
          simp only [Bool.false_eq_true, if_false, Nat.add_zero] at HE
          go_wp2_with fail
          refine bodyPost_ret (v := .tuple #[.slice aq lq cq, .bool (!W)]) (by simp [results, Tryz.results101, go_sem]) rfl ⟨_, by rw [HE.out.1], ?_, HH.out.2.2⟩
          rw [HE.out.2]
          exact HH.out.2.1
        · rw [hmm.2.2.2.1 rfl] at HE
          clear hmm hm
          cases neg
          · cases W
            · simp only [Bool.not_false, Bool.true_and, if_true] at HE
              go_wp2_with fail
              refine (nat_any 1 (by decide) _).mono ?_
              rintro e w3 ⟨v1, rfl, hv1, hb3⟩
              have HV1 : Hid (IsNat w3 v1 1 ∧ IsNat w3 (.slice aq lq cq) (D / 2 ^ j) ∧ Below w.heap.size w w3) := ⟨hv1, HH.out.2.1.later hb3, HH.out.2.2.trans (hb3.mono HH.out.2.2.size)⟩
              clear hv1 hb3
              go_wp2_with fail
              refine (plus_any (D / 2 ^ j) 1 _ _ _ HV1.out.2.1 HV1.out.1 (by have := HNQ.out; omega) (by decide)).mono ?_
              rintro e w4 ⟨v2, rfl, hv2, hb4⟩
              have HV2 : Hid (IsNat w4 v2 (D / 2 ^ j + 1) ∧ Below w.heap.size w w4) := ⟨hv2, HV1.out.2.2.trans (hb4.mono HV1.out.2.2.size)⟩
              clear hv2 hb4
              go_wp2_with fail
              refine bodyPost_ret (v := .tuple #[v2, .bool true]) (by simp [results, Tryz.results101, go_sem]) rfl ⟨_, by rw [HE.out.1], ?_, HV2.out.2⟩
              rw [HE.out.2]
              exact HV2.out.1
            · simp only [Bool.not_false, Bool.true_and, Bool.not_true, Bool.false_eq_true, if_false, Nat.add_zero] at HE
              go_wp2_with fail
              refine bodyPost_ret (v := .tuple #[.slice aq lq cq, .bool false]) (by simp [results, Tryz.results101, go_sem]) rfl ⟨_, by rw [HE.out.1], ?_, HH.out.2.2⟩
              rw [HE.out.2]
              exact HH.out.2.1
          · simp only [Bool.not_true, Bool.false_and, Bool.false_eq_true, if_false, Nat.add_zero] at HE
            go_wp2_with fail
            refine bodyPost_ret (v := .tuple #[.slice aq lq cq, .bool (!W)]) (by simp [results, Tryz.results101, go_sem]) rfl ⟨_, by rw [HE.out.1], ?_, HH.out.2.2⟩
            rw [HE.out.2]
            exact HH.out.2.1
        · rw [hmm.2.2.2.2 rfl] at HE
          clear hmm hm
          cases neg
          · simp only [Bool.false_and, Bool.false_eq_true, if_false, Nat.add_zero] at HE
            go_wp2_with fail
            refine bodyPost_ret (v := .tuple #[.slice aq lq cq, .bool (!W)]) (by simp [results, Tryz.results101, go_sem]) rfl ⟨_, by rw [HE.out.1], ?_, HH.out.2.2⟩
            rw [HE.out.2]
            exact HH.out.2.1
          · cases W
            · simp only [Bool.not_false, Bool.true_and, if_true] at HE
              go_wp2_with fail
              refine (nat_any 1 (by decide) _).mono ?_
              rintro e w3 ⟨v1, rfl, hv1, hb3⟩
              have HV1 : Hid (IsNat w3 v1 1 ∧ IsNat w3 (.slice aq lq cq) (D / 2 ^ j) ∧ Below w.heap.size w w3) := ⟨hv1, HH.out.2.1.later hb3, HH.out.2.2.trans (hb3.mono HH.out.2.2.size)⟩
              clear hv1 hb3
              go_wp2_with fail
              refine (plus_any (D / 2 ^ j) 1 _ _ _ HV1.out.2.1 HV1.out.1 (by have := HNQ.out; omega) (by decide)).mono ?_
              rintro e w4 ⟨v2, rfl, hv2, hb4⟩
              have HV2 : Hid (IsNat w4 v2 (D / 2 ^ j + 1) ∧ Below w.heap.size w w4) := ⟨hv2, HV1.out.2.2.trans (hb4.mono HV1.out.2.2.size)⟩
              clear hv2 hb4
              go_wp2_with fail
              refine bodyPost_ret (v := .tuple #[v2, .bool true]) (by simp [results, Tryz.results101, go_sem]) rfl ⟨_, by rw [HE.out.1], ?_, HV2.out.2⟩
              rw [HE.out.2]
              exact HV2.out.1
            · simp only [Bool.true_and, Bool.not_true, Bool.false_eq_true, if_false, Nat.add_zero] at HE
              go_wp2_with fail
              refine bodyPost_ret (v := .tuple #[.slice aq lq cq, .bool false]) (by simp [results, Tryz.results101, go_sem]) rfl ⟨_, by rw [HE.out.1], ?_, HH.out.2.2⟩
              rw [HE.out.2]
              exact HH.out.2.1


theorem cutQ_ge (s m : Int) {D : Nat} (hD : D ≠ 0) : 4503599627370496 ≤ cutQ s m D (Go.bitLen D - 53) := by
  have h1 := (Go.bitLen_spec D).2 hD
  have h2 := bitLen_pos hD
  unfold cutQ
  by_cases h : (Go.bitLen D : Int) - 53 ≤ 0
  · rw [if_pos h]
    have h3 : 2 ^ (Go.bitLen D - 1) * 2 ^ (-((Go.bitLen D : Int) - 53)).toNat ≤ D * 2 ^ (-((Go.bitLen D : Int) - 53)).toNat := Nat.mul_le_mul_right _ h1
    rw [← Nat.pow_add, show Go.bitLen D - 1 + (-((Go.bitLen D : Int) - 53)).toNat = 52 by omega] at h3
    omega
  · rw [if_neg h]
    have h3 : 2 ^ 52 ≤ D / 2 ^ ((Go.bitLen D : Int) - 53).toNat := by
      rw [Nat.le_div_iff_mul_le (Nat.two_pow_pos _), ← Nat.pow_add, show 52 + ((Go.bitLen D : Int) - 53).toNat = Go.bitLen D - 1 by omega]
      exact h1
    omega
theorem bl_53 {n : Nat} (h1 : 4503599627370496 ≤ n) (h2 : n < 9007199254740992) : Go.bitLen n = 53 := by
  have a := pow_le_of_lt ((Go.bitLen_spec n).2 (by omega)) (show n < 2 ^ 53 from h2)
  have b := pow_le_of_lt (show 2 ^ 52 ≤ n from h1) (Go.bitLen_spec n).1
  omega
theorem bl_54 : Go.bitLen 9007199254740992 = 54 := by decide

/-- What Round makes of a number, by cases. -/
theorem round_cases (s m : Int) {D : Nat} (p : Int) (hD : D ≠ 0) :
    ∃ (Y : Nat) (T : Int), cutQ s m D (Go.bitLen D - 53) = Y ∧ T = Go.bitLen Y + p + Go.bitLen D - 54 ∧ 4503599627370496 ≤ Y ∧ Y ≤ 9007199254740992 ∧ (Go.bitLen Y = 53 ∨ Go.bitLen Y = 54) ∧ (Go.bitLen Y = 54 → Y = 9007199254740992) ∧
      (1024 ≤ T → roundB s D p m = overB s m ∧ roundF s D p m = 5) ∧
      (T < -1022 → roundB s D p m = s * 9223372036854775808 + cutQ s m D (-1074 - p) ∧ roundF s D p m = (if cutCh D (-1074 - p) then 3 else 0)) ∧
      (¬ 1024 ≤ T → ¬ T < -1022 → roundB s D p m = s * 9223372036854775808 + ((T + 1022) * 4503599627370496 + (if Go.bitLen Y = 54 then 4503599627370496 else (Y : Int))) ∧ roundF s D p m = (if cutCh D (Go.bitLen D - 53) then 1 else 0)) := by
  have hge := cutQ_ge s m hD
  have hle := cutQ_le s m (D := D) (k := (Go.bitLen D : Int) - 53) (Int.le_refl _)
  refine ⟨_, _, rfl, rfl, hge, hle, ?_, ?_, ?_, ?_, ?_⟩
  all_goals by_cases hy : cutQ s m D (Go.bitLen D - 53) = 9007199254740992
  all_goals first
    | rw [hy, bl_54]
    | rw [bl_53 hge (by omega)]
  · exact .inr rfl
  · exact .inl rfl
  · exact fun _ => rfl
  · intro h; omega
  · intro h; exact round_carry_over hy (by omega)
  · intro h; exact round_over hy (by omega)
  · intro h; exact round_carry_tiny hy (by omega)
  · intro h; exact round_tiny hy (by omega)
  · intro h h'
    have := round_carry (p := p) hy (by omega) (by omega)
    refine ⟨by rw [this.1, if_pos rfl]; omega, this.2⟩
  · intro h h'
    have := round_plain (p := p) hy (by omega) (by omega)
    refine ⟨by rw [this.1, if_neg (by omega)]; omega, this.2⟩

set_option maxHeartbeats 400000 in
theorem sign_any (neg : Bool) (w : World) : Calls Tryz.prog 67 #[.bool neg] w fun e w' => e = .returned (.int .u64 (sOf neg * 9223372036854775808)) ∧ w' = w := by
  cases neg
  all_goals
    go_enter Tryz.func67, Tryz.ntmps67
    go_wp2
    go_ret
    exact ⟨rfl, rfl⟩

/-- A number of the document's, as it lies in its block. -/
structure NumAt (w : World) (g : Nat) (neg : Bool) (va : Value) (D : Nat) (p : Int) : Prop where
  lt : g < w.heap.size
  c0 : w.cell? ⟨g, 0, none⟩ = some (.bool neg)
  c1 : w.cell? ⟨g, 1, none⟩ = some va
  c2 : w.cell? ⟨g, 2, none⟩ = some (.int .i64 p)
  nat : IsNat w va D
theorem NumAt.later {w w' : World} {g : Nat} {neg : Bool} {va : Value} {D : Nat} {p : Int} (h : NumAt w g neg va D p) (hb : Below w.heap.size w w') : NumAt w' g neg va D p :=
  ⟨Nat.lt_of_lt_of_le h.lt hb.size, (hb.cell (p := ⟨g, 0, none⟩) h.lt).trans h.c0, (hb.cell (p := ⟨g, 1, none⟩) h.lt).trans h.c1, (hb.cell (p := ⟨g, 2, none⟩) h.lt).trans h.c2, h.nat.later hb⟩


def negOf (x : Nat) : Bool := decide (sgn x = 1)
theorem sOf_neg {x : Nat} (h : x < 18446744073709551616) : sOf (negOf x) = sgn x := by
  have := sgn_lt h
  unfold sOf negOf
  by_cases h1 : sgn x = 1
  · rw [decide_eq_true h1, h1]; rfl
  · rw [decide_eq_false h1]
    have : sgn x = 0 := by omega
    rw [this]; rfl

theorem parts_facts {x : Nat} (hx : x < 18446744073709551616) : ∃ (S : Int) (E F : Nat), (∀ w, Calls Tryz.prog 66 #[.int .u64 (x : Int)] w fun e w' => e = .returned (.tuple #[.int .i64 S, .int .i64 (E : Nat), .int .i64 (F : Nat)]) ∧ w' = w) ∧ (S == 1) = negOf x ∧ E < 2048 ∧ F < 4503599627370496 ∧ (E = 0 → mant x = F ∧ pow x = -1074) ∧ (E ≠ 0 → mant x = F + 4503599627370496 ∧ pow x = (E : Int) - 1075) := by
  refine ⟨(x : Int) / 9223372036854775808, x / 4503599627370496 % 2048, x % 4503599627370496, fun w => ?_, ?_, by omega, by omega, fun h => ?_, fun h => ?_⟩
  · have := parts_any (x : Int) (by omega) (by omega) w
    rw [show ((x / 4503599627370496 % 2048 : Nat) : Int) = (x : Int) / 4503599627370496 % 2048 by omega, show ((x % 4503599627370496 : Nat) : Int) = (x : Int) % 4503599627370496 by omega]
    exact this
  · unfold negOf sgn
    by_cases h1 : x / 9223372036854775808 = 1
    · rw [decide_eq_true h1, beq_iff_eq]; omega
    · rw [decide_eq_false h1, beq_eq_false_iff_ne]; omega
  · exact ⟨by unfold mant; rw [if_pos h], by unfold pow; rw [if_pos h]⟩
  · exact ⟨by unfold mant; rw [if_neg h], by unfold pow; rw [if_neg h]⟩
/-- Stores into a block whose head is a Bool leave a row of ints as it is. -/
theorem IsRow.set {w : World} {v : Value} {l : List Nat} {g : Nat} {b : Bool} (h : IsRow w v l) (hg : w.cell? ⟨g, 0, none⟩ = some (.bool b)) (j : Nat) (u : Value) : IsRow (w.setCell ⟨g, j, none⟩ u) v l := by
  refine ⟨h.1, ?_⟩
  rcases h.2 with h' | ⟨g', cap, rfl, h2, h3, hl, hc⟩
  · exact .inl h'
  · refine .inr ⟨g', cap, rfl, h2, h3, by simpa using hl, fun k hk => ?_⟩
    have hne : g' ≠ g := by
      intro e
      subst e
      have := hc 0 (by omega)
      rw [hg] at this
      cases this
    rw [World.cell?_of_block (w := w) (heap_setCell_other w ⟨g, j, none⟩ g' u hne)]
    exact hc k hk
theorem IsNat.set {w : World} {v : Value} {n g : Nat} {b : Bool} (h : IsNat w v n) (hg : w.cell? ⟨g, 0, none⟩ = some (.bool b)) (j : Nat) (u : Value) : IsNat (w.setCell ⟨g, j, none⟩ u) v n := by
  obtain ⟨l, h1, h2⟩ := h
  exact ⟨l, h1.set hg j u, h2⟩
theorem set_num {w : World} {v : Value} {n g : Nat} {b b' : Bool} {u u' : Value} (h : IsNat w v n) (hg : w.cell? ⟨g, 0, none⟩ = some (.bool b)) : IsNat (((w.setCell ⟨g, 0, none⟩ (.bool b')).setCell ⟨g, 1, none⟩ u).setCell ⟨g, 2, none⟩ u') v n := by
  have e1 : (w.setCell ⟨g, 0, none⟩ (.bool b')).cell? ⟨g, 0, none⟩ = some (.bool b') := World.cell?_setCell_same _ _ _ hg
  have e2 : ((w.setCell ⟨g, 0, none⟩ (.bool b')).setCell ⟨g, 1, none⟩ u).cell? ⟨g, 0, none⟩ = some (.bool b') := by rw [World.cell?_setCell_other _ _ _ _ (by simp)]; exact e1
  exact ((h.set hg 0 _).set e1 1 _).set e2 2 _
set_option maxHeartbeats 1000000 in
theorem exact_ref (x : Nat) (hx : x < 18446744073709551616) (w : World) :
    Calls Tryz.prog 42 #[.int .u64 (x : Nat)] w fun e w' => ∃ v, e = .returned (.agg #[.bool (negOf x), v, .int .i64 (pow x)]) ∧ IsNat w' v (mant x) ∧ Below w.heap.size w w' := by
  obtain ⟨S, E, F, hP, hS, hE, hF, h0, h1⟩ := parts_facts hx
  have HP : Hid (∀ w, Calls Tryz.prog 66 #[.int .u64 (x : Int)] w fun e w' => e = .returned (.tuple #[.int .i64 S, .int .i64 (E : Nat), .int .i64 (F : Nat)]) ∧ w' = w) := hP
  have HS : Hid ((S == 1) = negOf x) := hS
  have H0 : Hid (E = 0 → mant x = F ∧ pow x = -1074) := h0
  have H1 : Hid (E ≠ 0 → mant x = F + 4503599627370496 ∧ pow x = (E : Int) - 1075) := h1
  clear hP hS h0 h1
  by_cases h : E = 0
  · subst h
    go_enter Tryz.func42, Tryz.ntmps42
    go_wp2_with fail
    refine (HP.out _).mono ?_
    rintro e w1 ⟨rfl, rfl⟩
    go_wp2_with fail
    refine (nat_any F (by omega) _).mono ?_
    rintro e w2 ⟨v, rfl, hn, hb⟩
    have d0 : w2.cell? ⟨w.heap.size, 0, none⟩ = some (.bool false) := (hb.cell (p := ⟨w.heap.size, 0, none⟩) (by simp)).trans (by go_simp)
    have d1 : w2.cell? ⟨w.heap.size, 1, none⟩ = some (.slice none 0 0) := (hb.cell (p := ⟨w.heap.size, 1, none⟩) (by simp)).trans (by go_simp)
    have d2 : w2.cell? ⟨w.heap.size, 2, none⟩ = some (.int .i64 0) := (hb.cell (p := ⟨w.heap.size, 2, none⟩) (by simp)).trans (by go_simp)
    have f0 : w2.frozen? ⟨w.heap.size, 0, none⟩ = false := (hb.frozen (p := ⟨w.heap.size, 0, none⟩) (by simp)).trans (by go_simp)
    have f1 : w2.frozen? ⟨w.heap.size, 1, none⟩ = false := (hb.frozen (p := ⟨w.heap.size, 1, none⟩) (by simp)).trans (by go_simp)
    have f2 : w2.frozen? ⟨w.heap.size, 2, none⟩ = false := (hb.frozen (p := ⟨w.heap.size, 2, none⟩) (by simp)).trans (by go_simp)
    have HB : Hid (Below w.heap.size w w2) := ((Below.refl _ _).alloc (Nat.le_refl _) _).trans (hb.mono (by simp))
    obtain ⟨a, len, cap, gv, rfl, -, -, -⟩ := hn.slice
    have HN : Hid (IsNat w2 (.slice a len cap) F) := hn
    have HD0 : Hid (w2.cell? ⟨w.heap.size, 0, none⟩ = some (.bool false)) := d0
    clear hn hb
    go_wp2_with fail
    refine bodyPost_ret (v := .agg #[.bool (S == 1), .slice a len cap, .int .i64 (-1074)]) (by simp [results, Tryz.results42, go_sem, d0, d1, d2]) rfl ⟨_, by rw [HS.out, (H0.out (by trivial)).2], ?_, ((HB.out.setCell (Nat.le_refl _) _).setCell (Nat.le_refl _) _).setCell (Nat.le_refl _) _⟩
    rw [(H0.out (by trivial)).1]
    exact set_num HN.out HD0.out
  · have hEb : ((E : Int) == 0) = false := by rw [beq_eq_false_iff_ne]; omega
    have hw1 : wrap64 ((F : Int) + 4503599627370496) = ((F + 4503599627370496 : Nat) : Int) := by rw [show (F : Int) + 4503599627370496 = ((F + 4503599627370496 : Nat) : Int) by omega]; exact wrap64_small _ (by omega) (by omega)
    have hw2 : wrap64 ((E : Int) - 1075) = (E : Int) - 1075 := by unfold wrap64; omega
    go_enter Tryz.func42, Tryz.ntmps42
    go_wp2_with fail
    refine (HP.out _).mono ?_
    rintro e w1 ⟨rfl, rfl⟩
    go_wp2_with fail
    refine (nat_any (F + 4503599627370496) (by omega) _).mono ?_
    rintro e w2 ⟨v, rfl, hn, hb⟩
    have d0 : w2.cell? ⟨w.heap.size, 0, none⟩ = some (.bool false) := (hb.cell (p := ⟨w.heap.size, 0, none⟩) (by simp)).trans (by go_simp)
    have d1 : w2.cell? ⟨w.heap.size, 1, none⟩ = some (.slice none 0 0) := (hb.cell (p := ⟨w.heap.size, 1, none⟩) (by simp)).trans (by go_simp)
    have d2 : w2.cell? ⟨w.heap.size, 2, none⟩ = some (.int .i64 0) := (hb.cell (p := ⟨w.heap.size, 2, none⟩) (by simp)).trans (by go_simp)
    have f0 : w2.frozen? ⟨w.heap.size, 0, none⟩ = false := (hb.frozen (p := ⟨w.heap.size, 0, none⟩) (by simp)).trans (by go_simp)
    have f1 : w2.frozen? ⟨w.heap.size, 1, none⟩ = false := (hb.frozen (p := ⟨w.heap.size, 1, none⟩) (by simp)).trans (by go_simp)
    have f2 : w2.frozen? ⟨w.heap.size, 2, none⟩ = false := (hb.frozen (p := ⟨w.heap.size, 2, none⟩) (by simp)).trans (by go_simp)
    have HB : Hid (Below w.heap.size w w2) := ((Below.refl _ _).alloc (Nat.le_refl _) _).trans (hb.mono (by simp))
    obtain ⟨a, len, cap, gv, rfl, -, -, -⟩ := hn.slice
    have HN : Hid (IsNat w2 (.slice a len cap) (F + 4503599627370496)) := hn
    have HD0 : Hid (w2.cell? ⟨w.heap.size, 0, none⟩ = some (.bool false)) := d0
    clear hn hb
    go_wp2_with fail
    refine bodyPost_ret (v := .agg #[.bool (S == 1), .slice a len cap, .int .i64 ((E : Int) - 1075)]) (by simp [results, Tryz.results42, go_sem, d0, d1, d2]) rfl ⟨_, by rw [HS.out, (H1.out h).2], ?_, ((HB.out.setCell (Nat.le_refl _) _).setCell (Nat.le_refl _) _).setCell (Nat.le_refl _) _⟩
    rw [(H1.out h).1]
    exact set_num HN.out HD0.out


set_option maxHeartbeats 1000000 in
theorem finite_of (neg : Bool) (a : Option Addr) (len cap : Nat) (p m B F : Int) (w : World)
    (HRD : Hid (∀ w1, Below w.heap.size w w1 → Calls Tryz.prog 69 #[.agg #[.bool neg, .slice a len cap, .int .i64 p], .int .i64 m] w1 fun e w' => e = .returned (.tuple #[.int .u64 B, .int .i64 F]) ∧ Below w1.heap.size w1 w')) :
    Calls Tryz.prog 43 #[.agg #[.bool neg, .slice a len cap, .int .i64 p], .int .i64 m] w fun e w' => e = .returned (.agg #[.int .u64 B, .int .i64 F, .bool false]) ∧ Below w.heap.size w w' := by
  go_enter Tryz.func43, Tryz.ntmps43
  go_wp2_with fail
  refine (HRD.out _ (((Below.refl _ _).alloc (Nat.le_refl _) _).alloc (by simp) _)).mono ?_
  rintro e w1 ⟨rfl, hb⟩
  have hz := hb.size
  simp only [World.size_alloc] at hz
  have d0 : w1.cell? ⟨w.heap.size + 1, 0, none⟩ = some (.int .u64 0) := (hb.cell (p := ⟨w.heap.size + 1, 0, none⟩) (by simp)).trans (by go_simp)
  have d1 : w1.cell? ⟨w.heap.size + 1, 1, none⟩ = some (.int .i64 0) := (hb.cell (p := ⟨w.heap.size + 1, 1, none⟩) (by simp)).trans (by go_simp)
  have d2 : w1.cell? ⟨w.heap.size + 1, 2, none⟩ = some (.bool false) := (hb.cell (p := ⟨w.heap.size + 1, 2, none⟩) (by simp)).trans (by go_simp)
  have f0 : w1.frozen? ⟨w.heap.size + 1, 0, none⟩ = false := (hb.frozen (p := ⟨w.heap.size + 1, 0, none⟩) (by simp)).trans (by go_simp)
  have f1 : w1.frozen? ⟨w.heap.size + 1, 1, none⟩ = false := (hb.frozen (p := ⟨w.heap.size + 1, 1, none⟩) (by simp)).trans (by go_simp)
  have f2 : w1.frozen? ⟨w.heap.size + 1, 2, none⟩ = false := (hb.frozen (p := ⟨w.heap.size + 1, 2, none⟩) (by simp)).trans (by go_simp)
  have HB : Hid (Below w.heap.size w w1) := (((Below.refl _ _).alloc (Nat.le_refl _) _).alloc (by simp) _).trans (hb.mono (by simp; omega))
  clear hb
  go_wp2_with fail
  refine bodyPost_ret (v := .agg #[.int .u64 B, .int .i64 F, .bool false]) (by simp [results, Tryz.results43, go_sem, d0, d1, d2]) rfl ⟨rfl, ((HB.out.setCell (by simp) _).setCell (by simp) _).setCell (by simp) _⟩

end Go.Proofs.YtcjihaafohnbeaaGreatDoor
