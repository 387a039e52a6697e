import Derived.Test.YtfbdgecanfmgiaaDoorRefH
import Derived.Test.YtfbdgecanfmgiaaDoorRound2
namespace Go.Proofs.YtfbdgecanfmgiaaDoor
open Go.RowKit

def moreB (m : Int) (neg half none odd whole : Bool) : Bool :=
  if m = 0 then half && (!none || odd) else if m = 1 then half else if m = 3 then !neg && !whole else if m = 4 then neg && !whole else false
def sOf (neg : Bool) : Int := if neg then 1 else 0
/-- One digit more: as the rest and the mode have it. -/
theorem more_incr {m : Int} (hm : 0 ≤ m ∧ m ≤ 4) (neg : Bool) (D k : Nat) (hk : 0 < k) :
    (if moreB m neg (decide (D / 2 ^ (k - 1) % 2 = 1)) (decide (D % 2 ^ (k - 1) = 0)) (decide (D / 2 ^ k % 2 = 1)) (decide (D % 2 ^ k = 0)) then 1 else 0) = incr (grow m (sOf neg) (restN D k)) (D / 2 ^ k) := by
  obtain ⟨j, rfl⟩ : ∃ j, k = j + 1 := ⟨k - 1, by omega⟩
  rw [show j + 1 - 1 = j by omega]
  have hp := Nat.two_pow_pos j
  have e1 : D % 2 ^ (j + 1) = D % 2 ^ j + 2 ^ j * (D / 2 ^ j % 2) := by rw [Nat.pow_succ, Nat.mod_mul]
  have h2 := Nat.mod_lt D hp
  have hc : (restN D (j + 1) = 0 ∧ D / 2 ^ j % 2 = 0 ∧ D % 2 ^ j = 0 ∧ D % 2 ^ (j + 1) = 0) ∨ (restN D (j + 1) = 1 ∧ D / 2 ^ j % 2 = 0 ∧ D % 2 ^ j ≠ 0 ∧ D % 2 ^ (j + 1) ≠ 0) ∨ (restN D (j + 1) = 2 ∧ D / 2 ^ j % 2 = 1 ∧ D % 2 ^ j = 0 ∧ D % 2 ^ (j + 1) ≠ 0) ∨ (restN D (j + 1) = 3 ∧ D / 2 ^ j % 2 = 1 ∧ D % 2 ^ j ≠ 0 ∧ D % 2 ^ (j + 1) ≠ 0) := by
    unfold restN
    rw [e1, Nat.pow_succ]
    have h3 : D / 2 ^ j % 2 = 0 ∨ D / 2 ^ j % 2 = 1 := by omega
    rcases h3 with h3 | h3
    · rw [h3, Nat.mul_zero, Nat.add_zero]
      by_cases h4 : D % 2 ^ j = 0
      · exact .inl ⟨by rw [if_pos h4], rfl, h4, h4⟩
      · exact .inr (.inl ⟨by rw [if_neg h4, if_pos (by omega)], rfl, h4, h4⟩)
    · rw [h3, Nat.mul_one]
      by_cases h4 : D % 2 ^ j = 0
      · exact .inr (.inr (.inl ⟨by rw [if_neg (by omega), if_neg (by omega), if_pos (by omega)], rfl, h4, by omega⟩))
      · exact .inr (.inr (.inr ⟨by rw [if_neg (by omega), if_neg (by omega), if_neg (by omega)], rfl, h4, by omega⟩))
  have hq : D / 2 ^ (j + 1) % 2 = 0 ∨ D / 2 ^ (j + 1) % 2 = 1 := by omega
  have hm5 : m = 0 ∨ m = 1 ∨ m = 2 ∨ m = 3 ∨ m = 4 := by omega
  clear e1 h2
  generalize D / 2 ^ (j + 1) = q at *
  unfold moreB incr grow sOf
  rcases hc with ⟨a, b, c, d⟩ | ⟨a, b, c, d⟩ | ⟨a, b, c, d⟩ | ⟨a, b, c, d⟩ <;> rcases hq with h | h <;> rcases hm5 with rfl | rfl | rfl | rfl | rfl <;> cases neg <;> simp [a, b, c, d, h]

/-- A number's first digit is its own, by two. -/
theorem low_bit {l : List Nat} {n : Nat} (hd : Digits l) (hv : val l = n) : dig l 0 % 2 = n % 2 := by
  have := val_dig hd 0
  rw [hv] at this
  rw [this]
  simp
theorem IsNat.slice {w : World} {v : Value} {n : Nat} (h : IsNat w v n) : ∃ (a : Option Addr) (len cap g : Nat), v = .slice a len cap ∧ len = nd n ∧ (0 < len → a = some ⟨g, 0, none⟩) ∧ (0 < len → ∃ d : Nat, d < 16777216 ∧ d % 2 = n % 2 ∧ w.cell? ⟨g, 0, none⟩ = some (.int .i64 (d : Nat))) := by
  obtain ⟨l, hr, hv, hl⟩ := h
  obtain ⟨a, cap, g, h1, _, _, h2, _, h3⟩ := hr.open
  exact ⟨a, l.length, cap, g, h1, hl, h2, fun hp => ⟨dig l 0, dig_lt hr.1 0, low_bit hr.1 hv, h3 0 hp⟩⟩

theorem half_bool (d : Nat) : ((d : Int) % 2 == 1) = decide (d % 2 = 1) := by
  by_cases h : d % 2 = 1
  · rw [decide_eq_true h, beq_iff_eq]; omega
  · rw [decide_eq_false h, beq_eq_false_iff_ne]; omega
theorem nd_none {n : Nat} (h : 0 = nd n) : n = 0 := by
  apply Classical.byContradiction
  intro hn
  have := nd_pos hn
  omega
theorem moreB_mode {m : Int} {neg half none odd whole : Bool} :
    (m = 0 → moreB m neg half none odd whole = (half && (!none || odd))) ∧ (m = 1 → moreB m neg half none odd whole = half) ∧ (m = 2 → moreB m neg half none odd whole = false) ∧ (m = 3 → moreB m neg half none odd whole = (!neg && !whole)) ∧ (m = 4 → moreB m neg half none odd whole = (neg && !whole)) := by
  refine ⟨?_, ?_, ?_, ?_, ?_⟩ <;> (rintro rfl; rfl)

set_option maxRecDepth 10000 in
set_option maxHeartbeats 4000000 in
theorem rcut_any (D : Nat) (k : Int) (neg : Bool) (m : Int) (va : Value) (w : World) (ha : IsNat w va D) (sa : nd D ≤ 5000) (hk : -50000 ≤ k ∧ k ≤ 50000) (hm : 0 ≤ m ∧ m ≤ 4) :
    Calls Tryd.prog 76 #[va, .int .i64 k, .bool neg, .int .i64 m] w fun e w' => ∃ v, e = .returned (.tuple #[v, .bool (cutCh D k)]) ∧ IsNat w' v (cutQ (sOf neg) m D k) ∧ Below w.heap.size w w' := by
  have HA : Hid (IsNat w va D) := ha
  have hk1 := hk.1
  have hk2 := hk.2
  clear ha hk
  by_cases h0 : k ≤ 0
  · have HE : Hid (cutCh D k = false ∧ cutQ (sOf neg) m D k = D * 2 ^ (-k).toNat) := ⟨by unfold cutCh; rw [if_pos h0], by unfold cutQ; rw [if_pos h0]⟩
    obtain ⟨j, rfl⟩ : ∃ j : Nat, k = -(j : Int) := ⟨(-k).toNat, by omega⟩
    have hjt : (- -(j : Int)).toNat = j := by omega
    rw [hjt] at HE
    have hjb : j ≤ 50000 := by omega
    have hw1 := wrap64_small (j : Int) (by omega) (by omega)
    clear hjt hk1 hk2
    go_enter Tryd.func76, Tryd.ntmps76
    go_wp2_with fail
    refine (up_any D j va _ HA.out (by omega) (by omega)).mono ?_
    rintro e w1 ⟨v, rfl, hv, hb⟩
    have HV : Hid (IsNat w1 v (D * 2 ^ j) ∧ Below w.heap.size w w1) := ⟨hv, hb⟩
    clear hv hb
    go_wp2_with fail
    refine bodyPost_ret (v := .tuple #[v, .bool false]) (by simp [results, Tryd.results76, go_sem]) rfl ⟨_, by rw [HE.out.1], ?_, HV.out.2⟩
    rw [HE.out.2]
    exact HV.out.1
  · obtain ⟨j, rfl⟩ : ∃ j : Nat, k = (j : Int) := ⟨k.toNat, by omega⟩
    have hj0 : 0 < j := by omega
    obtain ⟨i, hi⟩ : ∃ i : Nat, j - 1 = i := ⟨_, rfl⟩
    have hji : (j : Int) - 1 = (i : Int) := by omega
    have HE : Hid (cutCh D j = !decide (D % 2 ^ j = 0) ∧ cutQ (sOf neg) m D j = D / 2 ^ j + (if moreB m neg (decide (D / 2 ^ i % 2 = 1)) (decide (D % 2 ^ i = 0)) (decide (D / 2 ^ j % 2 = 1)) (decide (D % 2 ^ j = 0)) then 1 else 0)) := by
      refine ⟨?_, ?_⟩
      · unfold cutCh
        rw [if_neg h0, Int.toNat_natCast]
        have : restN D j ≠ 0 ↔ D % 2 ^ j ≠ 0 := by
          unfold restN
          by_cases h : D % 2 ^ j = 0
          · rw [if_pos h]; simp [h]
          · rw [if_neg h]; (repeat' split) <;> simp [h]
        by_cases h : D % 2 ^ j = 0
        · rw [decide_eq_false (by rw [this]; simp [h]), decide_eq_true h]; rfl
        · rw [decide_eq_true (this.2 h), decide_eq_false h]; rfl
      · unfold cutQ
        rw [if_neg h0, Int.toNat_natCast, ← more_incr hm neg D j hj0, hi]
    have hqs : nd (D / 2 ^ j) ≤ 5000 := Nat.le_trans (nd_mono (Nat.div_le_self _ _)) sa
    have HNQ : Hid (nd (D / 2 ^ j) ≤ 5000) := hqs
    clear hqs
    go_enter Tryd.func76, Tryd.ntmps76
    go_wp2_with fail
    refine (down_any D j va _ HA.out (by omega) (by omega)).mono ?_
    rintro e w1 ⟨vq, rfl, hq, hb1⟩
    have HQ : Hid (IsNat w1 vq (D / 2 ^ j) ∧ Below w.heap.size w w1) := ⟨hq, hb1⟩
    clear hq hb1
    generalize hW : decide (D % 2 ^ j = 0) = W at *
    go_wp2_with fail
    refine (down_any D i va _ (HA.out.later HQ.out.2) (by omega) (by omega)).mono ?_
    rintro e w2 ⟨vh, rfl, hh, hb2⟩
    have HH : Hid (IsNat w2 vh (D / 2 ^ i) ∧ IsNat w2 vq (D / 2 ^ j) ∧ Below w.heap.size w w2) := ⟨hh, HQ.out.1.later hb2, HQ.out.2.trans (hb2.mono HQ.out.2.size)⟩
    clear hh hb2 HQ
    generalize hN : decide (D % 2 ^ i = 0) = N at *
    generalize hHf : decide (D / 2 ^ i % 2 = 1) = H at *
    generalize hO : decide (D / 2 ^ j % 2 = 1) = O at *
    have HHf : Hid (decide (D / 2 ^ i % 2 = 1) = H) := hHf
    have HO : Hid (decide (D / 2 ^ j % 2 = 1) = O) := hO
    have HW : Hid (decide (D % 2 ^ j = 0) = W) := hW
    clear hW hN hHf hO hji
    obtain ⟨ah, lh, ch, gh, rfl, elh, hah, hch⟩ := HH.out.1.slice
    obtain ⟨aq, lq, cq, gq, rfl, elq, haq, hcq⟩ := HH.out.2.1.slice
    have HPH : Hid (lh = nd (D / 2 ^ i) ∧ (0 < lh → ah = some ⟨gh, 0, none⟩) ∧ (0 < lh → ∃ d : Nat, d < 16777216 ∧ d % 2 = D / 2 ^ i % 2 ∧ w2.cell? ⟨gh, 0, none⟩ = some (.int .i64 (d : Nat)))) := ⟨elh, hah, hch⟩
    have HPQ : Hid (lq = nd (D / 2 ^ j) ∧ (0 < lq → aq = some ⟨gq, 0, none⟩) ∧ (0 < lq → ∃ d : Nat, d < 16777216 ∧ d % 2 = D / 2 ^ j % 2 ∧ w2.cell? ⟨gq, 0, none⟩ = some (.int .i64 (d : Nat)))) := ⟨elq, haq, hcq⟩
    clear elh hah hch elq haq hcq
    go_upto_region 5 with fail
    go_cut [14] from 17 to 91 (fun s wx => s = .bool H ∧ wx = w2)
    case first =>
      by_cases hl : 0 < lh
      · obtain ⟨d, hd, hd2, hc⟩ := HPH.out.2.2 hl
        obtain rfl := HPH.out.2.1 hl
        have HB : Hid (((d : Int) % 2 == 1) = H) := (by rw [← HHf.out, ← hd2]; exact half_bool d : ((d : Int) % 2 == 1) = H)
        have hl' : (0 : Int) < (lh : Int) := by omega
        clear hd2
        go_wp2_with fail
        go_meet
        exact ⟨by rw [HB.out], rfl⟩
      · obtain rfl : lh = 0 := by omega
        have HB : Hid (H = false) := by
          rw [← HHf.out, nd_none HPH.out.1]
          rfl
        go_wp2_with fail
        go_meet
        exact ⟨by rw [HB.out], rfl⟩
    case rest =>
      obtain ⟨rfl, rfl⟩ := hcut
      go_upto_region 6 with fail
      go_cut [15] from 17 to 91 (fun s wx => s = .bool O ∧ wx = wc)
      case first =>
        by_cases hl : 0 < lq
        · obtain ⟨d, hd, hd2, hc⟩ := HPQ.out.2.2 hl
          obtain rfl := HPQ.out.2.1 hl
          have HB : Hid (((d : Int) % 2 == 1) = O) := (by rw [← HO.out, ← hd2]; exact half_bool d : ((d : Int) % 2 == 1) = O)
          have hl' : (0 : Int) < (lq : Int) := by omega
          clear hd2
          go_wp2_with fail
          go_meet
          exact ⟨by rw [HB.out], rfl⟩
        · obtain rfl : lq = 0 := by omega
          have HB : Hid (O = false) := by
            rw [← HO.out, nd_none HPQ.out.1]
            rfl
          go_wp2_with fail
          go_meet
          exact ⟨by rw [HB.out], rfl⟩
      case rest =>
        obtain ⟨rfl, rfl⟩ := hcut
        have hmm := moreB_mode (m := m) (neg := neg) (half := H) (none := N) (odd := O) (whole := W)
        obtain rfl | rfl | rfl | rfl | rfl : m = 0 ∨ m = 1 ∨ m = 2 ∨ m = 3 ∨ m = 4 := by omega
        · rw [hmm.1 rfl] at HE
          clear hmm hm
          cases H
          · simp only [Bool.false_and, Bool.false_eq_true, if_false, Nat.add_zero] at HE
            go_wp2_with fail
            refine bodyPost_ret (v := .tuple #[.slice aq lq cq, .bool (!W)]) (by simp [results, Tryd.results76, go_sem]) rfl ⟨_, by rw [HE.out.1], ?_, HH.out.2.2⟩
            rw [HE.out.2]
            exact HH.out.2.1
          · cases N
            · simp only [Bool.true_and, Bool.not_false, Bool.true_or, if_true] at HE
              go_wp2_with fail
              refine (nat_any 1 (by decide) _).mono ?_
              rintro e w3 ⟨v1, rfl, hv1, hb3⟩
              have HV1 : Hid (IsNat w3 v1 1 ∧ IsNat w3 (.slice aq lq cq) (D / 2 ^ j) ∧ Below w.heap.size w w3) := ⟨hv1, HH.out.2.1.later hb3, HH.out.2.2.trans (hb3.mono HH.out.2.2.size)⟩
              clear hv1 hb3
              go_wp2_with fail
              refine (plus_any (D / 2 ^ j) 1 _ _ _ HV1.out.2.1 HV1.out.1 (by have := HNQ.out; omega) (by decide)).mono ?_
              rintro e w4 ⟨v2, rfl, hv2, hb4⟩
              have HV2 : Hid (IsNat w4 v2 (D / 2 ^ j + 1) ∧ Below w.heap.size w w4) := ⟨hv2, HV1.out.2.2.trans (hb4.mono HV1.out.2.2.size)⟩
              clear hv2 hb4
              go_wp2_with fail
              refine bodyPost_ret (v := .tuple #[v2, .bool (!W)]) (by simp [results, Tryd.results76, go_sem]) rfl ⟨_, by rw [HE.out.1], ?_, HV2.out.2⟩
              rw [HE.out.2]
              exact HV2.out.1
            · cases O
              · simp only [Bool.true_and, Bool.not_true, Bool.false_or, Bool.false_eq_true, if_false, Nat.add_zero] at HE
                go_wp2_with fail
                refine bodyPost_ret (v := .tuple #[.slice aq lq cq, .bool (!W)]) (by simp [results, Tryd.results76, go_sem]) rfl ⟨_, by rw [HE.out.1], ?_, HH.out.2.2⟩
                rw [HE.out.2]
                exact HH.out.2.1
              · simp only [Bool.true_and, Bool.not_true, Bool.false_or, if_true] at HE
                go_wp2_with fail
                refine (nat_any 1 (by decide) _).mono ?_
                rintro e w3 ⟨v1, rfl, hv1, hb3⟩
                have HV1 : Hid (IsNat w3 v1 1 ∧ IsNat w3 (.slice aq lq cq) (D / 2 ^ j) ∧ Below w.heap.size w w3) := ⟨hv1, HH.out.2.1.later hb3, HH.out.2.2.trans (hb3.mono HH.out.2.2.size)⟩
                clear hv1 hb3
                go_wp2_with fail
                refine (plus_any (D / 2 ^ j) 1 _ _ _ HV1.out.2.1 HV1.out.1 (by have := HNQ.out; omega) (by decide)).mono ?_
                rintro e w4 ⟨v2, rfl, hv2, hb4⟩
                have HV2 : Hid (IsNat w4 v2 (D / 2 ^ j + 1) ∧ Below w.heap.size w w4) := ⟨hv2, HV1.out.2.2.trans (hb4.mono HV1.out.2.2.size)⟩
                clear hv2 hb4
                go_wp2_with fail
                refine bodyPost_ret (v := .tuple #[v2, .bool (!W)]) (by simp [results, Tryd.results76, go_sem]) rfl ⟨_, by rw [HE.out.1], ?_, HV2.out.2⟩
                rw [HE.out.2]
                exact HV2.out.1
        · rw [hmm.2.1 rfl] at HE
          clear hmm hm
          cases H
          · simp only [Bool.false_eq_true, if_false, Nat.add_zero] at HE
            go_wp2_with fail
            refine bodyPost_ret (v := .tuple #[.slice aq lq cq, .bool (!W)]) (by simp [results, Tryd.results76, go_sem]) rfl ⟨_, by rw [HE.out.1], ?_, HH.out.2.2⟩
            rw [HE.out.2]
            exact HH.out.2.1
          · simp only [if_true] at HE
            go_wp2_with fail
            refine (nat_any 1 (by decide) _).mono ?_
            rintro e w3 ⟨v1, rfl, hv1, hb3⟩
            have HV1 : Hid (IsNat w3 v1 1 ∧ IsNat w3 (.slice aq lq cq) (D / 2 ^ j) ∧ Below w.heap.size w w3) := ⟨hv1, HH.out.2.1.later hb3, HH.out.2.2.trans (hb3.mono HH.out.2.2.size)⟩
            clear hv1 hb3
            go_wp2_with fail
            refine (plus_any (D / 2 ^ j) 1 _ _ _ HV1.out.2.1 HV1.out.1 (by have := HNQ.out; omega) (by decide)).mono ?_
            rintro e w4 ⟨v2, rfl, hv2, hb4⟩
            have HV2 : Hid (IsNat w4 v2 (D / 2 ^ j + 1) ∧ Below w.heap.size w w4) := ⟨hv2, HV1.out.2.2.trans (hb4.mono HV1.out.2.2.size)⟩
            clear hv2 hb4
            go_wp2_with fail
            refine bodyPost_ret (v := .tuple #[v2, .bool (!W)]) (by simp [results, Tryd.results76, go_sem]) rfl ⟨_, by rw [HE.out.1], ?_, HV2.out.2⟩
            rw [HE.out.2]
            exact HV2.out.1
        · rw [hmm.2.2.1 rfl] at HE
          clear hmm hm
          simp only [Bool.false_eq_true, if_false, Nat.add_zero] at HE
          go_wp2_with fail
          refine bodyPost_ret (v := .tuple #[.slice aq lq cq, .bool (!W)]) (by simp [results, Tryd.results76, go_sem]) rfl ⟨_, by rw [HE.out.1], ?_, HH.out.2.2⟩
          rw [HE.out.2]
          exact HH.out.2.1
        · rw [hmm.2.2.2.1 rfl] at HE
          clear hmm hm
          cases neg
          · cases W
            · simp only [Bool.not_false, Bool.true_and, if_true] at HE
              go_wp2_with fail
              refine (nat_any 1 (by decide) _).mono ?_
              rintro e w3 ⟨v1, rfl, hv1, hb3⟩
              have HV1 : Hid (IsNat w3 v1 1 ∧ IsNat w3 (.slice aq lq cq) (D / 2 ^ j) ∧ Below w.heap.size w w3) := ⟨hv1, HH.out.2.1.later hb3, HH.out.2.2.trans (hb3.mono HH.out.2.2.size)⟩
              clear hv1 hb3
              go_wp2_with fail
              refine (plus_any (D / 2 ^ j) 1 _ _ _ HV1.out.2.1 HV1.out.1 (by have := HNQ.out; omega) (by decide)).mono ?_
              rintro e w4 ⟨v2, rfl, hv2, hb4⟩
              have HV2 : Hid (IsNat w4 v2 (D / 2 ^ j + 1) ∧ Below w.heap.size w w4) := ⟨hv2, HV1.out.2.2.trans (hb4.mono HV1.out.2.2.size)⟩
              clear hv2 hb4
              go_wp2_with fail
              refine bodyPost_ret (v := .tuple #[v2, .bool true]) (by simp [results, Tryd.results76, go_sem]) rfl ⟨_, by rw [HE.out.1], ?_, HV2.out.2⟩
              rw [HE.out.2]
              exact HV2.out.1
            · simp only [Bool.not_false, Bool.true_and, Bool.not_true, Bool.false_eq_true, if_false, Nat.add_zero] at HE
              go_wp2_with fail
              refine bodyPost_ret (v := .tuple #[.slice aq lq cq, .bool false]) (by simp [results, Tryd.results76, go_sem]) rfl ⟨_, by rw [HE.out.1], ?_, HH.out.2.2⟩
              rw [HE.out.2]
              exact HH.out.2.1
          · simp only [Bool.not_true, Bool.false_and, Bool.false_eq_true, if_false, Nat.add_zero] at HE
            go_wp2_with fail
            refine bodyPost_ret (v := .tuple #[.slice aq lq cq, .bool (!W)]) (by simp [results, Tryd.results76, go_sem]) rfl ⟨_, by rw [HE.out.1], ?_, HH.out.2.2⟩
            rw [HE.out.2]
            exact HH.out.2.1
        · rw [hmm.2.2.2.2 rfl] at HE
          clear hmm hm
          cases neg
          · simp only [Bool.false_and, Bool.false_eq_true, if_false, Nat.add_zero] at HE
            go_wp2_with fail
            refine bodyPost_ret (v := .tuple #[.slice aq lq cq, .bool (!W)]) (by simp [results, Tryd.results76, go_sem]) rfl ⟨_, by rw [HE.out.1], ?_, HH.out.2.2⟩
            rw [HE.out.2]
            exact HH.out.2.1
          · cases W
            · simp only [Bool.not_false, Bool.true_and, if_true] at HE
              go_wp2_with fail
              refine (nat_any 1 (by decide) _).mono ?_
              rintro e w3 ⟨v1, rfl, hv1, hb3⟩
              have HV1 : Hid (IsNat w3 v1 1 ∧ IsNat w3 (.slice aq lq cq) (D / 2 ^ j) ∧ Below w.heap.size w w3) := ⟨hv1, HH.out.2.1.later hb3, HH.out.2.2.trans (hb3.mono HH.out.2.2.size)⟩
              clear hv1 hb3
              go_wp2_with fail
              refine (plus_any (D / 2 ^ j) 1 _ _ _ HV1.out.2.1 HV1.out.1 (by have := HNQ.out; omega) (by decide)).mono ?_
              rintro e w4 ⟨v2, rfl, hv2, hb4⟩
              have HV2 : Hid (IsNat w4 v2 (D / 2 ^ j + 1) ∧ Below w.heap.size w w4) := ⟨hv2, HV1.out.2.2.trans (hb4.mono HV1.out.2.2.size)⟩
              clear hv2 hb4
              go_wp2_with fail
              refine bodyPost_ret (v := .tuple #[v2, .bool true]) (by simp [results, Tryd.results76, go_sem]) rfl ⟨_, by rw [HE.out.1], ?_, HV2.out.2⟩
              rw [HE.out.2]
              exact HV2.out.1
            · simp only [Bool.true_and, Bool.not_true, Bool.false_eq_true, if_false, Nat.add_zero] at HE
              go_wp2_with fail
              refine bodyPost_ret (v := .tuple #[.slice aq lq cq, .bool false]) (by simp [results, Tryd.results76, go_sem]) rfl ⟨_, by rw [HE.out.1], ?_, HH.out.2.2⟩
              rw [HE.out.2]
              exact HH.out.2.1
end Go.Proofs.YtfbdgecanfmgiaaDoor
