import Derived.Test.YtcjihaafohnbeaaGreatDoorRefA
import Derived.Deep.QuietTactic
import Derived.BigQuiet
namespace Go.Proofs.YtcjihaafohnbeaaGreatDoor
open Go.RowKit

theorem ints_set (l : List Nat) (k d : Nat) : (ints l).set k (.int .i64 d) = ints (l.set k d) := by unfold ints; rw [List.map_set]
theorem ints_zeros (n : Nat) : List.replicate n (Value.int .i64 0) = ints (List.replicate n 0) := by unfold ints; rw [List.map_replicate]; rfl
theorem zeros_digits (n : Nat) : Digits (List.replicate n 0) := by
  intro x hx
  rw [List.mem_replicate] at hx
  omega
/-- The row that times fills. -/
structure Filled (w wr : World) (g n : Nat) (L : List Nat) : Prop where
  own : wr.ownsRow w.heap.size 3 1 (.slice (some ⟨g, 0, none⟩) n n) n (ints L)
  below : Below w.heap.size w wr
  dig : Digits L
  len : L.length = n
theorem Filled.drawn {w wr : World} {g n : Nat} {L : List Nat} (h : Filled w wr g n L) (k : Nat) : Filled w (wr.drewN k) g n L := ⟨h.own, below_drewN h.below k, h.dig, h.len⟩
theorem Filled.made {w w1 : World} {n : Nat} (h : w1.ownsRow w.heap.size 3 1 (.slice (some ⟨w.heap.size, 0, none⟩) n n) n (madeCells #[Value.int .i64 0] n).toList) (hg : w.grownBy w1 none) : Filled w w1 w.heap.size n (List.replicate n 0) := by
  refine ⟨?_, (Below.refl _ _).grown hg (Nat.le_refl _) (fun j hj => by cases hj), zeros_digits n, List.length_replicate⟩
  rw [← ints_zeros]
  rw [toList_madeCells_one] at h
  exact h
theorem Filled.set {w wr : World} {g n : Nat} {L : List Nat} (h : Filled w wr g n L) (k d : Nat) (hd : d < 16777216) : Filled w (wr.setCell ⟨g, k, none⟩ (.int .i64 d)) g n (L.set k d) := by
  have hs := h.own.stored k (.int .i64 d)
  refine ⟨by rw [← ints_set]; exact hs.1, h.below.setCell (h.own.lt g rfl).1 _, h.dig.set k hd, by rw [List.length_set]; exact h.len⟩
theorem Filled.row {w wr : World} {g n : Nat} {L : List Nat} (h : Filled w wr g n L) : IsRow wr (.slice (some ⟨g, 0, none⟩) n n) L := IsRow.own h.dig (by rw [h.len]; exact h.own)
theorem Filled.cell {w wr : World} {g n : Nat} {L : List Nat} (h : Filled w wr g n L) {k : Nat} (hk : k < n) : wr.cell? ⟨g, k, none⟩ = some (.int .i64 (Proofs.YtcjihaafohnbeaaGreatDoor.dig L k : Nat)) := by
  rw [h.own.cellAt k (by omega)]
  exact ints_at (by rw [h.len]; exact hk)

theorem n_mod (D C p : Nat) : (((D + C + p) % 16777216 : Nat) : Int) = ((D : Int) + C + p) % 16777216 := by omega
theorem n_div (D C p : Nat) : (((D + C + p) / 16777216 : Nat) : Int) = ((D : Int) + C + p) / 16777216 := by omega
theorem p_le {X Y : Nat} (hX : X < 16777216) (hY : Y < 16777216) : X * Y ≤ 281474943156225 := by
  have h := Nat.mul_le_mul (show X ≤ 16777215 by omega) (show Y ≤ 16777215 by omega)
  rw [show 16777215 * 16777215 = 281474943156225 by decide] at h
  exact h
theorem w_add {D C : Nat} (hD : D < 16777216) (hC : C < 16777216) : wrap64 ((D : Int) + C) = (D : Int) + C := wrap64_small _ (by omega) (by omega)
theorem w_mul {p : Nat} (hp : p ≤ 281474943156225) : wrap64 (p : Int) = p := wrap64_small _ (by omega) (by omega)
theorem w_all {D C p : Nat} (hD : D < 16777216) (hC : C < 16777216) (hp : p ≤ 281474943156225) : wrap64 ((D : Int) + C + p) = (D : Int) + C + p := wrap64_small _ (by omega) (by omega)
theorem n_small {D C p : Nat} (hD : D < 16777216) (hC : C < 16777216) (hp : p ≤ 281474943156225) : (D + C + p) / 16777216 < 16777216 := by omega
theorem tdiv_base {n : Int} (h : 0 ≤ n) : n.tdiv 16777216 = n / 16777216 := Int.tdiv_eq_ediv_of_nonneg h
theorem tmod_base {n : Int} (h : 0 ≤ n) : n.tmod 16777216 = n % 16777216 := Int.tmod_eq_emod_of_nonneg h
theorem w_div {D C p : Nat} (hD : D < 16777216) (hC : C < 16777216) (hp : p ≤ 281474943156225) : wrap64 (((D : Int) + C + p) / 16777216) = ((D : Int) + C + p) / 16777216 := wrap64_small _ (by omega) (by omega)
/-- What one round of times reckons, as the walk has it. -/
theorem round_facts {D C X Y : Nat} (hD : D < 16777216) (hC : C < 16777216) (hX : X < 16777216) (hY : Y < 16777216) : ∃ (d c x y : Int) (N : Nat), (D : Int) = d ∧ (C : Int) = c ∧ (X : Int) = x ∧ (Y : Int) = y ∧ N = D + C + X * Y ∧ 0 ≤ d ∧ d < 16777216 ∧ 0 ≤ c ∧ c < 16777216 ∧ wrap64 (d + c) = d + c ∧ Hid (wrap64 ((wrap64 (d + c + wrap64 (x * y))).tdiv 16777216) = (N / 16777216 : Nat)) ∧ Hid ((wrap64 (d + c + wrap64 (x * y))).tmod 16777216 = (N % 16777216 : Nat)) ∧ Hid (N / 16777216 < 16777216) := by
  have hp := p_le hX hY
  refine ⟨D, C, X, Y, D + C + X * Y, rfl, rfl, rfl, rfl, rfl, by omega, by omega, by omega, by omega, w_add hD hC, ?_, ?_, n_small hD hC hp⟩
  · show wrap64 ((wrap64 ((D : Int) + C + wrap64 ((X : Int) * Y))).tdiv 16777216) = _
    rw [← Int.natCast_mul, w_mul hp, w_all hD hC hp, tdiv_base (by omega), w_div hD hC hp, n_div]
  · show (wrap64 ((D : Int) + C + wrap64 ((X : Int) * Y))).tmod 16777216 = _
    rw [← Int.natCast_mul, w_mul hp, w_all hD hC hp, tmod_base (by omega), n_mod]
theorem times_step {P Q V V' c c' n ai bj l R S : Nat} (hset : V' + P * Q * l = V + P * Q * (n % 16777216)) (hn : n = l + c + ai * bj) (hc : c' = n / 16777216) (hR : V + c * (P * Q) = R + ai * S * P) :
    V' + c' * (P * (16777216 * Q)) = R + ai * (S + Q * bj) * P := by
  have h1 : n = n % 16777216 + 16777216 * c' := by omega
  have h2 : P * Q * n = P * Q * (n % 16777216) + P * Q * (16777216 * c') := by rw [← Nat.mul_add, ← h1]
  have h3 : P * Q * n = P * Q * l + P * Q * c + P * Q * (ai * bj) := by rw [hn, Nat.mul_add, Nat.mul_add]
  have h4 : c' * (P * (16777216 * Q)) = P * Q * (16777216 * c') := by
    rw [Nat.mul_comm c', Nat.mul_assoc P, Nat.mul_assoc P, Nat.mul_assoc 16777216, Nat.mul_left_comm Q]
  have h5 : ai * (S + Q * bj) * P = ai * S * P + P * Q * (ai * bj) := by
    rw [Nat.mul_add, Nat.add_mul]
    congr 1
    rw [Nat.mul_comm (ai * (Q * bj)) P, Nat.mul_assoc P, Nat.mul_left_comm ai]
  have h6 : c * (P * Q) = P * Q * c := Nat.mul_comm _ _
  omega
theorem times_in {a b i j V c : Nat} (_hi : i < nd a) (ai : Nat) (hai : ai = a / 2 ^ (24 * i) % 16777216) (h : V + c * (2 ^ (24 * i) * 2 ^ (24 * j)) = a % 2 ^ (24 * i) * b + ai * (b % 2 ^ (24 * j)) * 2 ^ (24 * i)) (hc : 0 < c) : i + j < nd a + nd b := by
  have h1 : 2 ^ (24 * (i + j)) ≤ V + c * (2 ^ (24 * i) * 2 ^ (24 * j)) := by
    rw [Nat.mul_add 24, Nat.pow_add]
    have := Nat.le_mul_of_pos_left (2 ^ (24 * i) * 2 ^ (24 * j)) hc
    omega
  have h2 : a % 2 ^ (24 * i) * b + ai * (b % 2 ^ (24 * j)) * 2 ^ (24 * i) ≤ a % 2 ^ (24 * (i + 1)) * b := by
    rw [mod_pow_succ, ← hai, Nat.add_mul]
    have : ai * (b % 2 ^ (24 * j)) * 2 ^ (24 * i) ≤ 2 ^ (24 * i) * ai * b := by
      rw [Nat.mul_comm, ← Nat.mul_assoc]
      exact Nat.mul_le_mul_left _ (Nat.mod_le _ _)
    omega
  have h3 : a % 2 ^ (24 * (i + 1)) * b < 2 ^ (24 * (nd a + nd b)) := by
    rw [Nat.mul_add 24 (nd a), Nat.pow_add]
    refine Nat.lt_of_le_of_lt (Nat.mul_le_mul_right b (Nat.mod_le _ _)) ?_
    exact Nat.mul_lt_mul'' (nd_lt a) (nd_lt b)
  have := pow_le_of_lt (Nat.le_trans h1 (h ▸ h2)) h3
  omega
theorem times_row {a b i j V : Nat} (ai : Nat) (hai : ai = a / 2 ^ (24 * i) % 16777216) (hj : nd b ≤ j) (h : V + 0 * (2 ^ (24 * i) * 2 ^ (24 * j)) = a % 2 ^ (24 * i) * b + ai * (b % 2 ^ (24 * j)) * 2 ^ (24 * i)) : V = a % 2 ^ (24 * (i + 1)) * b := by
  rw [mod_pow_succ, ← hai, Nat.add_mul]
  rw [Nat.mod_eq_of_lt (lt_pow_nd hj)] at h
  rw [Nat.mul_comm (2 ^ (24 * i)) ai, Nat.mul_right_comm]
  omega

set_option maxHeartbeats 4000000 in
theorem times_any (a b : Nat) (va vb : Value) (w : World) (ha : IsNat w va a) (hb : IsNat w vb b) (sa : nd a ≤ 100000) (sb : nd b ≤ 100000) :
    Calls Tryz.prog 70 #[va, vb] w fun e w' => ∃ v, e = .returned v ∧ IsNat w' v (a * b) ∧ Below w.heap.size w w' := by
  obtain ⟨la, ra, ea, na⟩ := ha
  obtain ⟨lb, rb, eb, nb⟩ := hb
  have da := val_dig ra.1
  have db := val_dig rb.1
  have xa := dig_lt ra.1
  have xb := dig_lt rb.1
  obtain ⟨A, capa, ga, rfl, _, _, hA, hgA, cA⟩ := ra.open
  obtain ⟨B, capb, gb, rfl, _, _, hB, hgB, cB⟩ := rb.open
  rw [ea] at da
  rw [eb] at db
  obtain ⟨i0, hi, hz0, hz1, hz2⟩ := info_parts infoInt
  have HDA : Hid (∀ k, dig la k = a / 2 ^ (24 * k) % 16777216) := da
  have HDB : Hid (∀ k, dig lb k = b / 2 ^ (24 * k) % 16777216) := db
  have HA : Hid (∀ j, j < la.length → w.cell? ⟨ga, j, none⟩ = some (.int .i64 (dig la j : Nat))) := cA
  have HB : Hid (∀ j, j < lb.length → w.cell? ⟨gb, j, none⟩ = some (.int .i64 (dig lb j : Nat))) := cB
  have HGA : Hid ((0 < la.length → A = some ⟨ga, 0, none⟩) ∧ (0 < la.length → ga < w.heap.size)) := ⟨hA, hgA⟩
  have HGB : Hid ((0 < lb.length → B = some ⟨gb, 0, none⟩) ∧ (0 < lb.length → gb < w.heap.size)) := ⟨hB, hgB⟩
  have HNA : Hid (la.length = nd a) := na
  have HNB : Hid (lb.length = nd b) := nb
  have HXA : Hid (∀ k, dig la k < 16777216) := xa
  have HXB : Hid (∀ k, dig lb k < 16777216) := xb
  rw [← na] at sa
  rw [← nb] at sb
  clear ra rb ea eb da db cA cB hA hB hgA hgB na nb xa xb
  go_enter Tryz.func70, Tryz.ntmps70
  go_wp2_with (at_make; refine wpList_make_full _ rfl _ _ 61 rfl w.heap.size 3 i0 (.int .i64 0) 1 Tryz.underlying61 hi hz0 hz1 _ _ _ _ (la.length + lb.length) rfl rfl ?m1 ?m2 ?m3 ?m4 ?m5 ?_)
  case m1 => omega
  case m2 => omega
  case m3 => rw [hz2]; omega
  case m4 => unfold maxLen; omega
  case m5 => exact Nat.le_refl _
  intro w1 hown1 hg1
  have HF : Hid (Filled w w1 w.heap.size (la.length + lb.length) (List.replicate (la.length + lb.length) 0)) := Filled.made hown1 hg1
  clear hown1 hg1
  go_wp2_with fail
  go_loopw [6, 7, 8, 9] (fun i _ _ _ wr => ∃ (k : Nat) (L : List Nat), k ≤ la.length ∧ i = .int .i64 k ∧ Filled w wr w.heap.size (la.length + lb.length) L ∧ val L = a % 2 ^ (24 * k) * b) (fun i _ _ _ _ => la.length - (intOf i).toNat)
  case atStart => exact ⟨0, _, Nat.zero_le _, rfl, HF.out, by rw [val_zeros]; simp [Nat.mod_one]⟩
  case round =>
    obtain ⟨i, L0, hi0, rfl, hfill, hval⟩ := hrel
    have HF0 : Hid (Filled w wr w.heap.size (la.length + lb.length) L0 ∧ val L0 = a % 2 ^ (24 * i) * b) := ⟨hfill, hval⟩
    clear hfill hval HF
    by_cases ka : i < la.length
    · go_wp2_with fail
      go_loopw [7, 8, 9] (fun c j _ ws => ∃ (C J : Nat) (L : List Nat), C < 16777216 ∧ J ≤ la.length + lb.length ∧ c = .int .i64 C ∧ j = .int .i64 J ∧ Filled w ws w.heap.size (la.length + lb.length) L ∧ val L + C * (2 ^ (24 * i) * 2 ^ (24 * J)) = a % 2 ^ (24 * i) * b + dig la i * (b % 2 ^ (24 * J)) * 2 ^ (24 * i)) (fun _ j _ _ => la.length + lb.length - (intOf j).toNat)
      case atStart => exact ⟨0, 0, L0, by omega, Nat.zero_le _, rfl, rfl, HF0.out.1, by rw [HF0.out.2]; simp [Nat.mod_one]⟩
      case round =>
        obtain ⟨C, J, L, hC, hJ, rfl, rfl, hfl, hv⟩ := hrel
        have HL : Hid (Filled w wr w.heap.size (la.length + lb.length) L) := hfl
        have HV : Hid (val L + C * (2 ^ (24 * i) * 2 ^ (24 * J)) = a % 2 ^ (24 * i) * b + dig la i * (b % 2 ^ (24 * J)) * 2 ^ (24 * i)) := hv
        clear hfl hv
        have HAI : Hid (dig la i = a / 2 ^ (24 * i) % 16777216) := HDA.out i
        have HIN : Hid (0 < C → i + J < la.length + lb.length) := fun h => by rw [HNA.out, HNB.out]; exact times_in (by rw [← HNA.out]; exact ka) _ HAI.out HV.out h
        have HSTEP : Hid (∀ (D n bj : Nat), i + J < la.length + lb.length → D = dig L (i + J) → bj = b / 2 ^ (24 * J) % 16777216 → n = D + C + dig la i * bj → val (L.set (i + J) (n % 16777216)) + n / 16777216 * (2 ^ (24 * i) * 2 ^ (24 * (J + 1))) = a % 2 ^ (24 * i) * b + dig la i * (b % 2 ^ (24 * (J + 1))) * 2 ^ (24 * i)) := by
          intro D n bj hin hD hb hn
          have hs := val_set L (i + J) (n % 16777216) (by rw [HL.out.len]; exact hin)
          rw [← hD, Nat.mul_add 24, Nat.pow_add] at hs
          rw [mod_pow_succ b J, pow24, ← hb]
          exact times_step hs hn rfl HV.out
        have HROW : Hid (C = 0 → lb.length ≤ J → val L = a % 2 ^ (24 * (i + 1)) * b) := fun h0 h1 => times_row _ HAI.out (by rw [← HNB.out]; exact h1) (by rw [← h0]; exact HV.out)
        clear HV
        by_cases kb : J < lb.length
        · have hin : i + J < la.length + lb.length := by omega
          have c0 : wr.cell? ⟨w.heap.size, i + J, none⟩ = some (.int .i64 (dig L (i + J) : Nat)) := HL.out.cell hin
          have f0 : wr.frozen? ⟨w.heap.size, i + J, none⟩ = false := HL.out.own.frozenAt _
          have c1 : wr.cell? ⟨ga, i, none⟩ = some (.int .i64 (dig la i : Nat)) := (HL.out.below.cell (p := ⟨ga, i, none⟩) (HGA.out.2 (by omega))).trans (HA.out i ka)
          have c2 : wr.cell? ⟨gb, J, none⟩ = some (.int .i64 (dig lb J : Nat)) := (HL.out.below.cell (p := ⟨gb, J, none⟩) (HGB.out.2 (by omega))).trans (HB.out J kb)
          obtain rfl := HGA.out.1 (by omega)
          obtain rfl := HGB.out.1 (by omega)
          have x0 := dig_lt HL.out.dig (i + J)
          have x1 := HXA.out i
          have x2 := HXB.out J
          have hst := HSTEP.out _ _ _ hin rfl (HDB.out J) rfl
          have HST : Hid (val (L.set (i + J) ((dig L (i + J) + C + dig la i * dig lb J) % 16777216)) + (dig L (i + J) + C + dig la i * dig lb J) / 16777216 * (2 ^ (24 * i) * 2 ^ (24 * (J + 1))) = a % 2 ^ (24 * i) * b + dig la i * (b % 2 ^ (24 * (J + 1))) * 2 ^ (24 * i)) := hst
          clear hst HSTEP HROW HIN HAI
          generalize ht : i + J = t at *
          have hij : (i : Int) + J = (t : Int) := by omega
          generalize hD : dig L t = D at *
          obtain ⟨d, cc, x, y, N, hd, hcc, hx, hy, hNN, d0, d1, k0, k1, e1, HQ, HM, HSM⟩ := round_facts x0 hC x1 x2
          rw [← hNN] at HST
          rw [hd] at c0
          rw [hx] at c1
          rw [hy] at c2
          rw [hcc]
          clear hNN hd hx hy x0 x1 x2 hcc
          go_wp2_with fail
          go_quiet (fail)
          go_wp2_with fail
          go_roundw
          case rel => exact ⟨N / 16777216, J + 1, L.set t (N % 16777216), HSM.out, by omega, by rw [HQ.out], by go_num, by have := (HL.out.drawn nq).set t (N % 16777216) (Nat.mod_lt _ (by decide)); rw [← HM.out] at this; exact this, HST.out⟩
          case measure => simp [intOf]; omega
        · by_cases hc : 0 < C
          · have hin := HIN.out hc
            have c0 : wr.cell? ⟨w.heap.size, i + J, none⟩ = some (.int .i64 (dig L (i + J) : Nat)) := HL.out.cell hin
            have f0 : wr.frozen? ⟨w.heap.size, i + J, none⟩ = false := HL.out.own.frozenAt _
            have x0 := dig_lt HL.out.dig (i + J)
            have hz : dig lb J = 0 := dig_out (by omega)
            have hst := HSTEP.out _ (dig L (i + J) + C) 0 hin rfl (by rw [← HDB.out J, hz]) (by omega)
            have HST : Hid (val (L.set (i + J) ((dig L (i + J) + C) % 16777216)) + (dig L (i + J) + C) / 16777216 * (2 ^ (24 * i) * 2 ^ (24 * (J + 1))) = a % 2 ^ (24 * i) * b + dig la i * (b % 2 ^ (24 * (J + 1))) * 2 ^ (24 * i)) := hst
            clear hst hz HSTEP HROW HIN HAI
            generalize ht : i + J = t at *
            have hij : (i : Int) + J = (t : Int) := by omega
            generalize hD : dig L t = D at *
            have HSM : Hid ((D + C) / 16777216 < 16777216) := (by omega : (D + C) / 16777216 < 16777216)
            have HM : Hid ((((D + C) % 16777216 : Nat) : Int) = ((D : Int) + C) % 16777216) := n_mod D C 0
            have HQ : Hid ((((D + C) / 16777216 : Nat) : Int) = ((D : Int) + C) / 16777216) := n_div D C 0
            go_wp2_with fail
            go_roundw
            case rel => exact ⟨(D + C) / 16777216, J + 1, L.set t ((D + C) % 16777216), HSM.out, by omega, by rw [HQ.out], by go_num, by have := HL.out.set t ((D + C) % 16777216) (Nat.mod_lt _ (by decide)); rw [HM.out] at this; exact this, HST.out⟩
            case measure => simp [intOf]; omega
          · have hC0 : C = 0 := by omega
            have HR : Hid (val L = a % 2 ^ (24 * (i + 1)) * b) := HROW.out hC0 (by omega)
            clear HROW HIN HAI HSTEP
            subst hC0
            go_wp2_with fail
            go_roundw
            case rel => exact ⟨i + 1, L, by omega, by go_num, HL.out, HR.out⟩
            case measure => simp [intOf]; omega
    · obtain rfl : i = la.length := by omega
      go_wp2_with fail
      refine (trim_any _ _ _ HF0.out.1.row).mono ?_
      rintro e w' ⟨v', rfl, hv', rfl⟩
      have HV : Hid (IsNat w' v' (val L0)) := hv'
      clear hv'
      go_wp2_with fail
      go_ret
      refine ⟨_, rfl, ?_, HF0.out.1.below⟩
      have := HV.out
      rw [HF0.out.2, Nat.mod_eq_of_lt (lt_pow_nd (by rw [HNA.out]; exact Nat.le_refl _))] at this
      exact this


/-- What is lent, behind k digits of a difference. -/
def lent (a b k : Nat) : Nat := if a % 2 ^ (24 * k) < b % 2 ^ (24 * k) then 1 else 0
theorem lent_le (a b k : Nat) : lent a b k ≤ 1 := by unfold lent; split <;> omega
theorem lent_zero (a b : Nat) : lent a b 0 = 0 := by simp [lent, Nat.mod_one]
theorem lent_parts {P a b ap aq bp bq l : Nat} (ha : a = ap + P * aq) (hb : b = bp + P * bq) (hap : ap < P) (hbp : bp < P) (hl : l = if ap < bp then 1 else 0) (h : b ≤ a) : (a - b) / P + bq + l = aq := by
  have h1 : bq ≤ aq := by
    apply Classical.byContradiction
    intro hn
    have := Nat.mul_le_mul_left P (show aq + 1 ≤ bq by omega)
    rw [Nat.mul_add] at this
    omega
  obtain ⟨t, rfl⟩ : ∃ t, aq = bq + t := ⟨aq - bq, by omega⟩
  rw [Nat.mul_add] at ha
  by_cases hlt : ap < bp
  · rw [if_pos hlt] at hl
    have ht : t ≠ 0 := by intro h0; subst h0; omega
    obtain ⟨s, rfl⟩ : ∃ s, t = s + 1 := ⟨t - 1, by omega⟩
    rw [Nat.mul_add] at ha
    have e : a - b = (P + ap - bp) + P * s := by omega
    rw [e, Nat.add_mul_div_left _ _ (by omega), Nat.div_eq_of_lt (by omega)]
    omega
  · rw [if_neg hlt] at hl
    have e : a - b = (ap - bp) + P * t := by omega
    rw [e, Nat.add_mul_div_left _ _ (by omega), Nat.div_eq_of_lt (by omega)]
    omega
theorem lent_step {a b : Nat} (k : Nat) (h : b ≤ a) (X Y : Nat) (hX : X = a / 2 ^ (24 * k) % 16777216) (hY : Y = b / 2 ^ (24 * k) % 16777216) :
    (X < Y + lent a b k → (a - b) / 2 ^ (24 * k) % 16777216 + Y + lent a b k = X + 16777216 ∧ lent a b (k + 1) = 1) ∧ (¬ X < Y + lent a b k → (a - b) / 2 ^ (24 * k) % 16777216 + Y + lent a b k = X ∧ lent a b (k + 1) = 0) := by
  have hp := Nat.two_pow_pos (24 * k)
  have e := lent_parts (P := 2 ^ (24 * k)) (Nat.mod_add_div a (2 ^ (24 * k))).symm (Nat.mod_add_div b (2 ^ (24 * k))).symm (Nat.mod_lt _ hp) (Nat.mod_lt _ hp) rfl h
  rw [show (if a % 2 ^ (24 * k) < b % 2 ^ (24 * k) then 1 else 0) = lent a b k from rfl] at e
  have hl := lent_le a b k
  have hn : lent a b (k + 1) = if X < Y + lent a b k then 1 else 0 := by
    have h1 := mod_pow_succ a k
    have h2 := mod_pow_succ b k
    rw [← hX] at h1
    rw [← hY] at h2
    have m1 := Nat.mod_lt a hp
    have m2 := Nat.mod_lt b hp
    conv => lhs; unfold lent
    rw [h1, h2]
    have hlent : lent a b k = if a % 2 ^ (24 * k) < b % 2 ^ (24 * k) then 1 else 0 := rfl
    rw [hlent]
    generalize a % 2 ^ (24 * k) = ap at *
    generalize b % 2 ^ (24 * k) = bp at *
    generalize 2 ^ (24 * k) = P at *
    clear h1 h2 e hlent hX hY hl
    by_cases hxy : X = Y
    · subst hxy
      by_cases hlt : ap < bp
      · rw [if_pos hlt, if_pos (by omega), if_pos (by omega)]
      · rw [if_neg hlt, if_neg (by omega), if_neg (by omega)]
    · by_cases hl : X < Y
      · have := Nat.mul_le_mul_left P (show X + 1 ≤ Y by omega)
        rw [Nat.mul_add] at this
        rw [if_pos (by omega), if_pos (by omega)]
      · have := Nat.mul_le_mul_left P (show Y + 1 ≤ X by omega)
        rw [Nat.mul_add] at this
        rw [if_neg (by omega), if_neg]
        split <;> omega
  rw [hn]
  constructor
  · intro hc; rw [if_pos hc]; omega
  · intro hc; rw [if_neg hc]; omega

/-- The state of minus behind k digits. -/
structure MinusAt (w wr : World) (v : Value) (a b k : Nat) : Prop where
  own : wr.ownsRow w.heap.size 3 1 v k (ints (low (a - b) k))
  below : Below w.heap.size w wr
theorem MinusAt.more {w wr w1 : World} {v v' : Value} {a b k : Nat} {n : Int} {o : Obj} (h : MinusAt w wr v a b k) (hn : n = ((a - b) / 2 ^ (24 * k) % 16777216 : Nat))
    (h1 : w1.ownsRow w.heap.size 3 1 v' (k + 1) (ints (low (a - b) k) ++ [.int .i64 n])) (hg : (wr.alloc o).grownBy w1 v.ownBlock) : MinusAt w w1 v' a b (k + 1) := by
  have hk' := low_length (a - b) k
  have := push (l := low (a - b) k) (d := (a - b) / 2 ^ (24 * k) % 16777216) (by rw [hk']; exact h.own.alloc o) (by rw [hk']; subst hn; exact h1) hg (h.below.alloc h.below.size _) (Nat.le_refl _)
  rw [show low (a - b) k ++ [(a - b) / 2 ^ (24 * k) % 16777216] = low (a - b) (k + 1) from rfl, low_length] at this
  exact ⟨this.1, this.2⟩
theorem MinusAt.row {w wr : World} {v : Value} {a b k : Nat} (h : MinusAt w wr v a b k) : IsRow wr v (low (a - b) k) := IsRow.own (low_digits _ _) (by rw [low_length]; exact h.own)

set_option maxHeartbeats 2000000 in
theorem minus_any (a b : Nat) (va vb : Value) (w : World) (hab : b ≤ a) (ha : IsNat w va a) (hb : IsNat w vb b) (sa : nd a ≤ 100000) :
    Calls Tryz.prog 77 #[va, vb] w fun e w' => ∃ v, e = .returned v ∧ IsNat w' v (a - b) ∧ Below w.heap.size w w' := by
  obtain ⟨la, ra, ea, na⟩ := ha
  obtain ⟨lb, rb, eb, nb⟩ := hb
  have da := val_dig ra.1
  have db := val_dig rb.1
  have xa := dig_lt ra.1
  have xb := dig_lt rb.1
  have HE : Hid ((a - b) % 2 ^ (24 * la.length) = a - b) := Nat.mod_eq_of_lt (Nat.lt_of_le_of_lt (Nat.sub_le _ _) (by rw [na]; exact nd_lt a))
  have hlen : lb.length ≤ la.length := by rw [na, nb]; exact nd_mono hab
  obtain ⟨A, capa, ga, rfl, _, _, hA, hgA, cA⟩ := ra.open
  obtain ⟨B, capb, gb, rfl, _, _, hB, hgB, cB⟩ := rb.open
  rw [ea] at da
  rw [eb] at db
  obtain ⟨i0, hi, hz0, hz1, hz2⟩ := info_parts infoInt
  have HA : Hid (∀ j, j < la.length → w.cell? ⟨ga, j, none⟩ = some (.int .i64 (dig la j : Nat))) := cA
  have HB : Hid (∀ j, j < lb.length → w.cell? ⟨gb, j, none⟩ = some (.int .i64 (dig lb j : Nat))) := cB
  have HGA : Hid ((0 < la.length → A = some ⟨ga, 0, none⟩) ∧ (0 < la.length → ga < w.heap.size)) := ⟨hA, hgA⟩
  have HGB : Hid ((0 < lb.length → B = some ⟨gb, 0, none⟩) ∧ (0 < lb.length → gb < w.heap.size)) := ⟨hB, hgB⟩
  have HXA : Hid (∀ k, dig la k < 16777216) := xa
  have HXB : Hid (∀ k, dig lb k < 16777216) := xb
  have HST : Hid (∀ k, (dig la k < dig lb k + lent a b k → (a - b) / 2 ^ (24 * k) % 16777216 + dig lb k + lent a b k = dig la k + 16777216 ∧ lent a b (k + 1) = 1) ∧ (¬ dig la k < dig lb k + lent a b k → (a - b) / 2 ^ (24 * k) % 16777216 + dig lb k + lent a b k = dig la k ∧ lent a b (k + 1) = 0)) := fun k => lent_step k hab _ _ (da k) (db k)
  rw [← na] at sa
  clear ra rb ea eb da db cA cB hA hB hgA hgB na nb xa xb hab
  go_enter Tryz.func77, Tryz.ntmps77
  go_wp2_with fail
  go_loopw [5, 6, 7, 8] (fun v c i _ wr => ∃ k : Nat, k ≤ la.length ∧ i = .int .i64 k ∧ c = .int .i64 (lent a b k : Nat) ∧ MinusAt w wr v a b k) (fun _ _ i _ _ => la.length - (intOf i).toNat)
  case atStart => exact ⟨0, by omega, rfl, by rw [lent_zero]; rfl, World.ownsRow_nil _ _ _ _, Below.refl _ _⟩
  case round =>
    obtain ⟨k, hk, rfl, rfl, hP⟩ := hrel
    have HP : Hid (MinusAt w wr u5 a b k) := hP
    have hl1 := lent_le a b k
    have hst := HST.out k
    clear hP
    by_cases ka : k < la.length
    · have HPush : Hid (∀ (w1 : World) (v' : Value) (o : Obj) (n : Int), n = ((a - b) / 2 ^ (24 * k) % 16777216 : Nat) → w1.ownsRow w.heap.size 3 1 v' (k + 1) (ints (low (a - b) k) ++ [.int .i64 n]) → (wr.alloc o).grownBy w1 u5.ownBlock → MinusAt w w1 v' a b (k + 1)) :=
        fun w1 v' o n h2 h3 h4 => HP.out.more h2 h3 h4
      generalize (a - b) / 2 ^ (24 * k) % 16777216 = D at *
      have c1 : wr.cell? ⟨ga, k, none⟩ = some (.int .i64 (dig la k : Nat)) := (HP.out.below.cell (p := ⟨ga, k, none⟩) (HGA.out.2 (by omega))).trans (HA.out k ka)
      have x1 := HXA.out k
      obtain rfl := HGA.out.1 (by omega)
      by_cases kb : k < lb.length
      · have c2 : wr.cell? ⟨gb, k, none⟩ = some (.int .i64 (dig lb k : Nat)) := (HP.out.below.cell (p := ⟨gb, k, none⟩) (HGB.out.2 (by omega))).trans (HB.out k kb)
        have x2 := HXB.out k
        obtain rfl := HGB.out.1 (by omega)
        generalize dig la k = X at *
        generalize dig lb k = Y at *
        by_cases hlt : X < Y + lent a b k
        · obtain ⟨e1, e2⟩ := hst.1 hlt
          have HE2 : Hid (lent a b (k + 1) = 1) := e2
          clear e2 hst
          generalize lent a b k = C at *
          have hneg : (X : Int) - C - Y < 0 := by omega
          go_wp2_with (at_builtin; refine wpList_append_own _ rfl _ _ 61 rfl w.heap.size 3 i0 (.int .i64 0) 1 8 Tryz.underlying61 hi hz0 hz1 hz2 rfl (by decide) _ _ _ rfl (HP.out.own.alloc _) ⟨wr.heap.size, 0, none⟩ 1 1 [.int .i64 ((X : Int) - C - Y + 16777216)] rfl rfl ?d1a ?d2a ?d3a ?d4a ?d5a ?_)
          all_goals try exact one_cell (by go_simp)
          case d2a => first | rfl | (intro u hu; simp at hu; subst hu; rfl)
          case d3a => unfold maxLen; omega
          case d4a => omega
          case d5a => have := HP.out.below.size; simp; omega
          intro v' w1 hown1 hg1 _
          have HR : Hid (MinusAt w w1 v' a b (k + 1)) := HPush.out w1 v' _ _ (by omega) hown1 hg1
          clear hown1 hg1
          go_wp2_with fail
          go_roundw
          case rel => exact ⟨k + 1, by omega, by go_num, by rw [HE2.out]; rfl, HR.out⟩
          case measure => simp [intOf]; omega
        · obtain ⟨e1, e2⟩ := hst.2 hlt
          have HE2 : Hid (lent a b (k + 1) = 0) := e2
          clear e2 hst
          generalize lent a b k = C at *
          have hneg : ¬ (X : Int) - C - Y < 0 := by omega
          go_wp2_with (at_builtin; refine wpList_append_own _ rfl _ _ 61 rfl w.heap.size 3 i0 (.int .i64 0) 1 8 Tryz.underlying61 hi hz0 hz1 hz2 rfl (by decide) _ _ _ rfl (HP.out.own.alloc _) ⟨wr.heap.size, 0, none⟩ 1 1 [.int .i64 ((X : Int) - C - Y)] rfl rfl ?d1b ?d2b ?d3b ?d4b ?d5b ?_)
          all_goals try exact one_cell (by go_simp)
          case d2b => first | rfl | (intro u hu; simp at hu; subst hu; rfl)
          case d3b => unfold maxLen; omega
          case d4b => omega
          case d5b => have := HP.out.below.size; simp; omega
          intro v' w1 hown1 hg1 _
          have HR : Hid (MinusAt w w1 v' a b (k + 1)) := HPush.out w1 v' _ _ (by omega) hown1 hg1
          clear hown1 hg1
          go_wp2_with fail
          go_roundw
          case rel => exact ⟨k + 1, by omega, by go_num, by rw [HE2.out]; rfl, HR.out⟩
          case measure => simp [intOf]; omega
      · have z2 : dig lb k = 0 := dig_out (by omega)
        rw [z2] at hst
        clear z2
        simp only [Nat.zero_add, Nat.add_zero] at hst
        generalize dig la k = X at *
        by_cases hlt : X < lent a b k
        · obtain ⟨e1, e2⟩ := hst.1 hlt
          have HE2 : Hid (lent a b (k + 1) = 1) := e2
          clear e2 hst
          generalize lent a b k = C at *
          have hneg : (X : Int) - C < 0 := by omega
          go_wp2_with (at_builtin; refine wpList_append_own _ rfl _ _ 61 rfl w.heap.size 3 i0 (.int .i64 0) 1 8 Tryz.underlying61 hi hz0 hz1 hz2 rfl (by decide) _ _ _ rfl (HP.out.own.alloc _) ⟨wr.heap.size, 0, none⟩ 1 1 [.int .i64 ((X : Int) - C + 16777216)] rfl rfl ?d1c ?d2c ?d3c ?d4c ?d5c ?_)
          all_goals try exact one_cell (by go_simp)
          case d2c => first | rfl | (intro u hu; simp at hu; subst hu; rfl)
          case d3c => unfold maxLen; omega
          case d4c => omega
          case d5c => have := HP.out.below.size; simp; omega
          intro v' w1 hown1 hg1 _
          have HR : Hid (MinusAt w w1 v' a b (k + 1)) := HPush.out w1 v' _ _ (by omega) hown1 hg1
          clear hown1 hg1
          go_wp2_with fail
          go_roundw
          case rel => exact ⟨k + 1, by omega, by go_num, by rw [HE2.out]; rfl, HR.out⟩
          case measure => simp [intOf]; omega
        · obtain ⟨e1, e2⟩ := hst.2 hlt
          have HE2 : Hid (lent a b (k + 1) = 0) := e2
          clear e2 hst
          generalize lent a b k = C at *
          have hneg : ¬ (X : Int) - C < 0 := by omega
          go_wp2_with (at_builtin; refine wpList_append_own _ rfl _ _ 61 rfl w.heap.size 3 i0 (.int .i64 0) 1 8 Tryz.underlying61 hi hz0 hz1 hz2 rfl (by decide) _ _ _ rfl (HP.out.own.alloc _) ⟨wr.heap.size, 0, none⟩ 1 1 [.int .i64 ((X : Int) - C)] rfl rfl ?d1d ?d2d ?d3d ?d4d ?d5d ?_)
          all_goals try exact one_cell (by go_simp)
          case d2d => first | rfl | (intro u hu; simp at hu; subst hu; rfl)
          case d3d => unfold maxLen; omega
          case d4d => omega
          case d5d => have := HP.out.below.size; simp; omega
          intro v' w1 hown1 hg1 _
          have HR : Hid (MinusAt w w1 v' a b (k + 1)) := HPush.out w1 v' _ _ (by omega) hown1 hg1
          clear hown1 hg1
          go_wp2_with fail
          go_roundw
          case rel => exact ⟨k + 1, by omega, by go_num, by rw [HE2.out]; rfl, HR.out⟩
          case measure => simp [intOf]; omega
    · obtain rfl : k = la.length := by omega
      clear hst hl1
      go_wp2_with fail
      refine (trim_any _ _ _ HP.out.row).mono ?_
      rintro e w' ⟨v', rfl, hv', rfl⟩
      have HV : Hid (IsNat w' v' (val (low (a - b) la.length))) := hv'
      clear hv'
      go_wp2_with fail
      go_ret
      refine ⟨_, rfl, ?_, HP.out.below⟩
      have := HV.out
      rw [low_val, HE.out] at this
      exact this

def cmpI (a b : Nat) : Int := if a < b then -1 else if a = b then 0 else 1
theorem cmpI_lt {a b : Nat} (h : a < b) : cmpI a b = -1 := by unfold cmpI; rw [if_pos h]
theorem cmpI_gt {a b : Nat} (h : b < a) : cmpI a b = 1 := by unfold cmpI; rw [if_neg (by omega), if_neg (by omega)]
theorem cmpI_eq {a b : Nat} (h : a = b) : cmpI a b = 0 := by unfold cmpI; rw [if_neg (by omega), if_pos h]
theorem nd_lt_lt {a b : Nat} (h : nd a < nd b) : a < b := by
  apply Classical.byContradiction
  intro hn
  have := nd_mono (show b ≤ a by omega)
  omega
theorem upper_lt {a b k : Nat} (h : a / 2 ^ (24 * (k + 1)) = b / 2 ^ (24 * (k + 1))) (hd : a / 2 ^ (24 * k) % 16777216 < b / 2 ^ (24 * k) % 16777216) : a < b := by
  apply Classical.byContradiction
  intro hn
  have h1 := Nat.div_le_div_right (c := 2 ^ (24 * k)) (show b ≤ a by omega)
  rw [pow24, Nat.mul_comm 16777216, ← Nat.div_div_eq_div_mul, ← Nat.div_div_eq_div_mul] at h
  omega
theorem upper_eq {a b k : Nat} (h : a / 2 ^ (24 * (k + 1)) = b / 2 ^ (24 * (k + 1))) (hd : a / 2 ^ (24 * k) % 16777216 = b / 2 ^ (24 * k) % 16777216) : a / 2 ^ (24 * k) = b / 2 ^ (24 * k) := by
  rw [pow24, Nat.mul_comm 16777216, ← Nat.div_div_eq_div_mul, ← Nat.div_div_eq_div_mul] at h
  omega

set_option maxHeartbeats 2000000 in
theorem cmp_any (a b : Nat) (va vb : Value) (w : World) (ha : IsNat w va a) (hb : IsNat w vb b) (sa : nd a ≤ 100000) (sb : nd b ≤ 100000) :
    Calls Tryz.prog 76 #[va, vb] w fun e w' => e = .returned (.int .i64 (cmpI a b)) ∧ Below w.heap.size w w' := by
  obtain ⟨la, ra, ea, na⟩ := ha
  obtain ⟨lb, rb, eb, nb⟩ := hb
  have da := val_dig ra.1
  have db := val_dig rb.1
  obtain ⟨A, capa, ga, rfl, _, _, hA, hgA, cA⟩ := ra.open
  obtain ⟨B, capb, gb, rfl, _, _, hB, hgB, cB⟩ := rb.open
  rw [ea] at da
  rw [eb] at db
  by_cases hne : la.length = lb.length
  · have HA : Hid (∀ j, j < la.length → w.cell? ⟨ga, j, none⟩ = some (.int .i64 (dig la j : Nat))) := cA
    have HB : Hid (∀ j, j < la.length → w.cell? ⟨gb, j, none⟩ = some (.int .i64 (dig lb j : Nat))) := by rw [hne]; exact cB
    have HGA : Hid ((0 < la.length → A = some ⟨ga, 0, none⟩) ∧ (0 < la.length → ga < w.heap.size)) := ⟨hA, hgA⟩
    have HGB : Hid ((0 < la.length → B = some ⟨gb, 0, none⟩) ∧ (0 < la.length → gb < w.heap.size)) := by rw [hne]; exact ⟨hB, hgB⟩
    have HDA : Hid (∀ k, dig la k = a / 2 ^ (24 * k) % 16777216) := da
    have HDB : Hid (∀ k, dig lb k = b / 2 ^ (24 * k) % 16777216) := db
    have HTop : Hid (a / 2 ^ (24 * la.length) = b / 2 ^ (24 * la.length)) := (by
      rw [Nat.div_eq_of_lt (by rw [na]; exact nd_lt a), Nat.div_eq_of_lt (by rw [hne, nb]; exact nd_lt b)] : a / 2 ^ (24 * la.length) = b / 2 ^ (24 * la.length))
    rw [← na] at sa
    rw [← hne]
    have hsub : wrap64 ((la.length : Int) - 1) = (la.length : Int) - 1 := by unfold wrap64; omega
    clear ra rb ea eb da db cA cB hA hB hgA hgB na nb sb hne
    go_enter Tryz.func76, Tryz.ntmps76
    go_wp2_with fail
    go_loopw [5] (fun i wr => ∃ k : Nat, k ≤ la.length ∧ i = .int .i64 ((k : Int) - 1) ∧ a / 2 ^ (24 * k) = b / 2 ^ (24 * k) ∧ Below w.heap.size w wr) (fun i _ => (intOf i + 1).toNat)
    case atStart => exact ⟨la.length, Nat.le_refl _, rfl, HTop.out, Below.refl _ _⟩
    case round =>
      obtain ⟨k, hk, rfl, hup, hbel⟩ := hrel
      have HU : Hid (a / 2 ^ (24 * k) = b / 2 ^ (24 * k)) := hup
      have HBW : Hid (Below w.heap.size w wr) := hbel
      clear hup hbel hsub
      by_cases h0 : k = 0
      · subst h0
        have hE : cmpI a b = 0 := cmpI_eq (by have := HU.out; simpa using this)
        have HZ : Hid (cmpI a b = 0) := hE
        clear hE
        go_wp2
        go_ret
        exact ⟨ret_int HZ.out.symm, HBW.out⟩
      · obtain ⟨j, rfl⟩ : ∃ j, k = j + 1 := ⟨k - 1, by omega⟩
        have e1 : ((j + 1 : Nat) : Int) - 1 = j := by omega
        rw [e1]
        have c1 : wr.cell? ⟨ga, j, none⟩ = some (.int .i64 (dig la j : Nat)) := (HBW.out.cell (p := ⟨ga, j, none⟩) (HGA.out.2 (by omega))).trans (HA.out j (by omega))
        have c2 : wr.cell? ⟨gb, j, none⟩ = some (.int .i64 (dig lb j : Nat)) := (HBW.out.cell (p := ⟨gb, j, none⟩) (HGB.out.2 (by omega))).trans (HB.out j (by omega))
        obtain rfl := HGA.out.1 (by omega)
        obtain rfl := HGB.out.1 (by omega)
        have HLt : Hid (dig la j < dig lb j → a < b) := fun h => upper_lt HU.out (by rw [← HDA.out, ← HDB.out]; exact h)
        have HGt : Hid (dig lb j < dig la j → b < a) := fun h => upper_lt HU.out.symm (by rw [← HDA.out, ← HDB.out]; exact h)
        have HEq : Hid (dig la j = dig lb j → a / 2 ^ (24 * j) = b / 2 ^ (24 * j)) := fun h => upper_eq HU.out (by rw [← HDA.out, ← HDB.out]; exact h)
        generalize dig la j = X at *
        generalize dig lb j = Y at *
        by_cases hxy : X = Y
        · subst hxy
          have hb1 : ((X : Int) != X) = false := bne_self_eq_false _
          have HE : Hid (a / 2 ^ (24 * j) = b / 2 ^ (24 * j)) := HEq.out rfl
          clear HLt HGt HEq
          go_wp2_with fail
          go_quiet (fail)
          go_wp2_with fail
          go_roundw
          case rel => exact ⟨j, by omega, by go_num, HE.out, below_drewN HBW.out _⟩
          case measure => simp [intOf]
        · have hb1 : ((X : Int) != Y) = true := by simp; omega
          by_cases hlt : X < Y
          · have HZ : Hid (cmpI a b = -1) := cmpI_lt (HLt.out hlt)
            have hlt' : (X : Int) < Y := by omega
            clear HLt HGt HEq
            go_wp2_with fail
            go_quiet (fail)
            go_wp2_with fail
            go_quiet (fail)
            go_wp2_with fail
            go_ret
            exact ⟨ret_int HZ.out.symm, below_drewN (below_drewN HBW.out _) _⟩
          · have HZ : Hid (cmpI a b = 1) := cmpI_gt (HGt.out (by omega))
            have hlt' : ¬ (X : Int) < Y := by omega
            clear HLt HGt HEq
            go_wp2_with fail
            go_quiet (fail)
            go_wp2_with fail
            go_quiet (fail)
            go_wp2_with fail
            go_ret
            exact ⟨ret_int HZ.out.symm, below_drewN (below_drewN HBW.out _) _⟩
  · have hb1 : ((la.length : Int) != lb.length) = true := by simp; omega
    by_cases hlt : la.length < lb.length
    · rw [cmpI_lt (nd_lt_lt (by omega))]
      clear ra rb da db cA cB hA hB hgA hgB na nb
      go_enter Tryz.func76, Tryz.ntmps76
      go_wp2
      go_ret
      exact ⟨rfl, Below.refl _ _⟩
    · rw [cmpI_gt (nd_lt_lt (by omega))]
      clear ra rb da db cA cB hA hB hgA hgB na nb
      go_enter Tryz.func76, Tryz.ntmps76
      go_wp2
      go_ret
      exact ⟨rfl, Below.refl _ _⟩


theorem owns_later {w w' : World} {base : Nat} {e : TypeId} {size : Nat} {v : Value} {n : Nat} {xs : List Value} (h : w.ownsRow base e size v n xs) (hb : Below w.heap.size w w') : w'.ownsRow base e size v n xs := by
  refine ⟨h.1, ?_⟩
  rcases h.2 with hn | ⟨g, cap, cur, hv, hbg, hg, rest⟩
  · exact .inl hn
  · have hl : g < w.heap.size := (h.lt g (by rw [hv]; rfl)).2
    exact .inr ⟨g, cap, cur, hv, hbg, (hb.block g hl).trans hg, rest⟩

/-- A power of two below the base, as the walk has it. -/
theorem shl_fact (s : Nat) (h : s < 25) : ∃ P : Nat, wrap64 ((2 : Int) ^ s) = (P : Int) ∧ Hid (P = 2 ^ s) ∧ 0 < P ∧ P ≤ 16777216 := by
  have h1 : 2 ^ s ≤ 2 ^ 24 := Nat.pow_le_pow_right (by decide) (by omega)
  have h2 := Nat.two_pow_pos s
  refine ⟨2 ^ s, ?_, rfl, h2, h1⟩
  have e : (2 : Int) ^ s = ((2 ^ s : Nat) : Int) := by rw [Int.natCast_pow]; rfl
  rw [e]
  exact wrap64_small _ (by omega) (by omega)
theorem nd_mul_le (a b : Nat) : nd (a * b) ≤ nd a + nd b := by
  apply nd_of_lt
  rw [Nat.mul_add, Nat.pow_add]
  exact Nat.mul_lt_mul'' (nd_lt a) (nd_lt b)
theorem nd_shift {m n : Nat} (h : m ≠ 0) : nd (2 ^ (24 * n) * m) = n + nd m := by
  have h1 := nd_lt m
  have h2 := nd_le h
  have h3 := nd_pos h
  apply nd_eq
  · rw [Nat.mul_add, Nat.pow_add]
    exact Nat.mul_lt_mul_of_pos_left h1 (Nat.two_pow_pos _)
  · intro _
    rw [show 24 * (n + nd m - 1) = 24 * n + 24 * (nd m - 1) by omega, Nat.pow_add]
    exact Nat.mul_le_mul_left _ h2
theorem split24 (k : Nat) : 2 ^ (k % 24) * 2 ^ (24 * (k / 24)) = 2 ^ k := by rw [← Nat.pow_add]; congr 1; omega
theorem ints_app (l m : List Nat) : ints (l ++ m) = ints l ++ ints m := by simp [ints]
theorem ints_cells {l : List Nat} {w : World} {g : Nat} (h : ∀ j, j < l.length → w.cell? ⟨g, j, none⟩ = some (.int .i64 (dig l j : Nat))) : ∀ j u, (ints l)[j]? = some u → w.cell? ((⟨g, 0, none⟩ : Addr).add j) = some u := by
  intro j u hj
  have hl : j < l.length := by
    have := (List.getElem?_eq_some_iff.1 hj).1
    rw [ints_length] at this
    exact this
  rw [ints_at hl] at hj
  cases hj
  have := h j hl
  rw [Addr.add_lit, Nat.zero_add]
  exact this
theorem ints_one (l : List Nat) : ∀ u ∈ ints l, u.oneCell' = true := by
  intro u hu
  unfold ints at hu
  obtain ⟨d, _, rfl⟩ := List.mem_map.1 hu
  rfl

set_option maxHeartbeats 1000000 in
theorem up_any (a k : Nat) (va : Value) (w : World) (ha : IsNat w va a) (sa : nd a ≤ 10000) (hk : k ≤ 100000) :
    Calls Tryz.prog 71 #[va, .int .i64 (k : Nat)] w fun e w' => ∃ v, e = .returned v ∧ IsNat w' v (a * 2 ^ k) ∧ Below w.heap.size w w' := by
  have ha' := ha
  obtain ⟨la, ra, ea, na⟩ := ha
  obtain ⟨A, capa, ga, rfl, _, _, hA, hgA, cA⟩ := ra.open
  by_cases h0 : la.length = 0
  · have hz : a * 2 ^ k = 0 := by
      have := List.eq_nil_of_length_eq_zero h0
      subst this
      rw [← ea]
      simp [val]
    rw [h0, hz]
    clear ra ea na hA hgA cA sa hk ha'
    go_enter Tryz.func71, Tryz.ntmps71
    go_wp2
    go_ret
    exact ⟨_, rfl, IsNat.nil _, Below.refl _ _⟩
  · have h0b : ((la.length : Int) == 0) = false := by rw [beq_eq_false_iff_ne]; omega
    have HA : Hid (IsNat w (.slice A la.length capa) a) := ha'
    have HNE : Hid (a ≠ 0) := fun h => by rw [h, nd_zero] at na; omega
    obtain ⟨i0, hi, hz0, hz1, hz2⟩ := info_parts infoInt
    clear ra ea na hA hgA cA ha'
    go_enter Tryz.func71, Tryz.ntmps71
    go_wp2_with (at_make; refine wpList_make_full _ rfl _ _ 61 rfl w.heap.size 3 i0 (.int .i64 0) 1 Tryz.underlying61 hi hz0 hz1 _ _ _ _ (k / 24) rfl rfl ?m1 ?m2 ?m3 ?m4 ?m5 ?_)
    case m1 => omega
    case m2 => omega
    case m3 => rw [hz2]; omega
    case m4 => unfold maxLen; omega
    case m5 => exact Nat.le_refl _
    intro w1 hown1 hg1
    have HF : Hid (Filled w w1 w.heap.size (k / 24) (List.replicate (k / 24) 0)) := Filled.made hown1 hg1
    clear hown1 hg1
    obtain ⟨P, hP, HPe, hP0, hP1⟩ := shl_fact (k % 24) (by omega)
    go_wp2_with fail
    refine (nat_any P (by omega) _).mono ?_
    rintro e w2 ⟨vp, rfl, hnp, hb2⟩
    have HP : Hid (IsNat w2 vp P) := hnp
    have HB2 : Hid (Below w1.heap.size w1 w2) := hb2
    have HW2 : Hid (Below w.heap.size w w2) := HF.out.below.trans (hb2.mono HF.out.below.size)
    clear hnp hb2
    go_wp2_with fail
    refine (times_any a P _ _ _ (HA.out.later HW2.out) HP.out (by omega) (by have := nd_of_lt (n := P) (k := 2) (by omega); omega)).mono ?_
    rintro e w3 ⟨vd, rfl, hnd, hb3⟩
    have HD : Hid (IsNat w3 vd (a * P)) := hnd
    have HW3 : Hid (Below w.heap.size w w3) := HW2.out.trans (hb3.mono HW2.out.size)
    have HO : Hid (w3.ownsRow w.heap.size 3 1 (.slice (some ⟨w.heap.size, 0, none⟩) (k / 24) (k / 24)) (k / 24) (ints (List.replicate (k / 24) 0))) := owns_later (owns_later HF.out.own HB2.out) hb3
    have hsz := HF.out.below.size
    have hsz2 := HB2.out.size
    have hsz3 := hb3.size
    have hlow := (HF.out.own.lt _ rfl).2
    clear hnd hb3
    obtain ⟨ld, rd, ed, ndd⟩ := HD.out
    have hap : a * P ≠ 0 := Nat.mul_ne_zero HNE.out (by omega)
    have hlp := nd_pos hap
    have hdb : ld.length ≤ 20000 := by
      rw [ndd]
      have h1 := nd_mul_le a P
      have h2 := nd_of_lt (n := P) (k := 2) (by omega)
      omega
    obtain ⟨Ad, capd, gd, rfl, _, _, hAd, hgd, cd⟩ := rd.open
    obtain rfl := hAd (by omega)
    have HC : Hid (∀ j, j < ld.length → w3.cell? ⟨gd, j, none⟩ = some (.int .i64 (dig ld j : Nat))) := cd
    have HR : Hid (Digits ld ∧ val ld = a * P ∧ ld.length = nd (a * P)) := ⟨rd.1, ed, ndd⟩
    clear rd ed ndd hAd hgd cd hlp hap
    go_wp2_with (at_builtin; refine wpList_append_own _ rfl _ _ 61 rfl w.heap.size 3 i0 (.int .i64 0) 1 8 Tryz.underlying61 hi hz0 hz1 hz2 rfl (by decide) _ _ _ rfl HO.out ⟨gd, 0, none⟩ ld.length capd (ints ld) rfl (by rw [ints_length, Nat.mul_one]) (ints_cells HC.out) (ints_one ld) ?d3 ?d4 ?d5 ?_)
    case d3 => unfold maxLen; omega
    case d4 => omega
    case d5 => omega
    intro v' w4 hown4 hg4 _
    have HE : Hid (IsNat w4 v' (a * 2 ^ k) ∧ Below w.heap.size w w4) := by
      have h1 := HR.out.2.1
      have hle : (List.replicate (k / 24) 0 ++ ld).length = k / 24 + ld.length := by rw [List.length_append, List.length_replicate]
      have hv : val (List.replicate (k / 24) 0 ++ ld) = a * 2 ^ k := by
        rw [val_app, val_zeros, List.length_replicate, h1, HPe.out, Nat.zero_add, Nat.mul_comm, Nat.mul_assoc, split24]
      refine ⟨⟨List.replicate (k / 24) 0 ++ ld, IsRow.own (base := w.heap.size) (e := 3) ((zeros_digits _).app HR.out.1) ?_, hv, ?_⟩, HW3.out.grown hg4 (by omega) (fun j hj => (HO.out.lt j hj).1)⟩
      · rw [hle, ints_app]; exact hown4
      · rw [hle, ← hv, val_app, val_zeros, List.length_replicate, Nat.zero_add, nd_shift (by rw [h1]; exact Nat.mul_ne_zero HNE.out (by omega)), h1, HR.out.2.2]
    clear hown4 hg4
    go_wp2_with fail
    go_ret
    exact ⟨_, rfl, HE.out.1, HE.out.2⟩

end Go.Proofs.YtcjihaafohnbeaaGreatDoor
