import Derived.Test.YtfbdgecanfmgiaaDoorRefE
import Derived.Deep.QuietTactic
namespace Go.Proofs.YtfbdgecanfmgiaaDoor
open Go.RowKit

theorem ints_set (l : List Nat) (k d : Nat) : (ints l).set k (.int .i64 d) = ints (l.set k d) := by unfold ints; rw [List.map_set]
theorem ints_zeros (n : Nat) : List.replicate n (Value.int .i64 0) = ints (List.replicate n 0) := by unfold ints; rw [List.map_replicate]; rfl
theorem zeros_digits (n : Nat) : Digits (List.replicate n 0) := by
  intro x hx
  rw [List.mem_replicate] at hx
  omega
/-- The row that times fills. -/
structure Filled (w wr : World) (g n : Nat) (L : List Nat) : Prop where
  own : wr.ownsRow w.heap.size 3 1 (.slice (some ⟨g, 0, none⟩) n n) n (ints L)
  below : Below w.heap.size w wr
  dig : Digits L
  len : L.length = n
theorem Filled.drawn {w wr : World} {g n : Nat} {L : List Nat} (h : Filled w wr g n L) (k : Nat) : Filled w (wr.drewN k) g n L := ⟨h.own, below_drewN h.below k, h.dig, h.len⟩
theorem Filled.made {w w1 : World} {n : Nat} (h : w1.ownsRow w.heap.size 3 1 (.slice (some ⟨w.heap.size, 0, none⟩) n n) n (madeCells #[Value.int .i64 0] n).toList) (hg : w.grownBy w1 none) : Filled w w1 w.heap.size n (List.replicate n 0) := by
  refine ⟨?_, (Below.refl _ _).grown hg (Nat.le_refl _) (fun j hj => by cases hj), zeros_digits n, List.length_replicate⟩
  rw [← ints_zeros]
  rw [toList_madeCells_one] at h
  exact h
theorem Filled.set {w wr : World} {g n : Nat} {L : List Nat} (h : Filled w wr g n L) (k d : Nat) (hd : d < 16777216) : Filled w (wr.setCell ⟨g, k, none⟩ (.int .i64 d)) g n (L.set k d) := by
  have hs := h.own.stored k (.int .i64 d)
  refine ⟨by rw [← ints_set]; exact hs.1, h.below.setCell (h.own.lt g rfl).1 _, h.dig.set k hd, by rw [List.length_set]; exact h.len⟩
theorem Filled.row {w wr : World} {g n : Nat} {L : List Nat} (h : Filled w wr g n L) : IsRow wr (.slice (some ⟨g, 0, none⟩) n n) L := IsRow.own h.dig (by rw [h.len]; exact h.own)
theorem Filled.cell {w wr : World} {g n : Nat} {L : List Nat} (h : Filled w wr g n L) {k : Nat} (hk : k < n) : wr.cell? ⟨g, k, none⟩ = some (.int .i64 (Proofs.YtfbdgecanfmgiaaDoor.dig L k : Nat)) := by
  rw [h.own.cellAt k (by omega)]
  exact ints_at (by rw [h.len]; exact hk)

theorem n_mod (D C p : Nat) : (((D + C + p) % 16777216 : Nat) : Int) = ((D : Int) + C + p) % 16777216 := by omega
theorem n_div (D C p : Nat) : (((D + C + p) / 16777216 : Nat) : Int) = ((D : Int) + C + p) / 16777216 := by omega
theorem p_le {X Y : Nat} (hX : X < 16777216) (hY : Y < 16777216) : X * Y ≤ 281474943156225 := by
  have h := Nat.mul_le_mul (show X ≤ 16777215 by omega) (show Y ≤ 16777215 by omega)
  rw [show 16777215 * 16777215 = 281474943156225 by decide] at h
  exact h
theorem w_add {D C : Nat} (hD : D < 16777216) (hC : C < 16777216) : wrap64 ((D : Int) + C) = (D : Int) + C := wrap64_small _ (by omega) (by omega)
theorem w_mul {p : Nat} (hp : p ≤ 281474943156225) : wrap64 (p : Int) = p := wrap64_small _ (by omega) (by omega)
theorem w_all {D C p : Nat} (hD : D < 16777216) (hC : C < 16777216) (hp : p ≤ 281474943156225) : wrap64 ((D : Int) + C + p) = (D : Int) + C + p := wrap64_small _ (by omega) (by omega)
theorem n_small {D C p : Nat} (hD : D < 16777216) (hC : C < 16777216) (hp : p ≤ 281474943156225) : (D + C + p) / 16777216 < 16777216 := by omega
theorem tdiv_base {n : Int} (h : 0 ≤ n) : n.tdiv 16777216 = n / 16777216 := Int.tdiv_eq_ediv_of_nonneg h
theorem tmod_base {n : Int} (h : 0 ≤ n) : n.tmod 16777216 = n % 16777216 := Int.tmod_eq_emod_of_nonneg h
theorem w_div {D C p : Nat} (hD : D < 16777216) (hC : C < 16777216) (hp : p ≤ 281474943156225) : wrap64 (((D : Int) + C + p) / 16777216) = ((D : Int) + C + p) / 16777216 := wrap64_small _ (by omega) (by omega)
/-- What one round of times reckons, as the walk has it. -/
theorem round_facts {D C X Y : Nat} (hD : D < 16777216) (hC : C < 16777216) (hX : X < 16777216) (hY : Y < 16777216) : ∃ (d c x y : Int) (N : Nat), (D : Int) = d ∧ (C : Int) = c ∧ (X : Int) = x ∧ (Y : Int) = y ∧ N = D + C + X * Y ∧ 0 ≤ d ∧ d < 16777216 ∧ 0 ≤ c ∧ c < 16777216 ∧ wrap64 (d + c) = d + c ∧ Hid (wrap64 ((wrap64 (d + c + wrap64 (x * y))).tdiv 16777216) = (N / 16777216 : Nat)) ∧ Hid ((wrap64 (d + c + wrap64 (x * y))).tmod 16777216 = (N % 16777216 : Nat)) ∧ Hid (N / 16777216 < 16777216) := by
  have hp := p_le hX hY
  refine ⟨D, C, X, Y, D + C + X * Y, rfl, rfl, rfl, rfl, rfl, by omega, by omega, by omega, by omega, w_add hD hC, ?_, ?_, n_small hD hC hp⟩
  · show wrap64 ((wrap64 ((D : Int) + C + wrap64 ((X : Int) * Y))).tdiv 16777216) = _
    rw [← Int.natCast_mul, w_mul hp, w_all hD hC hp, tdiv_base (by omega), w_div hD hC hp, n_div]
  · show (wrap64 ((D : Int) + C + wrap64 ((X : Int) * Y))).tmod 16777216 = _
    rw [← Int.natCast_mul, w_mul hp, w_all hD hC hp, tmod_base (by omega), n_mod]
theorem times_step {P Q V V' c c' n ai bj l R S : Nat} (hset : V' + P * Q * l = V + P * Q * (n % 16777216)) (hn : n = l + c + ai * bj) (hc : c' = n / 16777216) (hR : V + c * (P * Q) = R + ai * S * P) :
    V' + c' * (P * (16777216 * Q)) = R + ai * (S + Q * bj) * P := by
  have h1 : n = n % 16777216 + 16777216 * c' := by omega
  have h2 : P * Q * n = P * Q * (n % 16777216) + P * Q * (16777216 * c') := by rw [← Nat.mul_add, ← h1]
  have h3 : P * Q * n = P * Q * l + P * Q * c + P * Q * (ai * bj) := by rw [hn, Nat.mul_add, Nat.mul_add]
  have h4 : c' * (P * (16777216 * Q)) = P * Q * (16777216 * c') := by
    rw [Nat.mul_comm c', Nat.mul_assoc P, Nat.mul_assoc P, Nat.mul_assoc 16777216, Nat.mul_left_comm Q]
  have h5 : ai * (S + Q * bj) * P = ai * S * P + P * Q * (ai * bj) := by
    rw [Nat.mul_add, Nat.add_mul]
    congr 1
    rw [Nat.mul_comm (ai * (Q * bj)) P, Nat.mul_assoc P, Nat.mul_left_comm ai]
  have h6 : c * (P * Q) = P * Q * c := Nat.mul_comm _ _
  omega
theorem times_in {a b i j V c : Nat} (_hi : i < nd a) (ai : Nat) (hai : ai = a / 2 ^ (24 * i) % 16777216) (h : V + c * (2 ^ (24 * i) * 2 ^ (24 * j)) = a % 2 ^ (24 * i) * b + ai * (b % 2 ^ (24 * j)) * 2 ^ (24 * i)) (hc : 0 < c) : i + j < nd a + nd b := by
  have h1 : 2 ^ (24 * (i + j)) ≤ V + c * (2 ^ (24 * i) * 2 ^ (24 * j)) := by
    rw [Nat.mul_add 24, Nat.pow_add]
    have := Nat.le_mul_of_pos_left (2 ^ (24 * i) * 2 ^ (24 * j)) hc
    omega
  have h2 : a % 2 ^ (24 * i) * b + ai * (b % 2 ^ (24 * j)) * 2 ^ (24 * i) ≤ a % 2 ^ (24 * (i + 1)) * b := by
    rw [mod_pow_succ, ← hai, Nat.add_mul]
    have : ai * (b % 2 ^ (24 * j)) * 2 ^ (24 * i) ≤ 2 ^ (24 * i) * ai * b := by
      rw [Nat.mul_comm, ← Nat.mul_assoc]
      exact Nat.mul_le_mul_left _ (Nat.mod_le _ _)
    omega
  have h3 : a % 2 ^ (24 * (i + 1)) * b < 2 ^ (24 * (nd a + nd b)) := by
    rw [Nat.mul_add 24 (nd a), Nat.pow_add]
    refine Nat.lt_of_le_of_lt (Nat.mul_le_mul_right b (Nat.mod_le _ _)) ?_
    exact Nat.mul_lt_mul'' (nd_lt a) (nd_lt b)
  have := pow_le_of_lt (Nat.le_trans h1 (h ▸ h2)) h3
  omega
theorem times_row {a b i j V : Nat} (ai : Nat) (hai : ai = a / 2 ^ (24 * i) % 16777216) (hj : nd b ≤ j) (h : V + 0 * (2 ^ (24 * i) * 2 ^ (24 * j)) = a % 2 ^ (24 * i) * b + ai * (b % 2 ^ (24 * j)) * 2 ^ (24 * i)) : V = a % 2 ^ (24 * (i + 1)) * b := by
  rw [mod_pow_succ, ← hai, Nat.add_mul]
  rw [Nat.mod_eq_of_lt (lt_pow_nd hj)] at h
  rw [Nat.mul_comm (2 ^ (24 * i)) ai, Nat.mul_right_comm]
  omega

set_option maxHeartbeats 4000000 in
theorem times_any (a b : Nat) (va vb : Value) (w : World) (ha : IsNat w va a) (hb : IsNat w vb b) (sa : nd a ≤ 100000) (sb : nd b ≤ 100000) :
    Calls Tryd.prog 59 #[va, vb] w fun e w' => ∃ v, e = .returned v ∧ IsNat w' v (a * b) ∧ Below w.heap.size w w' := by
  obtain ⟨la, ra, ea, na⟩ := ha
  obtain ⟨lb, rb, eb, nb⟩ := hb
  have da := val_dig ra.1
  have db := val_dig rb.1
  have xa := dig_lt ra.1
  have xb := dig_lt rb.1
  obtain ⟨A, capa, ga, rfl, _, _, hA, hgA, cA⟩ := ra.open
  obtain ⟨B, capb, gb, rfl, _, _, hB, hgB, cB⟩ := rb.open
  rw [ea] at da
  rw [eb] at db
  obtain ⟨i0, hi, hz0, hz1, hz2⟩ := info_parts infoInt
  have HDA : Hid (∀ k, dig la k = a / 2 ^ (24 * k) % 16777216) := da
  have HDB : Hid (∀ k, dig lb k = b / 2 ^ (24 * k) % 16777216) := db
  have HA : Hid (∀ j, j < la.length → w.cell? ⟨ga, j, none⟩ = some (.int .i64 (dig la j : Nat))) := cA
  have HB : Hid (∀ j, j < lb.length → w.cell? ⟨gb, j, none⟩ = some (.int .i64 (dig lb j : Nat))) := cB
  have HGA : Hid ((0 < la.length → A = some ⟨ga, 0, none⟩) ∧ (0 < la.length → ga < w.heap.size)) := ⟨hA, hgA⟩
  have HGB : Hid ((0 < lb.length → B = some ⟨gb, 0, none⟩) ∧ (0 < lb.length → gb < w.heap.size)) := ⟨hB, hgB⟩
  have HNA : Hid (la.length = nd a) := na
  have HNB : Hid (lb.length = nd b) := nb
  have HXA : Hid (∀ k, dig la k < 16777216) := xa
  have HXB : Hid (∀ k, dig lb k < 16777216) := xb
  rw [← na] at sa
  rw [← nb] at sb
  clear ra rb ea eb da db cA cB hA hB hgA hgB na nb xa xb
  go_enter Tryd.func59, Tryd.ntmps59
  go_wp2_with (at_make; refine wpList_make_full _ rfl _ _ 66 rfl w.heap.size 3 i0 (.int .i64 0) 1 Tryd.underlying66 hi hz0 hz1 _ _ _ _ (la.length + lb.length) rfl rfl ?m1 ?m2 ?m3 ?m4 ?m5 ?_)
  case m1 => omega
  case m2 => omega
  case m3 => rw [hz2]; omega
  case m4 => unfold maxLen; omega
  case m5 => exact Nat.le_refl _
  intro w1 hown1 hg1
  have HF : Hid (Filled w w1 w.heap.size (la.length + lb.length) (List.replicate (la.length + lb.length) 0)) := Filled.made hown1 hg1
  clear hown1 hg1
  go_wp2_with fail
  go_loopw [6, 7, 8, 9] (fun i _ _ _ wr => ∃ (k : Nat) (L : List Nat), k ≤ la.length ∧ i = .int .i64 k ∧ Filled w wr w.heap.size (la.length + lb.length) L ∧ val L = a % 2 ^ (24 * k) * b) (fun i _ _ _ _ => la.length - (intOf i).toNat)
  case atStart => exact ⟨0, _, Nat.zero_le _, rfl, HF.out, by rw [val_zeros]; simp [Nat.mod_one]⟩
  case round =>
    obtain ⟨i, L0, hi0, rfl, hfill, hval⟩ := hrel
    have HF0 : Hid (Filled w wr w.heap.size (la.length + lb.length) L0 ∧ val L0 = a % 2 ^ (24 * i) * b) := ⟨hfill, hval⟩
    clear hfill hval HF
    by_cases ka : i < la.length
    · go_wp2_with fail
      go_loopw [7, 8, 9] (fun c j _ ws => ∃ (C J : Nat) (L : List Nat), C < 16777216 ∧ J ≤ la.length + lb.length ∧ c = .int .i64 C ∧ j = .int .i64 J ∧ Filled w ws w.heap.size (la.length + lb.length) L ∧ val L + C * (2 ^ (24 * i) * 2 ^ (24 * J)) = a % 2 ^ (24 * i) * b + dig la i * (b % 2 ^ (24 * J)) * 2 ^ (24 * i)) (fun _ j _ _ => la.length + lb.length - (intOf j).toNat)
      case atStart => exact ⟨0, 0, L0, by omega, Nat.zero_le _, rfl, rfl, HF0.out.1, by rw [HF0.out.2]; simp [Nat.mod_one]⟩
      case round =>
        obtain ⟨C, J, L, hC, hJ, rfl, rfl, hfl, hv⟩ := hrel
        have HL : Hid (Filled w wr w.heap.size (la.length + lb.length) L) := hfl
        have HV : Hid (val L + C * (2 ^ (24 * i) * 2 ^ (24 * J)) = a % 2 ^ (24 * i) * b + dig la i * (b % 2 ^ (24 * J)) * 2 ^ (24 * i)) := hv
        clear hfl hv
        have HAI : Hid (dig la i = a / 2 ^ (24 * i) % 16777216) := HDA.out i
        have HIN : Hid (0 < C → i + J < la.length + lb.length) := fun h => by rw [HNA.out, HNB.out]; exact times_in (by rw [← HNA.out]; exact ka) _ HAI.out HV.out h
        have HSTEP : Hid (∀ (D n bj : Nat), i + J < la.length + lb.length → D = dig L (i + J) → bj = b / 2 ^ (24 * J) % 16777216 → n = D + C + dig la i * bj → val (L.set (i + J) (n % 16777216)) + n / 16777216 * (2 ^ (24 * i) * 2 ^ (24 * (J + 1))) = a % 2 ^ (24 * i) * b + dig la i * (b % 2 ^ (24 * (J + 1))) * 2 ^ (24 * i)) := by
          intro D n bj hin hD hb hn
          have hs := val_set L (i + J) (n % 16777216) (by rw [HL.out.len]; exact hin)
          rw [← hD, Nat.mul_add 24, Nat.pow_add] at hs
          rw [mod_pow_succ b J, pow24, ← hb]
          exact times_step hs hn rfl HV.out
        have HROW : Hid (C = 0 → lb.length ≤ J → val L = a % 2 ^ (24 * (i + 1)) * b) := fun h0 h1 => times_row _ HAI.out (by rw [← HNB.out]; exact h1) (by rw [← h0]; exact HV.out)
        clear HV
        by_cases kb : J < lb.length
        · have hin : i + J < la.length + lb.length := by omega
          have c0 : wr.cell? ⟨w.heap.size, i + J, none⟩ = some (.int .i64 (dig L (i + J) : Nat)) := HL.out.cell hin
          have f0 : wr.frozen? ⟨w.heap.size, i + J, none⟩ = false := HL.out.own.frozenAt _
          have c1 : wr.cell? ⟨ga, i, none⟩ = some (.int .i64 (dig la i : Nat)) := (HL.out.below.cell (p := ⟨ga, i, none⟩) (HGA.out.2 (by omega))).trans (HA.out i ka)
          have c2 : wr.cell? ⟨gb, J, none⟩ = some (.int .i64 (dig lb J : Nat)) := (HL.out.below.cell (p := ⟨gb, J, none⟩) (HGB.out.2 (by omega))).trans (HB.out J kb)
          obtain rfl := HGA.out.1 (by omega)
          obtain rfl := HGB.out.1 (by omega)
          have x0 := dig_lt HL.out.dig (i + J)
          have x1 := HXA.out i
          have x2 := HXB.out J
          have hst := HSTEP.out _ _ _ hin rfl (HDB.out J) rfl
          have HST : Hid (val (L.set (i + J) ((dig L (i + J) + C + dig la i * dig lb J) % 16777216)) + (dig L (i + J) + C + dig la i * dig lb J) / 16777216 * (2 ^ (24 * i) * 2 ^ (24 * (J + 1))) = a % 2 ^ (24 * i) * b + dig la i * (b % 2 ^ (24 * (J + 1))) * 2 ^ (24 * i)) := hst
          clear hst HSTEP HROW HIN HAI
          generalize ht : i + J = t at *
          have hij : (i : Int) + J = (t : Int) := by omega
          generalize hD : dig L t = D at *
          obtain ⟨d, cc, x, y, N, hd, hcc, hx, hy, hNN, d0, d1, k0, k1, e1, HQ, HM, HSM⟩ := round_facts x0 hC x1 x2
          rw [← hNN] at HST
          rw [hd] at c0
          rw [hx] at c1
          rw [hy] at c2
          rw [hcc]
          clear hNN hd hx hy x0 x1 x2 hcc
          go_wp2_with fail
          go_quiet (fail)
          go_wp2_with fail
          go_roundw
          case rel => exact ⟨N / 16777216, J + 1, L.set t (N % 16777216), HSM.out, by omega, by rw [HQ.out], by go_num, by have := (HL.out.drawn nq).set t (N % 16777216) (Nat.mod_lt _ (by decide)); rw [← HM.out] at this; exact this, HST.out⟩
          case measure => simp [intOf]; omega
        · by_cases hc : 0 < C
          · have hin := HIN.out hc
            have c0 : wr.cell? ⟨w.heap.size, i + J, none⟩ = some (.int .i64 (dig L (i + J) : Nat)) := HL.out.cell hin
            have f0 : wr.frozen? ⟨w.heap.size, i + J, none⟩ = false := HL.out.own.frozenAt _
            have x0 := dig_lt HL.out.dig (i + J)
            have hz : dig lb J = 0 := dig_out (by omega)
            have hst := HSTEP.out _ (dig L (i + J) + C) 0 hin rfl (by rw [← HDB.out J, hz]) (by omega)
            have HST : Hid (val (L.set (i + J) ((dig L (i + J) + C) % 16777216)) + (dig L (i + J) + C) / 16777216 * (2 ^ (24 * i) * 2 ^ (24 * (J + 1))) = a % 2 ^ (24 * i) * b + dig la i * (b % 2 ^ (24 * (J + 1))) * 2 ^ (24 * i)) := hst
            clear hst hz HSTEP HROW HIN HAI
            generalize ht : i + J = t at *
            have hij : (i : Int) + J = (t : Int) := by omega
            generalize hD : dig L t = D at *
            have HSM : Hid ((D + C) / 16777216 < 16777216) := (by omega : (D + C) / 16777216 < 16777216)
            have HM : Hid ((((D + C) % 16777216 : Nat) : Int) = ((D : Int) + C) % 16777216) := n_mod D C 0
            have HQ : Hid ((((D + C) / 16777216 : Nat) : Int) = ((D : Int) + C) / 16777216) := n_div D C 0
            go_wp2_with fail
            go_roundw
            case rel => exact ⟨(D + C) / 16777216, J + 1, L.set t ((D + C) % 16777216), HSM.out, by omega, by rw [HQ.out], by go_num, by have := HL.out.set t ((D + C) % 16777216) (Nat.mod_lt _ (by decide)); rw [HM.out] at this; exact this, HST.out⟩
            case measure => simp [intOf]; omega
          · have hC0 : C = 0 := by omega
            have HR : Hid (val L = a % 2 ^ (24 * (i + 1)) * b) := HROW.out hC0 (by omega)
            clear HROW HIN HAI HSTEP
            subst hC0
            go_wp2_with fail
            go_roundw
            case rel => exact ⟨i + 1, L, by omega, by go_num, HL.out, HR.out⟩
            case measure => simp [intOf]; omega
    · obtain rfl : i = la.length := by omega
      go_wp2_with fail
      refine (trim_any _ _ _ HF0.out.1.row).mono ?_
      rintro e w' ⟨v', rfl, hv', rfl⟩
      have HV : Hid (IsNat w' v' (val L0)) := hv'
      clear hv'
      go_wp2_with fail
      go_ret
      refine ⟨_, rfl, ?_, HF0.out.1.below⟩
      have := HV.out
      rw [HF0.out.2, Nat.mod_eq_of_lt (lt_pow_nd (by rw [HNA.out]; exact Nat.le_refl _))] at this
      exact this
end Go.Proofs.YtfbdgecanfmgiaaDoor
