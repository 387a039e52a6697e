import Derived.Test.YtcjihaafohnbeaaGreatDoorRefF
import Derived.Deep.Light
import Derived.Deep.Cut
import Derived.Deep.CutRange
namespace Go.Proofs.YtcjihaafohnbeaaGreatDoor
open Go.RowKit

theorem zero_step {a j X : Nat} (hX : X = a / 2 ^ (24 * j) % 16777216) : (a % 2 ^ (24 * (j + 1)) = 0) ↔ (a % 2 ^ (24 * j) = 0 ∧ X = 0) := by
  rw [mod_pow_succ, ← hX]
  have hp := Nat.two_pow_pos (24 * j)
  constructor
  · intro h
    refine ⟨by omega, ?_⟩
    apply Classical.byContradiction
    intro hn
    have := Nat.le_mul_of_pos_right (2 ^ (24 * j)) (Nat.pos_of_ne_zero hn)
    omega
  · rintro ⟨h1, h2⟩
    rw [h1, h2, Nat.mul_zero]
theorem zero_last {a k X P : Nat} (hX : X = a / 2 ^ (24 * (k / 24)) % 16777216) (hP : P = 2 ^ (k % 24)) : (a % 2 ^ k = 0) ↔ (a % 2 ^ (24 * (k / 24)) = 0 ∧ X % P = 0) := by
  have e : 2 ^ k = 2 ^ (24 * (k / 24)) * P := by rw [hP, Nat.mul_comm, split24]
  have hm : X % P = a / 2 ^ (24 * (k / 24)) % P := by
    rw [hX]
    apply Nat.mod_mod_of_dvd
    rw [hP]
    exact Nat.pow_dvd_pow 2 (show k % 24 ≤ 24 by omega)
  rw [e, Nat.mod_mul, ← hm]
  have hp := Nat.two_pow_pos (24 * (k / 24))
  constructor
  · intro h
    refine ⟨by omega, ?_⟩
    apply Classical.byContradiction
    intro hn
    have := Nat.le_mul_of_pos_right (2 ^ (24 * (k / 24))) (Nat.pos_of_ne_zero hn)
    omega
  · rintro ⟨h1, h2⟩
    rw [h1, h2, Nat.mul_zero]
/-- A digit of what is shifted down. -/
theorem down_dig {a k t X Y P R : Nat} (hX : X = a / 2 ^ (24 * (k / 24 + t)) % 16777216) (hY : Y = a / 2 ^ (24 * (k / 24 + t + 1)) % 16777216) (hP : P = 2 ^ (k % 24)) (hR : R = 2 ^ (24 - k % 24)) : a / 2 ^ k / 2 ^ (24 * t) % 16777216 = X / P + Y % P * R := by
  have hPR : P * R = 16777216 := by rw [hP, hR, ← Nat.pow_add]; rw [show k % 24 + (24 - k % 24) = 24 by omega]
  have hP0 : 0 < P := by rw [hP]; exact Nat.two_pow_pos _
  have e1 : a / 2 ^ k / 2 ^ (24 * t) = a / 2 ^ (24 * (k / 24 + t)) / P := by
    rw [Nat.div_div_eq_div_mul, Nat.div_div_eq_div_mul, ← Nat.pow_add, hP, ← Nat.pow_add]
    congr 2
    omega
  have e2 : a / 2 ^ (24 * (k / 24 + t + 1)) = a / 2 ^ (24 * (k / 24 + t)) / 16777216 := by
    rw [pow24, Nat.mul_comm, Nat.div_div_eq_div_mul]
  rw [e1]
  rw [e2] at hY
  generalize a / 2 ^ (24 * (k / 24 + t)) = Z at *
  have h1 : Z = X + 16777216 * (Z / 16777216) := by omega
  have hR0 : 0 < R := Nat.pos_of_ne_zero (by intro h; rw [h] at hPR; omega)
  have h2 : Z / P = X / P + R * (Z / 16777216) := by
    have : Z / P = (X + P * (R * (Z / 16777216))) / P := by
      congr 1
      rw [← Nat.mul_assoc, hPR]
      exact h1
    rw [this, Nat.add_mul_div_left _ _ hP0]
  have h3 : X / P < R := by
    rw [Nat.div_lt_iff_lt_mul hP0, Nat.mul_comm, hPR]
    omega
  have hdv : P ∣ 16777216 := ⟨R, hPR.symm⟩
  have h4 : Y % P = Z / 16777216 % P := by rw [hY]; exact Nat.mod_mod_of_dvd _ hdv
  rw [h2, h4]
  generalize Z / 16777216 = T at *
  have h5 := Nat.div_add_mod T P
  have h6 : R * T = 16777216 * (T / P) + T % P * R := by
    have : R * T = R * (P * (T / P) + T % P) := by rw [h5]
    rw [this, Nat.mul_add, ← Nat.mul_assoc, Nat.mul_comm R P, hPR, Nat.mul_comm R]
  have h7 : T % P * R ≤ (P - 1) * R := Nat.mul_le_mul_right _ (by have := Nat.mod_lt T hP0; omega)
  have h8 : (P - 1) * R + R = 16777216 := by
    rw [← hPR]
    have : P = (P - 1) + 1 := by omega
    conv => rhs; rw [this, Nat.add_mul, Nat.one_mul]
  rw [h6]
  have h9 : X / P + T % P * R < 16777216 := by omega
  generalize X / P = u at *
  generalize T % P * R = y at *
  generalize T / P = v at *
  rw [show u + (16777216 * v + y) = (u + y) + 16777216 * v by omega, Nat.add_mul_mod_self_left, Nat.mod_eq_of_lt h9]

/-- What a round of down reckons, as the walk has it: 'R' the power for the digit above. -/
theorem low_fact {k : Nat} : ∃ P R : Nat, wrap64 ((2 : Int) ^ (k % 24)) = (P : Int) ∧ Hid (P = 2 ^ (k % 24) ∧ R = 2 ^ (24 - k % 24)) ∧ 0 < P ∧ P ≤ 16777216 := by
  obtain ⟨P, h1, h2, h3, h4⟩ := shl_fact (k % 24) (by omega)
  exact ⟨P, _, h1, ⟨h2.out, rfl⟩, h3, h4⟩

theorem down_none {a k l : Nat} (h : a < 2 ^ (24 * l)) (hl : l ≤ k / 24) : decide (a % 2 ^ (24 * l) = 0) = decide (a % 2 ^ k = 0) ∧ a / 2 ^ k = 0 := by
  have h2 : a < 2 ^ k := Nat.lt_of_lt_of_le h (Nat.pow_le_pow_right (by decide) (by omega))
  rw [Nat.mod_eq_of_lt h, Nat.mod_eq_of_lt h2, Nat.div_eq_of_lt h2]
  exact ⟨rfl, rfl⟩
theorem rem_fact {X P : Nat} {W Z : Bool} {A B : Prop} [Decidable A] [Decidable B] (hP : 0 < P) (h : A ↔ (B ∧ X % P = 0)) (hW : decide A = W) (hZ : decide B = Z) : ∃ x p : Int, (X : Int) = x ∧ (P : Int) = p ∧ 0 < p ∧ Hid (Z = true → (x.tmod p == 0) = W) ∧ Hid (Z = false → W = false) := by
  refine ⟨X, P, rfl, rfl, by omega, fun hz => ?_, fun hz => ?_⟩
  · show (((X : Int).tmod (P : Int)) == 0) = W
    rw [Int.tmod_eq_emod_of_nonneg (by omega), ← Int.natCast_emod, ← hW]
    subst hz
    have hB := of_decide_eq_true hZ
    by_cases hA : A
    · have := (h.1 hA).2
      rw [decide_eq_true hA, this]
      rfl
    · rw [decide_eq_false hA, beq_eq_false_iff_ne]
      intro h0
      exact hA (h.2 ⟨hB, by omega⟩)
  · show W = false
    rw [← hW]
    subst hz
    exact decide_eq_false (fun hA => of_decide_eq_false hZ (h.1 hA).1)
theorem pow_int (S : Nat) : (2 : Int) ^ S = ((2 ^ S : Nat) : Int) := by rw [Int.natCast_pow]; rfl
theorem dig_bound {X Y P R : Nat} (hX : X < 16777216) (hP : 0 < P) (hPR : P * R = 16777216) : X / P + Y % P * R < 16777216 := by
  have h3 : X / P < R := by
    rw [Nat.div_lt_iff_lt_mul hP, Nat.mul_comm, hPR]
    exact hX
  have h7 : Y % P * R ≤ (P - 1) * R := Nat.mul_le_mul_right _ (by have := Nat.mod_lt Y hP; omega)
  have h8 : (P - 1) * R + R = 16777216 := by
    rw [← hPR]
    have : P = (P - 1) + 1 := by omega
    conv => rhs; rw [this, Nat.add_mul, Nat.one_mul]
  omega
/-- What a round of down reckons, as the walk has it. -/
theorem down_val {X Y S : Nat} (hX : X < 16777216) (hS : S < 24) : ∃ x y p : Int, (X : Int) = x ∧ (Y : Int) = y ∧ wrap64 ((2 : Int) ^ S) = p ∧ 0 < p ∧ (p == 0) = false ∧ Hid (wrap64 (x / 2 ^ S + wrap64 (y.tmod p * 2 ^ (24 - S))) = ((X / 2 ^ S + Y % 2 ^ S * 2 ^ (24 - S) : Nat) : Int)) := by
  obtain ⟨P, h1, h2, h3, h4⟩ := shl_fact S (by omega)
  have hPe : P = 2 ^ S := h2.out
  have hPR : P * 2 ^ (24 - S) = 16777216 := by
    rw [hPe, ← Nat.pow_add, show S + (24 - S) = 24 by omega]
  have hb := dig_bound (Y := Y) hX h3 hPR
  refine ⟨X, Y, P, rfl, rfl, h1, by omega, by rw [beq_eq_false_iff_ne]; omega, ?_⟩
  show wrap64 ((X : Int) / 2 ^ S + wrap64 ((Y : Int).tmod P * 2 ^ (24 - S))) = _
  rw [Int.tmod_eq_emod_of_nonneg (by omega), pow_int, pow_int, ← hPe, ← Int.natCast_emod, ← Int.natCast_mul, ← Int.natCast_ediv]
  generalize Y % P * 2 ^ (24 - S) = q at *
  generalize X / P = d at *
  rw [wrap64_small (q : Int) (by omega) (by omega), ← Int.natCast_add]
  exact wrap64_small _ (by omega) (by omega)
theorem down_val1 {X S : Nat} : ∃ x : Int, (X : Int) = x ∧ Hid (x / 2 ^ S = ((X / 2 ^ S : Nat) : Int)) := by
  refine ⟨X, rfl, ?_⟩
  show (X : Int) / 2 ^ S = _
  rw [pow_int, ← Int.natCast_ediv]
/-- The state of down behind t digits. -/
structure DownAt (w wr : World) (v : Value) (n t : Nat) : Prop where
  own : wr.ownsRow w.heap.size 3 1 v t (ints (low n t))
  below : Below w.heap.size w wr
theorem DownAt.drawn {w wr : World} {v : Value} {n t : Nat} (h : DownAt w wr v n t) (q : Nat) : DownAt w (wr.drewN q) v n t := ⟨h.own, below_drewN h.below q⟩
theorem DownAt.more {w wr w1 : World} {v v' : Value} {n t : Nat} {o : Obj} (h : DownAt w wr v n t)
    (h1 : w1.ownsRow w.heap.size 3 1 v' (t + 1) (ints (low n t) ++ [.int .i64 (n / 2 ^ (24 * t) % 16777216 : Nat)])) (hg : (wr.alloc o).grownBy w1 v.ownBlock) : DownAt w w1 v' n (t + 1) := by
  have hk' := low_length n t
  have := push (l := low n t) (d := n / 2 ^ (24 * t) % 16777216) (by rw [hk']; exact h.own.alloc o) (by rw [hk']; exact h1) hg (h.below.alloc h.below.size _) (Nat.le_refl _)
  rw [show low n t ++ [n / 2 ^ (24 * t) % 16777216] = low n (t + 1) from rfl, low_length] at this
  exact ⟨this.1, this.2⟩
theorem DownAt.row {w wr : World} {v : Value} {n t : Nat} (h : DownAt w wr v n t) : IsRow wr v (low n t) := IsRow.own (low_digits _ _) (by rw [low_length]; exact h.own)

set_option maxRecDepth 10000 in
set_option maxHeartbeats 4000000 in
theorem down_any (a k : Nat) (va : Value) (w : World) (ha : IsNat w va a) (sa : nd a ≤ 10000) (hk : k ≤ 100000) :
    Calls Tryz.prog 103 #[va, .int .i64 (k : Nat)] w fun e w' => ∃ v, e = .returned (.tuple #[v, .bool (decide (a % 2 ^ k = 0))]) ∧ IsNat w' v (a / 2 ^ k) ∧ Below w.heap.size w w' := by
  obtain ⟨la, ra, ea, na⟩ := ha
  have da := val_dig ra.1
  have xa := dig_lt ra.1
  obtain ⟨A, capa, ga, rfl, _, _, hA, hgA, cA⟩ := ra.open
  rw [ea] at da
  obtain ⟨i0, hi, hz0, hz1, hz2⟩ := info_parts infoInt
  have HDA : Hid (∀ j, dig la j = a / 2 ^ (24 * j) % 16777216) := da
  have HXA : Hid (∀ j, dig la j < 16777216) := xa
  have HA : Hid (∀ j, j < la.length → w.cell? ⟨ga, j, none⟩ = some (.int .i64 (dig la j : Nat))) := cA
  have HGA : Hid ((0 < la.length → A = some ⟨ga, 0, none⟩) ∧ (0 < la.length → ga < w.heap.size)) := ⟨hA, hgA⟩
  have HNA : Hid (la.length = nd a) := na
  rw [← na] at sa
  clear ra ea da cA hA hgA na xa
  go_enter Tryz.func103, Tryz.ntmps103
  go_wp2_with fail
  go_loopw [6, 7] (fun b i wr => ∃ j : Nat, j ≤ k / 24 ∧ j ≤ la.length ∧ i = .int .i64 j ∧ b = .bool (decide (a % 2 ^ (24 * j) = 0)) ∧ wr = w) (fun _ i _ => k / 24 - (intOf i).toNat)
  case atStart => exact ⟨0, by omega, by omega, rfl, by simp [Nat.mod_one], rfl⟩
  case round =>
    obtain ⟨j, hj1, hj2, rfl, rfl, rfl⟩ := hrel
    by_cases k1 : j < k / 24
    · have k1' : (j : Int) < (k : Int) / 24 := by omega
      by_cases k2 : j < la.length
      · have c1 := HA.out j k2
        have HZ : Hid ((a % 2 ^ (24 * (j + 1)) = 0) ↔ (a % 2 ^ (24 * j) = 0 ∧ dig la j = 0)) := zero_step (HDA.out j)
        obtain rfl := HGA.out.1 (by omega)
        by_cases hz : a % 2 ^ (24 * j) = 0
        · have hd : decide (a % 2 ^ (24 * j) = 0) = true := decide_eq_true hz
          rw [hd]
          by_cases hx : dig la j = 0
          · have HE : Hid (decide (a % 2 ^ (24 * (j + 1)) = 0) = true) := decide_eq_true (HZ.out.2 ⟨hz, hx⟩)
            rw [hx] at c1
            clear hz hd HZ
            go_wp2_with fail
            go_roundw
            case rel => exact ⟨j + 1, by omega, by omega, by go_num, by rw [HE.out], by trivial⟩
            case measure => simp [intOf]; omega
          · have HE : Hid (decide (a % 2 ^ (24 * (j + 1)) = 0) = false) := decide_eq_false (fun h => hx (HZ.out.1 h).2)
            have hxb : ((dig la j : Int) == 0) = false := by rw [beq_eq_false_iff_ne]; omega
            clear hz hd HZ
            generalize dig la j = X at *
            go_wp2_with fail
            go_roundw
            case rel => exact ⟨j + 1, by omega, by omega, by go_num, by rw [HE.out], by trivial⟩
            case measure => simp [intOf]; omega
        · have hd : decide (a % 2 ^ (24 * j) = 0) = false := decide_eq_false hz
          rw [hd]
          have HE : Hid (decide (a % 2 ^ (24 * (j + 1)) = 0) = false) := decide_eq_false (fun h => hz (HZ.out.1 h).1)
          clear hz hd HZ
          go_wp2_with fail
          go_roundw
          case rel => exact ⟨j + 1, by omega, by omega, by go_num, by rw [HE.out], by trivial⟩
          case measure => simp [intOf]; omega
      · obtain rfl : j = la.length := by omega
        have HE : Hid (decide (a % 2 ^ (24 * la.length) = 0) = decide (a % 2 ^ k = 0) ∧ a / 2 ^ k = 0) := down_none (by rw [HNA.out]; exact nd_lt a) (by omega)
        have k4 : (la.length : Int) ≤ (k : Int) / 24 := by omega
        generalize decide (a % 2 ^ (24 * la.length) = 0) = W at *
        go_wp2_with fail
        refine bodyPost_ret (v := .tuple #[.slice none 0 0, .bool W]) (by simp [results, Tryz.results103, go_sem]) rfl ⟨_, by rw [HE.out.1], ?_, Below.refl _ _⟩
        rw [HE.out.2]
        exact IsNat.nil _
    · obtain rfl : j = k / 24 := by omega
      have k1' : ¬ ((k / 24 : Nat) : Int) < (k : Int) / 24 := by omega
      by_cases k2 : la.length ≤ k / 24
      · have k3 : la.length = k / 24 := by omega
        have HE : Hid (decide (a % 2 ^ (24 * (k / 24)) = 0) = decide (a % 2 ^ k = 0) ∧ a / 2 ^ k = 0) := by
          have := down_none (a := a) (k := k) (l := la.length) (by rw [HNA.out]; exact nd_lt a) (by omega)
          rw [k3] at this
          exact this
        have k4 : (la.length : Int) ≤ (k : Int) / 24 := by omega
        generalize decide (a % 2 ^ (24 * (k / 24)) = 0) = W at *
        go_wp2_with fail
        refine bodyPost_ret (v := .tuple #[.slice none 0 0, .bool W]) (by simp [results, Tryz.results103, go_sem]) rfl ⟨_, by rw [HE.out.1], ?_, Below.refl _ _⟩
        rw [HE.out.2]
        exact IsNat.nil _
      · have k4 : ¬ (la.length : Int) ≤ (k : Int) / 24 := by omega
        have HL : Hid ((a % 2 ^ k = 0) ↔ (a % 2 ^ (24 * (k / 24)) = 0 ∧ dig la (k / 24) % 2 ^ (k % 24) = 0)) := zero_last (HDA.out _) rfl
        obtain rfl := HGA.out.1 (by omega)
        obtain ⟨P, hP, HPe, hP0, hP1⟩ := shl_fact (k % 24) (by omega)
        rw [← HPe.out] at HL
        have c1 := HA.out (k / 24) (by omega)
        generalize hW : decide (a % 2 ^ k = 0) = W at *
        have hks : k / 24 * 24 + k % 24 = k := by omega
        generalize hQ : k / 24 = Q at *
        generalize hs : k % 24 = S at *
        have hQI : (k : Int) / 24 = (Q : Int) := by omega
        have hSI : (k : Int) % 24 = (S : Int) := by omega
        have hS : S < 24 := by omega
        generalize hZ : decide (a % 2 ^ (24 * Q) = 0) = Z at *
        obtain ⟨x, p, hx, hp, hp0, HT, HF⟩ := rem_fact (P := P) (by omega) HL.out hW hZ
        have HC1 := c1
        rw [hx] at c1
        have HPI : Hid (wrap64 ((2 : Int) ^ S) = (P : Int)) := hP
        have HW : Hid (decide (a % 2 ^ k = 0) = W) := hW
        have HKS : Hid (Q * 24 + S = k ∧ k / 24 = Q ∧ k % 24 = S) := ⟨hks, hQ, hs⟩
        rw [hp] at hP
        clear hx hW hZ HL HC1 hks hQ hs hp
        go_wp2_with fail
        go_cut [6] from 12 to 90 (fun s6 wx => s6 = .bool W ∧ Below wr.heap.size wr wx)
        case first =>
          have i1 : (Q : Int) < (la.length : Int) := by omega
          have hp00 : (p == 0) = false := by rw [beq_eq_false_iff_ne]; omega
          by_cases hZt : Z = true
          · have HV := HT.out hZt
            have HV2 : Hid ((x.tmod p == 0) = W) := HV
            subst hZt
            clear HT HF HV
            go_quiet (fail)
            go_wp2_with fail
            go_meet
            exact ⟨by rw [HV2.out], below_drewN (Below.refl _ _) _⟩
          · have hZf : Z = false := by simpa using hZt
            have hWf := HF.out hZf
            subst hZf
            subst hWf
            clear HT HF hZt
            go_quiet (fail)
            go_wp2_with fail
            go_meet
            exact ⟨rfl, below_drewN (Below.refl _ _) _⟩
        case rest =>
          obtain ⟨rfl, hbc⟩ := hcut
          have HBC : Hid (Below wr.heap.size wr wc) := hbc
          clear hbc HT HF c1 hP hp0
          go_wp2_with fail
          go_loopw [8, 10, 11] (fun v i _ ws => ∃ t u : Nat, Q + t = u ∧ u ≤ la.length ∧ i = .int .i64 u ∧ DownAt wr ws v (a / 2 ^ k) t) (fun _ i _ _ => la.length - (intOf i).toNat)
          case atStart => exact ⟨0, Q, by omega, by omega, rfl, World.ownsRow_nil _ _ _ _, HBC.out⟩
          case round =>
            obtain ⟨t, u, hu, hul, rfl, hd⟩ := hrel
            have HU : Hid (Q + t = u) := hu
            clear hu
            by_cases ku : u < la.length
            · have c1 := (hd.below.cell (p := ⟨ga, u, none⟩) (HGA.out.2 (by omega))).trans (HA.out u ku)
              have HD : Hid (DownAt _ wr u8 (a / 2 ^ k) t) := hd
              have x1 := HXA.out u
              have HDG : Hid (∀ Y, Y = a / 2 ^ (24 * (u + 1)) % 16777216 → a / 2 ^ k / 2 ^ (24 * t) % 16777216 = dig la u / 2 ^ S + Y % 2 ^ S * 2 ^ (24 - S)) := fun Y hY => by
                obtain ⟨_, k6, k7⟩ := HKS.out
                have h := down_dig (a := a) (k := k) (t := t) (X := dig la u) (Y := Y) (by rw [HDA.out, k6, HU.out]) (by rw [hY, k6, HU.out]) rfl rfl
                rw [k7] at h
                exact h
              clear hd
              by_cases kv : u + 1 < la.length
              · have c2 := (HD.out.below.cell (p := ⟨ga, u + 1, none⟩) (HGA.out.2 (by omega))).trans (HA.out (u + 1) kv)
                obtain ⟨x, y, p, hx, hy, hP, hpp, hp0, HV⟩ := down_val (Y := dig la (u + 1)) x1 hS
                have HV2 : Hid (wrap64 (x / 2 ^ S + wrap64 (y.tmod p * 2 ^ (24 - S))) = ((a / 2 ^ k / 2 ^ (24 * t) % 16777216 : Nat) : Int)) := by rw [HDG.out _ (HDA.out (u + 1))]; exact HV.out
                rw [hx] at c1
                rw [hy] at c2
                have i1 : (u : Int) + 1 < (la.length : Int) := by omega
                have hw24 : wrap64 (24 - (S : Int)) = 24 - (S : Int) := wrap64_small _ (by omega) (by omega)
                clear x1 hx hy HDG HV
                go_wp2_with fail
                go_quiet (fail)
                go_wp2_with (at_builtin; refine wpList_append_own _ rfl _ _ 61 rfl _ 3 i0 (.int .i64 0) 1 8 Tryz.underlying61 hi hz0 hz1 hz2 rfl (by decide) _ _ _ rfl ((HD.out.drawn nq).own.alloc _) ⟨wr.heap.size, 0, none⟩ 1 1 [.int .i64 (wrap64 (x / 2 ^ S + wrap64 (y.tmod p * 2 ^ (24 - S))))] rfl rfl ?d1 ?d2 ?d3 ?d4 ?d5 ?_)
                all_goals try exact one_cell (World.cell?_alloc_new (wr.drewN nq) #[_] _ 0)
                case d2 => first | rfl | (intro u hu; simp at hu; subst hu; rfl)
                case d3 => have := HU.out; unfold maxLen; omega
                case d4 => have := HU.out; omega
                case d5 => have := HD.out.below.size; simp; omega
                intro v' w1 hown1 hg1 _
                have HR : Hid (DownAt _ w1 v' (a / 2 ^ k) (t + 1)) := (HD.out.drawn nq).more (by rw [← HV2.out]; exact hown1) hg1
                clear hown1 hg1
                go_wp2_with fail
                go_roundw
                case rel => exact ⟨t + 1, u + 1, by have := HU.out; omega, by omega, by go_num, HR.out⟩
                case measure => simp [intOf]; omega
              · obtain ⟨x, hx, HV⟩ := down_val1 (X := dig la u) (S := S)
                have HV2 : Hid (x / 2 ^ S = ((a / 2 ^ k / 2 ^ (24 * t) % 16777216 : Nat) : Int)) := by
                  have := HDG.out 0 (by rw [← HDA.out, dig_out (by omega)])
                  rw [this, Nat.zero_mod, Nat.zero_mul, Nat.add_zero]
                  exact HV.out
                rw [hx] at c1
                have i1 : ¬ (u : Int) + 1 < (la.length : Int) := by omega
                clear x1 hx HDG HV
                go_wp2_with (at_builtin; refine wpList_append_own _ rfl _ _ 61 rfl _ 3 i0 (.int .i64 0) 1 8 Tryz.underlying61 hi hz0 hz1 hz2 rfl (by decide) _ _ _ rfl (HD.out.own.alloc _) ⟨wr.heap.size, 0, none⟩ 1 1 [.int .i64 (x / 2 ^ S)] rfl rfl ?e1 ?e2 ?e3 ?e4 ?e5 ?_)
                all_goals try exact one_cell (by go_simp)
                case e2 => first | rfl | (intro u hu; simp at hu; subst hu; rfl)
                case e3 => have := HU.out; unfold maxLen; omega
                case e4 => have := HU.out; omega
                case e5 => have := HD.out.below.size; simp; omega
                intro v' w1 hown1 hg1 _
                have HR : Hid (DownAt _ w1 v' (a / 2 ^ k) (t + 1)) := HD.out.more (by rw [← HV2.out]; exact hown1) hg1
                clear hown1 hg1
                go_wp2_with fail
                go_roundw
                case rel => exact ⟨t + 1, u + 1, by have := HU.out; omega, by omega, by go_num, HR.out⟩
                case measure => simp [intOf]; omega
            · obtain rfl : u = la.length := by omega
              have HD : Hid (DownAt _ wr u8 (a / 2 ^ k) t) := hd
              have HE : Hid (a / 2 ^ k % 2 ^ (24 * t) = a / 2 ^ k) := Nat.mod_eq_of_lt (by
                rw [Nat.div_lt_iff_lt_mul (Nat.two_pow_pos _), ← Nat.pow_add]
                refine Nat.lt_of_lt_of_le (nd_lt a) (Nat.pow_le_pow_right (by decide) ?_)
                have := HNA.out
                have := HU.out
                have := HKS.out
                omega)
              clear hd
              go_wp2_with fail
              refine (trim_any _ _ _ HD.out.row).mono ?_
              rintro e w' ⟨v', rfl, hv', rfl⟩
              have HV : Hid (IsNat w' v' (val (low (a / 2 ^ k) t))) := hv'
              clear hv'
              go_wp2_with fail
              refine bodyPost_ret (v := .tuple #[v', .bool W]) (by simp [results, Tryz.results103, go_sem]) rfl ⟨_, by rw [HW.out], ?_, HD.out.below⟩
              have := HV.out
              rw [low_val, HE.out] at this
              exact this
end Go.Proofs.YtcjihaafohnbeaaGreatDoor
