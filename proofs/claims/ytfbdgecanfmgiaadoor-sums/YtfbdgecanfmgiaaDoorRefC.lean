import Derived.Test.YtfbdgecanfmgiaaDoorRefB
namespace Go.Proofs.YtfbdgecanfmgiaaDoor
open Go.RowKit

/-- What is carried on, behind k digits of a sum. -/
def carry (a b k : Nat) : Nat := (a % 2 ^ (24 * k) + b % 2 ^ (24 * k)) / 2 ^ (24 * k)
theorem carry_le (a b k : Nat) : carry a b k ≤ 1 := by
  have hp := Nat.two_pow_pos (24 * k)
  have h1 := Nat.mod_lt a hp
  have h2 := Nat.mod_lt b hp
  unfold carry
  apply Nat.le_of_lt_succ
  rw [Nat.div_lt_iff_lt_mul hp]
  omega
theorem mod_pow_succ (a k : Nat) : a % 2 ^ (24 * (k + 1)) = a % 2 ^ (24 * k) + 2 ^ (24 * k) * (a / 2 ^ (24 * k) % 16777216) := by
  rw [pow24, Nat.mul_comm 16777216, Nat.mod_mul]
theorem carry_step (a b k : Nat) : (a + b) / 2 ^ (24 * k) % 16777216 = (carry a b k + a / 2 ^ (24 * k) % 16777216 + b / 2 ^ (24 * k) % 16777216) % 16777216 ∧ carry a b (k + 1) = (carry a b k + a / 2 ^ (24 * k) % 16777216 + b / 2 ^ (24 * k) % 16777216) / 16777216 := by
  have hp := Nat.two_pow_pos (24 * k)
  constructor
  · have e : (a + b) / 2 ^ (24 * k) = carry a b k + a / 2 ^ (24 * k) + b / 2 ^ (24 * k) := by
      unfold carry
      have h1 := Nat.div_add_mod a (2 ^ (24 * k))
      have h2 := Nat.div_add_mod b (2 ^ (24 * k))
      rw [show a + b = (a % 2 ^ (24 * k) + b % 2 ^ (24 * k)) + 2 ^ (24 * k) * (a / 2 ^ (24 * k) + b / 2 ^ (24 * k)) by rw [Nat.mul_add]; omega, Nat.add_mul_div_left _ _ hp]
      omega
    rw [e]; omega
  · unfold carry
    rw [mod_pow_succ a, mod_pow_succ b, pow24, Nat.mul_comm 16777216, ← Nat.div_div_eq_div_mul]
    rw [show a % 2 ^ (24 * k) + 2 ^ (24 * k) * (a / 2 ^ (24 * k) % 16777216) + (b % 2 ^ (24 * k) + 2 ^ (24 * k) * (b / 2 ^ (24 * k) % 16777216)) = (a % 2 ^ (24 * k) + b % 2 ^ (24 * k)) + 2 ^ (24 * k) * (a / 2 ^ (24 * k) % 16777216 + b / 2 ^ (24 * k) % 16777216) by rw [Nat.mul_add]; omega]
    rw [Nat.add_mul_div_left _ _ hp, Nat.add_assoc]
theorem carry_zero (a b : Nat) : carry a b 0 = 0 := by simp [carry, Nat.mod_one]
theorem lt_pow_nd {a k : Nat} (h : nd a ≤ k) : a < 2 ^ (24 * k) := Nat.lt_of_lt_of_le (nd_lt a) (Nat.pow_le_pow_right (by decide) (by omega))
theorem pow_le_nd {a k : Nat} (h : k < nd a) : 2 ^ (24 * k) ≤ a := by
  have h0 : a ≠ 0 := by intro h0; subst h0; rw [nd_zero] at h; omega
  exact Nat.le_trans (Nat.pow_le_pow_right (by decide) (by omega)) (nd_le h0)
theorem carry_end {a b k : Nat} (ha : nd a ≤ k) (hb : nd b ≤ k) : carry a b k = (a + b) / 2 ^ (24 * k) := by
  unfold carry
  rw [Nat.mod_eq_of_lt (lt_pow_nd ha), Nat.mod_eq_of_lt (lt_pow_nd hb)]
theorem carry_last {a b k : Nat} (ha : nd a < k) (hb : nd b < k) : carry a b k = 0 := by
  rw [carry_end (by omega) (by omega)]
  apply Nat.div_eq_of_lt
  obtain ⟨j, rfl⟩ : ∃ j, k = j + 1 := ⟨k - 1, by omega⟩
  have h1 := lt_pow_nd (a := a) (k := j) (by omega)
  have h2 := lt_pow_nd (a := b) (k := j) (by omega)
  rw [pow24]
  omega
theorem carry_stop {a b k : Nat} (ha : nd a ≤ k) (hb : nd b ≤ k) (h : carry a b k = 0) : a + b < 2 ^ (24 * k) := by
  rw [carry_end ha hb] at h
  rcases Nat.div_eq_zero_iff.1 h with h | h
  · have := Nat.two_pow_pos (24 * k); omega
  · exact h
theorem carry_go {a b k : Nat} (h : k < nd a ∨ k < nd b ∨ 0 < carry a b k) : 2 ^ (24 * k) ≤ a + b := by
  rcases h with h | h | h
  · have := pow_le_nd h; omega
  · have := pow_le_nd h; omega
  · have h1 := Nat.mod_le a (2 ^ (24 * k))
    have h2 := Nat.mod_le b (2 ^ (24 * k))
    have h3 : 2 ^ (24 * k) ≤ a % 2 ^ (24 * k) + b % 2 ^ (24 * k) := by
      unfold carry at h
      exact (Nat.div_pos_iff.1 h).2
    omega

/-- The state of plus behind k digits. -/
structure PlusAt (w wr : World) (v : Value) (a b k : Nat) : Prop where
  own : wr.ownsRow w.heap.size 3 1 v k (ints (low (a + b) k))
  below : Below w.heap.size w wr
  top : 0 < k → 2 ^ (24 * (k - 1)) ≤ a + b
theorem PlusAt.more {w wr w1 : World} {v v' : Value} {a b k : Nat} {n : Int} {o : Obj} (h : PlusAt w wr v a b k) (hgo : k < nd a ∨ k < nd b ∨ 0 < carry a b k) (hn : n = (carry a b k + a / 2 ^ (24 * k) % 16777216 + b / 2 ^ (24 * k) % 16777216 : Nat))
    (h1 : w1.ownsRow w.heap.size 3 1 v' (k + 1) (ints (low (a + b) k) ++ [.int .i64 (n % 16777216)])) (hg : (wr.alloc o).grownBy w1 v.ownBlock) : PlusAt w w1 v' a b (k + 1) ∧ n / 16777216 = (carry a b (k + 1) : Nat) := by
  have hs := carry_step a b k
  have hk' := low_length (a + b) k
  have := push (l := low (a + b) k) (d := (a + b) / 2 ^ (24 * k) % 16777216) (by rw [hk']; exact h.own.alloc o) (by rw [hk', hs.1]; subst hn; exact h1) hg (h.below.alloc h.below.size _) (Nat.le_refl _)
  rw [show low (a + b) k ++ [(a + b) / 2 ^ (24 * k) % 16777216] = low (a + b) (k + 1) from rfl, low_length] at this
  exact ⟨⟨this.1, this.2, fun _ => carry_go hgo⟩, by rw [hs.2, hn]; rfl⟩

set_option maxHeartbeats 2000000 in
theorem plus_any (a b : Nat) (va vb : Value) (w : World) (ha : IsNat w va a) (hb : IsNat w vb b) (sa : nd a ≤ 100000) (sb : nd b ≤ 100000) :
    Calls Tryd.prog 64 #[va, vb] w fun e w' => ∃ v, e = .returned v ∧ IsNat w' v (a + b) ∧ Below w.heap.size w w' := by
  obtain ⟨la, ra, ea, na⟩ := ha
  obtain ⟨lb, rb, eb, nb⟩ := hb
  have da := val_dig ra.1
  have db := val_dig rb.1
  have xa := dig_lt ra.1
  have xb := dig_lt rb.1
  obtain ⟨A, capa, ga, rfl, _, _, hA, hgA, cA⟩ := ra.open
  obtain ⟨B, capb, gb, rfl, _, _, hB, hgB, cB⟩ := rb.open
  rw [ea] at da
  rw [eb] at db
  obtain ⟨i0, hi, hz0, hz1, hz2⟩ := info_parts infoInt
  have HDA : Hid (∀ k, dig la k = a / 2 ^ (24 * k) % 16777216) := da
  have HDB : Hid (∀ k, dig lb k = b / 2 ^ (24 * k) % 16777216) := db
  have HA : Hid (∀ j, j < la.length → w.cell? ⟨ga, j, none⟩ = some (.int .i64 (dig la j : Nat))) := cA
  have HB : Hid (∀ j, j < lb.length → w.cell? ⟨gb, j, none⟩ = some (.int .i64 (dig lb j : Nat))) := cB
  have HGA : Hid ((0 < la.length → A = some ⟨ga, 0, none⟩) ∧ (0 < la.length → ga < w.heap.size)) := ⟨hA, hgA⟩
  have HGB : Hid ((0 < lb.length → B = some ⟨gb, 0, none⟩) ∧ (0 < lb.length → gb < w.heap.size)) := ⟨hB, hgB⟩
  have HNA : Hid (la.length = nd a) := na
  have HNB : Hid (lb.length = nd b) := nb
  have HXA : Hid (∀ k, dig la k < 16777216) := xa
  have HXB : Hid (∀ k, dig lb k < 16777216) := xb
  rw [← na] at sa
  rw [← nb] at sb
  clear ra rb ea eb da db cA cB hA hB hgA hgB na nb xa xb
  go_enter Tryd.func64, Tryd.ntmps64
  go_wp2_with fail
  go_loopw [5, 6, 7, 8] (fun v c i _ wr => ∃ k : Nat, k ≤ max la.length lb.length + 1 ∧ i = .int .i64 k ∧ c = .int .i64 (carry a b k : Nat) ∧ PlusAt w wr v a b k) (fun _ _ i _ _ => max la.length lb.length + 1 - (intOf i).toNat)
  case atStart => exact ⟨0, by omega, rfl, by rw [carry_zero]; rfl, World.ownsRow_nil _ _ _ _, Below.refl _ _, by omega⟩
  case round =>
    obtain ⟨k, hk, rfl, rfl, hP⟩ := hrel
    have HP : Hid (PlusAt w wr u5 a b k) := hP
    have hc1 := carry_le a b k
    have HDa : Hid (dig la k = a / 2 ^ (24 * k) % 16777216) := HDA.out k
    have HDb : Hid (dig lb k = b / 2 ^ (24 * k) % 16777216) := HDB.out k
    have HLast : Hid (la.length < k → lb.length < k → carry a b k = 0) := fun h1 h2 => carry_last (by rw [← HNA.out]; exact h1) (by rw [← HNB.out]; exact h2)
    have HStop : Hid (la.length ≤ k → lb.length ≤ k → carry a b k = 0 → a + b < 2 ^ (24 * k)) := fun h1 h2 h3 => carry_stop (by rw [← HNA.out]; exact h1) (by rw [← HNB.out]; exact h2) h3
    have HPush : Hid (∀ (w1 : World) (v' : Value) (o : Obj) (n : Int), (k < la.length ∨ k < lb.length ∨ 0 < carry a b k) → n = (carry a b k + dig la k + dig lb k : Nat) → w1.ownsRow w.heap.size 3 1 v' (k + 1) (ints (low (a + b) k) ++ [.int .i64 (n % 16777216)]) → (wr.alloc o).grownBy w1 u5.ownBlock → PlusAt w w1 v' a b (k + 1) ∧ n / 16777216 = (carry a b (k + 1) : Nat)) :=
      fun w1 v' o n h1 h2 h3 h4 => HP.out.more (by rw [← HNA.out, ← HNB.out]; exact h1) (by rw [h2, HDa.out, HDb.out]) h3 h4
    clear hP
    by_cases ka : k < la.length
    · have c1 : wr.cell? ⟨ga, k, none⟩ = some (.int .i64 (dig la k : Nat)) := (HP.out.below.cell (p := ⟨ga, k, none⟩) (HGA.out.2 (by omega))).trans (HA.out k ka)
      have x1 := HXA.out k
      obtain rfl := HGA.out.1 (by omega)
      by_cases kb : k < lb.length
      · skip
        have c2 : wr.cell? ⟨gb, k, none⟩ = some (.int .i64 (dig lb k : Nat)) := (HP.out.below.cell (p := ⟨gb, k, none⟩) (HGB.out.2 (by omega))).trans (HB.out k kb)
        have x2 := HXB.out k
        obtain rfl := HGB.out.1 (by omega)
        generalize carry a b k = C at *
        generalize dig la k = X at *
        generalize dig lb k = Y at *
        go_wp2_with (at_builtin; refine wpList_append_own _ rfl _ _ 66 rfl w.heap.size 3 i0 (.int .i64 0) 1 8 Tryd.underlying66 hi hz0 hz1 hz2 rfl (by decide) _ _ _ rfl (HP.out.own.alloc _) ⟨wr.heap.size, 0, none⟩ 1 1 [.int .i64 (((C + X + Y : Nat) : Int) % 16777216)] rfl rfl ?d1a ?d2a ?d3a ?d4a ?d5a ?_)
        all_goals try exact one_cell (by go_simp)
        case d2a => first | rfl | (intro u hu; simp at hu; subst hu; rfl)
        case d3a => unfold maxLen; omega
        case d4a => omega
        case d5a => have := HP.out.below.size; simp; omega
        intro v' w1 hown1 hg1 _
        have HQ := HPush.out w1 v' _ _ (.inl ka) rfl hown1 hg1
        clear hown1 hg1
        have q2 := HQ.2
        have HR : Hid (PlusAt w w1 v' a b (k + 1)) := HQ.1
        clear HQ
        go_wp2_with fail
        go_roundw
        case rel => exact ⟨k + 1, by omega, by go_num, congrArg (Value.int .i64) (by omega), HR.out⟩
        case measure => simp [intOf]; omega
      · skip
        have z2 : dig lb k = 0 := dig_out (by omega)
        rw [z2] at HPush HDb
        simp only [Nat.add_zero] at HPush
        clear z2
        generalize carry a b k = C at *
        generalize dig la k = X at *
        go_wp2_with (at_builtin; refine wpList_append_own _ rfl _ _ 66 rfl w.heap.size 3 i0 (.int .i64 0) 1 8 Tryd.underlying66 hi hz0 hz1 hz2 rfl (by decide) _ _ _ rfl (HP.out.own.alloc _) ⟨wr.heap.size, 0, none⟩ 1 1 [.int .i64 (((C + X : Nat) : Int) % 16777216)] rfl rfl ?d1b ?d2b ?d3b ?d4b ?d5b ?_)
        all_goals try exact one_cell (by go_simp)
        case d2b => first | rfl | (intro u hu; simp at hu; subst hu; rfl)
        case d3b => unfold maxLen; omega
        case d4b => omega
        case d5b => have := HP.out.below.size; simp; omega
        intro v' w1 hown1 hg1 _
        have HQ := HPush.out w1 v' _ _ (.inl ka) rfl hown1 hg1
        clear hown1 hg1
        have q2 := HQ.2
        have HR : Hid (PlusAt w w1 v' a b (k + 1)) := HQ.1
        clear HQ
        go_wp2_with fail
        go_roundw
        case rel => exact ⟨k + 1, by omega, by go_num, congrArg (Value.int .i64) (by omega), HR.out⟩
        case measure => simp [intOf]; omega
    · by_cases kb : k < lb.length
      · skip
        have z1 : dig la k = 0 := dig_out (by omega)
        rw [z1] at HPush HDa
        simp only [Nat.add_zero] at HPush
        clear z1
        have c2 : wr.cell? ⟨gb, k, none⟩ = some (.int .i64 (dig lb k : Nat)) := (HP.out.below.cell (p := ⟨gb, k, none⟩) (HGB.out.2 (by omega))).trans (HB.out k kb)
        have x2 := HXB.out k
        obtain rfl := HGB.out.1 (by omega)
        generalize carry a b k = C at *
        generalize dig lb k = Y at *
        go_wp2_with (at_builtin; refine wpList_append_own _ rfl _ _ 66 rfl w.heap.size 3 i0 (.int .i64 0) 1 8 Tryd.underlying66 hi hz0 hz1 hz2 rfl (by decide) _ _ _ rfl (HP.out.own.alloc _) ⟨wr.heap.size, 0, none⟩ 1 1 [.int .i64 (((C + Y : Nat) : Int) % 16777216)] rfl rfl ?d1c ?d2c ?d3c ?d4c ?d5c ?_)
        all_goals try exact one_cell (by go_simp)
        case d2c => first | rfl | (intro u hu; simp at hu; subst hu; rfl)
        case d3c => unfold maxLen; omega
        case d4c => omega
        case d5c => have := HP.out.below.size; simp; omega
        intro v' w1 hown1 hg1 _
        have HQ := HPush.out w1 v' _ _ (.inr (.inl kb)) rfl hown1 hg1
        clear hown1 hg1
        have q2 := HQ.2
        have HR : Hid (PlusAt w w1 v' a b (k + 1)) := HQ.1
        clear HQ
        go_wp2_with fail
        go_roundw
        case rel => exact ⟨k + 1, by omega, by go_num, congrArg (Value.int .i64) (by omega), HR.out⟩
        case measure => simp [intOf]; omega
      · by_cases hc : 0 < carry a b k
        · have hkm : k ≤ max la.length lb.length := by
            apply Classical.byContradiction
            intro hn
            have := HLast.out (by omega) (by omega)
            omega
          have z1 : dig la k = 0 := dig_out (by omega)
          rw [z1] at HPush HDa
          simp only [Nat.add_zero] at HPush
          clear z1
          have z2 : dig lb k = 0 := dig_out (by omega)
          rw [z2] at HPush HDb
          simp only [Nat.add_zero] at HPush
          clear z2
          generalize carry a b k = C at *
          go_wp2_with (at_builtin; refine wpList_append_own _ rfl _ _ 66 rfl w.heap.size 3 i0 (.int .i64 0) 1 8 Tryd.underlying66 hi hz0 hz1 hz2 rfl (by decide) _ _ _ rfl (HP.out.own.alloc _) ⟨wr.heap.size, 0, none⟩ 1 1 [.int .i64 (((C : Nat) : Int) % 16777216)] rfl rfl ?d1d ?d2d ?d3d ?d4d ?d5d ?_)
          all_goals try exact one_cell (by go_simp)
          case d2d => first | rfl | (intro u hu; simp at hu; subst hu; rfl)
          case d3d => unfold maxLen; omega
          case d4d => omega
          case d5d => have := HP.out.below.size; simp; omega
          intro v' w1 hown1 hg1 _
          have HQ := HPush.out w1 v' _ _ (.inr (.inr hc)) rfl hown1 hg1
          clear hown1 hg1
          have q2 := HQ.2
          have HR : Hid (PlusAt w w1 v' a b (k + 1)) := HQ.1
          clear HQ
          go_wp2_with fail
          go_roundw
          case rel => exact ⟨k + 1, by omega, by go_num, congrArg (Value.int .i64) (by omega), HR.out⟩
          case measure => simp [intOf]; omega
        · have hc0 : carry a b k = 0 := by omega
          have HE : Hid (a + b < 2 ^ (24 * k)) := HStop.out (by omega) (by omega) hc0
          rw [hc0]
          clear HPush HLast HStop hc1 hc
          go_wp2
          go_ret
          exact ⟨_, rfl, low_nat HP.out.own HE.out HP.out.top, HP.out.below⟩
end Go.Proofs.YtfbdgecanfmgiaaDoor
