import Derived.Test.YtfbdgecanfmgiaaDoorRefC
import Derived.BigQuiet
namespace Go.Proofs.YtfbdgecanfmgiaaDoor
open Go.RowKit

/-- What is lent, behind k digits of a difference. -/
def lent (a b k : Nat) : Nat := if a % 2 ^ (24 * k) < b % 2 ^ (24 * k) then 1 else 0
theorem lent_le (a b k : Nat) : lent a b k ≤ 1 := by unfold lent; split <;> omega
theorem lent_zero (a b : Nat) : lent a b 0 = 0 := by simp [lent, Nat.mod_one]
theorem lent_parts {P a b ap aq bp bq l : Nat} (ha : a = ap + P * aq) (hb : b = bp + P * bq) (hap : ap < P) (hbp : bp < P) (hl : l = if ap < bp then 1 else 0) (h : b ≤ a) : (a - b) / P + bq + l = aq := by
  have h1 : bq ≤ aq := by
    apply Classical.byContradiction
    intro hn
    have := Nat.mul_le_mul_left P (show aq + 1 ≤ bq by omega)
    rw [Nat.mul_add] at this
    omega
  obtain ⟨t, rfl⟩ : ∃ t, aq = bq + t := ⟨aq - bq, by omega⟩
  rw [Nat.mul_add] at ha
  by_cases hlt : ap < bp
  · rw [if_pos hlt] at hl
    have ht : t ≠ 0 := by intro h0; subst h0; omega
    obtain ⟨s, rfl⟩ : ∃ s, t = s + 1 := ⟨t - 1, by omega⟩
    rw [Nat.mul_add] at ha
    have e : a - b = (P + ap - bp) + P * s := by omega
    rw [e, Nat.add_mul_div_left _ _ (by omega), Nat.div_eq_of_lt (by omega)]
    omega
  · rw [if_neg hlt] at hl
    have e : a - b = (ap - bp) + P * t := by omega
    rw [e, Nat.add_mul_div_left _ _ (by omega), Nat.div_eq_of_lt (by omega)]
    omega
theorem lent_step {a b : Nat} (k : Nat) (h : b ≤ a) (X Y : Nat) (hX : X = a / 2 ^ (24 * k) % 16777216) (hY : Y = b / 2 ^ (24 * k) % 16777216) :
    (X < Y + lent a b k → (a - b) / 2 ^ (24 * k) % 16777216 + Y + lent a b k = X + 16777216 ∧ lent a b (k + 1) = 1) ∧ (¬ X < Y + lent a b k → (a - b) / 2 ^ (24 * k) % 16777216 + Y + lent a b k = X ∧ lent a b (k + 1) = 0) := by
  have hp := Nat.two_pow_pos (24 * k)
  have e := lent_parts (P := 2 ^ (24 * k)) (Nat.mod_add_div a (2 ^ (24 * k))).symm (Nat.mod_add_div b (2 ^ (24 * k))).symm (Nat.mod_lt _ hp) (Nat.mod_lt _ hp) rfl h
  rw [show (if a % 2 ^ (24 * k) < b % 2 ^ (24 * k) then 1 else 0) = lent a b k from rfl] at e
  have hl := lent_le a b k
  have hn : lent a b (k + 1) = if X < Y + lent a b k then 1 else 0 := by
    have h1 := mod_pow_succ a k
    have h2 := mod_pow_succ b k
    rw [← hX] at h1
    rw [← hY] at h2
    have m1 := Nat.mod_lt a hp
    have m2 := Nat.mod_lt b hp
    conv => lhs; unfold lent
    rw [h1, h2]
    have hlent : lent a b k = if a % 2 ^ (24 * k) < b % 2 ^ (24 * k) then 1 else 0 := rfl
    rw [hlent]
    generalize a % 2 ^ (24 * k) = ap at *
    generalize b % 2 ^ (24 * k) = bp at *
    generalize 2 ^ (24 * k) = P at *
    clear h1 h2 e hlent hX hY hl
    by_cases hxy : X = Y
    · subst hxy
      by_cases hlt : ap < bp
      · rw [if_pos hlt, if_pos (by omega), if_pos (by omega)]
      · rw [if_neg hlt, if_neg (by omega), if_neg (by omega)]
    · by_cases hl : X < Y
      · have := Nat.mul_le_mul_left P (show X + 1 ≤ Y by omega)
        rw [Nat.mul_add] at this
        rw [if_pos (by omega), if_pos (by omega)]
      · have := Nat.mul_le_mul_left P (show Y + 1 ≤ X by omega)
        rw [Nat.mul_add] at this
        rw [if_neg (by omega), if_neg]
        split <;> omega
  rw [hn]
  constructor
  · intro hc; rw [if_pos hc]; omega
  · intro hc; rw [if_neg hc]; omega

/-- The state of minus behind k digits. -/
structure MinusAt (w wr : World) (v : Value) (a b k : Nat) : Prop where
  own : wr.ownsRow w.heap.size 3 1 v k (ints (low (a - b) k))
  below : Below w.heap.size w wr
theorem MinusAt.more {w wr w1 : World} {v v' : Value} {a b k : Nat} {n : Int} {o : Obj} (h : MinusAt w wr v a b k) (hn : n = ((a - b) / 2 ^ (24 * k) % 16777216 : Nat))
    (h1 : w1.ownsRow w.heap.size 3 1 v' (k + 1) (ints (low (a - b) k) ++ [.int .i64 n])) (hg : (wr.alloc o).grownBy w1 v.ownBlock) : MinusAt w w1 v' a b (k + 1) := by
  have hk' := low_length (a - b) k
  have := push (l := low (a - b) k) (d := (a - b) / 2 ^ (24 * k) % 16777216) (by rw [hk']; exact h.own.alloc o) (by rw [hk']; subst hn; exact h1) hg (h.below.alloc h.below.size _) (Nat.le_refl _)
  rw [show low (a - b) k ++ [(a - b) / 2 ^ (24 * k) % 16777216] = low (a - b) (k + 1) from rfl, low_length] at this
  exact ⟨this.1, this.2⟩
theorem MinusAt.row {w wr : World} {v : Value} {a b k : Nat} (h : MinusAt w wr v a b k) : IsRow wr v (low (a - b) k) := IsRow.own (low_digits _ _) (by rw [low_length]; exact h.own)

set_option maxHeartbeats 2000000 in
theorem minus_any (a b : Nat) (va vb : Value) (w : World) (hab : b ≤ a) (ha : IsNat w va a) (hb : IsNat w vb b) (sa : nd a ≤ 100000) :
    Calls Tryd.prog 66 #[va, vb] w fun e w' => ∃ v, e = .returned v ∧ IsNat w' v (a - b) ∧ Below w.heap.size w w' := by
  obtain ⟨la, ra, ea, na⟩ := ha
  obtain ⟨lb, rb, eb, nb⟩ := hb
  have da := val_dig ra.1
  have db := val_dig rb.1
  have xa := dig_lt ra.1
  have xb := dig_lt rb.1
  have HE : Hid ((a - b) % 2 ^ (24 * la.length) = a - b) := Nat.mod_eq_of_lt (Nat.lt_of_le_of_lt (Nat.sub_le _ _) (by rw [na]; exact nd_lt a))
  have hlen : lb.length ≤ la.length := by rw [na, nb]; exact nd_mono hab
  obtain ⟨A, capa, ga, rfl, _, _, hA, hgA, cA⟩ := ra.open
  obtain ⟨B, capb, gb, rfl, _, _, hB, hgB, cB⟩ := rb.open
  rw [ea] at da
  rw [eb] at db
  obtain ⟨i0, hi, hz0, hz1, hz2⟩ := info_parts infoInt
  have HA : Hid (∀ j, j < la.length → w.cell? ⟨ga, j, none⟩ = some (.int .i64 (dig la j : Nat))) := cA
  have HB : Hid (∀ j, j < lb.length → w.cell? ⟨gb, j, none⟩ = some (.int .i64 (dig lb j : Nat))) := cB
  have HGA : Hid ((0 < la.length → A = some ⟨ga, 0, none⟩) ∧ (0 < la.length → ga < w.heap.size)) := ⟨hA, hgA⟩
  have HGB : Hid ((0 < lb.length → B = some ⟨gb, 0, none⟩) ∧ (0 < lb.length → gb < w.heap.size)) := ⟨hB, hgB⟩
  have HXA : Hid (∀ k, dig la k < 16777216) := xa
  have HXB : Hid (∀ k, dig lb k < 16777216) := xb
  have HST : Hid (∀ k, (dig la k < dig lb k + lent a b k → (a - b) / 2 ^ (24 * k) % 16777216 + dig lb k + lent a b k = dig la k + 16777216 ∧ lent a b (k + 1) = 1) ∧ (¬ dig la k < dig lb k + lent a b k → (a - b) / 2 ^ (24 * k) % 16777216 + dig lb k + lent a b k = dig la k ∧ lent a b (k + 1) = 0)) := fun k => lent_step k hab _ _ (da k) (db k)
  rw [← na] at sa
  clear ra rb ea eb da db cA cB hA hB hgA hgB na nb xa xb hab
  go_enter Tryd.func66, Tryd.ntmps66
  go_wp2_with fail
  go_loopw [5, 6, 7, 8] (fun v c i _ wr => ∃ k : Nat, k ≤ la.length ∧ i = .int .i64 k ∧ c = .int .i64 (lent a b k : Nat) ∧ MinusAt w wr v a b k) (fun _ _ i _ _ => la.length - (intOf i).toNat)
  case atStart => exact ⟨0, by omega, rfl, by rw [lent_zero]; rfl, World.ownsRow_nil _ _ _ _, Below.refl _ _⟩
  case round =>
    obtain ⟨k, hk, rfl, rfl, hP⟩ := hrel
    have HP : Hid (MinusAt w wr u5 a b k) := hP
    have hl1 := lent_le a b k
    have hst := HST.out k
    clear hP
    by_cases ka : k < la.length
    · have HPush : Hid (∀ (w1 : World) (v' : Value) (o : Obj) (n : Int), n = ((a - b) / 2 ^ (24 * k) % 16777216 : Nat) → w1.ownsRow w.heap.size 3 1 v' (k + 1) (ints (low (a - b) k) ++ [.int .i64 n]) → (wr.alloc o).grownBy w1 u5.ownBlock → MinusAt w w1 v' a b (k + 1)) :=
        fun w1 v' o n h2 h3 h4 => HP.out.more h2 h3 h4
      generalize (a - b) / 2 ^ (24 * k) % 16777216 = D at *
      have c1 : wr.cell? ⟨ga, k, none⟩ = some (.int .i64 (dig la k : Nat)) := (HP.out.below.cell (p := ⟨ga, k, none⟩) (HGA.out.2 (by omega))).trans (HA.out k ka)
      have x1 := HXA.out k
      obtain rfl := HGA.out.1 (by omega)
      by_cases kb : k < lb.length
      · have c2 : wr.cell? ⟨gb, k, none⟩ = some (.int .i64 (dig lb k : Nat)) := (HP.out.below.cell (p := ⟨gb, k, none⟩) (HGB.out.2 (by omega))).trans (HB.out k kb)
        have x2 := HXB.out k
        obtain rfl := HGB.out.1 (by omega)
        generalize dig la k = X at *
        generalize dig lb k = Y at *
        by_cases hlt : X < Y + lent a b k
        · obtain ⟨e1, e2⟩ := hst.1 hlt
          have HE2 : Hid (lent a b (k + 1) = 1) := e2
          clear e2 hst
          generalize lent a b k = C at *
          have hneg : (X : Int) - C - Y < 0 := by omega
          go_wp2_with (at_builtin; refine wpList_append_own _ rfl _ _ 66 rfl w.heap.size 3 i0 (.int .i64 0) 1 8 Tryd.underlying66 hi hz0 hz1 hz2 rfl (by decide) _ _ _ rfl (HP.out.own.alloc _) ⟨wr.heap.size, 0, none⟩ 1 1 [.int .i64 ((X : Int) - C - Y + 16777216)] rfl rfl ?d1a ?d2a ?d3a ?d4a ?d5a ?_)
          all_goals try exact one_cell (by go_simp)
          case d2a => first | rfl | (intro u hu; simp at hu; subst hu; rfl)
          case d3a => unfold maxLen; omega
          case d4a => omega
          case d5a => have := HP.out.below.size; simp; omega
          intro v' w1 hown1 hg1 _
          have HR : Hid (MinusAt w w1 v' a b (k + 1)) := HPush.out w1 v' _ _ (by omega) hown1 hg1
          clear hown1 hg1
          go_wp2_with fail
          go_roundw
          case rel => exact ⟨k + 1, by omega, by go_num, by rw [HE2.out]; rfl, HR.out⟩
          case measure => simp [intOf]; omega
        · obtain ⟨e1, e2⟩ := hst.2 hlt
          have HE2 : Hid (lent a b (k + 1) = 0) := e2
          clear e2 hst
          generalize lent a b k = C at *
          have hneg : ¬ (X : Int) - C - Y < 0 := by omega
          go_wp2_with (at_builtin; refine wpList_append_own _ rfl _ _ 66 rfl w.heap.size 3 i0 (.int .i64 0) 1 8 Tryd.underlying66 hi hz0 hz1 hz2 rfl (by decide) _ _ _ rfl (HP.out.own.alloc _) ⟨wr.heap.size, 0, none⟩ 1 1 [.int .i64 ((X : Int) - C - Y)] rfl rfl ?d1b ?d2b ?d3b ?d4b ?d5b ?_)
          all_goals try exact one_cell (by go_simp)
          case d2b => first | rfl | (intro u hu; simp at hu; subst hu; rfl)
          case d3b => unfold maxLen; omega
          case d4b => omega
          case d5b => have := HP.out.below.size; simp; omega
          intro v' w1 hown1 hg1 _
          have HR : Hid (MinusAt w w1 v' a b (k + 1)) := HPush.out w1 v' _ _ (by omega) hown1 hg1
          clear hown1 hg1
          go_wp2_with fail
          go_roundw
          case rel => exact ⟨k + 1, by omega, by go_num, by rw [HE2.out]; rfl, HR.out⟩
          case measure => simp [intOf]; omega
      · have z2 : dig lb k = 0 := dig_out (by omega)
        rw [z2] at hst
        clear z2
        simp only [Nat.zero_add, Nat.add_zero] at hst
        generalize dig la k = X at *
        by_cases hlt : X < lent a b k
        · obtain ⟨e1, e2⟩ := hst.1 hlt
          have HE2 : Hid (lent a b (k + 1) = 1) := e2
          clear e2 hst
          generalize lent a b k = C at *
          have hneg : (X : Int) - C < 0 := by omega
          go_wp2_with (at_builtin; refine wpList_append_own _ rfl _ _ 66 rfl w.heap.size 3 i0 (.int .i64 0) 1 8 Tryd.underlying66 hi hz0 hz1 hz2 rfl (by decide) _ _ _ rfl (HP.out.own.alloc _) ⟨wr.heap.size, 0, none⟩ 1 1 [.int .i64 ((X : Int) - C + 16777216)] rfl rfl ?d1c ?d2c ?d3c ?d4c ?d5c ?_)
          all_goals try exact one_cell (by go_simp)
          case d2c => first | rfl | (intro u hu; simp at hu; subst hu; rfl)
          case d3c => unfold maxLen; omega
          case d4c => omega
          case d5c => have := HP.out.below.size; simp; omega
          intro v' w1 hown1 hg1 _
          have HR : Hid (MinusAt w w1 v' a b (k + 1)) := HPush.out w1 v' _ _ (by omega) hown1 hg1
          clear hown1 hg1
          go_wp2_with fail
          go_roundw
          case rel => exact ⟨k + 1, by omega, by go_num, by rw [HE2.out]; rfl, HR.out⟩
          case measure => simp [intOf]; omega
        · obtain ⟨e1, e2⟩ := hst.2 hlt
          have HE2 : Hid (lent a b (k + 1) = 0) := e2
          clear e2 hst
          generalize lent a b k = C at *
          have hneg : ¬ (X : Int) - C < 0 := by omega
          go_wp2_with (at_builtin; refine wpList_append_own _ rfl _ _ 66 rfl w.heap.size 3 i0 (.int .i64 0) 1 8 Tryd.underlying66 hi hz0 hz1 hz2 rfl (by decide) _ _ _ rfl (HP.out.own.alloc _) ⟨wr.heap.size, 0, none⟩ 1 1 [.int .i64 ((X : Int) - C)] rfl rfl ?d1d ?d2d ?d3d ?d4d ?d5d ?_)
          all_goals try exact one_cell (by go_simp)
          case d2d => first | rfl | (intro u hu; simp at hu; subst hu; rfl)
          case d3d => unfold maxLen; omega
          case d4d => omega
          case d5d => have := HP.out.below.size; simp; omega
          intro v' w1 hown1 hg1 _
          have HR : Hid (MinusAt w w1 v' a b (k + 1)) := HPush.out w1 v' _ _ (by omega) hown1 hg1
          clear hown1 hg1
          go_wp2_with fail
          go_roundw
          case rel => exact ⟨k + 1, by omega, by go_num, by rw [HE2.out]; rfl, HR.out⟩
          case measure => simp [intOf]; omega
    · obtain rfl : k = la.length := by omega
      clear hst hl1
      go_wp2_with fail
      refine (trim_any _ _ _ HP.out.row).mono ?_
      rintro e w' ⟨v', rfl, hv', rfl⟩
      have HV : Hid (IsNat w' v' (val (low (a - b) la.length))) := hv'
      clear hv'
      go_wp2_with fail
      go_ret
      refine ⟨_, rfl, ?_, HP.out.below⟩
      have := HV.out
      rw [low_val, HE.out] at this
      exact this

def cmpI (a b : Nat) : Int := if a < b then -1 else if a = b then 0 else 1
theorem cmpI_lt {a b : Nat} (h : a < b) : cmpI a b = -1 := by unfold cmpI; rw [if_pos h]
theorem cmpI_gt {a b : Nat} (h : b < a) : cmpI a b = 1 := by unfold cmpI; rw [if_neg (by omega), if_neg (by omega)]
theorem cmpI_eq {a b : Nat} (h : a = b) : cmpI a b = 0 := by unfold cmpI; rw [if_neg (by omega), if_pos h]
theorem nd_lt_lt {a b : Nat} (h : nd a < nd b) : a < b := by
  apply Classical.byContradiction
  intro hn
  have := nd_mono (show b ≤ a by omega)
  omega
theorem upper_lt {a b k : Nat} (h : a / 2 ^ (24 * (k + 1)) = b / 2 ^ (24 * (k + 1))) (hd : a / 2 ^ (24 * k) % 16777216 < b / 2 ^ (24 * k) % 16777216) : a < b := by
  apply Classical.byContradiction
  intro hn
  have h1 := Nat.div_le_div_right (c := 2 ^ (24 * k)) (show b ≤ a by omega)
  rw [pow24, Nat.mul_comm 16777216, ← Nat.div_div_eq_div_mul, ← Nat.div_div_eq_div_mul] at h
  omega
theorem upper_eq {a b k : Nat} (h : a / 2 ^ (24 * (k + 1)) = b / 2 ^ (24 * (k + 1))) (hd : a / 2 ^ (24 * k) % 16777216 = b / 2 ^ (24 * k) % 16777216) : a / 2 ^ (24 * k) = b / 2 ^ (24 * k) := by
  rw [pow24, Nat.mul_comm 16777216, ← Nat.div_div_eq_div_mul, ← Nat.div_div_eq_div_mul] at h
  omega

set_option maxHeartbeats 2000000 in
theorem cmp_any (a b : Nat) (va vb : Value) (w : World) (ha : IsNat w va a) (hb : IsNat w vb b) (sa : nd a ≤ 100000) (sb : nd b ≤ 100000) :
    Calls Tryd.prog 65 #[va, vb] w fun e w' => e = .returned (.int .i64 (cmpI a b)) ∧ Below w.heap.size w w' := by
  obtain ⟨la, ra, ea, na⟩ := ha
  obtain ⟨lb, rb, eb, nb⟩ := hb
  have da := val_dig ra.1
  have db := val_dig rb.1
  obtain ⟨A, capa, ga, rfl, _, _, hA, hgA, cA⟩ := ra.open
  obtain ⟨B, capb, gb, rfl, _, _, hB, hgB, cB⟩ := rb.open
  rw [ea] at da
  rw [eb] at db
  by_cases hne : la.length = lb.length
  · have HA : Hid (∀ j, j < la.length → w.cell? ⟨ga, j, none⟩ = some (.int .i64 (dig la j : Nat))) := cA
    have HB : Hid (∀ j, j < la.length → w.cell? ⟨gb, j, none⟩ = some (.int .i64 (dig lb j : Nat))) := by rw [hne]; exact cB
    have HGA : Hid ((0 < la.length → A = some ⟨ga, 0, none⟩) ∧ (0 < la.length → ga < w.heap.size)) := ⟨hA, hgA⟩
    have HGB : Hid ((0 < la.length → B = some ⟨gb, 0, none⟩) ∧ (0 < la.length → gb < w.heap.size)) := by rw [hne]; exact ⟨hB, hgB⟩
    have HDA : Hid (∀ k, dig la k = a / 2 ^ (24 * k) % 16777216) := da
    have HDB : Hid (∀ k, dig lb k = b / 2 ^ (24 * k) % 16777216) := db
    have HTop : Hid (a / 2 ^ (24 * la.length) = b / 2 ^ (24 * la.length)) := (by
      rw [Nat.div_eq_of_lt (by rw [na]; exact nd_lt a), Nat.div_eq_of_lt (by rw [hne, nb]; exact nd_lt b)] : a / 2 ^ (24 * la.length) = b / 2 ^ (24 * la.length))
    rw [← na] at sa
    rw [← hne]
    have hsub : wrap64 ((la.length : Int) - 1) = (la.length : Int) - 1 := by unfold wrap64; omega
    clear ra rb ea eb da db cA cB hA hB hgA hgB na nb sb hne
    go_enter Tryd.func65, Tryd.ntmps65
    go_wp2_with fail
    go_loopw [5] (fun i wr => ∃ k : Nat, k ≤ la.length ∧ i = .int .i64 ((k : Int) - 1) ∧ a / 2 ^ (24 * k) = b / 2 ^ (24 * k) ∧ Below w.heap.size w wr) (fun i _ => (intOf i + 1).toNat)
    case atStart => exact ⟨la.length, Nat.le_refl _, rfl, HTop.out, Below.refl _ _⟩
    case round =>
      obtain ⟨k, hk, rfl, hup, hbel⟩ := hrel
      have HU : Hid (a / 2 ^ (24 * k) = b / 2 ^ (24 * k)) := hup
      have HBW : Hid (Below w.heap.size w wr) := hbel
      clear hup hbel hsub
      by_cases h0 : k = 0
      · subst h0
        have hE : cmpI a b = 0 := cmpI_eq (by have := HU.out; simpa using this)
        have HZ : Hid (cmpI a b = 0) := hE
        clear hE
        go_wp2
        go_ret
        exact ⟨ret_int HZ.out.symm, HBW.out⟩
      · obtain ⟨j, rfl⟩ : ∃ j, k = j + 1 := ⟨k - 1, by omega⟩
        have e1 : ((j + 1 : Nat) : Int) - 1 = j := by omega
        rw [e1]
        have c1 : wr.cell? ⟨ga, j, none⟩ = some (.int .i64 (dig la j : Nat)) := (HBW.out.cell (p := ⟨ga, j, none⟩) (HGA.out.2 (by omega))).trans (HA.out j (by omega))
        have c2 : wr.cell? ⟨gb, j, none⟩ = some (.int .i64 (dig lb j : Nat)) := (HBW.out.cell (p := ⟨gb, j, none⟩) (HGB.out.2 (by omega))).trans (HB.out j (by omega))
        obtain rfl := HGA.out.1 (by omega)
        obtain rfl := HGB.out.1 (by omega)
        have HLt : Hid (dig la j < dig lb j → a < b) := fun h => upper_lt HU.out (by rw [← HDA.out, ← HDB.out]; exact h)
        have HGt : Hid (dig lb j < dig la j → b < a) := fun h => upper_lt HU.out.symm (by rw [← HDA.out, ← HDB.out]; exact h)
        have HEq : Hid (dig la j = dig lb j → a / 2 ^ (24 * j) = b / 2 ^ (24 * j)) := fun h => upper_eq HU.out (by rw [← HDA.out, ← HDB.out]; exact h)
        generalize dig la j = X at *
        generalize dig lb j = Y at *
        by_cases hxy : X = Y
        · subst hxy
          have hb1 : ((X : Int) != X) = false := bne_self_eq_false _
          have HE : Hid (a / 2 ^ (24 * j) = b / 2 ^ (24 * j)) := HEq.out rfl
          clear HLt HGt HEq
          go_wp2_with fail
          go_quiet (fail)
          go_wp2_with fail
          go_roundw
          case rel => exact ⟨j, by omega, by go_num, HE.out, below_drewN HBW.out _⟩
          case measure => simp [intOf]
        · have hb1 : ((X : Int) != Y) = true := by simp; omega
          by_cases hlt : X < Y
          · have HZ : Hid (cmpI a b = -1) := cmpI_lt (HLt.out hlt)
            have hlt' : (X : Int) < Y := by omega
            clear HLt HGt HEq
            go_wp2_with fail
            go_quiet (fail)
            go_wp2_with fail
            go_quiet (fail)
            go_wp2_with fail
            go_ret
            exact ⟨ret_int HZ.out.symm, below_drewN (below_drewN HBW.out _) _⟩
          · have HZ : Hid (cmpI a b = 1) := cmpI_gt (HGt.out (by omega))
            have hlt' : ¬ (X : Int) < Y := by omega
            clear HLt HGt HEq
            go_wp2_with fail
            go_quiet (fail)
            go_wp2_with fail
            go_quiet (fail)
            go_wp2_with fail
            go_ret
            exact ⟨ret_int HZ.out.symm, below_drewN (below_drewN HBW.out _) _⟩
  · have hb1 : ((la.length : Int) != lb.length) = true := by simp; omega
    by_cases hlt : la.length < lb.length
    · rw [cmpI_lt (nd_lt_lt (by omega))]
      clear ra rb da db cA cB hA hB hgA hgB na nb
      go_enter Tryd.func65, Tryd.ntmps65
      go_wp2
      go_ret
      exact ⟨rfl, Below.refl _ _⟩
    · rw [cmpI_gt (nd_lt_lt (by omega))]
      clear ra rb da db cA cB hA hB hgA hgB na nb
      go_enter Tryd.func65, Tryd.ntmps65
      go_wp2
      go_ret
      exact ⟨rfl, Below.refl _ _⟩
end Go.Proofs.YtfbdgecanfmgiaaDoor
