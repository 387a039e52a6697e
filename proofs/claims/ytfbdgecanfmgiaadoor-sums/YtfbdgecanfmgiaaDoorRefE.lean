import Derived.Test.YtfbdgecanfmgiaaDoorRefC
namespace Go.Proofs.YtfbdgecanfmgiaaDoor
open Go.RowKit

theorem bl_half {t : Nat} (h : 0 < t) : Go.bitLen t = 1 + Go.bitLen (t / 2) := by
  unfold Go.bitLen
  rw [if_neg (by omega)]
  by_cases h2 : t / 2 = 0
  · rw [if_pos h2]
    have : t = 1 := by omega
    subst this
    decide
  · rw [if_neg h2, Nat.log2_def, if_pos (by omega)]
    omega
theorem bl_zero : Go.bitLen 0 = 0 := rfl
/-- A number's length, by its first digit. -/
theorem bl_top {a : Nat} {l : List Nat} (hd : Digits l) (hv : val l = a) (hl : l.length = nd a) (h0 : 0 < l.length) : Go.bitLen a = 24 * (l.length - 1) + Go.bitLen (dig l (l.length - 1)) ∧ 0 < dig l (l.length - 1) := by
  have ht := top_pos hd (by rw [hv]; exact hl) (by intro h; subst h; simp at h0)
  have h1 : dig l (l.length - 1) = a / 2 ^ (24 * (l.length - 1)) := by
    rw [val_dig hd, hv, Nat.mod_eq_of_lt]
    rw [Nat.div_lt_iff_lt_mul (Nat.two_pow_pos _), ← pow24, show l.length - 1 + 1 = l.length by omega, hl]
    exact nd_lt a
  refine ⟨?_, ht⟩
  rw [h1] at ht ⊢
  exact Go.bitLen_shift a (24 * (l.length - 1)) (by omega)

set_option maxHeartbeats 1000000 in
theorem size_any (a : Nat) (va : Value) (w : World) (ha : IsNat w va a) (sa : nd a ≤ 100000) :
    Calls Tryd.prog 67 #[va] w fun e w' => e = .returned (.int .i64 (Go.bitLen a : Nat)) ∧ w' = w := by
  obtain ⟨la, ra, ea, na⟩ := ha
  obtain ⟨A, capa, ga, rfl, _, _, hA, hgA, cA⟩ := ra.open
  by_cases h0 : la.length = 0
  · have hz : a = 0 := by
      have := List.eq_nil_of_length_eq_zero h0
      subst this
      exact ea.symm
    rw [h0, hz, bl_zero]
    clear ra ea na hA hgA cA sa
    go_enter Tryd.func67, Tryd.ntmps67
    go_wp2
    go_ret
    exact ⟨rfl, rfl⟩
  · obtain ⟨hb, hpos⟩ := bl_top ra.1 ea na (by omega)
    have hx := dig_lt ra.1 (la.length - 1)
    have c1 := cA (la.length - 1) (by omega)
    obtain rfl := hA (by omega)
    rw [← na] at sa
    have hl1 : (la.length : Int) - 1 = ((la.length - 1 : Nat) : Int) := by omega
    have h0b : ((la.length : Int) == 0) = false := by rw [beq_eq_false_iff_ne]; omega
    have HB : Hid (Go.bitLen a = 24 * (la.length - 1) + Go.bitLen (dig la (la.length - 1))) := hb
    clear hb ra ea na hA hgA cA
    generalize dig la (la.length - 1) = X at *
    go_enter Tryd.func67, Tryd.ntmps67
    go_wp2_with fail
    go_loopw [3, 4] (fun n t wr => ∃ (N T : Nat), n = .int .i64 N ∧ t = .int .i64 T ∧ N + Go.bitLen T = Go.bitLen a ∧ T < 16777216 ∧ wr = w) (fun _ t _ => (intOf t).toNat)
    case atStart => exact ⟨24 * (la.length - 1), X, by first | rfl | (congr 1; done) | (congr 1; omega), rfl, HB.out.symm, hx, rfl⟩
    case round =>
      obtain ⟨N, T, rfl, rfl, hn, hT, rfl⟩ := hrel
      have HN : Hid (N + Go.bitLen T = Go.bitLen a) := hn
      have hN : N ≤ 2500000 := by
        have hbl := HB.out
        have h24 : Go.bitLen X ≤ 24 := by
          have := pow_le_of_lt ((Go.bitLen_spec X).2 (by omega)) (show X < 2 ^ 24 from hx)
          omega
        omega
      clear hn
      by_cases ht : 0 < T
      · have HH : Hid (Go.bitLen T = 1 + Go.bitLen (T / 2)) := bl_half ht
        go_wp2_with fail
        go_roundw
        case rel => exact ⟨N + 1, T / 2, by go_num, by go_num, by have := HN.out; have := HH.out; omega, by omega, by trivial⟩
        case measure => simp [intOf]; omega
      · obtain rfl : T = 0 := by omega
        have hNa : N = Go.bitLen a := by have := HN.out; rw [bl_zero] at this; omega
        clear HN HB
        go_wp2
        go_ret
        exact ⟨ret_int (by rw [hNa]), rfl⟩

set_option maxHeartbeats 1000000 in
theorem small_any (a : Nat) (va : Value) (w : World) (ha : IsNat w va a) (sa : a < 9223372036854775808) :
    Calls Tryd.prog 77 #[va] w fun e w' => e = .returned (.int .i64 (a : Nat)) ∧ w' = w := by
  obtain ⟨la, ra, ea, na⟩ := ha
  have da := val_dig ra.1
  obtain ⟨A, capa, ga, rfl, _, _, hA, hgA, cA⟩ := ra.open
  have hlen : la.length ≤ 3 := by
    rw [na]
    exact nd_of_lt (Nat.lt_of_lt_of_le sa (by decide))
  rw [ea] at da
  have HTop : Hid (a / 2 ^ (24 * la.length) = 0) := Nat.div_eq_of_lt (by rw [na]; exact nd_lt a)
  have HA : Hid (∀ j, j < la.length → w.cell? ⟨ga, j, none⟩ = some (.int .i64 (dig la j : Nat))) := cA
  have HGA : Hid (0 < la.length → A = some ⟨ga, 0, none⟩) := hA
  have HD : Hid (∀ k, a / 2 ^ (24 * k) = 16777216 * (a / 2 ^ (24 * (k + 1))) + dig la k) := fun k => by
    rw [da k, pow24, Nat.mul_comm 16777216 (2 ^ (24 * k)), ← Nat.div_div_eq_div_mul]
    omega
  have hsub : wrap64 ((la.length : Int) - 1) = (la.length : Int) - 1 := by unfold wrap64; omega
  clear ra ea na hA hgA cA da
  go_enter Tryd.func77, Tryd.ntmps77
  go_wp2_with fail
  go_loopw [3, 4] (fun t i wr => ∃ k : Nat, k ≤ la.length ∧ i = .int .i64 ((k : Int) - 1) ∧ t = .int .i64 (a / 2 ^ (24 * k) : Nat) ∧ wr = w) (fun _ i _ => (intOf i + 1).toNat)
  case atStart => exact ⟨la.length, Nat.le_refl _, rfl, by rw [HTop.out]; rfl, rfl⟩
  case round =>
    obtain ⟨k, hk, rfl, rfl, rfl⟩ := hrel
    clear hsub
    by_cases h0 : k = 0
    · subst h0
      have hz : a / 2 ^ (24 * 0) = a := by simp
      rw [hz]
      go_wp2
      go_ret
      exact ⟨rfl, rfl⟩
    · obtain ⟨j, rfl⟩ : ∃ j, k = j + 1 := ⟨k - 1, by omega⟩
      have e1 : ((j + 1 : Nat) : Int) - 1 = j := by omega
      rw [e1]
      have c1 := HA.out j (by omega)
      have hd := HD.out j
      have HD2 : Hid (a / 2 ^ (24 * j) = 16777216 * (a / 2 ^ (24 * (j + 1))) + dig la j) := hd
      have hle : a / 2 ^ (24 * j) ≤ a := Nat.div_le_self _ _
      obtain rfl := HGA.out (by omega)
      generalize a / 2 ^ (24 * (j + 1)) = T at *
      generalize dig la j = X at *
      have hbd : 16777216 * T + X < 9223372036854775808 := by omega
      clear hd hle
      go_wp2_with fail
      go_roundw
      case rel => exact ⟨j, by omega, by go_num, by rw [HD2.out]; first | rfl | (congr 1; done) | (congr 1; omega), by trivial⟩
      case measure => simp [intOf]
end Go.Proofs.YtfbdgecanfmgiaaDoor
