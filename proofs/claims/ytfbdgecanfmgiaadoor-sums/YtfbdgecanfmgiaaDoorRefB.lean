import Derived.Test.YtfbdgecanfmgiaaDoorRefA
namespace Go.Proofs.YtfbdgecanfmgiaaDoor
open Go.RowKit

theorem infoInt : (Tryd.prog.info? 3).map (fun i => (i.zero, i.size, i.bytes)) = some (some (.int .i64 0), 1, 8) := by kernel_rfl
theorem one_cell {w : World} {g : Nat} {v : Value} (h : w.cell? ⟨g, 0, none⟩ = some v) : ∀ j u, [v][j]? = some u → w.cell? ((⟨g, 0, none⟩ : Addr).add j) = some u := by
  intro j u hj
  match j, hj with
  | 0, hj => simp at hj; subst hj; simpa [Addr.add] using h
/-- One more digit: what append leaves. -/
theorem push {w w0 w1 : World} {base : Nat} {e : TypeId} {v v' : Value} {l : List Nat} {d : Nat} (hown : w0.ownsRow base e 1 v l.length (ints l)) (h : w1.ownsRow base e 1 v' (l.length + 1) (ints l ++ [.int .i64 (d : Nat)])) (hg : w0.grownBy w1 v.ownBlock) (hb : Below base w w0) (hw : base ≤ w.heap.size) :
    w1.ownsRow base e 1 v' (l ++ [d]).length (ints (l ++ [d])) ∧ Below base w w1 :=
  ⟨by rw [ints_snoc, List.length_append]; exact h, hb.grown hg (Nat.le_trans hw hb.size) (fun j hj => (hown.lt j hj).1)⟩

/-- The lowest k digits of a number. -/
def low (n : Nat) : Nat → List Nat
  | 0 => []
  | k + 1 => low n k ++ [n / 2 ^ (24 * k) % 16777216]
theorem low_length (n k : Nat) : (low n k).length = k := by induction k with | zero => rfl | succ k ih => simp [low, ih]
theorem low_digits (n k : Nat) : Digits (low n k) := by
  induction k with
  | zero => intro x hx; simp [low] at hx
  | succ k ih => exact ih.snoc (Nat.mod_lt _ (by decide))
theorem low_val (n k : Nat) : val (low n k) = n % 2 ^ (24 * k) := by
  induction k with
  | zero => simp [low, val, Nat.mod_one]
  | succ k ih =>
    rw [low, val_snoc, low_length, ih, pow24, Nat.mul_comm 16777216, Nat.mod_mul]
theorem low_nat {w : World} {base : Nat} {e : TypeId} {v : Value} {n k : Nat} (h : w.ownsRow base e 1 v k (ints (low n k))) (h1 : n < 2 ^ (24 * k)) (h2 : 0 < k → 2 ^ (24 * (k - 1)) ≤ n) : IsNat w v n := by
  refine ⟨low n k, IsRow.own (low_digits n k) (by rw [low_length]; exact h), ?_, ?_⟩
  · rw [low_val, Nat.mod_eq_of_lt h1]
  · rw [low_length, nd_eq h1 h2]

theorem nat_step {n k : Nat} (h : 0 < n / 2 ^ (24 * k)) : 2 ^ (24 * k) ≤ n := by
  apply Classical.byContradiction
  intro hn
  rw [Nat.div_eq_of_lt (by omega)] at h
  omega
set_option maxHeartbeats 1000000 in
theorem nat_any (n : Nat) (hn : n < 9223372036854775808) (w : World) :
    Calls Tryd.prog 57 #[.int .i64 n] w fun e w' => ∃ v, e = .returned v ∧ IsNat w' v n ∧ Below w.heap.size w w' := by
  obtain ⟨i0, hi, hz0, hz1, hz2⟩ := info_parts infoInt
  go_enter Tryd.func57, Tryd.ntmps57
  go_wp2_with fail
  go_loopw [0, 3] (fun x v wr => ∃ k : Nat, k ≤ 3 ∧ x = .int .i64 (n / 2 ^ (24 * k) : Nat) ∧ wr.ownsRow w.heap.size 3 1 v k (ints (low n k)) ∧ Below w.heap.size w wr ∧ (0 < k → 2 ^ (24 * (k - 1)) ≤ n)) (fun x _ _ => (intOf x).toNat)
  case atStart => exact ⟨0, by omega, by simp, World.ownsRow_nil _ _ _ _, Below.refl _ _, by omega⟩
  case round =>
    obtain ⟨k, hk, rfl, hown, hb, hle⟩ := hrel
    have HO : Hid (wr.ownsRow w.heap.size 3 1 u3 k (ints (low n k)) ∧ Below w.heap.size w wr) := ⟨hown, hb⟩
    have HL : Hid (0 < k → 2 ^ (24 * (k - 1)) ≤ n) := hle
    clear hown hb hle
    have hN : n / 2 ^ (24 * k) < 9223372036854775808 := Nat.lt_of_le_of_lt (Nat.div_le_self _ _) hn
    have HS : Hid (n / 2 ^ (24 * k) / 16777216 = n / 2 ^ (24 * (k + 1))) := (by rw [pow24, Nat.mul_comm 16777216, Nat.div_div_eq_div_mul] : n / 2 ^ (24 * k) / 16777216 = n / 2 ^ (24 * (k + 1)))
    have HT : Hid (0 < n / 2 ^ (24 * k) → 2 ^ (24 * k) ≤ n) := nat_step
    have HZ : Hid (¬ 0 < n / 2 ^ (24 * k) → n < 2 ^ (24 * k)) := fun h => by
      apply Classical.byContradiction
      intro hn
      exact h (Nat.div_pos (by omega) (Nat.two_pow_pos _))
    have HD : Hid (low n (k + 1) = low n k ++ [n / 2 ^ (24 * k) % 16777216]) := rfl
    have HK : Hid (0 < n / 2 ^ (24 * k) → k ≤ 2) := fun h0 => by
      have h1 := nat_step h0
      have h2 := pow_le_of_lt h1 (show n < 2 ^ 63 from hn)
      exact (by omega : k ≤ 2)
    generalize n / 2 ^ (24 * k) = N at *
    by_cases h0 : 0 < N
    · go_wp2_with (at_builtin; refine wpList_append_own _ rfl _ _ 66 rfl w.heap.size 3 i0 (.int .i64 0) 1 8 Tryd.underlying66 hi hz0 hz1 hz2 rfl (by decide) _ _ _ rfl (HO.out.1.alloc _) ⟨wr.heap.size, 0, none⟩ 1 1 [.int .i64 ((N % 16777216 : Nat) : Int)] rfl rfl ?c1 ?c2 ?c3 ?c4 ?c5 ?_)
      case c1 => exact one_cell (by go_simp)
      case c2 => intro u hu; simp at hu; subst hu; rfl
      case c3 => unfold maxLen; omega
      case c4 => omega
      case c5 => have := HO.out.2.size; simp; omega
      intro v' w1 hown1 hg1 _
      have HP : Hid (w1.ownsRow w.heap.size 3 1 v' (k + 1) (ints (low n (k + 1))) ∧ Below w.heap.size w w1) := by
        have hk' := low_length n k
        have := push (l := low n k) (d := N % 16777216) (by rw [hk']; exact HO.out.1.alloc _) (by rw [hk']; exact hown1) hg1 (HO.out.2.alloc HO.out.2.size _) (Nat.le_refl _)
        rw [← HD.out, low_length] at this
        exact this
      clear hown1 hg1
      go_wp2_with fail
      go_roundw
      case rel => exact ⟨k + 1, by have := HK.out h0; omega, by rw [← HS.out]; go_num, HP.out.1, HP.out.2, fun _ => HT.out h0⟩
      case measure => simp [intOf]; omega
    · obtain rfl : N = 0 := by omega
      go_wp2
      go_ret
      exact ⟨_, rfl, low_nat HO.out.1 (HZ.out h0) HL.out, HO.out.2⟩

theorem take_nat {w : World} {g cap k : Nat} {l : List Nat} (hd : Digits l) (hk : k ≤ l.length) (hc : l.length ≤ cap) (hm : cap ≤ maxLen) (hg : g < w.heap.size) (hcell : ∀ j, j < l.length → w.cell? ⟨g, j, none⟩ = some (.int .i64 (dig l j : Nat)))
    (hv : val (l.take k) = val l) (ht : 0 < k → dig l (k - 1) ≠ 0) : IsNat w (.slice (some ⟨g, 0, none⟩) k cap) (val l) := by
  have hl : (l.take k).length = k := by rw [List.length_take]; omega
  refine ⟨l.take k, ⟨hd.take k, .inr ⟨g, cap, by rw [hl], by omega, hm, hg, fun j hj => ?_⟩⟩, hv, ?_⟩
  · rw [hcell j (by omega)]
    unfold dig
    rw [List.getElem?_take_of_lt (by omega)]
  · rw [hl]
    refine (nd_eq ?_ fun hp => ?_).symm
    · rw [← hv]; have := val_lt (hd.take k); rw [hl] at this; exact this
    · have h1 := val_take_succ (l := l) (k - 1)
      rw [show k - 1 + 1 = k by omega, hv] at h1
      rw [h1]
      have := Nat.le_mul_of_pos_right (2 ^ (24 * (k - 1))) (Nat.pos_of_ne_zero (ht hp))
      omega
theorem take_less {l : List Nat} {k : Nat} (h : val (l.take (k + 1)) = val l) (h0 : dig l k = 0) : val (l.take k) = val l := by rw [← h, val_take_succ, h0]; omega
set_option maxHeartbeats 1000000 in
theorem trim_any (l : List Nat) (v : Value) (w : World) (h : IsRow w v l) :
    Calls Tryd.prog 79 #[v] w fun e w' => ∃ v', e = .returned v' ∧ IsNat w v' (val l) ∧ w' = w := by
  obtain ⟨hd, h⟩ := h
  rcases h with ⟨rfl, rfl⟩ | ⟨g, cap, rfl, h2, h3, hg, hc⟩
  · go_enter Tryd.func79, Tryd.ntmps79
    go_wp2_with fail
    go_loopw [3] (fun x wr => x = .int .i64 0 ∧ wr = w) (fun _ _ => 0)
    case atStart => exact ⟨rfl, rfl⟩
    case round =>
      obtain ⟨rfl, rfl⟩ := hrel
      go_wp2
      go_ret
      exact ⟨_, rfl, IsNat.nil _, rfl⟩
  · have hmx : maxLen = 9223372036854775807 := rfl
    go_enter Tryd.func79, Tryd.ntmps79
    go_wp2_with fail
    go_loopw [3] (fun x wr => ∃ k : Nat, k ≤ l.length ∧ x = .int .i64 k ∧ val (l.take k) = val l ∧ wr = w) (fun x _ => (intOf x).toNat)
    case atStart => exact ⟨l.length, Nat.le_refl _, rfl, by rw [List.take_length], rfl⟩
    case round =>
      obtain ⟨k, hk, rfl, hv, rfl⟩ := hrel
      have HV : Hid (val (l.take k) = val l) := hv
      have HC : Hid (∀ j, j < l.length → wr.cell? ⟨g, j, none⟩ = some (.int .i64 (dig l j : Nat))) := hc
      by_cases h0 : k = 0
      · subst h0
        clear hv hc
        go_wp2
        go_ret
        exact ⟨_, rfl, take_nat hd (Nat.zero_le _) h2 h3 hg HC.out HV.out (by omega), rfl⟩
      · obtain ⟨j, rfl⟩ : ∃ j, k = j + 1 := ⟨k - 1, by omega⟩
        have cj := hc j (by omega)
        have hw1 : ((j + 1 : Nat) : Int) - 1 = (j : Nat) := by omega
        clear hv hc
        by_cases hz : dig l j = 0
        · rw [hz] at cj
          go_wp2_with fail
          go_roundw
          case rel => exact ⟨j, by omega, by go_num, take_less HV.out hz, by trivial⟩
          case measure => simp [intOf]
        · have hzb : ((dig l j : Int) == 0) = false := by simp; omega
          go_wp2
          go_ret
          exact ⟨_, rfl, take_nat hd hk h2 h3 hg HC.out HV.out (fun _ => hz), rfl⟩
end Go.Proofs.YtfbdgecanfmgiaaDoor
