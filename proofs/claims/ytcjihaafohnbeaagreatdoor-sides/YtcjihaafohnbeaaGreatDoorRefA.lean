import Derived.Test.YtcjihaafohnbeaaGreatDoorBase
import Derived.Laws.MathBits
import Derived.Laws.BitsAllLaws
import Derived.Laws.OwnMore
import Derived.Deep.AppendLies
namespace Go.Proofs.YtcjihaafohnbeaaGreatDoor
open Go.RowKit

/-- The value of digits to the base 2^24, the lowest first. -/
def val : List Nat → Nat
  | [] => 0
  | d :: l => d + 16777216 * val l
def dig (l : List Nat) (k : Nat) : Nat := l[k]?.getD 0
theorem dig_in {l : List Nat} {k : Nat} (h : k < l.length) : dig l k = l[k] := by unfold dig; rw [List.getElem?_eq_getElem h]; rfl
theorem dig_out {l : List Nat} {k : Nat} (h : l.length ≤ k) : dig l k = 0 := by unfold dig; rw [List.getElem?_eq_none h]; rfl
def Digits (l : List Nat) : Prop := ∀ x ∈ l, x < 16777216
/-- How many digits a number has. -/
def nd (n : Nat) : Nat := (Go.bitLen n + 23) / 24
theorem nd_lt (n : Nat) : n < 2 ^ (24 * nd n) := Nat.lt_of_lt_of_le (Go.bitLen_spec n).1 (Nat.pow_le_pow_right (by decide) (by unfold nd; omega))
theorem bitLen_pos {n : Nat} (h : n ≠ 0) : 0 < Go.bitLen n := by
  have := (Go.bitLen_spec n).1
  apply Nat.pos_of_ne_zero
  intro h0
  rw [h0] at this
  omega
theorem nd_le {n : Nat} (h : n ≠ 0) : 2 ^ (24 * (nd n - 1)) ≤ n := by
  have h1 := (Go.bitLen_spec n).2 h
  have h2 := bitLen_pos h
  exact Nat.le_trans (Nat.pow_le_pow_right (by decide) (by unfold nd; omega)) h1
theorem nd_zero : nd 0 = 0 := rfl
theorem nd_pos {n : Nat} (h : n ≠ 0) : 0 < nd n := by have := bitLen_pos h; unfold nd; omega
theorem pow_le_of_lt {a b n : Nat} (h1 : 2 ^ a ≤ n) (h2 : n < 2 ^ b) : a < b := by
  apply Classical.byContradiction
  intro h
  have : (2 : Nat) ^ b ≤ 2 ^ a := Nat.pow_le_pow_right (by decide) (by omega)
  omega
theorem nd_eq {n k : Nat} (h1 : n < 2 ^ (24 * k)) (h2 : 0 < k → 2 ^ (24 * (k - 1)) ≤ n) : nd n = k := by
  by_cases h : n = 0
  · subst h
    have : k = 0 := by
      apply Classical.byContradiction
      intro hk
      have := h2 (by omega)
      have := Nat.two_pow_pos (24 * (k - 1))
      omega
    rw [this]; rfl
  · have a := nd_lt n
    have b := nd_le h
    have c := nd_pos h
    have hk : 0 < k := by
      apply Nat.pos_of_ne_zero
      intro hk; subst hk; simp at h1; omega
    have d := pow_le_of_lt b h1
    have e := pow_le_of_lt (h2 hk) a
    omega
theorem nd_mono {a b : Nat} (h : a ≤ b) : nd a ≤ nd b := by
  by_cases h0 : a = 0
  · subst h0; rw [nd_zero]; omega
  · have := pow_le_of_lt (nd_le h0) (Nat.lt_of_le_of_lt h (nd_lt b))
    have := nd_pos h0
    omega
theorem nd_of_lt {n k : Nat} (h : n < 2 ^ (24 * k)) : nd n ≤ k := by
  by_cases h0 : n = 0
  · subst h0; rw [nd_zero]; omega
  · have := pow_le_of_lt (nd_le h0) h
    have := nd_pos h0
    omega

theorem pow24 (k : Nat) : 2 ^ (24 * (k + 1)) = 16777216 * 2 ^ (24 * k) := by rw [Nat.mul_succ, Nat.pow_add, Nat.mul_comm]
theorem val_lt : ∀ {l : List Nat}, Digits l → val l < 2 ^ (24 * l.length)
  | [], _ => by simp [val]
  | d :: l, h => by
    have h1 := val_lt (l := l) (fun x hx => h x (List.mem_cons_of_mem _ hx))
    have h2 := h d (List.mem_cons_self ..)
    rw [List.length_cons, pow24]
    simp only [val]
    omega
theorem val_app : ∀ (l m : List Nat), val (l ++ m) = val l + 2 ^ (24 * l.length) * val m
  | [], m => by simp [val]
  | d :: l, m => by
    rw [List.cons_append, List.length_cons, pow24]
    simp only [val]
    rw [val_app l m, Nat.mul_add, Nat.mul_assoc]
    omega
theorem val_snoc (l : List Nat) (d : Nat) : val (l ++ [d]) = val l + 2 ^ (24 * l.length) * d := by rw [val_app]; simp [val]
theorem val_zeros (k : Nat) : val (List.replicate k 0) = 0 := by
  induction k with
  | zero => rfl
  | succ k ih => rw [List.replicate_succ]; simp [val, ih]
theorem Digits.snoc {l : List Nat} (h : Digits l) {d : Nat} (hd : d < 16777216) : Digits (l ++ [d]) := by
  intro x hx
  rcases List.mem_append.1 hx with h1 | h1
  · exact h x h1
  · simp at h1; omega
theorem Digits.app {l m : List Nat} (h : Digits l) (h' : Digits m) : Digits (l ++ m) := fun x hx => (List.mem_append.1 hx).elim (h x) (h' x)
theorem Digits.take {l : List Nat} (h : Digits l) (k : Nat) : Digits (l.take k) := fun x hx => h x (List.mem_of_mem_take hx)
theorem Digits.drop {l : List Nat} (h : Digits l) (k : Nat) : Digits (l.drop k) := fun x hx => h x (List.mem_of_mem_drop hx)
theorem Digits.set {l : List Nat} (h : Digits l) (k : Nat) {d : Nat} (hd : d < 16777216) : Digits (l.set k d) := fun x hx => by
  rcases List.mem_or_eq_of_mem_set hx with h1 | h1
  · exact h x h1
  · omega
theorem dig_lt {l : List Nat} (h : Digits l) (k : Nat) : dig l k < 16777216 := by
  by_cases hk : k < l.length
  · rw [dig_in hk]; exact h _ (List.getElem_mem hk)
  · rw [dig_out (by omega)]; decide
theorem val_split {l : List Nat} {k : Nat} : val l = val (l.take k) + 2 ^ (24 * min k l.length) * val (l.drop k) := by
  have := val_app (l.take k) (l.drop k)
  rw [List.take_append_drop, List.length_take] at this
  exact this
theorem val_take {l : List Nat} (h : Digits l) (k : Nat) : val (l.take k) = val l % 2 ^ (24 * k) := by
  by_cases hk : k ≤ l.length
  · have h1 := val_split (l := l) (k := k)
    rw [Nat.min_eq_left hk] at h1
    have h2 := val_lt (h.take k)
    rw [List.length_take, Nat.min_eq_left hk] at h2
    rw [h1, Nat.add_mul_mod_self_left, Nat.mod_eq_of_lt h2]
  · rw [List.take_of_length_le (by omega), Nat.mod_eq_of_lt]
    exact Nat.lt_of_lt_of_le (val_lt h) (Nat.pow_le_pow_right (by decide) (by omega))
theorem val_drop {l : List Nat} (h : Digits l) (k : Nat) : val (l.drop k) = val l / 2 ^ (24 * k) := by
  by_cases hk : k ≤ l.length
  · have h1 := val_split (l := l) (k := k)
    rw [Nat.min_eq_left hk] at h1
    have h2 := val_lt (h.take k)
    rw [List.length_take, Nat.min_eq_left hk] at h2
    rw [h1, Nat.add_mul_div_left _ _ (Nat.two_pow_pos _), Nat.div_eq_of_lt h2, Nat.zero_add]
  · rw [List.drop_eq_nil_of_le (by omega), Nat.div_eq_of_lt]
    · rfl
    · exact Nat.lt_of_lt_of_le (val_lt h) (Nat.pow_le_pow_right (by decide) (by omega))
theorem val_dig {l : List Nat} (h : Digits l) (k : Nat) : dig l k = val l / 2 ^ (24 * k) % 16777216 := by
  rw [← val_drop h]
  by_cases hk : k < l.length
  · rw [List.drop_eq_getElem_cons hk]
    simp only [val]
    rw [Nat.add_mul_mod_self_left, Nat.mod_eq_of_lt (h _ (List.getElem_mem hk))]
    rw [dig_in hk]
  · rw [dig_out (by omega), List.drop_eq_nil_of_le (by omega)]
    rfl
theorem val_set : ∀ (l : List Nat) (k d : Nat), k < l.length → val (l.set k d) + 2 ^ (24 * k) * dig l k = val l + 2 ^ (24 * k) * d
  | [], k, d, h => by simp at h
  | c :: l, 0, d, _ => by simp [val, dig]; omega
  | c :: l, k + 1, d, h => by
    have h1 := val_set l k d (by simpa using h)
    have e : dig (c :: l) (k + 1) = dig l k := by simp [dig]
    rw [List.set_cons_succ, pow24, e]
    simp only [val]
    rw [Nat.mul_assoc, Nat.mul_assoc]
    omega
theorem take_succ {l : List Nat} {k : Nat} (h : k < l.length) : l.take (k + 1) = l.take k ++ [dig l k] := by
  rw [List.take_succ_eq_append_getElem h, dig_in h]
theorem val_take_succ {l : List Nat} (k : Nat) : val (l.take (k + 1)) = val (l.take k) + 2 ^ (24 * k) * dig l k := by
  by_cases h : k < l.length
  · rw [take_succ h, val_snoc, List.length_take, Nat.min_eq_left (by omega)]
  · rw [List.take_of_length_le (by omega), List.take_of_length_le (by omega)]
    rw [dig_out (by omega)]
    omega
/-- The first digit is none of a number's. -/
theorem top_pos {l : List Nat} (h : Digits l) (hn : l.length = nd (val l)) (h0 : l ≠ []) : 0 < dig l (l.length - 1) := by
  have hp : 0 < l.length := List.length_pos_iff.2 h0
  have hv : val l ≠ 0 := by intro hv; rw [hv, nd_zero] at hn; omega
  have h1 := nd_le hv
  rw [← hn] at h1
  rw [val_dig h]
  have h2 := val_lt h
  have h3 : 0 < val l / 2 ^ (24 * (l.length - 1)) := Nat.div_pos h1 (Nat.two_pow_pos _)
  have h4 : val l / 2 ^ (24 * (l.length - 1)) < 16777216 := by
    rw [Nat.div_lt_iff_lt_mul (Nat.two_pow_pos _), ← pow24, show l.length - 1 + 1 = l.length by omega]
    exact h2
  rw [Nat.mod_eq_of_lt h4]
  exact h3

/-- A list of ints that lies in the world, from its block's head on: a number's digits. -/
def IsRow (w : World) (v : Value) (l : List Nat) : Prop :=
  Digits l ∧ ((v = .slice none 0 0 ∧ l = []) ∨ ∃ g cap, v = .slice (some ⟨g, 0, none⟩) l.length cap ∧ l.length ≤ cap ∧ cap ≤ maxLen ∧ g < w.heap.size ∧ ∀ j, j < l.length → w.cell? ⟨g, j, none⟩ = some (.int .i64 (dig l j : Nat)))
def IsNat (w : World) (v : Value) (n : Nat) : Prop := ∃ l, IsRow w v l ∧ val l = n ∧ l.length = nd n
theorem IsRow.later {w w' : World} {v : Value} {l : List Nat} (h : IsRow w v l) (hb : Below w.heap.size w w') : IsRow w' v l := by
  refine ⟨h.1, ?_⟩
  rcases h.2 with h | ⟨g, cap, h1, h2, h3, hg, hc⟩
  · exact .inl h
  · exact .inr ⟨g, cap, h1, h2, h3, Nat.lt_of_lt_of_le hg hb.size, fun j hj => (hb.cell (p := ⟨g, j, none⟩) hg).trans (hc j hj)⟩
theorem IsNat.later {w w' : World} {v : Value} {n : Nat} (h : IsNat w v n) (hb : Below w.heap.size w w') : IsNat w' v n := by
  obtain ⟨l, h1, h2⟩ := h
  exact ⟨l, h1.later hb, h2⟩
theorem IsNat.nil (w : World) : IsNat w (.slice none 0 0) 0 := ⟨[], ⟨by intro x hx; simp at hx, .inl ⟨rfl, rfl⟩⟩, rfl, rfl⟩
/-- Its cells, for a walk. -/
theorem IsRow.open {w : World} {v : Value} {l : List Nat} (h : IsRow w v l) : ∃ (a : Option Addr) (cap g : Nat), v = .slice a l.length cap ∧ l.length ≤ cap ∧ cap ≤ maxLen ∧ (0 < l.length → a = some ⟨g, 0, none⟩) ∧ (0 < l.length → g < w.heap.size) ∧ ∀ j, j < l.length → w.cell? ⟨g, j, none⟩ = some (.int .i64 (dig l j : Nat)) := by
  rcases h.2 with ⟨rfl, rfl⟩ | ⟨g, cap, h1, h2, h3, hg, hc⟩
  · exact ⟨none, 0, 0, rfl, by simp, by simp, by simp, by simp, by simp⟩
  · exact ⟨_, cap, g, h1, h2, h3, fun _ => rfl, fun _ => hg, hc⟩
def ints (l : List Nat) : List Value := l.map fun (d : Nat) => Value.int .i64 d
theorem ints_at {l : List Nat} {j : Nat} (h : j < l.length) : (ints l)[j]? = some (.int .i64 (dig l j : Nat)) := by
  unfold ints
  rw [List.getElem?_map, List.getElem?_eq_getElem h, dig_in h]
  rfl
theorem ints_snoc (l : List Nat) (d : Nat) : ints (l ++ [d]) = ints l ++ [.int .i64 d] := by simp [ints]
theorem ints_length (l : List Nat) : (ints l).length = l.length := by simp [ints]
theorem IsRow.own {w : World} {base : Nat} {e : TypeId} {v : Value} {l : List Nat} (hl : Digits l) (h : w.ownsRow base e 1 v l.length (ints l)) : IsRow w v l := by
  refine ⟨hl, ?_⟩
  have hlt := h.lt
  rcases h.2 with ⟨hv, h0⟩ | ⟨g, cap, cur, hv, _, _, hle, hm, _⟩
  · exact .inl ⟨hv, List.eq_nil_of_length_eq_zero h0⟩
  · subst hv
    exact .inr ⟨g, cap, rfl, hle, hm, (hlt g rfl).2, fun j hj => by rw [h.cellAt j (by omega)]; exact ints_at hj⟩


theorem infoInt : (Tryz.prog.info? 3).map (fun i => (i.zero, i.size, i.bytes)) = some (some (.int .i64 0), 1, 8) := by kernel_rfl
theorem one_cell {w : World} {g : Nat} {v : Value} (h : w.cell? ⟨g, 0, none⟩ = some v) : ∀ j u, [v][j]? = some u → w.cell? ((⟨g, 0, none⟩ : Addr).add j) = some u := by
  intro j u hj
  match j, hj with
  | 0, hj => simp at hj; subst hj; simpa [Addr.add] using h
/-- One more digit: what append leaves. -/
theorem push {w w0 w1 : World} {base : Nat} {e : TypeId} {v v' : Value} {l : List Nat} {d : Nat} (hown : w0.ownsRow base e 1 v l.length (ints l)) (h : w1.ownsRow base e 1 v' (l.length + 1) (ints l ++ [.int .i64 (d : Nat)])) (hg : w0.grownBy w1 v.ownBlock) (hb : Below base w w0) (hw : base ≤ w.heap.size) :
    w1.ownsRow base e 1 v' (l ++ [d]).length (ints (l ++ [d])) ∧ Below base w w1 :=
  ⟨by rw [ints_snoc, List.length_append]; exact h, hb.grown hg (Nat.le_trans hw hb.size) (fun j hj => (hown.lt j hj).1)⟩

/-- The lowest k digits of a number. -/
def low (n : Nat) : Nat → List Nat
  | 0 => []
  | k + 1 => low n k ++ [n / 2 ^ (24 * k) % 16777216]
theorem low_length (n k : Nat) : (low n k).length = k := by induction k with | zero => rfl | succ k ih => simp [low, ih]
theorem low_digits (n k : Nat) : Digits (low n k) := by
  induction k with
  | zero => intro x hx; simp [low] at hx
  | succ k ih => exact ih.snoc (Nat.mod_lt _ (by decide))
theorem low_val (n k : Nat) : val (low n k) = n % 2 ^ (24 * k) := by
  induction k with
  | zero => simp [low, val, Nat.mod_one]
  | succ k ih =>
    rw [low, val_snoc, low_length, ih, pow24, Nat.mul_comm 16777216, Nat.mod_mul]
theorem low_nat {w : World} {base : Nat} {e : TypeId} {v : Value} {n k : Nat} (h : w.ownsRow base e 1 v k (ints (low n k))) (h1 : n < 2 ^ (24 * k)) (h2 : 0 < k → 2 ^ (24 * (k - 1)) ≤ n) : IsNat w v n := by
  refine ⟨low n k, IsRow.own (low_digits n k) (by rw [low_length]; exact h), ?_, ?_⟩
  · rw [low_val, Nat.mod_eq_of_lt h1]
  · rw [low_length, nd_eq h1 h2]

theorem nat_step {n k : Nat} (h : 0 < n / 2 ^ (24 * k)) : 2 ^ (24 * k) ≤ n := by
  apply Classical.byContradiction
  intro hn
  rw [Nat.div_eq_of_lt (by omega)] at h
  omega
set_option maxHeartbeats 1000000 in
theorem nat_any (n : Nat) (hn : n < 9223372036854775808) (w : World) :
    Calls Tryz.prog 68 #[.int .i64 n] w fun e w' => ∃ v, e = .returned v ∧ IsNat w' v n ∧ Below w.heap.size w w' := by
  obtain ⟨i0, hi, hz0, hz1, hz2⟩ := info_parts infoInt
  go_enter Tryz.func68, Tryz.ntmps68
  go_wp2_with fail
  go_loopw [0, 3] (fun x v wr => ∃ k : Nat, k ≤ 3 ∧ x = .int .i64 (n / 2 ^ (24 * k) : Nat) ∧ wr.ownsRow w.heap.size 3 1 v k (ints (low n k)) ∧ Below w.heap.size w wr ∧ (0 < k → 2 ^ (24 * (k - 1)) ≤ n)) (fun x _ _ => (intOf x).toNat)
  case atStart => exact ⟨0, by omega, by simp, World.ownsRow_nil _ _ _ _, Below.refl _ _, by omega⟩
  case round =>
    obtain ⟨k, hk, rfl, hown, hb, hle⟩ := hrel
    have HO : Hid (wr.ownsRow w.heap.size 3 1 u3 k (ints (low n k)) ∧ Below w.heap.size w wr) := ⟨hown, hb⟩
    have HL : Hid (0 < k → 2 ^ (24 * (k - 1)) ≤ n) := hle
    clear hown hb hle
    have hN : n / 2 ^ (24 * k) < 9223372036854775808 := Nat.lt_of_le_of_lt (Nat.div_le_self _ _) hn
    have HS : Hid (n / 2 ^ (24 * k) / 16777216 = n / 2 ^ (24 * (k + 1))) := (by rw [pow24, Nat.mul_comm 16777216, Nat.div_div_eq_div_mul] : n / 2 ^ (24 * k) / 16777216 = n / 2 ^ (24 * (k + 1)))
    have HT : Hid (0 < n / 2 ^ (24 * k) → 2 ^ (24 * k) ≤ n) := nat_step
    have HZ : Hid (¬ 0 < n / 2 ^ (24 * k) → n < 2 ^ (24 * k)) := fun h => by
      apply Classical.byContradiction
      intro hn
      exact h (Nat.div_pos (by omega) (Nat.two_pow_pos _))
    have HD : Hid (low n (k + 1) = low n k ++ [n / 2 ^ (24 * k) % 16777216]) := rfl
    have HK : Hid (0 < n / 2 ^ (24 * k) → k ≤ 2) := fun h0 => by
      have h1 := nat_step h0
      have h2 := pow_le_of_lt h1 (show n < 2 ^ 63 from hn)
      exact (by omega : k ≤ 2)
    generalize n / 2 ^ (24 * k) = N at *
    by_cases h0 : 0 < N
    · go_wp2_with (at_builtin; refine wpList_append_own _ rfl _ _ 61 rfl w.heap.size 3 i0 (.int .i64 0) 1 8 Tryz.underlying61 hi hz0 hz1 hz2 rfl (by decide) _ _ _ rfl (HO.out.1.alloc _) ⟨wr.heap.size, 0, none⟩ 1 1 [.int .i64 ((N % 16777216 : Nat) : Int)] rfl rfl ?c1 ?c2 ?c3 ?c4 ?c5 ?_)
      case c1 => exact one_cell (by go_simp)
      case c2 => intro u hu; simp at hu; subst hu; rfl
      case c3 => unfold maxLen; omega
      case c4 => omega
      case c5 => have := HO.out.2.size; simp; omega
      intro v' w1 hown1 hg1 _
      have HP : Hid (w1.ownsRow w.heap.size 3 1 v' (k + 1) (ints (low n (k + 1))) ∧ Below w.heap.size w w1) := by
        have hk' := low_length n k
        have := push (l := low n k) (d := N % 16777216) (by rw [hk']; exact HO.out.1.alloc _) (by rw [hk']; exact hown1) hg1 (HO.out.2.alloc HO.out.2.size _) (Nat.le_refl _)
        rw [← HD.out, low_length] at this
        exact this
      clear hown1 hg1
      go_wp2_with fail
      go_roundw
      case rel => exact ⟨k + 1, by have := HK.out h0; omega, by rw [← HS.out]; go_num, HP.out.1, HP.out.2, fun _ => HT.out h0⟩
      case measure => simp [intOf]; omega
    · obtain rfl : N = 0 := by omega
      go_wp2
      go_ret
      exact ⟨_, rfl, low_nat HO.out.1 (HZ.out h0) HL.out, HO.out.2⟩

theorem take_nat {w : World} {g cap k : Nat} {l : List Nat} (hd : Digits l) (hk : k ≤ l.length) (hc : l.length ≤ cap) (hm : cap ≤ maxLen) (hg : g < w.heap.size) (hcell : ∀ j, j < l.length → w.cell? ⟨g, j, none⟩ = some (.int .i64 (dig l j : Nat)))
    (hv : val (l.take k) = val l) (ht : 0 < k → dig l (k - 1) ≠ 0) : IsNat w (.slice (some ⟨g, 0, none⟩) k cap) (val l) := by
  have hl : (l.take k).length = k := by rw [List.length_take]; omega
  refine ⟨l.take k, ⟨hd.take k, .inr ⟨g, cap, by rw [hl], by omega, hm, hg, fun j hj => ?_⟩⟩, hv, ?_⟩
  · rw [hcell j (by omega)]
    unfold dig
    rw [List.getElem?_take_of_lt (by omega)]
  · rw [hl]
    refine (nd_eq ?_ fun hp => ?_).symm
    · rw [← hv]; have := val_lt (hd.take k); rw [hl] at this; exact this
    · have h1 := val_take_succ (l := l) (k - 1)
      rw [show k - 1 + 1 = k by omega, hv] at h1
      rw [h1]
      have := Nat.le_mul_of_pos_right (2 ^ (24 * (k - 1))) (Nat.pos_of_ne_zero (ht hp))
      omega
theorem take_less {l : List Nat} {k : Nat} (h : val (l.take (k + 1)) = val l) (h0 : dig l k = 0) : val (l.take k) = val l := by rw [← h, val_take_succ, h0]; omega
set_option maxHeartbeats 1000000 in
theorem trim_any (l : List Nat) (v : Value) (w : World) (h : IsRow w v l) :
    Calls Tryz.prog 104 #[v] w fun e w' => ∃ v', e = .returned v' ∧ IsNat w v' (val l) ∧ w' = w := by
  obtain ⟨hd, h⟩ := h
  rcases h with ⟨rfl, rfl⟩ | ⟨g, cap, rfl, h2, h3, hg, hc⟩
  · go_enter Tryz.func104, Tryz.ntmps104
    go_wp2_with fail
    go_loopw [3] (fun x wr => x = .int .i64 0 ∧ wr = w) (fun _ _ => 0)
    case atStart => exact ⟨rfl, rfl⟩
    case round =>
      obtain ⟨rfl, rfl⟩ := hrel
      go_wp2
      go_ret
      exact ⟨_, rfl, IsNat.nil _, rfl⟩
  · have hmx : maxLen = 9223372036854775807 := rfl
    go_enter Tryz.func104, Tryz.ntmps104
    go_wp2_with fail
    go_loopw [3] (fun x wr => ∃ k : Nat, k ≤ l.length ∧ x = .int .i64 k ∧ val (l.take k) = val l ∧ wr = w) (fun x _ => (intOf x).toNat)
    case atStart => exact ⟨l.length, Nat.le_refl _, rfl, by rw [List.take_length], rfl⟩
    case round =>
      obtain ⟨k, hk, rfl, hv, rfl⟩ := hrel
      have HV : Hid (val (l.take k) = val l) := hv
      have HC : Hid (∀ j, j < l.length → wr.cell? ⟨g, j, none⟩ = some (.int .i64 (dig l j : Nat))) := hc
      by_cases h0 : k = 0
      · subst h0
        clear hv hc
        go_wp2
        go_ret
        exact ⟨_, rfl, take_nat hd (Nat.zero_le _) h2 h3 hg HC.out HV.out (by omega), rfl⟩
      · obtain ⟨j, rfl⟩ : ∃ j, k = j + 1 := ⟨k - 1, by omega⟩
        have cj := hc j (by omega)
        have hw1 : ((j + 1 : Nat) : Int) - 1 = (j : Nat) := by omega
        clear hv hc
        by_cases hz : dig l j = 0
        · rw [hz] at cj
          go_wp2_with fail
          go_roundw
          case rel => exact ⟨j, by omega, by go_num, take_less HV.out hz, by trivial⟩
          case measure => simp [intOf]
        · have hzb : ((dig l j : Int) == 0) = false := by simp; omega
          go_wp2
          go_ret
          exact ⟨_, rfl, take_nat hd hk h2 h3 hg HC.out HV.out (fun _ => hz), rfl⟩


/-- What is carried on, behind k digits of a sum. -/
def carry (a b k : Nat) : Nat := (a % 2 ^ (24 * k) + b % 2 ^ (24 * k)) / 2 ^ (24 * k)
theorem carry_le (a b k : Nat) : carry a b k ≤ 1 := by
  have hp := Nat.two_pow_pos (24 * k)
  have h1 := Nat.mod_lt a hp
  have h2 := Nat.mod_lt b hp
  unfold carry
  apply Nat.le_of_lt_succ
  rw [Nat.div_lt_iff_lt_mul hp]
  omega
theorem mod_pow_succ (a k : Nat) : a % 2 ^ (24 * (k + 1)) = a % 2 ^ (24 * k) + 2 ^ (24 * k) * (a / 2 ^ (24 * k) % 16777216) := by
  rw [pow24, Nat.mul_comm 16777216, Nat.mod_mul]
theorem carry_step (a b k : Nat) : (a + b) / 2 ^ (24 * k) % 16777216 = (carry a b k + a / 2 ^ (24 * k) % 16777216 + b / 2 ^ (24 * k) % 16777216) % 16777216 ∧ carry a b (k + 1) = (carry a b k + a / 2 ^ (24 * k) % 16777216 + b / 2 ^ (24 * k) % 16777216) / 16777216 := by
  have hp := Nat.two_pow_pos (24 * k)
  constructor
  · have e : (a + b) / 2 ^ (24 * k) = carry a b k + a / 2 ^ (24 * k) + b / 2 ^ (24 * k) := by
      unfold carry
      have h1 := Nat.div_add_mod a (2 ^ (24 * k))
      have h2 := Nat.div_add_mod b (2 ^ (24 * k))
      rw [show a + b = (a % 2 ^ (24 * k) + b % 2 ^ (24 * k)) + 2 ^ (24 * k) * (a / 2 ^ (24 * k) + b / 2 ^ (24 * k)) by rw [Nat.mul_add]; omega, Nat.add_mul_div_left _ _ hp]
      omega
    rw [e]; omega
  · unfold carry
    rw [mod_pow_succ a, mod_pow_succ b, pow24, Nat.mul_comm 16777216, ← Nat.div_div_eq_div_mul]
    rw [show a % 2 ^ (24 * k) + 2 ^ (24 * k) * (a / 2 ^ (24 * k) % 16777216) + (b % 2 ^ (24 * k) + 2 ^ (24 * k) * (b / 2 ^ (24 * k) % 16777216)) = (a % 2 ^ (24 * k) + b % 2 ^ (24 * k)) + 2 ^ (24 * k) * (a / 2 ^ (24 * k) % 16777216 + b / 2 ^ (24 * k) % 16777216) by rw [Nat.mul_add]; omega]
    rw [Nat.add_mul_div_left _ _ hp, Nat.add_assoc]
theorem carry_zero (a b : Nat) : carry a b 0 = 0 := by simp [carry, Nat.mod_one]
theorem lt_pow_nd {a k : Nat} (h : nd a ≤ k) : a < 2 ^ (24 * k) := Nat.lt_of_lt_of_le (nd_lt a) (Nat.pow_le_pow_right (by decide) (by omega))
theorem pow_le_nd {a k : Nat} (h : k < nd a) : 2 ^ (24 * k) ≤ a := by
  have h0 : a ≠ 0 := by intro h0; subst h0; rw [nd_zero] at h; omega
  exact Nat.le_trans (Nat.pow_le_pow_right (by decide) (by omega)) (nd_le h0)
theorem carry_end {a b k : Nat} (ha : nd a ≤ k) (hb : nd b ≤ k) : carry a b k = (a + b) / 2 ^ (24 * k) := by
  unfold carry
  rw [Nat.mod_eq_of_lt (lt_pow_nd ha), Nat.mod_eq_of_lt (lt_pow_nd hb)]
theorem carry_last {a b k : Nat} (ha : nd a < k) (hb : nd b < k) : carry a b k = 0 := by
  rw [carry_end (by omega) (by omega)]
  apply Nat.div_eq_of_lt
  obtain ⟨j, rfl⟩ : ∃ j, k = j + 1 := ⟨k - 1, by omega⟩
  have h1 := lt_pow_nd (a := a) (k := j) (by omega)
  have h2 := lt_pow_nd (a := b) (k := j) (by omega)
  rw [pow24]
  omega
theorem carry_stop {a b k : Nat} (ha : nd a ≤ k) (hb : nd b ≤ k) (h : carry a b k = 0) : a + b < 2 ^ (24 * k) := by
  rw [carry_end ha hb] at h
  rcases Nat.div_eq_zero_iff.1 h with h | h
  · have := Nat.two_pow_pos (24 * k); omega
  · exact h
theorem carry_go {a b k : Nat} (h : k < nd a ∨ k < nd b ∨ 0 < carry a b k) : 2 ^ (24 * k) ≤ a + b := by
  rcases h with h | h | h
  · have := pow_le_nd h; omega
  · have := pow_le_nd h; omega
  · have h1 := Nat.mod_le a (2 ^ (24 * k))
    have h2 := Nat.mod_le b (2 ^ (24 * k))
    have h3 : 2 ^ (24 * k) ≤ a % 2 ^ (24 * k) + b % 2 ^ (24 * k) := by
      unfold carry at h
      exact (Nat.div_pos_iff.1 h).2
    omega

/-- The state of plus behind k digits. -/
structure PlusAt (w wr : World) (v : Value) (a b k : Nat) : Prop where
  own : wr.ownsRow w.heap.size 3 1 v k (ints (low (a + b) k))
  below : Below w.heap.size w wr
  top : 0 < k → 2 ^ (24 * (k - 1)) ≤ a + b
theorem PlusAt.more {w wr w1 : World} {v v' : Value} {a b k : Nat} {n : Int} {o : Obj} (h : PlusAt w wr v a b k) (hgo : k < nd a ∨ k < nd b ∨ 0 < carry a b k) (hn : n = (carry a b k + a / 2 ^ (24 * k) % 16777216 + b / 2 ^ (24 * k) % 16777216 : Nat))
    (h1 : w1.ownsRow w.heap.size 3 1 v' (k + 1) (ints (low (a + b) k) ++ [.int .i64 (n % 16777216)])) (hg : (wr.alloc o).grownBy w1 v.ownBlock) : PlusAt w w1 v' a b (k + 1) ∧ n / 16777216 = (carry a b (k + 1) : Nat) := by
  have hs := carry_step a b k
  have hk' := low_length (a + b) k
  have := push (l := low (a + b) k) (d := (a + b) / 2 ^ (24 * k) % 16777216) (by rw [hk']; exact h.own.alloc o) (by rw [hk', hs.1]; subst hn; exact h1) hg (h.below.alloc h.below.size _) (Nat.le_refl _)
  rw [show low (a + b) k ++ [(a + b) / 2 ^ (24 * k) % 16777216] = low (a + b) (k + 1) from rfl, low_length] at this
  exact ⟨⟨this.1, this.2, fun _ => carry_go hgo⟩, by rw [hs.2, hn]; rfl⟩

set_option maxHeartbeats 2000000 in
theorem plus_any (a b : Nat) (va vb : Value) (w : World) (ha : IsNat w va a) (hb : IsNat w vb b) (sa : nd a ≤ 100000) (sb : nd b ≤ 100000) :
    Calls Tryz.prog 75 #[va, vb] w fun e w' => ∃ v, e = .returned v ∧ IsNat w' v (a + b) ∧ Below w.heap.size w w' := by
  obtain ⟨la, ra, ea, na⟩ := ha
  obtain ⟨lb, rb, eb, nb⟩ := hb
  have da := val_dig ra.1
  have db := val_dig rb.1
  have xa := dig_lt ra.1
  have xb := dig_lt rb.1
  obtain ⟨A, capa, ga, rfl, _, _, hA, hgA, cA⟩ := ra.open
  obtain ⟨B, capb, gb, rfl, _, _, hB, hgB, cB⟩ := rb.open
  rw [ea] at da
  rw [eb] at db
  obtain ⟨i0, hi, hz0, hz1, hz2⟩ := info_parts infoInt
  have HDA : Hid (∀ k, dig la k = a / 2 ^ (24 * k) % 16777216) := da
  have HDB : Hid (∀ k, dig lb k = b / 2 ^ (24 * k) % 16777216) := db
  have HA : Hid (∀ j, j < la.length → w.cell? ⟨ga, j, none⟩ = some (.int .i64 (dig la j : Nat))) := cA
  have HB : Hid (∀ j, j < lb.length → w.cell? ⟨gb, j, none⟩ = some (.int .i64 (dig lb j : Nat))) := cB
  have HGA : Hid ((0 < la.length → A = some ⟨ga, 0, none⟩) ∧ (0 < la.length → ga < w.heap.size)) := ⟨hA, hgA⟩
  have HGB : Hid ((0 < lb.length → B = some ⟨gb, 0, none⟩) ∧ (0 < lb.length → gb < w.heap.size)) := ⟨hB, hgB⟩
  have HNA : Hid (la.length = nd a) := na
  have HNB : Hid (lb.length = nd b) := nb
  have HXA : Hid (∀ k, dig la k < 16777216) := xa
  have HXB : Hid (∀ k, dig lb k < 16777216) := xb
  rw [← na] at sa
  rw [← nb] at sb
  clear ra rb ea eb da db cA cB hA hB hgA hgB na nb xa xb
  go_enter Tryz.func75, Tryz.ntmps75
  go_wp2_with fail
  go_loopw [5, 6, 7, 8] (fun v c i _ wr => ∃ k : Nat, k ≤ max la.length lb.length + 1 ∧ i = .int .i64 k ∧ c = .int .i64 (carry a b k : Nat) ∧ PlusAt w wr v a b k) (fun _ _ i _ _ => max la.length lb.length + 1 - (intOf i).toNat)
  case atStart => exact ⟨0, by omega, rfl, by rw [carry_zero]; rfl, World.ownsRow_nil _ _ _ _, Below.refl _ _, by omega⟩
  case round =>
    obtain ⟨k, hk, rfl, rfl, hP⟩ := hrel
    have HP : Hid (PlusAt w wr u5 a b k) := hP
    have hc1 := carry_le a b k
    have HDa : Hid (dig la k = a / 2 ^ (24 * k) % 16777216) := HDA.out k
    have HDb : Hid (dig lb k = b / 2 ^ (24 * k) % 16777216) := HDB.out k
    have HLast : Hid (la.length < k → lb.length < k → carry a b k = 0) := fun h1 h2 => carry_last (by rw [← HNA.out]; exact h1) (by rw [← HNB.out]; exact h2)
    have HStop : Hid (la.length ≤ k → lb.length ≤ k → carry a b k = 0 → a + b < 2 ^ (24 * k)) := fun h1 h2 h3 => carry_stop (by rw [← HNA.out]; exact h1) (by rw [← HNB.out]; exact h2) h3
    have HPush : Hid (∀ (w1 : World) (v' : Value) (o : Obj) (n : Int), (k < la.length ∨ k < lb.length ∨ 0 < carry a b k) → n = (carry a b k + dig la k + dig lb k : Nat) → w1.ownsRow w.heap.size 3 1 v' (k + 1) (ints (low (a + b) k) ++ [.int .i64 (n % 16777216)]) → (wr.alloc o).grownBy w1 u5.ownBlock → PlusAt w w1 v' a b (k + 1) ∧ n / 16777216 = (carry a b (k + 1) : Nat)) :=
      fun w1 v' o n h1 h2 h3 h4 => HP.out.more (by rw [← HNA.out, ← HNB.out]; exact h1) (by rw [h2, HDa.out, HDb.out]) h3 h4
    clear hP
    by_cases ka : k < la.length
    · have c1 : wr.cell? ⟨ga, k, none⟩ = some (.int .i64 (dig la k : Nat)) := (HP.out.below.cell (p := ⟨ga, k, none⟩) (HGA.out.2 (by omega))).trans (HA.out k ka)
      have x1 := HXA.out k
      obtain rfl := HGA.out.1 (by omega)
      by_cases kb : k < lb.length
      · skip
        have c2 : wr.cell? ⟨gb, k, none⟩ = some (.int .i64 (dig lb k : Nat)) := (HP.out.below.cell (p := ⟨gb, k, none⟩) (HGB.out.2 (by omega))).trans (HB.out k kb)
        have x2 := HXB.out k
        obtain rfl := HGB.out.1 (by omega)
        generalize carry a b k = C at *
        generalize dig la k = X at *
        generalize dig lb k = Y at *
        go_wp2_with (at_builtin; refine wpList_append_own _ rfl _ _ 61 rfl w.heap.size 3 i0 (.int .i64 0) 1 8 Tryz.underlying61 hi hz0 hz1 hz2 rfl (by decide) _ _ _ rfl (HP.out.own.alloc _) ⟨wr.heap.size, 0, none⟩ 1 1 [.int .i64 (((C + X + Y : Nat) : Int) % 16777216)] rfl rfl ?d1a ?d2a ?d3a ?d4a ?d5a ?_)
        all_goals try exact one_cell (by go_simp)
        case d2a => first | rfl | (intro u hu; simp at hu; subst hu; rfl)
        case d3a => unfold maxLen; omega
        case d4a => omega
        case d5a => have := HP.out.below.size; simp; omega
        intro v' w1 hown1 hg1 _
        have HQ := HPush.out w1 v' _ _ (.inl ka) rfl hown1 hg1
        clear hown1 hg1
        have q2 := HQ.2
        have HR : Hid (PlusAt w w1 v' a b (k + 1)) := HQ.1
        clear HQ
        go_wp2_with fail
        go_roundw
        case rel => exact ⟨k + 1, by omega, by go_num, congrArg (Value.int .i64) (by omega), HR.out⟩
        case measure => simp [intOf]; omega
      · skip
        have z2 : dig lb k = 0 := dig_out (by omega)
        rw [z2] at HPush HDb
        simp only [Nat.add_zero] at HPush
        clear z2
        generalize carry a b k = C at *
        generalize dig la k = X at *
        go_wp2_with (at_builtin; refine wpList_append_own _ rfl _ _ 61 rfl w.heap.size 3 i0 (.int .i64 0) 1 8 Tryz.underlying61 hi hz0 hz1 hz2 rfl (by decide) _ _ _ rfl (HP.out.own.alloc _) ⟨wr.heap.size, 0, none⟩ 1 1 [.int .i64 (((C + X : Nat) : Int) % 16777216)] rfl rfl ?d1b ?d2b ?d3b ?d4b ?d5b ?_)
        all_goals try exact one_cell (by go_simp)
        case d2b => first | rfl | (intro u hu; simp at hu; subst hu; rfl)
        case d3b => unfold maxLen; omega
        case d4b => omega
        case d5b => have := HP.out.below.size; simp; omega
        intro v' w1 hown1 hg1 _
        have HQ := HPush.out w1 v' _ _ (.inl ka) rfl hown1 hg1
        clear hown1 hg1
        have q2 := HQ.2
        have HR : Hid (PlusAt w w1 v' a b (k + 1)) := HQ.1
        clear HQ
        go_wp2_with fail
        go_roundw
        case rel => exact ⟨k + 1, by omega, by go_num, congrArg (Value.int .i64) (by omega), HR.out⟩
        case measure => simp [intOf]; omega
    · by_cases kb : k < lb.length
      · skip
        have z1 : dig la k = 0 := dig_out (by omega)
        rw [z1] at HPush HDa
        simp only [Nat.add_zero] at HPush
        clear z1
        have c2 : wr.cell? ⟨gb, k, none⟩ = some (.int .i64 (dig lb k : Nat)) := (HP.out.below.cell (p := ⟨gb, k, none⟩) (HGB.out.2 (by omega))).trans (HB.out k kb)
        have x2 := HXB.out k
        obtain rfl := HGB.out.1 (by omega)
        generalize carry a b k = C at *
        generalize dig lb k = Y at *
        go_wp2_with (at_builtin; refine wpList_append_own _ rfl _ _ 61 rfl w.heap.size 3 i0 (.int .i64 0) 1 8 Tryz.underlying61 hi hz0 hz1 hz2 rfl (by decide) _ _ _ rfl (HP.out.own.alloc _) ⟨wr.heap.size, 0, none⟩ 1 1 [.int .i64 (((C + Y : Nat) : Int) % 16777216)] rfl rfl ?d1c ?d2c ?d3c ?d4c ?d5c ?_)
        all_goals try exact one_cell (by go_simp)
        case d2c => first | rfl | (intro u hu; simp at hu; subst hu; rfl)
        case d3c => unfold maxLen; omega
        case d4c => omega
        case d5c => have := HP.out.below.size; simp; omega
        intro v' w1 hown1 hg1 _
        have HQ := HPush.out w1 v' _ _ (.inr (.inl kb)) rfl hown1 hg1
        clear hown1 hg1
        have q2 := HQ.2
        have HR : Hid (PlusAt w w1 v' a b (k + 1)) := HQ.1
        clear HQ
        go_wp2_with fail
        go_roundw
        case rel => exact ⟨k + 1, by omega, by go_num, congrArg (Value.int .i64) (by omega), HR.out⟩
        case measure => simp [intOf]; omega
      · by_cases hc : 0 < carry a b k
        · have hkm : k ≤ max la.length lb.length := by
            apply Classical.byContradiction
            intro hn
            have := HLast.out (by omega) (by omega)
            omega
          have z1 : dig la k = 0 := dig_out (by omega)
          rw [z1] at HPush HDa
          simp only [Nat.add_zero] at HPush
          clear z1
          have z2 : dig lb k = 0 := dig_out (by omega)
          rw [z2] at HPush HDb
          simp only [Nat.add_zero] at HPush
          clear z2
          generalize carry a b k = C at *
          go_wp2_with (at_builtin; refine wpList_append_own _ rfl _ _ 61 rfl w.heap.size 3 i0 (.int .i64 0) 1 8 Tryz.underlying61 hi hz0 hz1 hz2 rfl (by decide) _ _ _ rfl (HP.out.own.alloc _) ⟨wr.heap.size, 0, none⟩ 1 1 [.int .i64 (((C : Nat) : Int) % 16777216)] rfl rfl ?d1d ?d2d ?d3d ?d4d ?d5d ?_)
          all_goals try exact one_cell (by go_simp)
          case d2d => first | rfl | (intro u hu; simp at hu; subst hu; rfl)
          case d3d => unfold maxLen; omega
          case d4d => omega
          case d5d => have := HP.out.below.size; simp; omega
          intro v' w1 hown1 hg1 _
          have HQ := HPush.out w1 v' _ _ (.inr (.inr hc)) rfl hown1 hg1
          clear hown1 hg1
          have q2 := HQ.2
          have HR : Hid (PlusAt w w1 v' a b (k + 1)) := HQ.1
          clear HQ
          go_wp2_with fail
          go_roundw
          case rel => exact ⟨k + 1, by omega, by go_num, congrArg (Value.int .i64) (by omega), HR.out⟩
          case measure => simp [intOf]; omega
        · have hc0 : carry a b k = 0 := by omega
          have HE : Hid (a + b < 2 ^ (24 * k)) := HStop.out (by omega) (by omega) hc0
          rw [hc0]
          clear HPush HLast HStop hc1 hc
          go_wp2
          go_ret
          exact ⟨_, rfl, low_nat HP.out.own HE.out HP.out.top, HP.out.below⟩


theorem bl_half {t : Nat} (h : 0 < t) : Go.bitLen t = 1 + Go.bitLen (t / 2) := by
  unfold Go.bitLen
  rw [if_neg (by omega)]
  by_cases h2 : t / 2 = 0
  · rw [if_pos h2]
    have : t = 1 := by omega
    subst this
    decide
  · rw [if_neg h2, Nat.log2_def, if_pos (by omega)]
    omega
theorem bl_zero : Go.bitLen 0 = 0 := rfl
/-- A number's length, by its first digit. -/
theorem bl_top {a : Nat} {l : List Nat} (hd : Digits l) (hv : val l = a) (hl : l.length = nd a) (h0 : 0 < l.length) : Go.bitLen a = 24 * (l.length - 1) + Go.bitLen (dig l (l.length - 1)) ∧ 0 < dig l (l.length - 1) := by
  have ht := top_pos hd (by rw [hv]; exact hl) (by intro h; subst h; simp at h0)
  have h1 : dig l (l.length - 1) = a / 2 ^ (24 * (l.length - 1)) := by
    rw [val_dig hd, hv, Nat.mod_eq_of_lt]
    rw [Nat.div_lt_iff_lt_mul (Nat.two_pow_pos _), ← pow24, show l.length - 1 + 1 = l.length by omega, hl]
    exact nd_lt a
  refine ⟨?_, ht⟩
  rw [h1] at ht ⊢
  exact Go.bitLen_shift a (24 * (l.length - 1)) (by omega)

set_option maxHeartbeats 1000000 in
theorem size_any (a : Nat) (va : Value) (w : World) (ha : IsNat w va a) (sa : nd a ≤ 100000) :
    Calls Tryz.prog 78 #[va] w fun e w' => e = .returned (.int .i64 (Go.bitLen a : Nat)) ∧ w' = w := by
  obtain ⟨la, ra, ea, na⟩ := ha
  obtain ⟨A, capa, ga, rfl, _, _, hA, hgA, cA⟩ := ra.open
  by_cases h0 : la.length = 0
  · have hz : a = 0 := by
      have := List.eq_nil_of_length_eq_zero h0
      subst this
      exact ea.symm
    rw [h0, hz, bl_zero]
    clear ra ea na hA hgA cA sa
    go_enter Tryz.func78, Tryz.ntmps78
    go_wp2
    go_ret
    exact ⟨rfl, rfl⟩
  · obtain ⟨hb, hpos⟩ := bl_top ra.1 ea na (by omega)
    have hx := dig_lt ra.1 (la.length - 1)
    have c1 := cA (la.length - 1) (by omega)
    obtain rfl := hA (by omega)
    rw [← na] at sa
    have hl1 : (la.length : Int) - 1 = ((la.length - 1 : Nat) : Int) := by omega
    have h0b : ((la.length : Int) == 0) = false := by rw [beq_eq_false_iff_ne]; omega
    have HB : Hid (Go.bitLen a = 24 * (la.length - 1) + Go.bitLen (dig la (la.length - 1))) := hb
    clear hb ra ea na hA hgA cA
    generalize dig la (la.length - 1) = X at *
    go_enter Tryz.func78, Tryz.ntmps78
    go_wp2_with fail
    go_loopw [3, 4] (fun n t wr => ∃ (N T : Nat), n = .int .i64 N ∧ t = .int .i64 T ∧ N + Go.bitLen T = Go.bitLen a ∧ T < 16777216 ∧ wr = w) (fun _ t _ => (intOf t).toNat)
    case atStart => exact ⟨24 * (la.length - 1), X, by first | rfl | (congr 1; done) | (congr 1; omega), rfl, HB.out.symm, hx, rfl⟩
    case round =>
      obtain ⟨N, T, rfl, rfl, hn, hT, rfl⟩ := hrel
      have HN : Hid (N + Go.bitLen T = Go.bitLen a) := hn
      have hN : N ≤ 2500000 := by
        have hbl := HB.out
        have h24 : Go.bitLen X ≤ 24 := by
          have := pow_le_of_lt ((Go.bitLen_spec X).2 (by omega)) (show X < 2 ^ 24 from hx)
          omega
        omega
      clear hn
      by_cases ht : 0 < T
      · have HH : Hid (Go.bitLen T = 1 + Go.bitLen (T / 2)) := bl_half ht
        go_wp2_with fail
        go_roundw
        case rel => exact ⟨N + 1, T / 2, by go_num, by go_num, by have := HN.out; have := HH.out; omega, by omega, by trivial⟩
        case measure => simp [intOf]; omega
      · obtain rfl : T = 0 := by omega
        have hNa : N = Go.bitLen a := by have := HN.out; rw [bl_zero] at this; omega
        clear HN HB
        go_wp2
        go_ret
        exact ⟨ret_int (by rw [hNa]), rfl⟩

set_option maxHeartbeats 1000000 in
theorem small_any (a : Nat) (va : Value) (w : World) (ha : IsNat w va a) (sa : a < 9223372036854775808) :
    Calls Tryz.prog 102 #[va] w fun e w' => e = .returned (.int .i64 (a : Nat)) ∧ w' = w := by
  obtain ⟨la, ra, ea, na⟩ := ha
  have da := val_dig ra.1
  obtain ⟨A, capa, ga, rfl, _, _, hA, hgA, cA⟩ := ra.open
  have hlen : la.length ≤ 3 := by
    rw [na]
    exact nd_of_lt (Nat.lt_of_lt_of_le sa (by decide))
  rw [ea] at da
  have HTop : Hid (a / 2 ^ (24 * la.length) = 0) := Nat.div_eq_of_lt (by rw [na]; exact nd_lt a)
  have HA : Hid (∀ j, j < la.length → w.cell? ⟨ga, j, none⟩ = some (.int .i64 (dig la j : Nat))) := cA
  have HGA : Hid (0 < la.length → A = some ⟨ga, 0, none⟩) := hA
  have HD : Hid (∀ k, a / 2 ^ (24 * k) = 16777216 * (a / 2 ^ (24 * (k + 1))) + dig la k) := fun k => by
    rw [da k, pow24, Nat.mul_comm 16777216 (2 ^ (24 * k)), ← Nat.div_div_eq_div_mul]
    omega
  have hsub : wrap64 ((la.length : Int) - 1) = (la.length : Int) - 1 := by unfold wrap64; omega
  clear ra ea na hA hgA cA da
  go_enter Tryz.func102, Tryz.ntmps102
  go_wp2_with fail
  go_loopw [3, 4] (fun t i wr => ∃ k : Nat, k ≤ la.length ∧ i = .int .i64 ((k : Int) - 1) ∧ t = .int .i64 (a / 2 ^ (24 * k) : Nat) ∧ wr = w) (fun _ i _ => (intOf i + 1).toNat)
  case atStart => exact ⟨la.length, Nat.le_refl _, rfl, by rw [HTop.out]; rfl, rfl⟩
  case round =>
    obtain ⟨k, hk, rfl, rfl, rfl⟩ := hrel
    clear hsub
    by_cases h0 : k = 0
    · subst h0
      have hz : a / 2 ^ (24 * 0) = a := by simp
      rw [hz]
      go_wp2
      go_ret
      exact ⟨rfl, rfl⟩
    · obtain ⟨j, rfl⟩ : ∃ j, k = j + 1 := ⟨k - 1, by omega⟩
      have e1 : ((j + 1 : Nat) : Int) - 1 = j := by omega
      rw [e1]
      have c1 := HA.out j (by omega)
      have hd := HD.out j
      have HD2 : Hid (a / 2 ^ (24 * j) = 16777216 * (a / 2 ^ (24 * (j + 1))) + dig la j) := hd
      have hle : a / 2 ^ (24 * j) ≤ a := Nat.div_le_self _ _
      obtain rfl := HGA.out (by omega)
      generalize a / 2 ^ (24 * (j + 1)) = T at *
      generalize dig la j = X at *
      have hbd : 16777216 * T + X < 9223372036854775808 := by omega
      clear hd hle
      go_wp2_with fail
      go_roundw
      case rel => exact ⟨j, by omega, by go_num, by rw [HD2.out]; first | rfl | (congr 1; done) | (congr 1; omega), by trivial⟩
      case measure => simp [intOf]

end Go.Proofs.YtcjihaafohnbeaaGreatDoor
