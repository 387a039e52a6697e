import Derived.Test.YtfbdgecanfmgiaaDoorBase
import Derived.Laws.MathBits
import Derived.Laws.BitsAllLaws
import Derived.Laws.OwnMore
import Derived.Deep.AppendLies
namespace Go.Proofs.YtfbdgecanfmgiaaDoor
open Go.RowKit

/-- The value of digits to the base 2^24, the lowest first. -/
def val : List Nat → Nat
  | [] => 0
  | d :: l => d + 16777216 * val l
def dig (l : List Nat) (k : Nat) : Nat := l[k]?.getD 0
theorem dig_in {l : List Nat} {k : Nat} (h : k < l.length) : dig l k = l[k] := by unfold dig; rw [List.getElem?_eq_getElem h]; rfl
theorem dig_out {l : List Nat} {k : Nat} (h : l.length ≤ k) : dig l k = 0 := by unfold dig; rw [List.getElem?_eq_none h]; rfl
def Digits (l : List Nat) : Prop := ∀ x ∈ l, x < 16777216
/-- How many digits a number has. -/
def nd (n : Nat) : Nat := (Go.bitLen n + 23) / 24
theorem nd_lt (n : Nat) : n < 2 ^ (24 * nd n) := Nat.lt_of_lt_of_le (Go.bitLen_spec n).1 (Nat.pow_le_pow_right (by decide) (by unfold nd; omega))
theorem bitLen_pos {n : Nat} (h : n ≠ 0) : 0 < Go.bitLen n := by
  have := (Go.bitLen_spec n).1
  apply Nat.pos_of_ne_zero
  intro h0
  rw [h0] at this
  omega
theorem nd_le {n : Nat} (h : n ≠ 0) : 2 ^ (24 * (nd n - 1)) ≤ n := by
  have h1 := (Go.bitLen_spec n).2 h
  have h2 := bitLen_pos h
  exact Nat.le_trans (Nat.pow_le_pow_right (by decide) (by unfold nd; omega)) h1
theorem nd_zero : nd 0 = 0 := rfl
theorem nd_pos {n : Nat} (h : n ≠ 0) : 0 < nd n := by have := bitLen_pos h; unfold nd; omega
theorem pow_le_of_lt {a b n : Nat} (h1 : 2 ^ a ≤ n) (h2 : n < 2 ^ b) : a < b := by
  apply Classical.byContradiction
  intro h
  have : (2 : Nat) ^ b ≤ 2 ^ a := Nat.pow_le_pow_right (by decide) (by omega)
  omega
theorem nd_eq {n k : Nat} (h1 : n < 2 ^ (24 * k)) (h2 : 0 < k → 2 ^ (24 * (k - 1)) ≤ n) : nd n = k := by
  by_cases h : n = 0
  · subst h
    have : k = 0 := by
      apply Classical.byContradiction
      intro hk
      have := h2 (by omega)
      have := Nat.two_pow_pos (24 * (k - 1))
      omega
    rw [this]; rfl
  · have a := nd_lt n
    have b := nd_le h
    have c := nd_pos h
    have hk : 0 < k := by
      apply Nat.pos_of_ne_zero
      intro hk; subst hk; simp at h1; omega
    have d := pow_le_of_lt b h1
    have e := pow_le_of_lt (h2 hk) a
    omega
theorem nd_mono {a b : Nat} (h : a ≤ b) : nd a ≤ nd b := by
  by_cases h0 : a = 0
  · subst h0; rw [nd_zero]; omega
  · have := pow_le_of_lt (nd_le h0) (Nat.lt_of_le_of_lt h (nd_lt b))
    have := nd_pos h0
    omega
theorem nd_of_lt {n k : Nat} (h : n < 2 ^ (24 * k)) : nd n ≤ k := by
  by_cases h0 : n = 0
  · subst h0; rw [nd_zero]; omega
  · have := pow_le_of_lt (nd_le h0) h
    have := nd_pos h0
    omega

theorem pow24 (k : Nat) : 2 ^ (24 * (k + 1)) = 16777216 * 2 ^ (24 * k) := by rw [Nat.mul_succ, Nat.pow_add, Nat.mul_comm]
theorem val_lt : ∀ {l : List Nat}, Digits l → val l < 2 ^ (24 * l.length)
  | [], _ => by simp [val]
  | d :: l, h => by
    have h1 := val_lt (l := l) (fun x hx => h x (List.mem_cons_of_mem _ hx))
    have h2 := h d (List.mem_cons_self ..)
    rw [List.length_cons, pow24]
    simp only [val]
    omega
theorem val_app : ∀ (l m : List Nat), val (l ++ m) = val l + 2 ^ (24 * l.length) * val m
  | [], m => by simp [val]
  | d :: l, m => by
    rw [List.cons_append, List.length_cons, pow24]
    simp only [val]
    rw [val_app l m, Nat.mul_add, Nat.mul_assoc]
    omega
theorem val_snoc (l : List Nat) (d : Nat) : val (l ++ [d]) = val l + 2 ^ (24 * l.length) * d := by rw [val_app]; simp [val]
theorem val_zeros (k : Nat) : val (List.replicate k 0) = 0 := by
  induction k with
  | zero => rfl
  | succ k ih => rw [List.replicate_succ]; simp [val, ih]
theorem Digits.snoc {l : List Nat} (h : Digits l) {d : Nat} (hd : d < 16777216) : Digits (l ++ [d]) := by
  intro x hx
  rcases List.mem_append.1 hx with h1 | h1
  · exact h x h1
  · simp at h1; omega
theorem Digits.app {l m : List Nat} (h : Digits l) (h' : Digits m) : Digits (l ++ m) := fun x hx => (List.mem_append.1 hx).elim (h x) (h' x)
theorem Digits.take {l : List Nat} (h : Digits l) (k : Nat) : Digits (l.take k) := fun x hx => h x (List.mem_of_mem_take hx)
theorem Digits.drop {l : List Nat} (h : Digits l) (k : Nat) : Digits (l.drop k) := fun x hx => h x (List.mem_of_mem_drop hx)
theorem Digits.set {l : List Nat} (h : Digits l) (k : Nat) {d : Nat} (hd : d < 16777216) : Digits (l.set k d) := fun x hx => by
  rcases List.mem_or_eq_of_mem_set hx with h1 | h1
  · exact h x h1
  · omega
theorem dig_lt {l : List Nat} (h : Digits l) (k : Nat) : dig l k < 16777216 := by
  by_cases hk : k < l.length
  · rw [dig_in hk]; exact h _ (List.getElem_mem hk)
  · rw [dig_out (by omega)]; decide
theorem val_split {l : List Nat} {k : Nat} : val l = val (l.take k) + 2 ^ (24 * min k l.length) * val (l.drop k) := by
  have := val_app (l.take k) (l.drop k)
  rw [List.take_append_drop, List.length_take] at this
  exact this
theorem val_take {l : List Nat} (h : Digits l) (k : Nat) : val (l.take k) = val l % 2 ^ (24 * k) := by
  by_cases hk : k ≤ l.length
  · have h1 := val_split (l := l) (k := k)
    rw [Nat.min_eq_left hk] at h1
    have h2 := val_lt (h.take k)
    rw [List.length_take, Nat.min_eq_left hk] at h2
    rw [h1, Nat.add_mul_mod_self_left, Nat.mod_eq_of_lt h2]
  · rw [List.take_of_length_le (by omega), Nat.mod_eq_of_lt]
    exact Nat.lt_of_lt_of_le (val_lt h) (Nat.pow_le_pow_right (by decide) (by omega))
theorem val_drop {l : List Nat} (h : Digits l) (k : Nat) : val (l.drop k) = val l / 2 ^ (24 * k) := by
  by_cases hk : k ≤ l.length
  · have h1 := val_split (l := l) (k := k)
    rw [Nat.min_eq_left hk] at h1
    have h2 := val_lt (h.take k)
    rw [List.length_take, Nat.min_eq_left hk] at h2
    rw [h1, Nat.add_mul_div_left _ _ (Nat.two_pow_pos _), Nat.div_eq_of_lt h2, Nat.zero_add]
  · rw [List.drop_eq_nil_of_le (by omega), Nat.div_eq_of_lt]
    · rfl
    · exact Nat.lt_of_lt_of_le (val_lt h) (Nat.pow_le_pow_right (by decide) (by omega))
theorem val_dig {l : List Nat} (h : Digits l) (k : Nat) : dig l k = val l / 2 ^ (24 * k) % 16777216 := by
  rw [← val_drop h]
  by_cases hk : k < l.length
  · rw [List.drop_eq_getElem_cons hk]
    simp only [val]
    rw [Nat.add_mul_mod_self_left, Nat.mod_eq_of_lt (h _ (List.getElem_mem hk))]
    rw [dig_in hk]
  · rw [dig_out (by omega), List.drop_eq_nil_of_le (by omega)]
    rfl
theorem val_set : ∀ (l : List Nat) (k d : Nat), k < l.length → val (l.set k d) + 2 ^ (24 * k) * dig l k = val l + 2 ^ (24 * k) * d
  | [], k, d, h => by simp at h
  | c :: l, 0, d, _ => by simp [val, dig]; omega
  | c :: l, k + 1, d, h => by
    have h1 := val_set l k d (by simpa using h)
    have e : dig (c :: l) (k + 1) = dig l k := by simp [dig]
    rw [List.set_cons_succ, pow24, e]
    simp only [val]
    rw [Nat.mul_assoc, Nat.mul_assoc]
    omega
theorem take_succ {l : List Nat} {k : Nat} (h : k < l.length) : l.take (k + 1) = l.take k ++ [dig l k] := by
  rw [List.take_succ_eq_append_getElem h, dig_in h]
theorem val_take_succ {l : List Nat} (k : Nat) : val (l.take (k + 1)) = val (l.take k) + 2 ^ (24 * k) * dig l k := by
  by_cases h : k < l.length
  · rw [take_succ h, val_snoc, List.length_take, Nat.min_eq_left (by omega)]
  · rw [List.take_of_length_le (by omega), List.take_of_length_le (by omega)]
    rw [dig_out (by omega)]
    omega
/-- The first digit is none of a number's. -/
theorem top_pos {l : List Nat} (h : Digits l) (hn : l.length = nd (val l)) (h0 : l ≠ []) : 0 < dig l (l.length - 1) := by
  have hp : 0 < l.length := List.length_pos_iff.2 h0
  have hv : val l ≠ 0 := by intro hv; rw [hv, nd_zero] at hn; omega
  have h1 := nd_le hv
  rw [← hn] at h1
  rw [val_dig h]
  have h2 := val_lt h
  have h3 : 0 < val l / 2 ^ (24 * (l.length - 1)) := Nat.div_pos h1 (Nat.two_pow_pos _)
  have h4 : val l / 2 ^ (24 * (l.length - 1)) < 16777216 := by
    rw [Nat.div_lt_iff_lt_mul (Nat.two_pow_pos _), ← pow24, show l.length - 1 + 1 = l.length by omega]
    exact h2
  rw [Nat.mod_eq_of_lt h4]
  exact h3

/-- A list of ints that lies in the world, from its block's head on: a number's digits. -/
def IsRow (w : World) (v : Value) (l : List Nat) : Prop :=
  Digits l ∧ ((v = .slice none 0 0 ∧ l = []) ∨ ∃ g cap, v = .slice (some ⟨g, 0, none⟩) l.length cap ∧ l.length ≤ cap ∧ cap ≤ maxLen ∧ g < w.heap.size ∧ ∀ j, j < l.length → w.cell? ⟨g, j, none⟩ = some (.int .i64 (dig l j : Nat)))
def IsNat (w : World) (v : Value) (n : Nat) : Prop := ∃ l, IsRow w v l ∧ val l = n ∧ l.length = nd n
theorem IsRow.later {w w' : World} {v : Value} {l : List Nat} (h : IsRow w v l) (hb : Below w.heap.size w w') : IsRow w' v l := by
  refine ⟨h.1, ?_⟩
  rcases h.2 with h | ⟨g, cap, h1, h2, h3, hg, hc⟩
  · exact .inl h
  · exact .inr ⟨g, cap, h1, h2, h3, Nat.lt_of_lt_of_le hg hb.size, fun j hj => (hb.cell (p := ⟨g, j, none⟩) hg).trans (hc j hj)⟩
theorem IsNat.later {w w' : World} {v : Value} {n : Nat} (h : IsNat w v n) (hb : Below w.heap.size w w') : IsNat w' v n := by
  obtain ⟨l, h1, h2⟩ := h
  exact ⟨l, h1.later hb, h2⟩
theorem IsNat.nil (w : World) : IsNat w (.slice none 0 0) 0 := ⟨[], ⟨by intro x hx; simp at hx, .inl ⟨rfl, rfl⟩⟩, rfl, rfl⟩
/-- Its cells, for a walk. -/
theorem IsRow.open {w : World} {v : Value} {l : List Nat} (h : IsRow w v l) : ∃ (a : Option Addr) (cap g : Nat), v = .slice a l.length cap ∧ l.length ≤ cap ∧ cap ≤ maxLen ∧ (0 < l.length → a = some ⟨g, 0, none⟩) ∧ (0 < l.length → g < w.heap.size) ∧ ∀ j, j < l.length → w.cell? ⟨g, j, none⟩ = some (.int .i64 (dig l j : Nat)) := by
  rcases h.2 with ⟨rfl, rfl⟩ | ⟨g, cap, h1, h2, h3, hg, hc⟩
  · exact ⟨none, 0, 0, rfl, by simp, by simp, by simp, by simp, by simp⟩
  · exact ⟨_, cap, g, h1, h2, h3, fun _ => rfl, fun _ => hg, hc⟩
def ints (l : List Nat) : List Value := l.map fun (d : Nat) => Value.int .i64 d
theorem ints_at {l : List Nat} {j : Nat} (h : j < l.length) : (ints l)[j]? = some (.int .i64 (dig l j : Nat)) := by
  unfold ints
  rw [List.getElem?_map, List.getElem?_eq_getElem h, dig_in h]
  rfl
theorem ints_snoc (l : List Nat) (d : Nat) : ints (l ++ [d]) = ints l ++ [.int .i64 d] := by simp [ints]
theorem ints_length (l : List Nat) : (ints l).length = l.length := by simp [ints]
theorem IsRow.own {w : World} {base : Nat} {e : TypeId} {v : Value} {l : List Nat} (hl : Digits l) (h : w.ownsRow base e 1 v l.length (ints l)) : IsRow w v l := by
  refine ⟨hl, ?_⟩
  have hlt := h.lt
  rcases h.2 with ⟨hv, h0⟩ | ⟨g, cap, cur, hv, _, _, hle, hm, _⟩
  · exact .inl ⟨hv, List.eq_nil_of_length_eq_zero h0⟩
  · subst hv
    exact .inr ⟨g, cap, rfl, hle, hm, (hlt g rfl).2, fun j hj => by rw [h.cellAt j (by omega)]; exact ints_at hj⟩
end Go.Proofs.YtfbdgecanfmgiaaDoor
