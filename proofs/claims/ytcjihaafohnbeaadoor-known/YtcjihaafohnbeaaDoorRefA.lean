import Derived.Test.YtcjihaafohnbeaaDoorScript
import Derived.Laws.MathBits
import Derived.Laws.BitsAllLaws
import Derived.Laws.OwnMore
import Derived.Deep.AppendLies
namespace Go.Proofs.YtcjihaafohnbeaaDoor
open Go.RowKit

/-- The value of digits to the base 2^24, the lowest first. -/
def val : List Nat → Nat
  | [] => 0
  | d :: l => d + 16777216 * val l
def dig (l : List Nat) (k : Nat) : Nat := l[k]?.getD 0
theorem dig_in {l : List Nat} {k : Nat} (h : k < l.length) : dig l k = l[k] := by unfold dig; rw [List.getElem?_eq_getElem h]; rfl
theorem dig_out {l : List Nat} {k : Nat} (h : l.length ≤ k) : dig l k = 0 := by unfold dig; rw [List.getElem?_eq_none h]; rfl
def Digits (l : List Nat) : Prop := ∀ x ∈ l, x < 16777216
/-- How many digits a number has. -/
def nd (n : Nat) : Nat := (Go.bitLen n + 23) / 24
theorem nd_lt (n : Nat) : n < 2 ^ (24 * nd n) := Nat.lt_of_lt_of_le (Go.bitLen_spec n).1 (Nat.pow_le_pow_right (by decide) (by unfold nd; omega))
theorem bitLen_pos {n : Nat} (h : n ≠ 0) : 0 < Go.bitLen n := by
  have := (Go.bitLen_spec n).1
  apply Nat.pos_of_ne_zero
  intro h0
  rw [h0] at this
  omega
theorem nd_le {n : Nat} (h : n ≠ 0) : 2 ^ (24 * (nd n - 1)) ≤ n := by
  have h1 := (Go.bitLen_spec n).2 h
  have h2 := bitLen_pos h
  exact Nat.le_trans (Nat.pow_le_pow_right (by decide) (by unfold nd; omega)) h1
theorem nd_zero : nd 0 = 0 := rfl
theorem nd_pos {n : Nat} (h : n ≠ 0) : 0 < nd n := by have := bitLen_pos h; unfold nd; omega
theorem pow_le_of_lt {a b n : Nat} (h1 : 2 ^ a ≤ n) (h2 : n < 2 ^ b) : a < b := by
  apply Classical.byContradiction
  intro h
  have : (2 : Nat) ^ b ≤ 2 ^ a := Nat.pow_le_pow_right (by decide) (by omega)
  omega
theorem nd_eq {n k : Nat} (h1 : n < 2 ^ (24 * k)) (h2 : 0 < k → 2 ^ (24 * (k - 1)) ≤ n) : nd n = k := by
  by_cases h : n = 0
  · subst h
    have : k = 0 := by
      apply Classical.byContradiction
      intro hk
      have := h2 (by omega)
      have := Nat.two_pow_pos (24 * (k - 1))
      omega
    rw [this]; rfl
  · have a := nd_lt n
    have b := nd_le h
    have c := nd_pos h
    have hk : 0 < k := by
      apply Nat.pos_of_ne_zero
      intro hk; subst hk; simp at h1; omega
    have d := pow_le_of_lt b h1
    have e := pow_le_of_lt (h2 hk) a
    omega
theorem nd_mono {a b : Nat} (h : a ≤ b) : nd a ≤ nd b := by
  by_cases h0 : a = 0
  · subst h0; rw [nd_zero]; omega
  · have := pow_le_of_lt (nd_le h0) (Nat.lt_of_le_of_lt h (nd_lt b))
    have := nd_pos h0
    omega
theorem nd_of_lt {n k : Nat} (h : n < 2 ^ (24 * k)) : nd n ≤ k := by
  by_cases h0 : n = 0
  · subst h0; rw [nd_zero]; omega
  · have := pow_le_of_lt (nd_le h0) h
    have := nd_pos h0
    omega

theorem pow24 (k : Nat) : 2 ^ (24 * (k + 1)) = 16777216 * 2 ^ (24 * k) := by rw [Nat.mul_succ, Nat.pow_add, Nat.mul_comm]
theorem val_lt : ∀ {l : List Nat}, Digits l → val l < 2 ^ (24 * l.length)
  | [], _ => by simp [val]
  | d :: l, h => by
    have h1 := val_lt (l := l) (fun x hx => h x (List.mem_cons_of_mem _ hx))
    have h2 := h d (List.mem_cons_self ..)
    rw [List.length_cons, pow24]
    simp only [val]
    omega
theorem val_app : ∀ (l m : List Nat), val (l ++ m) = val l + 2 ^ (24 * l.length) * val m
  | [], m => by simp [val]
  | d :: l, m => by
    rw [List.cons_append, List.length_cons, pow24]
    simp only [val]
    rw [val_app l m, Nat.mul_add, Nat.mul_assoc]
    omega
theorem val_snoc (l : List Nat) (d : Nat) : val (l ++ [d]) = val l + 2 ^ (24 * l.length) * d := by rw [val_app]; simp [val]
theorem val_zeros (k : Nat) : val (List.replicate k 0) = 0 := by
  induction k with
  | zero => rfl
  | succ k ih => rw [List.replicate_succ]; simp [val, ih]
theorem Digits.snoc {l : List Nat} (h : Digits l) {d : Nat} (hd : d < 16777216) : Digits (l ++ [d]) := by
  intro x hx
  rcases List.mem_append.1 hx with h1 | h1
  · exact h x h1
  · simp at h1; omega
theorem Digits.app {l m : List Nat} (h : Digits l) (h' : Digits m) : Digits (l ++ m) := fun x hx => (List.mem_append.1 hx).elim (h x) (h' x)
theorem Digits.take {l : List Nat} (h : Digits l) (k : Nat) : Digits (l.take k) := fun x hx => h x (List.mem_of_mem_take hx)
theorem Digits.drop {l : List Nat} (h : Digits l) (k : Nat) : Digits (l.drop k) := fun x hx => h x (List.mem_of_mem_drop hx)
theorem Digits.set {l : List Nat} (h : Digits l) (k : Nat) {d : Nat} (hd : d < 16777216) : Digits (l.set k d) := fun x hx => by
  rcases List.mem_or_eq_of_mem_set hx with h1 | h1
  · exact h x h1
  · omega
theorem dig_lt {l : List Nat} (h : Digits l) (k : Nat) : dig l k < 16777216 := by
  by_cases hk : k < l.length
  · rw [dig_in hk]; exact h _ (List.getElem_mem hk)
  · rw [dig_out (by omega)]; decide
theorem val_split {l : List Nat} {k : Nat} : val l = val (l.take k) + 2 ^ (24 * min k l.length) * val (l.drop k) := by
  have := val_app (l.take k) (l.drop k)
  rw [List.take_append_drop, List.length_take] at this
  exact this
theorem val_take {l : List Nat} (h : Digits l) (k : Nat) : val (l.take k) = val l % 2 ^ (24 * k) := by
  by_cases hk : k ≤ l.length
  · have h1 := val_split (l := l) (k := k)
    rw [Nat.min_eq_left hk] at h1
    have h2 := val_lt (h.take k)
    rw [List.length_take, Nat.min_eq_left hk] at h2
    rw [h1, Nat.add_mul_mod_self_left, Nat.mod_eq_of_lt h2]
  · rw [List.take_of_length_le (by omega), Nat.mod_eq_of_lt]
    exact Nat.lt_of_lt_of_le (val_lt h) (Nat.pow_le_pow_right (by decide) (by omega))
theorem val_drop {l : List Nat} (h : Digits l) (k : Nat) : val (l.drop k) = val l / 2 ^ (24 * k) := by
  by_cases hk : k ≤ l.length
  · have h1 := val_split (l := l) (k := k)
    rw [Nat.min_eq_left hk] at h1
    have h2 := val_lt (h.take k)
    rw [List.length_take, Nat.min_eq_left hk] at h2
    rw [h1, Nat.add_mul_div_left _ _ (Nat.two_pow_pos _), Nat.div_eq_of_lt h2, Nat.zero_add]
  · rw [List.drop_eq_nil_of_le (by omega), Nat.div_eq_of_lt]
    · rfl
    · exact Nat.lt_of_lt_of_le (val_lt h) (Nat.pow_le_pow_right (by decide) (by omega))
theorem val_dig {l : List Nat} (h : Digits l) (k : Nat) : dig l k = val l / 2 ^ (24 * k) % 16777216 := by
  rw [← val_drop h]
  by_cases hk : k < l.length
  · rw [List.drop_eq_getElem_cons hk]
    simp only [val]
    rw [Nat.add_mul_mod_self_left, Nat.mod_eq_of_lt (h _ (List.getElem_mem hk))]
    rw [dig_in hk]
  · rw [dig_out (by omega), List.drop_eq_nil_of_le (by omega)]
    rfl
theorem val_set : ∀ (l : List Nat) (k d : Nat), k < l.length → val (l.set k d) + 2 ^ (24 * k) * dig l k = val l + 2 ^ (24 * k) * d
  | [], k, d, h => by simp at h
  | c :: l, 0, d, _ => by simp [val, dig]; omega
  | c :: l, k + 1, d, h => by
    have h1 := val_set l k d (by simpa using h)
    have e : dig (c :: l) (k + 1) = dig l k := by simp [dig]
    rw [List.set_cons_succ, pow24, e]
    simp only [val]
    rw [Nat.mul_assoc, Nat.mul_assoc]
    omega
theorem take_succ {l : List Nat} {k : Nat} (h : k < l.length) : l.take (k + 1) = l.take k ++ [dig l k] := by
  rw [List.take_succ_eq_append_getElem h, dig_in h]
theorem val_take_succ {l : List Nat} (k : Nat) : val (l.take (k + 1)) = val (l.take k) + 2 ^ (24 * k) * dig l k := by
  by_cases h : k < l.length
  · rw [take_succ h, val_snoc, List.length_take, Nat.min_eq_left (by omega)]
  · rw [List.take_of_length_le (by omega), List.take_of_length_le (by omega)]
    rw [dig_out (by omega)]
    omega
/-- The first digit is none of a number's. -/
theorem top_pos {l : List Nat} (h : Digits l) (hn : l.length = nd (val l)) (h0 : l ≠ []) : 0 < dig l (l.length - 1) := by
  have hp : 0 < l.length := List.length_pos_iff.2 h0
  have hv : val l ≠ 0 := by intro hv; rw [hv, nd_zero] at hn; omega
  have h1 := nd_le hv
  rw [← hn] at h1
  rw [val_dig h]
  have h2 := val_lt h
  have h3 : 0 < val l / 2 ^ (24 * (l.length - 1)) := Nat.div_pos h1 (Nat.two_pow_pos _)
  have h4 : val l / 2 ^ (24 * (l.length - 1)) < 16777216 := by
    rw [Nat.div_lt_iff_lt_mul (Nat.two_pow_pos _), ← pow24, show l.length - 1 + 1 = l.length by omega]
    exact h2
  rw [Nat.mod_eq_of_lt h4]
  exact h3

/-- A list of ints that lies in the world, from its block's head on: a number's digits. -/
def IsRow (w : World) (v : Value) (l : List Nat) : Prop :=
  Digits l ∧ ((v = .slice none 0 0 ∧ l = []) ∨ ∃ g cap, v = .slice (some ⟨g, 0, none⟩) l.length cap ∧ l.length ≤ cap ∧ cap ≤ maxLen ∧ g < w.heap.size ∧ ∀ j, j < l.length → w.cell? ⟨g, j, none⟩ = some (.int .i64 (dig l j : Nat)))
def IsNat (w : World) (v : Value) (n : Nat) : Prop := ∃ l, IsRow w v l ∧ val l = n ∧ l.length = nd n
theorem IsRow.later {w w' : World} {v : Value} {l : List Nat} (h : IsRow w v l) (hb : Below w.heap.size w w') : IsRow w' v l := by
  refine ⟨h.1, ?_⟩
  rcases h.2 with h | ⟨g, cap, h1, h2, h3, hg, hc⟩
  · exact .inl h
  · exact .inr ⟨g, cap, h1, h2, h3, Nat.lt_of_lt_of_le hg hb.size, fun j hj => (hb.cell (p := ⟨g, j, none⟩) hg).trans (hc j hj)⟩
theorem IsNat.later {w w' : World} {v : Value} {n : Nat} (h : IsNat w v n) (hb : Below w.heap.size w w') : IsNat w' v n := by
  obtain ⟨l, h1, h2⟩ := h
  exact ⟨l, h1.later hb, h2⟩
theorem IsNat.nil (w : World) : IsNat w (.slice none 0 0) 0 := ⟨[], ⟨by intro x hx; simp at hx, .inl ⟨rfl, rfl⟩⟩, rfl, rfl⟩
/-- Its cells, for a walk. -/
theorem IsRow.open {w : World} {v : Value} {l : List Nat} (h : IsRow w v l) : ∃ (a : Option Addr) (cap g : Nat), v = .slice a l.length cap ∧ l.length ≤ cap ∧ cap ≤ maxLen ∧ (0 < l.length → a = some ⟨g, 0, none⟩) ∧ (0 < l.length → g < w.heap.size) ∧ ∀ j, j < l.length → w.cell? ⟨g, j, none⟩ = some (.int .i64 (dig l j : Nat)) := by
  rcases h.2 with ⟨rfl, rfl⟩ | ⟨g, cap, h1, h2, h3, hg, hc⟩
  · exact ⟨none, 0, 0, rfl, by simp, by simp, by simp, by simp, by simp⟩
  · exact ⟨_, cap, g, h1, h2, h3, fun _ => rfl, fun _ => hg, hc⟩
def ints (l : List Nat) : List Value := l.map fun (d : Nat) => Value.int .i64 d
theorem ints_at {l : List Nat} {j : Nat} (h : j < l.length) : (ints l)[j]? = some (.int .i64 (dig l j : Nat)) := by
  unfold ints
  rw [List.getElem?_map, List.getElem?_eq_getElem h, dig_in h]
  rfl
theorem ints_snoc (l : List Nat) (d : Nat) : ints (l ++ [d]) = ints l ++ [.int .i64 d] := by simp [ints]
theorem ints_length (l : List Nat) : (ints l).length = l.length := by simp [ints]
theorem IsRow.own {w : World} {base : Nat} {e : TypeId} {v : Value} {l : List Nat} (hl : Digits l) (h : w.ownsRow base e 1 v l.length (ints l)) : IsRow w v l := by
  refine ⟨hl, ?_⟩
  have hlt := h.lt
  rcases h.2 with ⟨hv, h0⟩ | ⟨g, cap, cur, hv, _, _, hle, hm, _⟩
  · exact .inl ⟨hv, List.eq_nil_of_length_eq_zero h0⟩
  · subst hv
    exact .inr ⟨g, cap, rfl, hle, hm, (hlt g rfl).2, fun j hj => by rw [h.cellAt j (by omega)]; exact ints_at hj⟩


theorem infoInt : (Tryd.prog.info? 3).map (fun i => (i.zero, i.size, i.bytes)) = some (some (.int .i64 0), 1, 8) := by kernel_rfl
theorem one_cell {w : World} {g : Nat} {v : Value} (h : w.cell? ⟨g, 0, none⟩ = some v) : ∀ j u, [v][j]? = some u → w.cell? ((⟨g, 0, none⟩ : Addr).add j) = some u := by
  intro j u hj
  match j, hj with
  | 0, hj => simp at hj; subst hj; simpa [Addr.add] using h
/-- One more digit: what append leaves. -/
theorem push {w w0 w1 : World} {base : Nat} {e : TypeId} {v v' : Value} {l : List Nat} {d : Nat} (hown : w0.ownsRow base e 1 v l.length (ints l)) (h : w1.ownsRow base e 1 v' (l.length + 1) (ints l ++ [.int .i64 (d : Nat)])) (hg : w0.grownBy w1 v.ownBlock) (hb : Below base w w0) (hw : base ≤ w.heap.size) :
    w1.ownsRow base e 1 v' (l ++ [d]).length (ints (l ++ [d])) ∧ Below base w w1 :=
  ⟨by rw [ints_snoc, List.length_append]; exact h, hb.grown hg (Nat.le_trans hw hb.size) (fun j hj => (hown.lt j hj).1)⟩

/-- The lowest k digits of a number. -/
def low (n : Nat) : Nat → List Nat
  | 0 => []
  | k + 1 => low n k ++ [n / 2 ^ (24 * k) % 16777216]
theorem low_length (n k : Nat) : (low n k).length = k := by induction k with | zero => rfl | succ k ih => simp [low, ih]
theorem low_digits (n k : Nat) : Digits (low n k) := by
  induction k with
  | zero => intro x hx; simp [low] at hx
  | succ k ih => exact ih.snoc (Nat.mod_lt _ (by decide))
theorem low_val (n k : Nat) : val (low n k) = n % 2 ^ (24 * k) := by
  induction k with
  | zero => simp [low, val, Nat.mod_one]
  | succ k ih =>
    rw [low, val_snoc, low_length, ih, pow24, Nat.mul_comm 16777216, Nat.mod_mul]
theorem low_nat {w : World} {base : Nat} {e : TypeId} {v : Value} {n k : Nat} (h : w.ownsRow base e 1 v k (ints (low n k))) (h1 : n < 2 ^ (24 * k)) (h2 : 0 < k → 2 ^ (24 * (k - 1)) ≤ n) : IsNat w v n := by
  refine ⟨low n k, IsRow.own (low_digits n k) (by rw [low_length]; exact h), ?_, ?_⟩
  · rw [low_val, Nat.mod_eq_of_lt h1]
  · rw [low_length, nd_eq h1 h2]

theorem nat_step {n k : Nat} (h : 0 < n / 2 ^ (24 * k)) : 2 ^ (24 * k) ≤ n := by
  apply Classical.byContradiction
  intro hn
  rw [Nat.div_eq_of_lt (by omega)] at h
  omega
theorem take_nat {w : World} {g cap k : Nat} {l : List Nat} (hd : Digits l) (hk : k ≤ l.length) (hc : l.length ≤ cap) (hm : cap ≤ maxLen) (hg : g < w.heap.size) (hcell : ∀ j, j < l.length → w.cell? ⟨g, j, none⟩ = some (.int .i64 (dig l j : Nat)))
    (hv : val (l.take k) = val l) (ht : 0 < k → dig l (k - 1) ≠ 0) : IsNat w (.slice (some ⟨g, 0, none⟩) k cap) (val l) := by
  have hl : (l.take k).length = k := by rw [List.length_take]; omega
  refine ⟨l.take k, ⟨hd.take k, .inr ⟨g, cap, by rw [hl], by omega, hm, hg, fun j hj => ?_⟩⟩, hv, ?_⟩
  · rw [hcell j (by omega)]
    unfold dig
    rw [List.getElem?_take_of_lt (by omega)]
  · rw [hl]
    refine (nd_eq ?_ fun hp => ?_).symm
    · rw [← hv]; have := val_lt (hd.take k); rw [hl] at this; exact this
    · have h1 := val_take_succ (l := l) (k - 1)
      rw [show k - 1 + 1 = k by omega, hv] at h1
      rw [h1]
      have := Nat.le_mul_of_pos_right (2 ^ (24 * (k - 1))) (Nat.pos_of_ne_zero (ht hp))
      omega
theorem take_less {l : List Nat} {k : Nat} (h : val (l.take (k + 1)) = val l) (h0 : dig l k = 0) : val (l.take k) = val l := by rw [← h, val_take_succ, h0]; omega
/-- What is carried on, behind k digits of a sum. -/
def carry (a b k : Nat) : Nat := (a % 2 ^ (24 * k) + b % 2 ^ (24 * k)) / 2 ^ (24 * k)
theorem carry_le (a b k : Nat) : carry a b k ≤ 1 := by
  have hp := Nat.two_pow_pos (24 * k)
  have h1 := Nat.mod_lt a hp
  have h2 := Nat.mod_lt b hp
  unfold carry
  apply Nat.le_of_lt_succ
  rw [Nat.div_lt_iff_lt_mul hp]
  omega
theorem mod_pow_succ (a k : Nat) : a % 2 ^ (24 * (k + 1)) = a % 2 ^ (24 * k) + 2 ^ (24 * k) * (a / 2 ^ (24 * k) % 16777216) := by
  rw [pow24, Nat.mul_comm 16777216, Nat.mod_mul]
theorem carry_step (a b k : Nat) : (a + b) / 2 ^ (24 * k) % 16777216 = (carry a b k + a / 2 ^ (24 * k) % 16777216 + b / 2 ^ (24 * k) % 16777216) % 16777216 ∧ carry a b (k + 1) = (carry a b k + a / 2 ^ (24 * k) % 16777216 + b / 2 ^ (24 * k) % 16777216) / 16777216 := by
  have hp := Nat.two_pow_pos (24 * k)
  constructor
  · have e : (a + b) / 2 ^ (24 * k) = carry a b k + a / 2 ^ (24 * k) + b / 2 ^ (24 * k) := by
      unfold carry
      have h1 := Nat.div_add_mod a (2 ^ (24 * k))
      have h2 := Nat.div_add_mod b (2 ^ (24 * k))
      rw [show a + b = (a % 2 ^ (24 * k) + b % 2 ^ (24 * k)) + 2 ^ (24 * k) * (a / 2 ^ (24 * k) + b / 2 ^ (24 * k)) by rw [Nat.mul_add]; omega, Nat.add_mul_div_left _ _ hp]
      omega
    rw [e]; omega
  · unfold carry
    rw [mod_pow_succ a, mod_pow_succ b, pow24, Nat.mul_comm 16777216, ← Nat.div_div_eq_div_mul]
    rw [show a % 2 ^ (24 * k) + 2 ^ (24 * k) * (a / 2 ^ (24 * k) % 16777216) + (b % 2 ^ (24 * k) + 2 ^ (24 * k) * (b / 2 ^ (24 * k) % 16777216)) = (a % 2 ^ (24 * k) + b % 2 ^ (24 * k)) + 2 ^ (24 * k) * (a / 2 ^ (24 * k) % 16777216 + b / 2 ^ (24 * k) % 16777216) by rw [Nat.mul_add]; omega]
    rw [Nat.add_mul_div_left _ _ hp, Nat.add_assoc]
theorem carry_zero (a b : Nat) : carry a b 0 = 0 := by simp [carry, Nat.mod_one]
theorem lt_pow_nd {a k : Nat} (h : nd a ≤ k) : a < 2 ^ (24 * k) := Nat.lt_of_lt_of_le (nd_lt a) (Nat.pow_le_pow_right (by decide) (by omega))
theorem pow_le_nd {a k : Nat} (h : k < nd a) : 2 ^ (24 * k) ≤ a := by
  have h0 : a ≠ 0 := by intro h0; subst h0; rw [nd_zero] at h; omega
  exact Nat.le_trans (Nat.pow_le_pow_right (by decide) (by omega)) (nd_le h0)
theorem carry_end {a b k : Nat} (ha : nd a ≤ k) (hb : nd b ≤ k) : carry a b k = (a + b) / 2 ^ (24 * k) := by
  unfold carry
  rw [Nat.mod_eq_of_lt (lt_pow_nd ha), Nat.mod_eq_of_lt (lt_pow_nd hb)]
theorem carry_last {a b k : Nat} (ha : nd a < k) (hb : nd b < k) : carry a b k = 0 := by
  rw [carry_end (by omega) (by omega)]
  apply Nat.div_eq_of_lt
  obtain ⟨j, rfl⟩ : ∃ j, k = j + 1 := ⟨k - 1, by omega⟩
  have h1 := lt_pow_nd (a := a) (k := j) (by omega)
  have h2 := lt_pow_nd (a := b) (k := j) (by omega)
  rw [pow24]
  omega
theorem carry_stop {a b k : Nat} (ha : nd a ≤ k) (hb : nd b ≤ k) (h : carry a b k = 0) : a + b < 2 ^ (24 * k) := by
  rw [carry_end ha hb] at h
  rcases Nat.div_eq_zero_iff.1 h with h | h
  · have := Nat.two_pow_pos (24 * k); omega
  · exact h
theorem carry_go {a b k : Nat} (h : k < nd a ∨ k < nd b ∨ 0 < carry a b k) : 2 ^ (24 * k) ≤ a + b := by
  rcases h with h | h | h
  · have := pow_le_nd h; omega
  · have := pow_le_nd h; omega
  · have h1 := Nat.mod_le a (2 ^ (24 * k))
    have h2 := Nat.mod_le b (2 ^ (24 * k))
    have h3 : 2 ^ (24 * k) ≤ a % 2 ^ (24 * k) + b % 2 ^ (24 * k) := by
      unfold carry at h
      exact (Nat.div_pos_iff.1 h).2
    omega

/-- The state of plus behind k digits. -/
structure PlusAt (w wr : World) (v : Value) (a b k : Nat) : Prop where
  own : wr.ownsRow w.heap.size 3 1 v k (ints (low (a + b) k))
  below : Below w.heap.size w wr
  top : 0 < k → 2 ^ (24 * (k - 1)) ≤ a + b
theorem PlusAt.more {w wr w1 : World} {v v' : Value} {a b k : Nat} {n : Int} {o : Obj} (h : PlusAt w wr v a b k) (hgo : k < nd a ∨ k < nd b ∨ 0 < carry a b k) (hn : n = (carry a b k + a / 2 ^ (24 * k) % 16777216 + b / 2 ^ (24 * k) % 16777216 : Nat))
    (h1 : w1.ownsRow w.heap.size 3 1 v' (k + 1) (ints (low (a + b) k) ++ [.int .i64 (n % 16777216)])) (hg : (wr.alloc o).grownBy w1 v.ownBlock) : PlusAt w w1 v' a b (k + 1) ∧ n / 16777216 = (carry a b (k + 1) : Nat) := by
  have hs := carry_step a b k
  have hk' := low_length (a + b) k
  have := push (l := low (a + b) k) (d := (a + b) / 2 ^ (24 * k) % 16777216) (by rw [hk']; exact h.own.alloc o) (by rw [hk', hs.1]; subst hn; exact h1) hg (h.below.alloc h.below.size _) (Nat.le_refl _)
  rw [show low (a + b) k ++ [(a + b) / 2 ^ (24 * k) % 16777216] = low (a + b) (k + 1) from rfl, low_length] at this
  exact ⟨⟨this.1, this.2, fun _ => carry_go hgo⟩, by rw [hs.2, hn]; rfl⟩

theorem bl_half {t : Nat} (h : 0 < t) : Go.bitLen t = 1 + Go.bitLen (t / 2) := by
  unfold Go.bitLen
  rw [if_neg (by omega)]
  by_cases h2 : t / 2 = 0
  · rw [if_pos h2]
    have : t = 1 := by omega
    subst this
    decide
  · rw [if_neg h2, Nat.log2_def, if_pos (by omega)]
    omega
theorem bl_zero : Go.bitLen 0 = 0 := rfl
/-- A number's length, by its first digit. -/
theorem bl_top {a : Nat} {l : List Nat} (hd : Digits l) (hv : val l = a) (hl : l.length = nd a) (h0 : 0 < l.length) : Go.bitLen a = 24 * (l.length - 1) + Go.bitLen (dig l (l.length - 1)) ∧ 0 < dig l (l.length - 1) := by
  have ht := top_pos hd (by rw [hv]; exact hl) (by intro h; subst h; simp at h0)
  have h1 : dig l (l.length - 1) = a / 2 ^ (24 * (l.length - 1)) := by
    rw [val_dig hd, hv, Nat.mod_eq_of_lt]
    rw [Nat.div_lt_iff_lt_mul (Nat.two_pow_pos _), ← pow24, show l.length - 1 + 1 = l.length by omega, hl]
    exact nd_lt a
  refine ⟨?_, ht⟩
  rw [h1] at ht ⊢
  exact Go.bitLen_shift a (24 * (l.length - 1)) (by omega)

end Go.Proofs.YtcjihaafohnbeaaDoor
