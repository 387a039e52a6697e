import Derived.Test.YtcjihaafohnbeaaDoorRefA
import Derived.Deep.QuietTactic
import Derived.BigQuiet
namespace Go.Proofs.YtcjihaafohnbeaaDoor
open Go.RowKit

theorem ints_set (l : List Nat) (k d : Nat) : (ints l).set k (.int .i64 d) = ints (l.set k d) := by unfold ints; rw [List.map_set]
theorem ints_zeros (n : Nat) : List.replicate n (Value.int .i64 0) = ints (List.replicate n 0) := by unfold ints; rw [List.map_replicate]; rfl
theorem zeros_digits (n : Nat) : Digits (List.replicate n 0) := by
  intro x hx
  rw [List.mem_replicate] at hx
  omega
/-- The row that times fills. -/
structure Filled (w wr : World) (g n : Nat) (L : List Nat) : Prop where
  own : wr.ownsRow w.heap.size 3 1 (.slice (some ⟨g, 0, none⟩) n n) n (ints L)
  below : Below w.heap.size w wr
  dig : Digits L
  len : L.length = n
theorem Filled.drawn {w wr : World} {g n : Nat} {L : List Nat} (h : Filled w wr g n L) (k : Nat) : Filled w (wr.drewN k) g n L := ⟨h.own, below_drewN h.below k, h.dig, h.len⟩
theorem Filled.made {w w1 : World} {n : Nat} (h : w1.ownsRow w.heap.size 3 1 (.slice (some ⟨w.heap.size, 0, none⟩) n n) n (madeCells #[Value.int .i64 0] n).toList) (hg : w.grownBy w1 none) : Filled w w1 w.heap.size n (List.replicate n 0) := by
  refine ⟨?_, (Below.refl _ _).grown hg (Nat.le_refl _) (fun j hj => by cases hj), zeros_digits n, List.length_replicate⟩
  rw [← ints_zeros]
  rw [toList_madeCells_one] at h
  exact h
theorem Filled.set {w wr : World} {g n : Nat} {L : List Nat} (h : Filled w wr g n L) (k d : Nat) (hd : d < 16777216) : Filled w (wr.setCell ⟨g, k, none⟩ (.int .i64 d)) g n (L.set k d) := by
  have hs := h.own.stored k (.int .i64 d)
  refine ⟨by rw [← ints_set]; exact hs.1, h.below.setCell (h.own.lt g rfl).1 _, h.dig.set k hd, by rw [List.length_set]; exact h.len⟩
theorem Filled.row {w wr : World} {g n : Nat} {L : List Nat} (h : Filled w wr g n L) : IsRow wr (.slice (some ⟨g, 0, none⟩) n n) L := IsRow.own h.dig (by rw [h.len]; exact h.own)
theorem Filled.cell {w wr : World} {g n : Nat} {L : List Nat} (h : Filled w wr g n L) {k : Nat} (hk : k < n) : wr.cell? ⟨g, k, none⟩ = some (.int .i64 (Proofs.YtcjihaafohnbeaaDoor.dig L k : Nat)) := by
  rw [h.own.cellAt k (by omega)]
  exact ints_at (by rw [h.len]; exact hk)

theorem n_mod (D C p : Nat) : (((D + C + p) % 16777216 : Nat) : Int) = ((D : Int) + C + p) % 16777216 := by omega
theorem n_div (D C p : Nat) : (((D + C + p) / 16777216 : Nat) : Int) = ((D : Int) + C + p) / 16777216 := by omega
theorem p_le {X Y : Nat} (hX : X < 16777216) (hY : Y < 16777216) : X * Y ≤ 281474943156225 := by
  have h := Nat.mul_le_mul (show X ≤ 16777215 by omega) (show Y ≤ 16777215 by omega)
  rw [show 16777215 * 16777215 = 281474943156225 by decide] at h
  exact h
theorem w_add {D C : Nat} (hD : D < 16777216) (hC : C < 16777216) : wrap64 ((D : Int) + C) = (D : Int) + C := wrap64_small _ (by omega) (by omega)
theorem w_mul {p : Nat} (hp : p ≤ 281474943156225) : wrap64 (p : Int) = p := wrap64_small _ (by omega) (by omega)
theorem w_all {D C p : Nat} (hD : D < 16777216) (hC : C < 16777216) (hp : p ≤ 281474943156225) : wrap64 ((D : Int) + C + p) = (D : Int) + C + p := wrap64_small _ (by omega) (by omega)
theorem n_small {D C p : Nat} (hD : D < 16777216) (hC : C < 16777216) (hp : p ≤ 281474943156225) : (D + C + p) / 16777216 < 16777216 := by omega
theorem tdiv_base {n : Int} (h : 0 ≤ n) : n.tdiv 16777216 = n / 16777216 := Int.tdiv_eq_ediv_of_nonneg h
theorem tmod_base {n : Int} (h : 0 ≤ n) : n.tmod 16777216 = n % 16777216 := Int.tmod_eq_emod_of_nonneg h
theorem w_div {D C p : Nat} (hD : D < 16777216) (hC : C < 16777216) (hp : p ≤ 281474943156225) : wrap64 (((D : Int) + C + p) / 16777216) = ((D : Int) + C + p) / 16777216 := wrap64_small _ (by omega) (by omega)
/-- What one round of times reckons, as the walk has it. -/
theorem round_facts {D C X Y : Nat} (hD : D < 16777216) (hC : C < 16777216) (hX : X < 16777216) (hY : Y < 16777216) : ∃ (d c x y : Int) (N : Nat), (D : Int) = d ∧ (C : Int) = c ∧ (X : Int) = x ∧ (Y : Int) = y ∧ N = D + C + X * Y ∧ 0 ≤ d ∧ d < 16777216 ∧ 0 ≤ c ∧ c < 16777216 ∧ wrap64 (d + c) = d + c ∧ Hid (wrap64 ((wrap64 (d + c + wrap64 (x * y))).tdiv 16777216) = (N / 16777216 : Nat)) ∧ Hid ((wrap64 (d + c + wrap64 (x * y))).tmod 16777216 = (N % 16777216 : Nat)) ∧ Hid (N / 16777216 < 16777216) := by
  have hp := p_le hX hY
  refine ⟨D, C, X, Y, D + C + X * Y, rfl, rfl, rfl, rfl, rfl, by omega, by omega, by omega, by omega, w_add hD hC, ?_, ?_, n_small hD hC hp⟩
  · show wrap64 ((wrap64 ((D : Int) + C + wrap64 ((X : Int) * Y))).tdiv 16777216) = _
    rw [← Int.natCast_mul, w_mul hp, w_all hD hC hp, tdiv_base (by omega), w_div hD hC hp, n_div]
  · show (wrap64 ((D : Int) + C + wrap64 ((X : Int) * Y))).tmod 16777216 = _
    rw [← Int.natCast_mul, w_mul hp, w_all hD hC hp, tmod_base (by omega), n_mod]
theorem times_step {P Q V V' c c' n ai bj l R S : Nat} (hset : V' + P * Q * l = V + P * Q * (n % 16777216)) (hn : n = l + c + ai * bj) (hc : c' = n / 16777216) (hR : V + c * (P * Q) = R + ai * S * P) :
    V' + c' * (P * (16777216 * Q)) = R + ai * (S + Q * bj) * P := by
  have h1 : n = n % 16777216 + 16777216 * c' := by omega
  have h2 : P * Q * n = P * Q * (n % 16777216) + P * Q * (16777216 * c') := by rw [← Nat.mul_add, ← h1]
  have h3 : P * Q * n = P * Q * l + P * Q * c + P * Q * (ai * bj) := by rw [hn, Nat.mul_add, Nat.mul_add]
  have h4 : c' * (P * (16777216 * Q)) = P * Q * (16777216 * c') := by
    rw [Nat.mul_comm c', Nat.mul_assoc P, Nat.mul_assoc P, Nat.mul_assoc 16777216, Nat.mul_left_comm Q]
  have h5 : ai * (S + Q * bj) * P = ai * S * P + P * Q * (ai * bj) := by
    rw [Nat.mul_add, Nat.add_mul]
    congr 1
    rw [Nat.mul_comm (ai * (Q * bj)) P, Nat.mul_assoc P, Nat.mul_left_comm ai]
  have h6 : c * (P * Q) = P * Q * c := Nat.mul_comm _ _
  omega
theorem times_in {a b i j V c : Nat} (_hi : i < nd a) (ai : Nat) (hai : ai = a / 2 ^ (24 * i) % 16777216) (h : V + c * (2 ^ (24 * i) * 2 ^ (24 * j)) = a % 2 ^ (24 * i) * b + ai * (b % 2 ^ (24 * j)) * 2 ^ (24 * i)) (hc : 0 < c) : i + j < nd a + nd b := by
  have h1 : 2 ^ (24 * (i + j)) ≤ V + c * (2 ^ (24 * i) * 2 ^ (24 * j)) := by
    rw [Nat.mul_add 24, Nat.pow_add]
    have := Nat.le_mul_of_pos_left (2 ^ (24 * i) * 2 ^ (24 * j)) hc
    omega
  have h2 : a % 2 ^ (24 * i) * b + ai * (b % 2 ^ (24 * j)) * 2 ^ (24 * i) ≤ a % 2 ^ (24 * (i + 1)) * b := by
    rw [mod_pow_succ, ← hai, Nat.add_mul]
    have : ai * (b % 2 ^ (24 * j)) * 2 ^ (24 * i) ≤ 2 ^ (24 * i) * ai * b := by
      rw [Nat.mul_comm, ← Nat.mul_assoc]
      exact Nat.mul_le_mul_left _ (Nat.mod_le _ _)
    omega
  have h3 : a % 2 ^ (24 * (i + 1)) * b < 2 ^ (24 * (nd a + nd b)) := by
    rw [Nat.mul_add 24 (nd a), Nat.pow_add]
    refine Nat.lt_of_le_of_lt (Nat.mul_le_mul_right b (Nat.mod_le _ _)) ?_
    exact Nat.mul_lt_mul'' (nd_lt a) (nd_lt b)
  have := pow_le_of_lt (Nat.le_trans h1 (h ▸ h2)) h3
  omega
theorem times_row {a b i j V : Nat} (ai : Nat) (hai : ai = a / 2 ^ (24 * i) % 16777216) (hj : nd b ≤ j) (h : V + 0 * (2 ^ (24 * i) * 2 ^ (24 * j)) = a % 2 ^ (24 * i) * b + ai * (b % 2 ^ (24 * j)) * 2 ^ (24 * i)) : V = a % 2 ^ (24 * (i + 1)) * b := by
  rw [mod_pow_succ, ← hai, Nat.add_mul]
  rw [Nat.mod_eq_of_lt (lt_pow_nd hj)] at h
  rw [Nat.mul_comm (2 ^ (24 * i)) ai, Nat.mul_right_comm]
  omega

/-- What is lent, behind k digits of a difference. -/
def lent (a b k : Nat) : Nat := if a % 2 ^ (24 * k) < b % 2 ^ (24 * k) then 1 else 0
theorem lent_le (a b k : Nat) : lent a b k ≤ 1 := by unfold lent; split <;> omega
theorem lent_zero (a b : Nat) : lent a b 0 = 0 := by simp [lent, Nat.mod_one]
theorem lent_parts {P a b ap aq bp bq l : Nat} (ha : a = ap + P * aq) (hb : b = bp + P * bq) (hap : ap < P) (hbp : bp < P) (hl : l = if ap < bp then 1 else 0) (h : b ≤ a) : (a - b) / P + bq + l = aq := by
  have h1 : bq ≤ aq := by
    apply Classical.byContradiction
    intro hn
    have := Nat.mul_le_mul_left P (show aq + 1 ≤ bq by omega)
    rw [Nat.mul_add] at this
    omega
  obtain ⟨t, rfl⟩ : ∃ t, aq = bq + t := ⟨aq - bq, by omega⟩
  rw [Nat.mul_add] at ha
  by_cases hlt : ap < bp
  · rw [if_pos hlt] at hl
    have ht : t ≠ 0 := by intro h0; subst h0; omega
    obtain ⟨s, rfl⟩ : ∃ s, t = s + 1 := ⟨t - 1, by omega⟩
    rw [Nat.mul_add] at ha
    have e : a - b = (P + ap - bp) + P * s := by omega
    rw [e, Nat.add_mul_div_left _ _ (by omega), Nat.div_eq_of_lt (by omega)]
    omega
  · rw [if_neg hlt] at hl
    have e : a - b = (ap - bp) + P * t := by omega
    rw [e, Nat.add_mul_div_left _ _ (by omega), Nat.div_eq_of_lt (by omega)]
    omega
theorem lent_step {a b : Nat} (k : Nat) (h : b ≤ a) (X Y : Nat) (hX : X = a / 2 ^ (24 * k) % 16777216) (hY : Y = b / 2 ^ (24 * k) % 16777216) :
    (X < Y + lent a b k → (a - b) / 2 ^ (24 * k) % 16777216 + Y + lent a b k = X + 16777216 ∧ lent a b (k + 1) = 1) ∧ (¬ X < Y + lent a b k → (a - b) / 2 ^ (24 * k) % 16777216 + Y + lent a b k = X ∧ lent a b (k + 1) = 0) := by
  have hp := Nat.two_pow_pos (24 * k)
  have e := lent_parts (P := 2 ^ (24 * k)) (Nat.mod_add_div a (2 ^ (24 * k))).symm (Nat.mod_add_div b (2 ^ (24 * k))).symm (Nat.mod_lt _ hp) (Nat.mod_lt _ hp) rfl h
  rw [show (if a % 2 ^ (24 * k) < b % 2 ^ (24 * k) then 1 else 0) = lent a b k from rfl] at e
  have hl := lent_le a b k
  have hn : lent a b (k + 1) = if X < Y + lent a b k then 1 else 0 := by
    have h1 := mod_pow_succ a k
    have h2 := mod_pow_succ b k
    rw [← hX] at h1
    rw [← hY] at h2
    have m1 := Nat.mod_lt a hp
    have m2 := Nat.mod_lt b hp
    conv => lhs; unfold lent
    rw [h1, h2]
    have hlent : lent a b k = if a % 2 ^ (24 * k) < b % 2 ^ (24 * k) then 1 else 0 := rfl
    rw [hlent]
    generalize a % 2 ^ (24 * k) = ap at *
    generalize b % 2 ^ (24 * k) = bp at *
    generalize 2 ^ (24 * k) = P at *
    clear h1 h2 e hlent hX hY hl
    by_cases hxy : X = Y
    · subst hxy
      by_cases hlt : ap < bp
      · rw [if_pos hlt, if_pos (by omega), if_pos (by omega)]
      · rw [if_neg hlt, if_neg (by omega), if_neg (by omega)]
    · by_cases hl : X < Y
      · have := Nat.mul_le_mul_left P (show X + 1 ≤ Y by omega)
        rw [Nat.mul_add] at this
        rw [if_pos (by omega), if_pos (by omega)]
      · have := Nat.mul_le_mul_left P (show Y + 1 ≤ X by omega)
        rw [Nat.mul_add] at this
        rw [if_neg (by omega), if_neg]
        split <;> omega
  rw [hn]
  constructor
  · intro hc; rw [if_pos hc]; omega
  · intro hc; rw [if_neg hc]; omega

/-- The state of minus behind k digits. -/
structure MinusAt (w wr : World) (v : Value) (a b k : Nat) : Prop where
  own : wr.ownsRow w.heap.size 3 1 v k (ints (low (a - b) k))
  below : Below w.heap.size w wr
theorem MinusAt.more {w wr w1 : World} {v v' : Value} {a b k : Nat} {n : Int} {o : Obj} (h : MinusAt w wr v a b k) (hn : n = ((a - b) / 2 ^ (24 * k) % 16777216 : Nat))
    (h1 : w1.ownsRow w.heap.size 3 1 v' (k + 1) (ints (low (a - b) k) ++ [.int .i64 n])) (hg : (wr.alloc o).grownBy w1 v.ownBlock) : MinusAt w w1 v' a b (k + 1) := by
  have hk' := low_length (a - b) k
  have := push (l := low (a - b) k) (d := (a - b) / 2 ^ (24 * k) % 16777216) (by rw [hk']; exact h.own.alloc o) (by rw [hk']; subst hn; exact h1) hg (h.below.alloc h.below.size _) (Nat.le_refl _)
  rw [show low (a - b) k ++ [(a - b) / 2 ^ (24 * k) % 16777216] = low (a - b) (k + 1) from rfl, low_length] at this
  exact ⟨this.1, this.2⟩
theorem MinusAt.row {w wr : World} {v : Value} {a b k : Nat} (h : MinusAt w wr v a b k) : IsRow wr v (low (a - b) k) := IsRow.own (low_digits _ _) (by rw [low_length]; exact h.own)

def cmpI (a b : Nat) : Int := if a < b then -1 else if a = b then 0 else 1
theorem cmpI_lt {a b : Nat} (h : a < b) : cmpI a b = -1 := by unfold cmpI; rw [if_pos h]
theorem cmpI_gt {a b : Nat} (h : b < a) : cmpI a b = 1 := by unfold cmpI; rw [if_neg (by omega), if_neg (by omega)]
theorem cmpI_eq {a b : Nat} (h : a = b) : cmpI a b = 0 := by unfold cmpI; rw [if_neg (by omega), if_pos h]
theorem nd_lt_lt {a b : Nat} (h : nd a < nd b) : a < b := by
  apply Classical.byContradiction
  intro hn
  have := nd_mono (show b ≤ a by omega)
  omega
theorem upper_lt {a b k : Nat} (h : a / 2 ^ (24 * (k + 1)) = b / 2 ^ (24 * (k + 1))) (hd : a / 2 ^ (24 * k) % 16777216 < b / 2 ^ (24 * k) % 16777216) : a < b := by
  apply Classical.byContradiction
  intro hn
  have h1 := Nat.div_le_div_right (c := 2 ^ (24 * k)) (show b ≤ a by omega)
  rw [pow24, Nat.mul_comm 16777216, ← Nat.div_div_eq_div_mul, ← Nat.div_div_eq_div_mul] at h
  omega
theorem upper_eq {a b k : Nat} (h : a / 2 ^ (24 * (k + 1)) = b / 2 ^ (24 * (k + 1))) (hd : a / 2 ^ (24 * k) % 16777216 = b / 2 ^ (24 * k) % 16777216) : a / 2 ^ (24 * k) = b / 2 ^ (24 * k) := by
  rw [pow24, Nat.mul_comm 16777216, ← Nat.div_div_eq_div_mul, ← Nat.div_div_eq_div_mul] at h
  omega

theorem owns_later {w w' : World} {base : Nat} {e : TypeId} {size : Nat} {v : Value} {n : Nat} {xs : List Value} (h : w.ownsRow base e size v n xs) (hb : Below w.heap.size w w') : w'.ownsRow base e size v n xs := by
  refine ⟨h.1, ?_⟩
  rcases h.2 with hn | ⟨g, cap, cur, hv, hbg, hg, rest⟩
  · exact .inl hn
  · have hl : g < w.heap.size := (h.lt g (by rw [hv]; rfl)).2
    exact .inr ⟨g, cap, cur, hv, hbg, (hb.block g hl).trans hg, rest⟩

/-- A power of two below the base, as the walk has it. -/
theorem shl_fact (s : Nat) (h : s < 25) : ∃ P : Nat, wrap64 ((2 : Int) ^ s) = (P : Int) ∧ Hid (P = 2 ^ s) ∧ 0 < P ∧ P ≤ 16777216 := by
  have h1 : 2 ^ s ≤ 2 ^ 24 := Nat.pow_le_pow_right (by decide) (by omega)
  have h2 := Nat.two_pow_pos s
  refine ⟨2 ^ s, ?_, rfl, h2, h1⟩
  have e : (2 : Int) ^ s = ((2 ^ s : Nat) : Int) := by rw [Int.natCast_pow]; rfl
  rw [e]
  exact wrap64_small _ (by omega) (by omega)
theorem nd_mul_le (a b : Nat) : nd (a * b) ≤ nd a + nd b := by
  apply nd_of_lt
  rw [Nat.mul_add, Nat.pow_add]
  exact Nat.mul_lt_mul'' (nd_lt a) (nd_lt b)
theorem nd_shift {m n : Nat} (h : m ≠ 0) : nd (2 ^ (24 * n) * m) = n + nd m := by
  have h1 := nd_lt m
  have h2 := nd_le h
  have h3 := nd_pos h
  apply nd_eq
  · rw [Nat.mul_add, Nat.pow_add]
    exact Nat.mul_lt_mul_of_pos_left h1 (Nat.two_pow_pos _)
  · intro _
    rw [show 24 * (n + nd m - 1) = 24 * n + 24 * (nd m - 1) by omega, Nat.pow_add]
    exact Nat.mul_le_mul_left _ h2
theorem split24 (k : Nat) : 2 ^ (k % 24) * 2 ^ (24 * (k / 24)) = 2 ^ k := by rw [← Nat.pow_add]; congr 1; omega
theorem ints_app (l m : List Nat) : ints (l ++ m) = ints l ++ ints m := by simp [ints]
theorem ints_cells {l : List Nat} {w : World} {g : Nat} (h : ∀ j, j < l.length → w.cell? ⟨g, j, none⟩ = some (.int .i64 (dig l j : Nat))) : ∀ j u, (ints l)[j]? = some u → w.cell? ((⟨g, 0, none⟩ : Addr).add j) = some u := by
  intro j u hj
  have hl : j < l.length := by
    have := (List.getElem?_eq_some_iff.1 hj).1
    rw [ints_length] at this
    exact this
  rw [ints_at hl] at hj
  cases hj
  have := h j hl
  rw [Addr.add_lit, Nat.zero_add]
  exact this
theorem ints_one (l : List Nat) : ∀ u ∈ ints l, u.oneCell' = true := by
  intro u hu
  unfold ints at hu
  obtain ⟨d, _, rfl⟩ := List.mem_map.1 hu
  rfl

end Go.Proofs.YtcjihaafohnbeaaDoor
