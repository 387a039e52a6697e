import Derived.Test.YtcjihaafohnbeaaDoorAr2
import Derived.Test.YtcjihaafohnbeaaDoorRefX
namespace Go.Proofs.YtcjihaafohnbeaaDoor
open Go.RowKit

theorem nan_mag {s t : Int} (hs : s = 0 ∨ s = 1) (h0 : 0 ≤ t) (h1 : t ≤ 9218868437227405312) : nanI (s * 9223372036854775808 + t) = false := by
  unfold nanI
  rw [decide_eq_false_iff_not]
  rcases hs with rfl | rfl <;> omega
theorem near_num {s : Int} {B F : Int → Int} {t R m : Int} (hs : s = 0 ∨ s = 1) (h : Near s B F t R) (hm : 0 ≤ m ∧ m ≤ 4) : nanI (B m) = false := by
  obtain ⟨h1, h2, h3, h4, h⟩ := h
  obtain ⟨j, a, b, _⟩ := h m hm.1 hm.2
  rw [a]
  exact nan_mag hs (by omega) (by omega)
theorem kind_num {x : Nat} (_h : x < 18446744073709551616) (k : kind x < 4) : nanI x = false := by
  unfold nanI
  rw [decide_eq_false_iff_not]
  unfold kind kindB at k
  intro hn
  (repeat' split at k) <;> omega
theorem sum_none {x y : Nat} {m : Int} (h1 : ¬ kind x = 3) (h2 : ¬ kind y = 3) (h : fsD x y = 0) : sumB x y m = fsS x y m * 9223372036854775808 ∧ sumF x y m = 0 := by
  have hn : ¬ (kind x = 3 ∧ kind y = 3 ∧ x ≠ y) := fun g => h1 g.1
  unfold sumB sumF; rw [if_neg hn, if_neg hn, if_neg h1, if_neg h1, if_neg h2, if_neg h2, if_pos h, if_pos h]; exact ⟨rfl, rfl⟩
theorem sum_some {x y : Nat} {m : Int} (h1 : ¬ kind x = 3) (h2 : ¬ kind y = 3) (h : ¬ fsD x y = 0) : sumB x y m = roundB (fsS x y m) (fsD x y) (fsP x y) m ∧ sumF x y m = roundF (fsS x y m) (fsD x y) (fsP x y) m := by
  have hn : ¬ (kind x = 3 ∧ kind y = 3 ∧ x ≠ y) := fun g => h1 g.1
  unfold sumB sumF; rw [if_neg hn, if_neg hn, if_neg h1, if_neg h1, if_neg h2, if_neg h2, if_neg h, if_neg h]; exact ⟨rfl, rfl⟩
theorem sum_num {x y : Nat} (hx : x < 18446744073709551616) (hy : y < 18446744073709551616) (h1 : ¬ (kind x = 3 ∧ kind y = 3 ∧ x ≠ y)) : nanI (sumB x y 0) = false := by
  by_cases h2 : kind x = 3
  · unfold sumB; rw [if_neg h1, if_pos h2]; exact kind_num hx (by omega)
  by_cases h3 : kind y = 3
  · unfold sumB; rw [if_neg h1, if_neg h2, if_pos h3]; exact kind_num hy (by omega)
  have hs := fsS_lt (m := 0) hx hy
  by_cases h4 : fsD x y = 0
  · rw [(sum_none h2 h3 h4).1]
    have := nan_mag (s := fsS x y 0) (t := 0) (by omega) (by decide) (by decide)
    rw [Int.add_zero] at this
    exact this
  · rw [(sum_some h2 h3 h4).1]
    exact near_num (by omega) (near_round (fsS x y 0) (fsD x y) (fsP x y)).choose_spec.choose_spec (by decide)
theorem prod_num {x y : Nat} (h1 : ¬ ((kind x = 3 ∨ kind y = 3) ∧ (kind x = 0 ∨ kind y = 0))) : nanI (prodB x y 0) = false := by
  have hs := xs_lt x y
  unfold prodB
  rw [if_neg h1]
  by_cases h2 : kind x = 3 ∨ kind y = 3
  · rw [if_pos h2]; exact nan_mag (by omega) (by decide) (by decide)
  rw [if_neg h2]
  by_cases h3 : kind x = 0 ∨ kind y = 0
  · rw [if_pos h3]
    have := nan_mag (s := xs x y) (t := 0) (by omega) (by decide) (by decide)
    rw [Int.add_zero] at this
    exact this
  · rw [if_neg h3]; exact near_num (by omega) (near_round (xs x y) (mant x * mant y) (pow x + pow y)).choose_spec.choose_spec (by decide)
/-- What around asks of five results. -/
def Five5 (B F : Int → Int) : Prop := (nanI (B 0) = true ∧ ∀ m, 0 ≤ m → m ≤ 4 → B m = B 0 ∧ F m = F 0) ∨ (nanI (B 0) = false ∧ Fair B F)
theorem plain_five {B F : Int → Int} (h : ∀ m, B m = 9221120237041090560 ∧ F m = 16) : Five5 B F := by
  refine .inl ⟨by rw [(h 0).1]; decide, fun m _ _ => ⟨by rw [(h m).1, (h 0).1], by rw [(h m).2, (h 0).2]⟩⟩
theorem sum_five {x y : Nat} (hx : x < 18446744073709551616) (hy : y < 18446744073709551616) : Five5 (sumB x y) (sumF x y) := by
  by_cases h : nanI (sumB x y 0) = true
  · by_cases h1 : kind x = 3 ∧ kind y = 3 ∧ x ≠ y
    · exact plain_five (fun m => by unfold sumB sumF; rw [if_pos h1, if_pos h1]; exact ⟨rfl, rfl⟩)
    · rw [sum_num hx hy h1] at h; cases h
  · replace h : nanI (sumB x y 0) = false := by simpa using h
    rcases sum_fair hx hy with g | g
    · exact plain_five g
    · exact .inr ⟨h, g⟩
theorem prod_five {x y : Nat} : Five5 (prodB x y) (prodF x y) := by
  by_cases h : nanI (prodB x y 0) = true
  · by_cases h1 : (kind x = 3 ∨ kind y = 3) ∧ (kind x = 0 ∨ kind y = 0)
    · exact plain_five (fun m => by unfold prodB prodF; rw [if_pos h1, if_pos h1]; exact ⟨rfl, rfl⟩)
    · rw [prod_num h1] at h; cases h
  · replace h : nanI (prodB x y 0) = false := by simpa using h
    rcases prod_fair (x := x) (y := y) with g | g
    · exact plain_five g
    · exact .inr ⟨h, g⟩
theorem same_five {b f : Int} (hf : f % 2 = 0) : Five5 (fun _ => b) (fun _ => f) := by
  by_cases h : nanI b = true
  · exact .inl ⟨h, fun _ _ _ => ⟨rfl, rfl⟩⟩
  · exact .inr ⟨by simpa using h, Int.le_refl _, by omega, fun _ _ _ => .inl rfl, fun _ _ _ => rfl, .inr (.inr rfl), ⟨fun _ => rfl, fun _ => hf⟩⟩
theorem roundF_lt (s : Int) (D : Nat) (p m : Int) : 0 ≤ roundF s D p m ∧ roundF s D p m < 256 := by
  unfold roundF
  simp only
  (repeat' split) <;> omega
theorem sumF_lt (x y : Nat) (m : Int) : 0 ≤ sumF x y m ∧ sumF x y m < 256 := by
  have := roundF_lt (fsS x y m) (fsD x y) (fsP x y) m
  unfold sumF
  (repeat' split) <;> omega
theorem prodF_lt (x y : Nat) (m : Int) : 0 ≤ prodF x y m ∧ prodF x y m < 256 := by
  have := roundF_lt (xs x y) (mant x * mant y) (pow x + pow y) m
  unfold prodF
  (repeat' split) <;> omega
theorem or_lt (x : Int) (hx : 0 ≤ x ∧ x < 18446744073709551616) : 0 ≤ bits .or .u64 x 2251799813685248 ∧ bits .or .u64 x 2251799813685248 < 18446744073709551616 := by
  rw [u64_or x 2251799813685248 hx.1 hx.2 (by decide) (by decide)]
  have := Nat.or_lt_two_pow (x := x.toNat) (y := (2251799813685248 : Int).toNat) (n := 64) (by omega) (by decide)
  omega
theorem nanBits_lt {l : List Int} (h : ∀ x ∈ l, 0 ≤ x ∧ x < 18446744073709551616) : 0 ≤ nanBits l ∧ nanBits l < 18446744073709551616 := by
  unfold nanBits
  split
  · rename_i x hf
    exact or_lt x (h x (List.mem_of_find?_eq_some hf))
  · decide
theorem nanFlag_even (l : List Int) : nanFlag l % 2 = 0 := by unfold nanFlag; split <;> decide
theorem any_kind {x y z : Int} (h : ([x, y, z].take 2).any isN = false) : kind x < 4 ∧ kind y < 4 := by
  simp [isN] at h
  omega
theorem take_range {x y z : Int} (hx : 0 ≤ x ∧ x < 18446744073709551616) (hy : 0 ≤ y ∧ y < 18446744073709551616) : ∀ v ∈ [x, y, z].take 2, 0 ≤ v ∧ v < 18446744073709551616 := by
  intro v hv
  simp at hv
  rcases hv with rfl | rfl <;> assumption

theorem around_three (op mo x y z c : Int) (f : Nat) (hc : op % 256 = c) (h1 : 1 ≤ c ∧ c ≤ 3) (B F : Int → Int) (hx : 0 ≤ x ∧ x < 18446744073709551616) (hy : 0 ≤ y ∧ y < 18446744073709551616) (hz : 0 ≤ z ∧ z < 18446744073709551616) (w : World)
    (hix : ∀ w, (Instr.index 48 (.agg opsCells) (.int .u8 c)).run Tryd.prog w = .ok (.agg #[.int .i64 ((2 : Nat) : Int), .func (.func f) #[] #[], .nilFunc]) w)
    (hD : kind x < 4 → kind y < 4 → ∀ m : Int, 0 ≤ m → m ≤ 4 → ∀ w1, Below w.heap.size w w1 → Calls Tryd.prog 12 #[.agg #[.int .u8 c, .int .u8 m, .int .u64 x, .int .u64 y, .int .u64 z]] w1 fun e w' => e = .returned (.agg #[.int .u64 (B m), .int .u8 (F m), .bool false]) ∧ Below w1.heap.size w1 w')
    (hB : ∀ m, 0 ≤ B m ∧ B m < 18446744073709551616) (hF : ∀ m, 0 ≤ F m ∧ F m < 256) (h5 : Five5 B F) :
    Calls Tryd.prog 8 #[.agg #[.int .i64 op, .int .i64 mo, .int .u64 x, .int .u64 y, .int .u64 z]] w fun e w' => e = .returned (.bool true) ∧ Below w.heap.size w w' := by
  by_cases hn : ([x, y, z].take 2).any isN = true
  · refine around_any op mo x y z (fun _ => nanBits ([x, y, z].take 2)) (fun _ => nanFlag ([x, y, z].take 2)) (by omega) w (fun m h0 h4 w1 _ => ?_) (fun _ _ _ => nanBits_lt (take_range hx hy)) (fun _ _ _ => by have := nanFlag_range ([x, y, z].take 2); omega) (same_five (nanFlag_even _))
    rw [hc]
    exact soft_nans c m x y z 2 f (by omega) ⟨h0, h4⟩ hx hy hz (by omega) hix hn w1
  · obtain ⟨k1, k2⟩ := any_kind (z := z) (by simpa using hn)
    refine around_any op mo x y z B F (by omega) w (fun m h0 h4 w1 hb => ?_) (fun m _ _ => hB m) (fun m _ _ => hF m) h5
    rw [hc]
    exact hD k1 k2 m h0 h4 w1 hb

set_option maxHeartbeats 1000000 in
theorem around_zero (op mo x y z : Int) (hc : op % 256 = 0) (w : World) :
    Calls Tryd.prog 8 #[.agg #[.int .i64 op, .int .i64 mo, .int .u64 x, .int .u64 y, .int .u64 z]] w fun e w' => e = .returned (.bool true) ∧ Below w.heap.size w w' := by
  have hw := wrap64_small 0 (by omega) (by omega)
  go_enter Tryd.func8, Tryd.ntmps8
  go_wp2_with fail
  go_ret
  exact ⟨rfl, (Below.refl _ _).alloc (Nat.le_refl _) _⟩

theorem around_rec (op mo x y z : Int) (hop : op % 256 ≤ 3) (hx : 0 ≤ x ∧ x < 18446744073709551616) (hy : 0 ≤ y ∧ y < 18446744073709551616) (hz : 0 ≤ z ∧ z < 18446744073709551616) (w : World) (hT : Tab w) :
    Calls Tryd.prog 8 #[.agg #[.int .i64 op, .int .i64 mo, .int .u64 x, .int .u64 y, .int .u64 z]] w fun e w' => e = .returned (.bool true) ∧ Below w.heap.size w w' := by
  obtain ⟨X, rfl⟩ : ∃ X : Nat, x = X := ⟨x.toNat, by omega⟩
  obtain ⟨Y, rfl⟩ : ∃ Y : Nat, y = Y := ⟨y.toNat, by omega⟩
  have hX : X < 18446744073709551616 := by omega
  have hY : Y < 18446744073709551616 := by omega
  obtain hc | hc | hc | hc : op % 256 = 0 ∨ op % 256 = 1 ∨ op % 256 = 2 ∨ op % 256 = 3 := by omega
  · exact around_zero op mo X Y z hc w
  · exact around_three op mo X Y z 1 _ hc (by decide) (sumB X Y) (sumF X Y) hx hy hz w index1 (fun k1 k2 m h0 h4 w1 hb => soft_addS X Y m z hX hY hz ⟨h0, h4⟩ k1 k2 w1 (hT.later hb)) (fun m => sumB_lt hX hY) (fun m => sumF_lt _ _ m) (sum_five hX hY)
  · exact around_three op mo X Y z 2 _ hc (by decide) (sumB X (neg Y)) (sumF X (neg Y)) hx hy hz w index2 (fun k1 k2 m h0 h4 w1 hb => soft_subS X Y m z hX hY hz ⟨h0, h4⟩ k1 k2 w1 (hT.later hb)) (fun m => sumB_lt hX (neg_lt hY)) (fun m => sumF_lt _ _ m) (sum_five hX (neg_lt hY))
  · exact around_three op mo X Y z 3 _ hc (by decide) (prodB X Y) (prodF X Y) hx hy hz w index3 (fun k1 k2 m h0 h4 w1 hb => soft_mul X Y m z hX hY hz ⟨h0, h4⟩ k1 k2 w1 (hT.later hb)) (fun m => prodB_lt) (fun m => prodF_lt _ _ m) prod_five

set_option maxHeartbeats 1000000 in
theorem around_walk (a0 : Option Addr) (b off len cap : Nat) (w : World) (hT : Tab w) (ha : 0 < len → a0 = some ⟨b, off, none⟩) (hb : 0 < len → b < w.heap.size)
    (hstep : ∀ i, i < len → ∃ k a op m x y z la ln lc, StepAt w b (off + i * 8) k a op m x y z la ln lc) :
    Calls Tryd.prog 3 #[.slice a0 len cap] w fun e w' => e = .returned (.bool true) ∧ Below w.heap.size w w' := by
  have HT : Hid (Tab w) := hT
  have HSt : Hid (∀ i, i < len → ∃ k a op m x y z la ln lc, StepAt w b (off + i * 8) k a op m x y z la ln lc) := hstep
  clear hstep hT
  go_enter Tryd.func3, Tryd.ntmps3
  go_wp2_with fail
  refine (lives_any w HT.out).mono ?_
  rintro e w0 ⟨rfl, hb0⟩
  have HB0 : Hid (Below w.heap.size w w0) := hb0
  clear hb0
  go_wp2_with fail
  go_loopw [4, 5] (fun i _ wr => ∃ k : Nat, k ≤ len ∧ i = .int .i64 k ∧ Below w.heap.size w wr) (fun i _ _ => len - (intOf i).toNat)
  case atStart => exact ⟨0, Nat.zero_le _, rfl, HB0.out⟩
  case round =>
    obtain ⟨k, hk, rfl, hbel⟩ := hrel
    have HB : Hid (Below w.heap.size w wr) := hbel
    by_cases hlt : k < len
    · obtain ⟨kk, aa, op, m, x, y, z, la, ln, lc, hst⟩ := HSt.out k hlt
      have hbb := hb (by omega)
      have := ha (by omega)
      subst this
      have c2 := (hbel.cell (p := ⟨b, off + k * 8 + 2, none⟩) hbb).trans hst.c2
      have c3 := (hbel.cell (p := ⟨b, off + k * 8 + 3, none⟩) hbb).trans hst.c3
      have c4 := (hbel.cell (p := ⟨b, off + k * 8 + 4, none⟩) hbb).trans hst.c4
      have c5 := (hbel.cell (p := ⟨b, off + k * 8 + 5, none⟩) hbb).trans hst.c5
      have c6 := (hbel.cell (p := ⟨b, off + k * 8 + 6, none⟩) hbb).trans hst.c6
      have HST : Hid (StepAt w b (off + k * 8) kk aa op m x y z la ln lc) := hst
      have hw := wrap64_small (op % 256) (by omega) (by omega)
      clear hst hbel
      by_cases h60 : (k : Int) < 1152921504606846976
      · by_cases h3 : op % 256 ≤ 3
        · go_wp2_with fail
          refine (around_rec op m x y z h3 HST.out.rx HST.out.ry HST.out.rz _ (HT.out.later HB.out)).mono ?_
          rintro e w1 ⟨rfl, hb1⟩
          have HB1 : Hid (Below w.heap.size w w1) := HB.out.trans (hb1.mono HB.out.size)
          clear hb1 c2 c3 c4 c5 c6
          go_wp2_with fail
          go_roundw
          case rel => exact ⟨k + 1, by omega, by go_num, HB1.out⟩
          case measure => simp [intOf]; omega
        · go_wp2_with fail
          go_roundw
          case rel => exact ⟨k + 1, by omega, by go_num, HB.out⟩
          case measure => simp [intOf]; omega
      · clear c2 c3 c4 c5 c6
        go_wp2
        go_ret
        exact ⟨rfl, HB.out⟩
    · go_wp2
      go_ret
      exact ⟨rfl, HB.out⟩
end Go.Proofs.YtcjihaafohnbeaaDoor
