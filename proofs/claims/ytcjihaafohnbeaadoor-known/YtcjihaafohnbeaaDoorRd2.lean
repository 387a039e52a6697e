import Derived.Test.YtcjihaafohnbeaaDoorRd1
namespace Go.Proofs.YtcjihaafohnbeaaDoor
open Go.RowKit

theorem fm_walk (x y z : Nat) (m : Int) (hx : x < 18446744073709551616) (hy : y < 18446744073709551616) (hz : z < 18446744073709551616) (hm : 0 ≤ m ∧ m ≤ 4) (w : World) (hT : Tab w) :
    Calls Tryd.prog 25 #[.agg #[.int .u8 5, .int .u8 m, .int .u64 x, .int .u64 y, .int .u64 z]] w fun e w' => e = .returned (.agg #[.int .u64 (fmB x y z m), .int .u8 (fmF x y z m), .bool false]) ∧ Below w.heap.size w w' := by
  refine fused_walk x y z 5 m hx hy hz hm w hT (fmB x y z m) (fmF x y z m) (fmP x y) (fmP_lt x y) (fun h => ?_) (fun h g => ?_) (fun h g k l => ?_) (fun h g k l n => ?_) (fun h g k l n => ?_)
  · unfold fmB fmF; rw [if_pos h, if_pos h]; exact ⟨rfl, rfl⟩
  all_goals
    have hz' := zti_of h
    simp only [Bool.or_eq_true, Bool.or_eq_false_iff, beq_iff_eq, beq_eq_false_iff_ne, ne_eq] at *
    have h1 : ¬ zti (kind x) (kind y) = true := by rw [h]; decide
  · refine ⟨?_, ?_⟩
    · unfold prodB fmP
      rw [if_neg hz']
      by_cases c : kind x = 3 ∨ kind y = 3
      · rw [if_pos c, if_pos c]; omega
      · rw [if_neg c, if_neg c, if_pos (by omega)]; omega
    · unfold fmB fmF; rw [if_neg h1, if_neg h1, if_pos g, if_pos g]; exact ⟨rfl, rfl⟩
  all_goals have h2 : ¬ ((kind x = 3 ∨ kind y = 3) ∨ (kind x = 0 ∨ kind y = 0)) := by omega
  · unfold fmB fmF; rw [if_neg h1, if_neg h1, if_neg h2, if_neg h2, if_pos l, if_pos l]; exact ⟨rfl, rfl⟩
  · unfold fmB fmF; rw [if_neg h1, if_neg h1, if_neg h2, if_neg h2, if_neg l, if_neg l, if_pos n, if_pos n]; exact ⟨rfl, rfl⟩
  · unfold fmB fmF; rw [if_neg h1, if_neg h1, if_neg h2, if_neg h2, if_neg l, if_neg l, if_neg n, if_neg n]; exact ⟨rfl, rfl⟩
theorem soft_fmDo (x y z : Nat) (m : Int) (hx : x < 18446744073709551616) (hy : y < 18446744073709551616) (hz : z < 18446744073709551616) (hm : 0 ≤ m ∧ m ≤ 4) (hn : ([(x : Int), (y : Int), (z : Int)].take 3).any isN = false) (w : World) (hT : Tab w) :
    Calls Tryd.prog 12 #[.agg #[.int .u8 5, .int .u8 m, .int .u64 x, .int .u64 y, .int .u64 z]] w fun e w' => e = .returned (.agg #[.int .u64 (fmB x y z m), .int .u8 (fmF x y z m), .bool false]) ∧ Below w.heap.size w w' :=
  soft_do5 5 m x y z 3 25 (by omega) hm hx hy hz (by omega) index5 hn w _ _ false (enters_of Tryd.func25 (by kernel_rfl) rfl) (fun w2 hb2 => fm_walk x y z m hx hy hz hm w2 (hT.later hb2))
theorem soft_nanFm (X Y Z : Nat) (m : Int) (hX : X < 18446744073709551616) (hY : Y < 18446744073709551616) (hZ : Z < 18446744073709551616) (hm : 0 ≤ m ∧ m ≤ 4) (hn : ([(X : Int), (Y : Int), (Z : Int)].take 3).any isN = true) (w : World) (hT : Tab w) :
    Calls Tryd.prog 12 #[.agg #[.int .u8 5, .int .u8 m, .int .u64 X, .int .u64 Y, .int .u64 Z]] w fun e w' => e = .returned (.agg #[.int .u64 (n5B X Y Z), .int .u8 (n5F X Y Z), .bool false]) ∧ Below w.heap.size w w' := by
  have hent := enters_of Tryd.func25 (by kernel_rfl) rfl
  by_cases hq : zti (kind X) (kind Y) = true ∧ kind Z = 4
  · have hxy : kind (X : Int) < 4 ∧ kind (Y : Int) < 4 := by
      have := hq.1
      simp only [zti, Bool.or_eq_true, Bool.and_eq_true, beq_iff_eq] at this
      omega
    have hf : (nanFlag ([(X : Int), (Y : Int), (Z : Int)].take 3) == 16) = false := by
      have n1 : ¬ kind (X : Int) = 5 := by omega
      have n2 : ¬ kind (Y : Int) = 5 := by omega
      have n3 : ¬ kind (Z : Int) = 5 := by omega
      simp [nanFlag, isS, n1, n2, n3]
    have e1 : n5B X Y Z = fmB X Y Z m := by unfold n5B fmB; rw [if_pos hq, if_pos hq.1]
    have e2 : n5F X Y Z = fmF X Y Z m := by unfold n5F fmF; rw [if_pos hq, if_pos hq.1]
    rw [e1, e2]
    exact soft_on 5 m X Y Z 3 25 (by omega) hm hX hY hZ (by omega) index5 hn hf hq.1 w _ _ false hent (fun w2 hb2 => fm_walk X Y Z m hX hY hZ hm w2 (hT.later hb2))
  · have e1 : n5B X Y Z = nanBits ([(X : Int), (Y : Int), (Z : Int)].take 3) := by unfold n5B; rw [if_neg hq]; rfl
    have e2 : n5F X Y Z = nanFlag ([(X : Int), (Y : Int), (Z : Int)].take 3) := by unfold n5F; rw [if_neg hq]; rfl
    rw [e1, e2]
    rcases Bool.eq_false_or_eq_true (nanFlag ([(X : Int), (Y : Int), (Z : Int)].take 3) == 16) with hf | hf
    · exact soft_nan5 5 m X Y Z 3 25 (by omega) hm hX hY hZ (by omega) index5 hn hf w
    · have hzt : zti (kind X) (kind Y) = false := by
        rcases Bool.eq_false_or_eq_true (zti (kind X) (kind Y)) with g | g
        · exfalso
          have g' := g
          simp only [zti, Bool.or_eq_true, Bool.and_eq_true, beq_iff_eq] at g'
          have n4 : ¬ kind (Z : Int) = 4 := fun e => hq ⟨g, e⟩
          have rz := kind_range (Z : Int)
          have a1 : ¬ 4 ≤ kind (X : Int) := by omega
          have a2 : ¬ 4 ≤ kind (Y : Int) := by omega
          have hn2 : ([(X : Int), (Y : Int), (Z : Int)]).any isN = true := hn
          simp only [isN, List.any_cons, List.any_nil, decide_eq_false a1, decide_eq_false a2, Bool.false_or, Bool.or_false, decide_eq_true_eq] at hn2
          have n5 : kind (Z : Int) = 5 := by omega
          simp [nanFlag, isS, n5] at hf
        · exact g
      exact soft_off 5 m X Y Z 3 25 (by omega) hm hX hY hZ (by omega) index5 hn hf hzt w

set_option maxHeartbeats 1000000 in
theorem around_high (op mo x y z : Int) (hc : 9 < op % 256) (w : World) :
    Calls Tryd.prog 8 #[.agg #[.int .i64 op, .int .i64 mo, .int .u64 x, .int .u64 y, .int .u64 z]] w fun e w' => e = .returned (.bool true) ∧ Below w.heap.size w w' := by
  have hw := wrap64_small (op % 256) (by omega) (by omega)
  have n1 : ¬ op % 256 < 1 := by omega
  go_enter Tryd.func8, Tryd.ntmps8
  go_wp2_with fail
  go_ret
  exact ⟨rfl, (Below.refl _ _).alloc (Nat.le_refl _) _⟩
theorem around_of (op mo x y z c : Int) (hc : op % 256 = c) (h1 : 1 ≤ c ∧ c ≤ 9) (B F : Int → Int) (w : World)
    (hD : ∀ m : Int, 0 ≤ m → m ≤ 4 → ∀ w1, Below w.heap.size w w1 → Calls Tryd.prog 12 #[.agg #[.int .u8 c, .int .u8 m, .int .u64 x, .int .u64 y, .int .u64 z]] w1 fun e w' => e = .returned (.agg #[.int .u64 (B m), .int .u8 (F m), .bool false]) ∧ Below w1.heap.size w1 w')
    (hB : ∀ m, (0 ≤ B m ∧ B m < 18446744073709551616) ∧ 0 ≤ F m ∧ F m < 256) (h5 : Five5 B F) :
    Calls Tryd.prog 8 #[.agg #[.int .i64 op, .int .i64 mo, .int .u64 x, .int .u64 y, .int .u64 z]] w fun e w' => e = .returned (.bool true) ∧ Below w.heap.size w w' := by
  refine around_any op mo x y z B F (by omega) w (fun m h0 h4 w1 hb => ?_) (fun m _ _ => (hB m).1) (fun m _ _ => (hB m).2) h5
  rw [hc]
  exact hD m h0 h4 w1 hb
theorem nan_lt {l : List Int} (h : ∀ x ∈ l, 0 ≤ x ∧ x < 18446744073709551616) (_m : Int) : (0 ≤ nanBits l ∧ nanBits l < 18446744073709551616) ∧ 0 ≤ nanFlag l ∧ nanFlag l < 256 :=
  ⟨nanBits_lt h, by have := nanFlag_range l; omega⟩
theorem n5_lt {x y z : Int} (hx : 0 ≤ x ∧ x < 18446744073709551616) (hy : 0 ≤ y ∧ y < 18446744073709551616) (hz : 0 ≤ z ∧ z < 18446744073709551616) : (0 ≤ n5B x y z ∧ n5B x y z < 18446744073709551616) ∧ (0 ≤ n5F x y z ∧ n5F x y z < 256) ∧ n5F x y z % 2 = 0 := by
  have h1 := nanBits_lt (l := [x, y, z]) (by intro v hv; simp at hv; rcases hv with rfl | rfl | rfl <;> assumption)
  have h2 := nanFlag_range [x, y, z]
  have h3 := nanFlag_even [x, y, z]
  unfold n5B n5F
  refine ⟨?_, ?_, ?_⟩ <;> split <;> omega
theorem n9_lt {x y : Int} (hx : 0 ≤ x ∧ x < 18446744073709551616) (hy : 0 ≤ y ∧ y < 18446744073709551616) : 0 ≤ n9B x y ∧ n9B x y < 18446744073709551616 := by
  have h1 := nanBits_lt (l := [x, y]) (by intro v hv; simp at hv; rcases hv with rfl | rfl <;> assumption)
  unfold n9B
  split <;> omega

theorem around_all (op mo x y z : Int) (hx : 0 ≤ x ∧ x < 18446744073709551616) (hy : 0 ≤ y ∧ y < 18446744073709551616) (hz : 0 ≤ z ∧ z < 18446744073709551616) (w : World) (hT : Tab w) :
    Calls Tryd.prog 8 #[.agg #[.int .i64 op, .int .i64 mo, .int .u64 x, .int .u64 y, .int .u64 z]] w fun e w' => e = .returned (.bool true) ∧ Below w.heap.size w w' := by
  by_cases h3 : op % 256 ≤ 3
  · exact around_rec op mo x y z h3 hx hy hz w hT
  by_cases h9 : 9 < op % 256
  · exact around_high op mo x y z h9 w
  obtain ⟨X, rfl⟩ : ∃ X : Nat, x = X := ⟨x.toNat, by omega⟩
  obtain ⟨Y, rfl⟩ : ∃ Y : Nat, y = Y := ⟨y.toNat, by omega⟩
  obtain ⟨Z, rfl⟩ : ∃ Z : Nat, z = Z := ⟨z.toNat, by omega⟩
  have hX : X < 18446744073709551616 := by omega
  have hY : Y < 18446744073709551616 := by omega
  have hZ : Z < 18446744073709551616 := by omega
  obtain hc | hc | hc | hc | hc | hc : op % 256 = 4 ∨ op % 256 = 5 ∨ op % 256 = 6 ∨ op % 256 = 7 ∨ op % 256 = 8 ∨ op % 256 = 9 := by omega
  · by_cases hn : ([(X : Int), (Y : Int), (Z : Int)].take 2).any isN = true
    · exact around_of op mo X Y Z 4 hc (by decide) (fun _ => nanBits ([(X : Int), (Y : Int), (Z : Int)].take 2)) (fun _ => nanFlag ([(X : Int), (Y : Int), (Z : Int)].take 2)) w (fun m h0 h4 w1 _ => soft_nans 4 m X Y Z 2 _ (by omega) ⟨h0, h4⟩ hx hy hz (by omega) index4 hn w1) (fun m => nan_lt (take_range hx hy) m) (same_five (nanFlag_even _))
    · obtain ⟨k1, k2⟩ := any_kind (z := (Z : Int)) (by simpa using hn)
      exact around_of op mo X Y Z 4 hc (by decide) (divB X Y) (divF X Y) w (fun m h0 h4 w1 hb => soft_div X Y m Z hX hY hz ⟨h0, h4⟩ k1 k2 w1 (hT.later hb)) div_lt div_five
  · by_cases hn : ([(X : Int), (Y : Int), (Z : Int)].take 3).any isN = true
    · have hl := n5_lt hx hy hz
      exact around_of op mo X Y Z 5 hc (by decide) (fun _ => n5B X Y Z) (fun _ => n5F X Y Z) w (fun m h0 h4 w1 hb => soft_nanFm X Y Z m hX hY hZ ⟨h0, h4⟩ hn w1 (hT.later hb)) (fun _ => ⟨hl.1, hl.2.1⟩) (same_five hl.2.2)
    · exact around_of op mo X Y Z 5 hc (by decide) (fmB X Y Z) (fmF X Y Z) w (fun m h0 h4 w1 hb => soft_fmDo X Y Z m hX hY hZ ⟨h0, h4⟩ (by simpa using hn) w1 (hT.later hb)) (fm_lt hZ) (fm_five hZ)
  · by_cases hn : ([(X : Int), (Y : Int), (Z : Int)].take 1).any isN = true
    · exact around_of op mo X Y Z 6 hc (by decide) (fun _ => nanBits ([(X : Int), (Y : Int), (Z : Int)].take 1)) (fun _ => nanFlag ([(X : Int), (Y : Int), (Z : Int)].take 1)) w (fun m h0 h4 w1 _ => soft_nans 6 m X Y Z 1 _ (by omega) ⟨h0, h4⟩ hx hy hz (by omega) index6 hn w1) (fun m => nan_lt (by intro v hv; simp at hv; rw [hv]; exact hx) m) (same_five (nanFlag_even _))
    · have k1 : kind (X : Int) < 4 := by simp [isN] at hn; omega
      exact around_of op mo X Y Z 6 hc (by decide) (sqB X) (sqF X) w (fun m h0 h4 w1 hb => soft_sqDo X m Y Z hX hy hz ⟨h0, h4⟩ k1 w1 (hT.later hb)) (sq_lt hX) sq_five
  · by_cases hn : ([(X : Int), (Y : Int), (Z : Int)].take 1).any isN = true
    · exact around_of op mo X Y Z 7 hc (by decide) (fun _ => nanBits ([(X : Int), (Y : Int), (Z : Int)].take 1)) (fun _ => nanFlag ([(X : Int), (Y : Int), (Z : Int)].take 1)) w (fun m h0 h4 w1 _ => soft_nans 7 m X Y Z 1 _ (by omega) ⟨h0, h4⟩ hx hy hz (by omega) index7 hn w1) (fun m => nan_lt (by intro v hv; simp at hv; rw [hv]; exact hx) m) (same_five (nanFlag_even _))
    · have k1 : kind (X : Int) < 4 := by simp [isN] at hn; omega
      exact around_of op mo X Y Z 7 hc (by decide) (rqB X) (rqF X) w (fun m h0 h4 w1 hb => soft_rqDo X m Y Z hX hy hz ⟨h0, h4⟩ k1 w1 (hT.later hb)) (rq_lt hX) rq_five
  · by_cases hn : ([(X : Int), (Y : Int), (Z : Int)].take 1).any isN = true
    · exact around_of op mo X Y Z 8 hc (by decide) (fun _ => nanBits ([(X : Int), (Y : Int), (Z : Int)].take 1)) (fun _ => nanFlag ([(X : Int), (Y : Int), (Z : Int)].take 1)) w (fun m h0 h4 w1 _ => soft_nans 8 m X Y Z 1 _ (by omega) ⟨h0, h4⟩ hx hy hz (by omega) index8 hn w1) (fun m => nan_lt (by intro v hv; simp at hv; rw [hv]; exact hx) m) (same_five (nanFlag_even _))
    · have k1 : kind (X : Int) < 4 := by simp [isN] at hn; omega
      exact around_of op mo X Y Z 8 hc (by decide) (cbB X) (cbF X) w (fun m h0 h4 w1 hb => soft_cbDo X m Y Z hX hy hz ⟨h0, h4⟩ k1 w1 (hT.later hb)) (cb_lt hX) (cb_five hX)
  · by_cases hn : anyN [(X : Int), (Y : Int)] = true
    · exact around_of op mo X Y Z 9 hc (by decide) (fun _ => n9B X Y) (fun _ => nanFlag [(X : Int), (Y : Int)]) w (fun m h0 h4 w1 hb => soft_nanHy X Y m Z hX hY hz ⟨h0, h4⟩ hn w1 (hT.later hb)) (fun _ => ⟨n9_lt hx hy, by have := nanFlag_range [(X : Int), (Y : Int)]; omega⟩) (same_five (nanFlag_even _))
    · exact around_of op mo X Y Z 9 hc (by decide) (sdB X Y) (sdF X Y) w (fun m h0 h4 w1 hb => soft_hyDo X Y m Z hX hY hz ⟨h0, h4⟩ (by simpa using hn) w1 (hT.later hb)) sd_lt sd_five
end Go.Proofs.YtcjihaafohnbeaaDoor
