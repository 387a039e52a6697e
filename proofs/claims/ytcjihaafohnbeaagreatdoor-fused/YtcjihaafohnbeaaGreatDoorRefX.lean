import Derived.Test.YtcjihaafohnbeaaGreatDoorRefNan
import Derived.Test.YtcjihaafohnbeaaGreatDoorPA
namespace Go.Proofs.YtcjihaafohnbeaaGreatDoor
open Go.RowKit

set_option maxHeartbeats 400000 in
theorem operands3_any (m x y z : Int) (w : World) :
    Calls Tryz.prog 39 #[.agg #[.int .i64 5, .int .i64 m, .int .u64 x, .int .u64 y, .int .u64 z]] w fun e w' =>
      e = .returned (.slice (some ⟨w.heap.size + 1, 0, none⟩) 3 3) ∧ w' = (w.alloc (.cells #[.int .i64 5, .int .i64 m, .int .u64 x, .int .u64 y, .int .u64 z] 41)).alloc (.cells #[.int .u64 x, .int .u64 y, .int .u64 z] 25) := by
  go_enter Tryz.func39, Tryz.ntmps39
  go_wp2
  go_ret
  exact ⟨rfl, rfl⟩
/-- The place of the first NaN. -/
def fi1 (x : Int) : Int := if 4 ≤ kind x then 0 else -1
def fi2 (x y : Int) : Int := if 4 ≤ kind x then 0 else if 4 ≤ kind y then 1 else -1
def fi3 (x y z : Int) : Int := if 4 ≤ kind x then 0 else if 4 ≤ kind y then 1 else if 4 ≤ kind z then 2 else -1
/-- What rule 1 answers of fma. -/
def n5B (x y z : Int) : Int := if zti (kind x) (kind y) = true ∧ kind z = 4 then 9221120237041090560 else nanBits [x, y, z]
def n5F (x y z : Int) : Int := if zti (kind x) (kind y) = true ∧ kind z = 4 then 16 else nanFlag [x, y, z]

set_option maxHeartbeats 8000000 in
set_option maxRecDepth 10000 in
theorem nans5_any (m x y z : Int) (hx : 0 ≤ x ∧ x < 18446744073709551616) (hy : 0 ≤ y ∧ y < 18446744073709551616) (hz : 0 ≤ z ∧ z < 18446744073709551616) (w : World) :
    Calls Tryz.prog 19 #[.agg #[.int .i64 5, .int .i64 m, .int .u64 x, .int .u64 y, .int .u64 z]] w fun e w' =>
      e = .returned (.tuple #[.agg #[.int .u64 (n5B x y z), .int .i64 (n5F x y z), .bool false], .bool (anyN [x, y, z])]) ∧ Below w.heap.size w w' := by
  have HKx : Hid (∀ w, Calls Tryz.prog 40 #[.int .u64 x] w fun e w' => e = .returned (.int .i64 (kind x)) ∧ w' = w) := fun w => refKind_any x hx.1 hx.2 w
  have kx := kind_range x
  have HKy : Hid (∀ w, Calls Tryz.prog 40 #[.int .u64 y] w fun e w' => e = .returned (.int .i64 (kind y)) ∧ w' = w) := fun w => refKind_any y hy.1 hy.2 w
  have ky := kind_range y
  have HKz : Hid (∀ w, Calls Tryz.prog 40 #[.int .u64 z] w fun e w' => e = .returned (.int .i64 (kind z)) ∧ w' = w) := fun w => refKind_any z hz.1 hz.2 w
  have kz := kind_range z
  clear hx hy hz
  go_enter Tryz.func19, Tryz.ntmps19
  go_wp2_with (go_at_call 39; refine (operands3_any m x y z _).mono ?_; rintro e w' ⟨rfl, rfl⟩)
  go_loop [5, 6, 7, 8] (fun fs ld i _ => (i = .int .i64 0 ∧ fs = .int .i64 (-1) ∧ ld = .int .i64 0) ∨ (i = .int .i64 1 ∧ fs = .int .i64 (fi1 x) ∧ ld = .int .i64 (nanFlag [x])) ∨ (i = .int .i64 2 ∧ fs = .int .i64 (fi2 x y) ∧ ld = .int .i64 (nanFlag [x, y])) ∨ (i = .int .i64 3 ∧ fs = .int .i64 (fi3 x y z) ∧ ld = .int .i64 (nanFlag [x, y, z]))) (fun _ _ i _ => 3 - (intOf i).toNat)
  case atStart => exact .inl ⟨rfl, rfl, rfl⟩
  case round =>
    rcases hrel with ⟨rfl, rfl, rfl⟩ | ⟨rfl, rfl, rfl⟩ | ⟨rfl, rfl, rfl⟩ | ⟨rfl, rfl, rfl⟩
    ·
      ·
        by_cases v4 : 4 ≤ kind x
        · by_cases v5 : kind x = 5
          · have HE : Hid (fi1 x = 0 ∧ nanFlag [x] = 16) := ⟨by simp [fi1, v4], by simp [nanFlag, isS, v5]⟩
            have b5 : (kind x == 5) = true := by simp [v5]
            generalize kind x = KV at *
            go_wp2_with (go_at_call 40; refine (HKx.out _).mono ?_; rintro e w' ⟨rfl, rfl⟩)
            all_goals
              go_round
              case rel =>
                go_light
                refine .inr (.inl ⟨by go_num, ?_, ?_⟩)
                · rw [HE.out.1]
                · rw [HE.out.2]
              case measure => simp [intOf]
          · have HE : Hid (fi1 x = 0 ∧ nanFlag [x] = 0) := ⟨by simp [fi1, v4], by simp [nanFlag, isS, v5]⟩
            have b5 : (kind x == 5) = false := by simp [v5]
            generalize kind x = KV at *
            go_wp2_with (go_at_call 40; refine (HKx.out _).mono ?_; rintro e w' ⟨rfl, rfl⟩)
            all_goals
              go_round
              case rel =>
                go_light
                refine .inr (.inl ⟨by go_num, ?_, ?_⟩)
                · rw [HE.out.1]
                · rw [HE.out.2]
              case measure => simp [intOf]
        · have HE : Hid (fi1 x = -1 ∧ nanFlag [x] = 0) := ⟨by simp [fi1, v4], by simp [nanFlag, isS, show ¬ kind x = 5 by omega]⟩
          have b5 : (kind x == 5) = false := by rw [beq_eq_false_iff_ne]; omega
          generalize kind x = KV at *
          go_wp2_with (go_at_call 40; refine (HKx.out _).mono ?_; rintro e w' ⟨rfl, rfl⟩)
          all_goals
            go_round
            case rel =>
              go_light
              refine .inr (.inl ⟨by go_num, ?_, ?_⟩)
              · rw [HE.out.1]
              · rw [HE.out.2]
            case measure => simp [intOf]
    ·
      by_cases x4 : 4 ≤ kind x
      · have hfi : fi1 x = 0 := by simp [fi1, x4]
        have hfl0 := nanFlag_range [x]
        by_cases v4 : 4 ≤ kind y
        · by_cases v5 : kind y = 5
          · have HE : Hid (fi2 x y = 0 ∧ nanFlag [x, y] = 16) := ⟨by simp [fi2, x4], by simp [nanFlag, isS, v5]⟩
            have b5 : (kind y == 5) = true := by simp [v5]
            generalize kind y = KV at *
            go_wp2_with (go_at_call 40; refine (HKy.out _).mono ?_; rintro e w' ⟨rfl, rfl⟩)
            all_goals
              go_round
              case rel =>
                go_light
                refine .inr (.inr (.inl ⟨by go_num, ?_, ?_⟩))
                · rw [HE.out.1]
                · rw [HE.out.2]
              case measure => simp [intOf]
          · have HE : Hid (fi2 x y = 0 ∧ nanFlag [x, y] = nanFlag [x]) := ⟨by simp [fi2, x4], by simp [nanFlag, isS, v5]⟩
            have b5 : (kind y == 5) = false := by simp [v5]
            generalize kind y = KV at *
            go_wp2_with (go_at_call 40; refine (HKy.out _).mono ?_; rintro e w' ⟨rfl, rfl⟩)
            all_goals
              go_round
              case rel =>
                go_light
                refine .inr (.inr (.inl ⟨by go_num, ?_, ?_⟩))
                · rw [HE.out.1]
                · rw [HE.out.2]
              case measure => simp [intOf]
        · have HE : Hid (fi2 x y = 0 ∧ nanFlag [x, y] = nanFlag [x]) := ⟨by simp [fi2, x4], by simp [nanFlag, isS, show ¬ kind y = 5 by omega]⟩
          have b5 : (kind y == 5) = false := by rw [beq_eq_false_iff_ne]; omega
          generalize kind y = KV at *
          go_wp2_with (go_at_call 40; refine (HKy.out _).mono ?_; rintro e w' ⟨rfl, rfl⟩)
          all_goals
            go_round
            case rel =>
              go_light
              refine .inr (.inr (.inl ⟨by go_num, ?_, ?_⟩))
              · rw [HE.out.1]
              · rw [HE.out.2]
            case measure => simp [intOf]
      · have hfi : fi1 x = -1 := by simp [fi1, x4]
        have hfl0 := nanFlag_range [x]
        by_cases v4 : 4 ≤ kind y
        · by_cases v5 : kind y = 5
          · have HE : Hid (fi2 x y = 1 ∧ nanFlag [x, y] = 16) := ⟨by simp [fi2, v4, x4], by simp [nanFlag, isS, v5]⟩
            have b5 : (kind y == 5) = true := by simp [v5]
            generalize kind y = KV at *
            go_wp2_with (go_at_call 40; refine (HKy.out _).mono ?_; rintro e w' ⟨rfl, rfl⟩)
            all_goals
              go_round
              case rel =>
                go_light
                refine .inr (.inr (.inl ⟨by go_num, ?_, ?_⟩))
                · rw [HE.out.1]
                · rw [HE.out.2]
              case measure => simp [intOf]
          · have HE : Hid (fi2 x y = 1 ∧ nanFlag [x, y] = nanFlag [x]) := ⟨by simp [fi2, v4, x4], by simp [nanFlag, isS, v5]⟩
            have b5 : (kind y == 5) = false := by simp [v5]
            generalize kind y = KV at *
            go_wp2_with (go_at_call 40; refine (HKy.out _).mono ?_; rintro e w' ⟨rfl, rfl⟩)
            all_goals
              go_round
              case rel =>
                go_light
                refine .inr (.inr (.inl ⟨by go_num, ?_, ?_⟩))
                · rw [HE.out.1]
                · rw [HE.out.2]
              case measure => simp [intOf]
        · have HE : Hid (fi2 x y = -1 ∧ nanFlag [x, y] = nanFlag [x]) := ⟨by simp [fi2, v4, x4], by simp [nanFlag, isS, show ¬ kind y = 5 by omega]⟩
          have b5 : (kind y == 5) = false := by rw [beq_eq_false_iff_ne]; omega
          generalize kind y = KV at *
          go_wp2_with (go_at_call 40; refine (HKy.out _).mono ?_; rintro e w' ⟨rfl, rfl⟩)
          all_goals
            go_round
            case rel =>
              go_light
              refine .inr (.inr (.inl ⟨by go_num, ?_, ?_⟩))
              · rw [HE.out.1]
              · rw [HE.out.2]
            case measure => simp [intOf]
    ·
      by_cases x4 : 4 ≤ kind x
      · have hfi : fi2 x y = 0 := by simp [fi2, x4]
        have hfl0 := nanFlag_range [x, y]
        by_cases v4 : 4 ≤ kind z
        · by_cases v5 : kind z = 5
          · have HE : Hid (fi3 x y z = 0 ∧ nanFlag [x, y, z] = 16) := ⟨by simp [fi3, x4], by simp [nanFlag, isS, v5]⟩
            have b5 : (kind z == 5) = true := by simp [v5]
            generalize kind z = KV at *
            go_wp2_with (go_at_call 40; refine (HKz.out _).mono ?_; rintro e w' ⟨rfl, rfl⟩)
            all_goals
              go_round
              case rel =>
                go_light
                refine .inr (.inr (.inr ⟨by go_num, ?_, ?_⟩))
                · rw [HE.out.1]
                · rw [HE.out.2]
              case measure => simp [intOf]
          · have HE : Hid (fi3 x y z = 0 ∧ nanFlag [x, y, z] = nanFlag [x, y]) := ⟨by simp [fi3, x4], by simp [nanFlag, isS, v5]⟩
            have b5 : (kind z == 5) = false := by simp [v5]
            generalize kind z = KV at *
            go_wp2_with (go_at_call 40; refine (HKz.out _).mono ?_; rintro e w' ⟨rfl, rfl⟩)
            all_goals
              go_round
              case rel =>
                go_light
                refine .inr (.inr (.inr ⟨by go_num, ?_, ?_⟩))
                · rw [HE.out.1]
                · rw [HE.out.2]
              case measure => simp [intOf]
        · have HE : Hid (fi3 x y z = 0 ∧ nanFlag [x, y, z] = nanFlag [x, y]) := ⟨by simp [fi3, x4], by simp [nanFlag, isS, show ¬ kind z = 5 by omega]⟩
          have b5 : (kind z == 5) = false := by rw [beq_eq_false_iff_ne]; omega
          generalize kind z = KV at *
          go_wp2_with (go_at_call 40; refine (HKz.out _).mono ?_; rintro e w' ⟨rfl, rfl⟩)
          all_goals
            go_round
            case rel =>
              go_light
              refine .inr (.inr (.inr ⟨by go_num, ?_, ?_⟩))
              · rw [HE.out.1]
              · rw [HE.out.2]
            case measure => simp [intOf]
      by_cases y4 : 4 ≤ kind y
      · have hfi : fi2 x y = 1 := by simp [fi2, x4, y4]
        have hfl0 := nanFlag_range [x, y]
        by_cases v4 : 4 ≤ kind z
        · by_cases v5 : kind z = 5
          · have HE : Hid (fi3 x y z = 1 ∧ nanFlag [x, y, z] = 16) := ⟨by simp [fi3, x4, y4], by simp [nanFlag, isS, v5]⟩
            have b5 : (kind z == 5) = true := by simp [v5]
            generalize kind z = KV at *
            go_wp2_with (go_at_call 40; refine (HKz.out _).mono ?_; rintro e w' ⟨rfl, rfl⟩)
            all_goals
              go_round
              case rel =>
                go_light
                refine .inr (.inr (.inr ⟨by go_num, ?_, ?_⟩))
                · rw [HE.out.1]
                · rw [HE.out.2]
              case measure => simp [intOf]
          · have HE : Hid (fi3 x y z = 1 ∧ nanFlag [x, y, z] = nanFlag [x, y]) := ⟨by simp [fi3, x4, y4], by simp [nanFlag, isS, v5]⟩
            have b5 : (kind z == 5) = false := by simp [v5]
            generalize kind z = KV at *
            go_wp2_with (go_at_call 40; refine (HKz.out _).mono ?_; rintro e w' ⟨rfl, rfl⟩)
            all_goals
              go_round
              case rel =>
                go_light
                refine .inr (.inr (.inr ⟨by go_num, ?_, ?_⟩))
                · rw [HE.out.1]
                · rw [HE.out.2]
              case measure => simp [intOf]
        · have HE : Hid (fi3 x y z = 1 ∧ nanFlag [x, y, z] = nanFlag [x, y]) := ⟨by simp [fi3, x4, y4], by simp [nanFlag, isS, show ¬ kind z = 5 by omega]⟩
          have b5 : (kind z == 5) = false := by rw [beq_eq_false_iff_ne]; omega
          generalize kind z = KV at *
          go_wp2_with (go_at_call 40; refine (HKz.out _).mono ?_; rintro e w' ⟨rfl, rfl⟩)
          all_goals
            go_round
            case rel =>
              go_light
              refine .inr (.inr (.inr ⟨by go_num, ?_, ?_⟩))
              · rw [HE.out.1]
              · rw [HE.out.2]
            case measure => simp [intOf]
      · have hfi : fi2 x y = -1 := by simp [fi2, x4, y4]
        have hfl0 := nanFlag_range [x, y]
        by_cases v4 : 4 ≤ kind z
        · by_cases v5 : kind z = 5
          · have HE : Hid (fi3 x y z = 2 ∧ nanFlag [x, y, z] = 16) := ⟨by simp [fi3, v4, x4, y4], by simp [nanFlag, isS, v5]⟩
            have b5 : (kind z == 5) = true := by simp [v5]
            generalize kind z = KV at *
            go_wp2_with (go_at_call 40; refine (HKz.out _).mono ?_; rintro e w' ⟨rfl, rfl⟩)
            all_goals
              go_round
              case rel =>
                go_light
                refine .inr (.inr (.inr ⟨by go_num, ?_, ?_⟩))
                · rw [HE.out.1]
                · rw [HE.out.2]
              case measure => simp [intOf]
          · have HE : Hid (fi3 x y z = 2 ∧ nanFlag [x, y, z] = nanFlag [x, y]) := ⟨by simp [fi3, v4, x4, y4], by simp [nanFlag, isS, v5]⟩
            have b5 : (kind z == 5) = false := by simp [v5]
            generalize kind z = KV at *
            go_wp2_with (go_at_call 40; refine (HKz.out _).mono ?_; rintro e w' ⟨rfl, rfl⟩)
            all_goals
              go_round
              case rel =>
                go_light
                refine .inr (.inr (.inr ⟨by go_num, ?_, ?_⟩))
                · rw [HE.out.1]
                · rw [HE.out.2]
              case measure => simp [intOf]
        · have HE : Hid (fi3 x y z = -1 ∧ nanFlag [x, y, z] = nanFlag [x, y]) := ⟨by simp [fi3, v4, x4, y4], by simp [nanFlag, isS, show ¬ kind z = 5 by omega]⟩
          have b5 : (kind z == 5) = false := by rw [beq_eq_false_iff_ne]; omega
          generalize kind z = KV at *
          go_wp2_with (go_at_call 40; refine (HKz.out _).mono ?_; rintro e w' ⟨rfl, rfl⟩)
          all_goals
            go_round
            case rel =>
              go_light
              refine .inr (.inr (.inr ⟨by go_num, ?_, ?_⟩))
              · rw [HE.out.1]
              · rw [HE.out.2]
            case measure => simp [intOf]
    · have hnz : zti (kind x) (kind y) = true → kind x < 4 ∧ kind y < 4 := fun h => by simp only [zti, Bool.or_eq_true, Bool.and_eq_true, beq_iff_eq] at h; omega
      by_cases x4 : 4 ≤ kind x
      · have hfi : fi3 x y z = 0 := by simp [fi3, x4]
        have bx3 : (kind x == 3) = false := by rw [beq_eq_false_iff_ne]; omega
        have bx0 : (kind x == 0) = false := by rw [beq_eq_false_iff_ne]; omega
        by_cases c4 : kind z = 4
        · skip
          have bz4 : (kind z == 4) = true := by rw [beq_iff_eq]; exact c4
          have HN : Hid (anyN [x, y, z] = true ∧ n5B x y z = bits .or .u64 x 2251799813685248 ∧ n5F x y z = nanFlag [x, y, z]) := (by
            have hq : ¬ (zti (kind x) (kind y) = true ∧ kind z = 4) := fun h => by have := hnz h.1; omega
            exact ⟨by simp [anyN, isN, x4], by unfold n5B; rw [if_neg hq]; simp [nanBits, isN, x4], by unfold n5F; rw [if_neg hq]⟩ : _)
          clear hnz x4 kx ky kz
          generalize nanFlag [x, y, z] = NF at *
          generalize kind x = KX at *
          generalize kind y = KY at *
          generalize kind z = KZ at *
          go_wp2_with (first | (go_at_call_of 40 (Value.int .u64 x); refine (HKx.out _).mono ?_; rintro e w' ⟨rfl, rfl⟩) | (go_at_call_of 40 (Value.int .u64 y); refine (HKy.out _).mono ?_; rintro e w' ⟨rfl, rfl⟩) | (go_at_call_of 40 (Value.int .u64 z); refine (HKz.out _).mono ?_; rintro e w' ⟨rfl, rfl⟩))
          refine bodyPost_ret (v := .tuple #[.agg #[.int .u64 (bits .or .u64 x 2251799813685248), .int .i64 (NF), .bool false], .bool true]) (by simp [results, Tryz.results19, go_sem]) rfl ⟨by rw [HN.out.1, HN.out.2.1, HN.out.2.2], ?_⟩
          exact ((((Below.refl _ _).alloc (Nat.le_refl _) _).alloc (by simp) _).alloc (by simp; omega) _).alloc (by simp; omega) _
        · skip
          have bz4 : (kind z == 4) = false := by rw [beq_eq_false_iff_ne]; exact c4
          have HN : Hid (anyN [x, y, z] = true ∧ n5B x y z = bits .or .u64 x 2251799813685248 ∧ n5F x y z = nanFlag [x, y, z]) := (by
            have hq : ¬ (zti (kind x) (kind y) = true ∧ kind z = 4) := fun h => by have := hnz h.1; omega
            exact ⟨by simp [anyN, isN, x4], by unfold n5B; rw [if_neg hq]; simp [nanBits, isN, x4], by unfold n5F; rw [if_neg hq]⟩ : _)
          clear hnz x4 kx ky kz
          generalize nanFlag [x, y, z] = NF at *
          generalize kind x = KX at *
          generalize kind y = KY at *
          generalize kind z = KZ at *
          go_wp2_with (first | (go_at_call_of 40 (Value.int .u64 x); refine (HKx.out _).mono ?_; rintro e w' ⟨rfl, rfl⟩) | (go_at_call_of 40 (Value.int .u64 y); refine (HKy.out _).mono ?_; rintro e w' ⟨rfl, rfl⟩) | (go_at_call_of 40 (Value.int .u64 z); refine (HKz.out _).mono ?_; rintro e w' ⟨rfl, rfl⟩))
          refine bodyPost_ret (v := .tuple #[.agg #[.int .u64 (bits .or .u64 x 2251799813685248), .int .i64 (NF), .bool false], .bool true]) (by simp [results, Tryz.results19, go_sem]) rfl ⟨by rw [HN.out.1, HN.out.2.1, HN.out.2.2], ?_⟩
          exact ((((Below.refl _ _).alloc (Nat.le_refl _) _).alloc (by simp) _).alloc (by simp; omega) _).alloc (by simp; omega) _
      by_cases y4 : 4 ≤ kind y
      · have hfi : fi3 x y z = 1 := by simp [fi3, x4, y4]
        have by3 : (kind y == 3) = false := by rw [beq_eq_false_iff_ne]; omega
        have by0 : (kind y == 0) = false := by rw [beq_eq_false_iff_ne]; omega
        by_cases c4 : kind z = 4
        · skip
          have bz4 : (kind z == 4) = true := by rw [beq_iff_eq]; exact c4
          by_cases a3 : kind x = 3
          · skip
            have bx3 : (kind x == 3) = true := by rw [beq_iff_eq]; omega
            have bx0 : (kind x == 0) = false := by rw [beq_eq_false_iff_ne]; omega
            have HN : Hid (anyN [x, y, z] = true ∧ n5B x y z = bits .or .u64 y 2251799813685248 ∧ n5F x y z = nanFlag [x, y, z]) := (by
              have hq : ¬ (zti (kind x) (kind y) = true ∧ kind z = 4) := fun h => by have := hnz h.1; omega
              exact ⟨by simp [anyN, isN, y4], by unfold n5B; rw [if_neg hq]; simp [nanBits, isN, x4, y4], by unfold n5F; rw [if_neg hq]⟩ : _)
            clear hnz x4 y4 kx ky kz
            generalize nanFlag [x, y, z] = NF at *
            generalize kind x = KX at *
            generalize kind y = KY at *
            generalize kind z = KZ at *
            go_wp2_with (first | (go_at_call_of 40 (Value.int .u64 x); refine (HKx.out _).mono ?_; rintro e w' ⟨rfl, rfl⟩) | (go_at_call_of 40 (Value.int .u64 y); refine (HKy.out _).mono ?_; rintro e w' ⟨rfl, rfl⟩) | (go_at_call_of 40 (Value.int .u64 z); refine (HKz.out _).mono ?_; rintro e w' ⟨rfl, rfl⟩))
            refine bodyPost_ret (v := .tuple #[.agg #[.int .u64 (bits .or .u64 y 2251799813685248), .int .i64 (NF), .bool false], .bool true]) (by simp [results, Tryz.results19, go_sem]) rfl ⟨by rw [HN.out.1, HN.out.2.1, HN.out.2.2], ?_⟩
            exact ((((Below.refl _ _).alloc (Nat.le_refl _) _).alloc (by simp) _).alloc (by simp; omega) _).alloc (by simp; omega) _
          by_cases a0 : kind x = 0
          · skip
            have bx3 : (kind x == 3) = false := by rw [beq_eq_false_iff_ne]; omega
            have bx0 : (kind x == 0) = true := by rw [beq_iff_eq]; omega
            have HN : Hid (anyN [x, y, z] = true ∧ n5B x y z = bits .or .u64 y 2251799813685248 ∧ n5F x y z = nanFlag [x, y, z]) := (by
              have hq : ¬ (zti (kind x) (kind y) = true ∧ kind z = 4) := fun h => by have := hnz h.1; omega
              exact ⟨by simp [anyN, isN, y4], by unfold n5B; rw [if_neg hq]; simp [nanBits, isN, x4, y4], by unfold n5F; rw [if_neg hq]⟩ : _)
            clear hnz x4 y4 kx ky kz
            generalize nanFlag [x, y, z] = NF at *
            generalize kind x = KX at *
            generalize kind y = KY at *
            generalize kind z = KZ at *
            go_wp2_with (first | (go_at_call_of 40 (Value.int .u64 x); refine (HKx.out _).mono ?_; rintro e w' ⟨rfl, rfl⟩) | (go_at_call_of 40 (Value.int .u64 y); refine (HKy.out _).mono ?_; rintro e w' ⟨rfl, rfl⟩) | (go_at_call_of 40 (Value.int .u64 z); refine (HKz.out _).mono ?_; rintro e w' ⟨rfl, rfl⟩))
            refine bodyPost_ret (v := .tuple #[.agg #[.int .u64 (bits .or .u64 y 2251799813685248), .int .i64 (NF), .bool false], .bool true]) (by simp [results, Tryz.results19, go_sem]) rfl ⟨by rw [HN.out.1, HN.out.2.1, HN.out.2.2], ?_⟩
            exact ((((Below.refl _ _).alloc (Nat.le_refl _) _).alloc (by simp) _).alloc (by simp; omega) _).alloc (by simp; omega) _
          have bx3 : (kind x == 3) = false := by rw [beq_eq_false_iff_ne]; omega
          have bx0 : (kind x == 0) = false := by rw [beq_eq_false_iff_ne]; omega
          have HN : Hid (anyN [x, y, z] = true ∧ n5B x y z = bits .or .u64 y 2251799813685248 ∧ n5F x y z = nanFlag [x, y, z]) := (by
            have hq : ¬ (zti (kind x) (kind y) = true ∧ kind z = 4) := fun h => by have := hnz h.1; omega
            exact ⟨by simp [anyN, isN, y4], by unfold n5B; rw [if_neg hq]; simp [nanBits, isN, x4, y4], by unfold n5F; rw [if_neg hq]⟩ : _)
          clear hnz x4 y4 kx ky kz
          generalize nanFlag [x, y, z] = NF at *
          generalize kind x = KX at *
          generalize kind y = KY at *
          generalize kind z = KZ at *
          go_wp2_with (first | (go_at_call_of 40 (Value.int .u64 x); refine (HKx.out _).mono ?_; rintro e w' ⟨rfl, rfl⟩) | (go_at_call_of 40 (Value.int .u64 y); refine (HKy.out _).mono ?_; rintro e w' ⟨rfl, rfl⟩) | (go_at_call_of 40 (Value.int .u64 z); refine (HKz.out _).mono ?_; rintro e w' ⟨rfl, rfl⟩))
          refine bodyPost_ret (v := .tuple #[.agg #[.int .u64 (bits .or .u64 y 2251799813685248), .int .i64 (NF), .bool false], .bool true]) (by simp [results, Tryz.results19, go_sem]) rfl ⟨by rw [HN.out.1, HN.out.2.1, HN.out.2.2], ?_⟩
          exact ((((Below.refl _ _).alloc (Nat.le_refl _) _).alloc (by simp) _).alloc (by simp; omega) _).alloc (by simp; omega) _
        · skip
          have bz4 : (kind z == 4) = false := by rw [beq_eq_false_iff_ne]; exact c4
          have HN : Hid (anyN [x, y, z] = true ∧ n5B x y z = bits .or .u64 y 2251799813685248 ∧ n5F x y z = nanFlag [x, y, z]) := (by
            have hq : ¬ (zti (kind x) (kind y) = true ∧ kind z = 4) := fun h => by have := hnz h.1; omega
            exact ⟨by simp [anyN, isN, y4], by unfold n5B; rw [if_neg hq]; simp [nanBits, isN, x4, y4], by unfold n5F; rw [if_neg hq]⟩ : _)
          clear hnz x4 y4 kx ky kz
          generalize nanFlag [x, y, z] = NF at *
          generalize kind x = KX at *
          generalize kind y = KY at *
          generalize kind z = KZ at *
          go_wp2_with (first | (go_at_call_of 40 (Value.int .u64 x); refine (HKx.out _).mono ?_; rintro e w' ⟨rfl, rfl⟩) | (go_at_call_of 40 (Value.int .u64 y); refine (HKy.out _).mono ?_; rintro e w' ⟨rfl, rfl⟩) | (go_at_call_of 40 (Value.int .u64 z); refine (HKz.out _).mono ?_; rintro e w' ⟨rfl, rfl⟩))
          refine bodyPost_ret (v := .tuple #[.agg #[.int .u64 (bits .or .u64 y 2251799813685248), .int .i64 (NF), .bool false], .bool true]) (by simp [results, Tryz.results19, go_sem]) rfl ⟨by rw [HN.out.1, HN.out.2.1, HN.out.2.2], ?_⟩
          exact ((((Below.refl _ _).alloc (Nat.le_refl _) _).alloc (by simp) _).alloc (by simp; omega) _).alloc (by simp; omega) _
      by_cases z4 : 4 ≤ kind z
      · have hfi : fi3 x y z = 2 := by simp [fi3, x4, y4, z4]
        by_cases c4 : kind z = 4
        · skip
          have bz4 : (kind z == 4) = true := by rw [beq_iff_eq]; exact c4
          by_cases a3 : kind x = 3
          · skip
            have bx3 : (kind x == 3) = true := by rw [beq_iff_eq]; omega
            have bx0 : (kind x == 0) = false := by rw [beq_eq_false_iff_ne]; omega
            by_cases d3 : kind y = 3
            · skip
              have by3 : (kind y == 3) = true := by rw [beq_iff_eq]; omega
              have by0 : (kind y == 0) = false := by rw [beq_eq_false_iff_ne]; omega
              have HN : Hid (anyN [x, y, z] = true ∧ n5B x y z = bits .or .u64 z 2251799813685248 ∧ n5F x y z = nanFlag [x, y, z]) := (by
                have hq : ¬ (zti (kind x) (kind y) = true ∧ kind z = 4) := fun h => by have h := h.1; unfold zti at h; rw [bx3, bx0, by3, by0] at h; exact absurd h (by decide)
                exact ⟨by simp [anyN, isN, z4], by unfold n5B; rw [if_neg hq]; simp [nanBits, isN, x4, y4, z4], by unfold n5F; rw [if_neg hq]⟩ : _)
              clear hnz x4 y4 z4 kx ky kz
              generalize nanFlag [x, y, z] = NF at *
              generalize kind x = KX at *
              generalize kind y = KY at *
              generalize kind z = KZ at *
              go_wp2_with (first | (go_at_call_of 40 (Value.int .u64 x); refine (HKx.out _).mono ?_; rintro e w' ⟨rfl, rfl⟩) | (go_at_call_of 40 (Value.int .u64 y); refine (HKy.out _).mono ?_; rintro e w' ⟨rfl, rfl⟩) | (go_at_call_of 40 (Value.int .u64 z); refine (HKz.out _).mono ?_; rintro e w' ⟨rfl, rfl⟩))
              refine bodyPost_ret (v := .tuple #[.agg #[.int .u64 (bits .or .u64 z 2251799813685248), .int .i64 (NF), .bool false], .bool true]) (by simp [results, Tryz.results19, go_sem]) rfl ⟨by rw [HN.out.1, HN.out.2.1, HN.out.2.2], ?_⟩
              exact ((((Below.refl _ _).alloc (Nat.le_refl _) _).alloc (by simp) _).alloc (by simp; omega) _).alloc (by simp; omega) _
            by_cases d0 : kind y = 0
            · skip
              have by3 : (kind y == 3) = false := by rw [beq_eq_false_iff_ne]; omega
              have by0 : (kind y == 0) = true := by rw [beq_iff_eq]; omega
              have HN : Hid (anyN [x, y, z] = true ∧ n5B x y z = 9221120237041090560 ∧ n5F x y z = 16) := (by
                have hq : zti (kind x) (kind y) = true ∧ kind z = 4 := ⟨by unfold zti; rw [bx3, bx0, by3, by0]; rfl, c4⟩
                exact ⟨by simp [anyN, isN, c4], by unfold n5B; rw [if_pos hq], by unfold n5F; rw [if_pos hq]⟩ : _)
              clear hnz x4 y4 z4 kx ky kz
              generalize nanFlag [x, y, z] = NF at *
              generalize kind x = KX at *
              generalize kind y = KY at *
              generalize kind z = KZ at *
              go_wp2_with (first | (go_at_call_of 40 (Value.int .u64 x); refine (HKx.out _).mono ?_; rintro e w' ⟨rfl, rfl⟩) | (go_at_call_of 40 (Value.int .u64 y); refine (HKy.out _).mono ?_; rintro e w' ⟨rfl, rfl⟩) | (go_at_call_of 40 (Value.int .u64 z); refine (HKz.out _).mono ?_; rintro e w' ⟨rfl, rfl⟩))
              refine bodyPost_ret (v := .tuple #[.agg #[.int .u64 (9221120237041090560), .int .i64 (16), .bool false], .bool true]) (by simp [results, Tryz.results19, go_sem]) rfl ⟨by rw [HN.out.1, HN.out.2.1, HN.out.2.2], ?_⟩
              exact ((((Below.refl _ _).alloc (Nat.le_refl _) _).alloc (by simp) _).alloc (by simp; omega) _).alloc (by simp; omega) _
            have by3 : (kind y == 3) = false := by rw [beq_eq_false_iff_ne]; omega
            have by0 : (kind y == 0) = false := by rw [beq_eq_false_iff_ne]; omega
            have HN : Hid (anyN [x, y, z] = true ∧ n5B x y z = bits .or .u64 z 2251799813685248 ∧ n5F x y z = nanFlag [x, y, z]) := (by
              have hq : ¬ (zti (kind x) (kind y) = true ∧ kind z = 4) := fun h => by have h := h.1; unfold zti at h; rw [bx3, bx0, by3, by0] at h; exact absurd h (by decide)
              exact ⟨by simp [anyN, isN, z4], by unfold n5B; rw [if_neg hq]; simp [nanBits, isN, x4, y4, z4], by unfold n5F; rw [if_neg hq]⟩ : _)
            clear hnz x4 y4 z4 kx ky kz
            generalize nanFlag [x, y, z] = NF at *
            generalize kind x = KX at *
            generalize kind y = KY at *
            generalize kind z = KZ at *
            go_wp2_with (first | (go_at_call_of 40 (Value.int .u64 x); refine (HKx.out _).mono ?_; rintro e w' ⟨rfl, rfl⟩) | (go_at_call_of 40 (Value.int .u64 y); refine (HKy.out _).mono ?_; rintro e w' ⟨rfl, rfl⟩) | (go_at_call_of 40 (Value.int .u64 z); refine (HKz.out _).mono ?_; rintro e w' ⟨rfl, rfl⟩))
            refine bodyPost_ret (v := .tuple #[.agg #[.int .u64 (bits .or .u64 z 2251799813685248), .int .i64 (NF), .bool false], .bool true]) (by simp [results, Tryz.results19, go_sem]) rfl ⟨by rw [HN.out.1, HN.out.2.1, HN.out.2.2], ?_⟩
            exact ((((Below.refl _ _).alloc (Nat.le_refl _) _).alloc (by simp) _).alloc (by simp; omega) _).alloc (by simp; omega) _
          by_cases a0 : kind x = 0
          · skip
            have bx3 : (kind x == 3) = false := by rw [beq_eq_false_iff_ne]; omega
            have bx0 : (kind x == 0) = true := by rw [beq_iff_eq]; omega
            by_cases d3 : kind y = 3
            · skip
              have by3 : (kind y == 3) = true := by rw [beq_iff_eq]; omega
              have by0 : (kind y == 0) = false := by rw [beq_eq_false_iff_ne]; omega
              have HN : Hid (anyN [x, y, z] = true ∧ n5B x y z = 9221120237041090560 ∧ n5F x y z = 16) := (by
                have hq : zti (kind x) (kind y) = true ∧ kind z = 4 := ⟨by unfold zti; rw [bx3, bx0, by3, by0]; rfl, c4⟩
                exact ⟨by simp [anyN, isN, c4], by unfold n5B; rw [if_pos hq], by unfold n5F; rw [if_pos hq]⟩ : _)
              clear hnz x4 y4 z4 kx ky kz
              generalize nanFlag [x, y, z] = NF at *
              generalize kind x = KX at *
              generalize kind y = KY at *
              generalize kind z = KZ at *
              go_wp2_with (first | (go_at_call_of 40 (Value.int .u64 x); refine (HKx.out _).mono ?_; rintro e w' ⟨rfl, rfl⟩) | (go_at_call_of 40 (Value.int .u64 y); refine (HKy.out _).mono ?_; rintro e w' ⟨rfl, rfl⟩) | (go_at_call_of 40 (Value.int .u64 z); refine (HKz.out _).mono ?_; rintro e w' ⟨rfl, rfl⟩))
              refine bodyPost_ret (v := .tuple #[.agg #[.int .u64 (9221120237041090560), .int .i64 (16), .bool false], .bool true]) (by simp [results, Tryz.results19, go_sem]) rfl ⟨by rw [HN.out.1, HN.out.2.1, HN.out.2.2], ?_⟩
              exact ((((Below.refl _ _).alloc (Nat.le_refl _) _).alloc (by simp) _).alloc (by simp; omega) _).alloc (by simp; omega) _
            by_cases d0 : kind y = 0
            · skip
              have by3 : (kind y == 3) = false := by rw [beq_eq_false_iff_ne]; omega
              have by0 : (kind y == 0) = true := by rw [beq_iff_eq]; omega
              have HN : Hid (anyN [x, y, z] = true ∧ n5B x y z = bits .or .u64 z 2251799813685248 ∧ n5F x y z = nanFlag [x, y, z]) := (by
                have hq : ¬ (zti (kind x) (kind y) = true ∧ kind z = 4) := fun h => by have h := h.1; unfold zti at h; rw [bx3, bx0, by3, by0] at h; exact absurd h (by decide)
                exact ⟨by simp [anyN, isN, z4], by unfold n5B; rw [if_neg hq]; simp [nanBits, isN, x4, y4, z4], by unfold n5F; rw [if_neg hq]⟩ : _)
              clear hnz x4 y4 z4 kx ky kz
              generalize nanFlag [x, y, z] = NF at *
              generalize kind x = KX at *
              generalize kind y = KY at *
              generalize kind z = KZ at *
              go_wp2_with (first | (go_at_call_of 40 (Value.int .u64 x); refine (HKx.out _).mono ?_; rintro e w' ⟨rfl, rfl⟩) | (go_at_call_of 40 (Value.int .u64 y); refine (HKy.out _).mono ?_; rintro e w' ⟨rfl, rfl⟩) | (go_at_call_of 40 (Value.int .u64 z); refine (HKz.out _).mono ?_; rintro e w' ⟨rfl, rfl⟩))
              refine bodyPost_ret (v := .tuple #[.agg #[.int .u64 (bits .or .u64 z 2251799813685248), .int .i64 (NF), .bool false], .bool true]) (by simp [results, Tryz.results19, go_sem]) rfl ⟨by rw [HN.out.1, HN.out.2.1, HN.out.2.2], ?_⟩
              exact ((((Below.refl _ _).alloc (Nat.le_refl _) _).alloc (by simp) _).alloc (by simp; omega) _).alloc (by simp; omega) _
            have by3 : (kind y == 3) = false := by rw [beq_eq_false_iff_ne]; omega
            have by0 : (kind y == 0) = false := by rw [beq_eq_false_iff_ne]; omega
            have HN : Hid (anyN [x, y, z] = true ∧ n5B x y z = bits .or .u64 z 2251799813685248 ∧ n5F x y z = nanFlag [x, y, z]) := (by
              have hq : ¬ (zti (kind x) (kind y) = true ∧ kind z = 4) := fun h => by have h := h.1; unfold zti at h; rw [bx3, bx0, by3, by0] at h; exact absurd h (by decide)
              exact ⟨by simp [anyN, isN, z4], by unfold n5B; rw [if_neg hq]; simp [nanBits, isN, x4, y4, z4], by unfold n5F; rw [if_neg hq]⟩ : _)
            clear hnz x4 y4 z4 kx ky kz
            generalize nanFlag [x, y, z] = NF at *
            generalize kind x = KX at *
            generalize kind y = KY at *
            generalize kind z = KZ at *
            go_wp2_with (first | (go_at_call_of 40 (Value.int .u64 x); refine (HKx.out _).mono ?_; rintro e w' ⟨rfl, rfl⟩) | (go_at_call_of 40 (Value.int .u64 y); refine (HKy.out _).mono ?_; rintro e w' ⟨rfl, rfl⟩) | (go_at_call_of 40 (Value.int .u64 z); refine (HKz.out _).mono ?_; rintro e w' ⟨rfl, rfl⟩))
            refine bodyPost_ret (v := .tuple #[.agg #[.int .u64 (bits .or .u64 z 2251799813685248), .int .i64 (NF), .bool false], .bool true]) (by simp [results, Tryz.results19, go_sem]) rfl ⟨by rw [HN.out.1, HN.out.2.1, HN.out.2.2], ?_⟩
            exact ((((Below.refl _ _).alloc (Nat.le_refl _) _).alloc (by simp) _).alloc (by simp; omega) _).alloc (by simp; omega) _
          have bx3 : (kind x == 3) = false := by rw [beq_eq_false_iff_ne]; omega
          have bx0 : (kind x == 0) = false := by rw [beq_eq_false_iff_ne]; omega
          by_cases d3 : kind y = 3
          · skip
            have by3 : (kind y == 3) = true := by rw [beq_iff_eq]; omega
            have by0 : (kind y == 0) = false := by rw [beq_eq_false_iff_ne]; omega
            have HN : Hid (anyN [x, y, z] = true ∧ n5B x y z = bits .or .u64 z 2251799813685248 ∧ n5F x y z = nanFlag [x, y, z]) := (by
              have hq : ¬ (zti (kind x) (kind y) = true ∧ kind z = 4) := fun h => by have h := h.1; unfold zti at h; rw [bx3, bx0, by3, by0] at h; exact absurd h (by decide)
              exact ⟨by simp [anyN, isN, z4], by unfold n5B; rw [if_neg hq]; simp [nanBits, isN, x4, y4, z4], by unfold n5F; rw [if_neg hq]⟩ : _)
            clear hnz x4 y4 z4 kx ky kz
            generalize nanFlag [x, y, z] = NF at *
            generalize kind x = KX at *
            generalize kind y = KY at *
            generalize kind z = KZ at *
            go_wp2_with (first | (go_at_call_of 40 (Value.int .u64 x); refine (HKx.out _).mono ?_; rintro e w' ⟨rfl, rfl⟩) | (go_at_call_of 40 (Value.int .u64 y); refine (HKy.out _).mono ?_; rintro e w' ⟨rfl, rfl⟩) | (go_at_call_of 40 (Value.int .u64 z); refine (HKz.out _).mono ?_; rintro e w' ⟨rfl, rfl⟩))
            refine bodyPost_ret (v := .tuple #[.agg #[.int .u64 (bits .or .u64 z 2251799813685248), .int .i64 (NF), .bool false], .bool true]) (by simp [results, Tryz.results19, go_sem]) rfl ⟨by rw [HN.out.1, HN.out.2.1, HN.out.2.2], ?_⟩
            exact ((((Below.refl _ _).alloc (Nat.le_refl _) _).alloc (by simp) _).alloc (by simp; omega) _).alloc (by simp; omega) _
          by_cases d0 : kind y = 0
          · skip
            have by3 : (kind y == 3) = false := by rw [beq_eq_false_iff_ne]; omega
            have by0 : (kind y == 0) = true := by rw [beq_iff_eq]; omega
            have HN : Hid (anyN [x, y, z] = true ∧ n5B x y z = bits .or .u64 z 2251799813685248 ∧ n5F x y z = nanFlag [x, y, z]) := (by
              have hq : ¬ (zti (kind x) (kind y) = true ∧ kind z = 4) := fun h => by have h := h.1; unfold zti at h; rw [bx3, bx0, by3, by0] at h; exact absurd h (by decide)
              exact ⟨by simp [anyN, isN, z4], by unfold n5B; rw [if_neg hq]; simp [nanBits, isN, x4, y4, z4], by unfold n5F; rw [if_neg hq]⟩ : _)
            clear hnz x4 y4 z4 kx ky kz
            generalize nanFlag [x, y, z] = NF at *
            generalize kind x = KX at *
            generalize kind y = KY at *
            generalize kind z = KZ at *
            go_wp2_with (first | (go_at_call_of 40 (Value.int .u64 x); refine (HKx.out _).mono ?_; rintro e w' ⟨rfl, rfl⟩) | (go_at_call_of 40 (Value.int .u64 y); refine (HKy.out _).mono ?_; rintro e w' ⟨rfl, rfl⟩) | (go_at_call_of 40 (Value.int .u64 z); refine (HKz.out _).mono ?_; rintro e w' ⟨rfl, rfl⟩))
            refine bodyPost_ret (v := .tuple #[.agg #[.int .u64 (bits .or .u64 z 2251799813685248), .int .i64 (NF), .bool false], .bool true]) (by simp [results, Tryz.results19, go_sem]) rfl ⟨by rw [HN.out.1, HN.out.2.1, HN.out.2.2], ?_⟩
            exact ((((Below.refl _ _).alloc (Nat.le_refl _) _).alloc (by simp) _).alloc (by simp; omega) _).alloc (by simp; omega) _
          have by3 : (kind y == 3) = false := by rw [beq_eq_false_iff_ne]; omega
          have by0 : (kind y == 0) = false := by rw [beq_eq_false_iff_ne]; omega
          have HN : Hid (anyN [x, y, z] = true ∧ n5B x y z = bits .or .u64 z 2251799813685248 ∧ n5F x y z = nanFlag [x, y, z]) := (by
            have hq : ¬ (zti (kind x) (kind y) = true ∧ kind z = 4) := fun h => by have h := h.1; unfold zti at h; rw [bx3, bx0, by3, by0] at h; exact absurd h (by decide)
            exact ⟨by simp [anyN, isN, z4], by unfold n5B; rw [if_neg hq]; simp [nanBits, isN, x4, y4, z4], by unfold n5F; rw [if_neg hq]⟩ : _)
          clear hnz x4 y4 z4 kx ky kz
          generalize nanFlag [x, y, z] = NF at *
          generalize kind x = KX at *
          generalize kind y = KY at *
          generalize kind z = KZ at *
          go_wp2_with (first | (go_at_call_of 40 (Value.int .u64 x); refine (HKx.out _).mono ?_; rintro e w' ⟨rfl, rfl⟩) | (go_at_call_of 40 (Value.int .u64 y); refine (HKy.out _).mono ?_; rintro e w' ⟨rfl, rfl⟩) | (go_at_call_of 40 (Value.int .u64 z); refine (HKz.out _).mono ?_; rintro e w' ⟨rfl, rfl⟩))
          refine bodyPost_ret (v := .tuple #[.agg #[.int .u64 (bits .or .u64 z 2251799813685248), .int .i64 (NF), .bool false], .bool true]) (by simp [results, Tryz.results19, go_sem]) rfl ⟨by rw [HN.out.1, HN.out.2.1, HN.out.2.2], ?_⟩
          exact ((((Below.refl _ _).alloc (Nat.le_refl _) _).alloc (by simp) _).alloc (by simp; omega) _).alloc (by simp; omega) _
        · skip
          have bz4 : (kind z == 4) = false := by rw [beq_eq_false_iff_ne]; exact c4
          have HN : Hid (anyN [x, y, z] = true ∧ n5B x y z = bits .or .u64 z 2251799813685248 ∧ n5F x y z = nanFlag [x, y, z]) := (by
            have hq : ¬ (zti (kind x) (kind y) = true ∧ kind z = 4) := fun h => c4 h.2
            exact ⟨by simp [anyN, isN, z4], by unfold n5B; rw [if_neg hq]; simp [nanBits, isN, x4, y4, z4], by unfold n5F; rw [if_neg hq]⟩ : _)
          clear hnz x4 y4 z4 kx ky kz
          generalize nanFlag [x, y, z] = NF at *
          generalize kind x = KX at *
          generalize kind y = KY at *
          generalize kind z = KZ at *
          go_wp2_with (first | (go_at_call_of 40 (Value.int .u64 x); refine (HKx.out _).mono ?_; rintro e w' ⟨rfl, rfl⟩) | (go_at_call_of 40 (Value.int .u64 y); refine (HKy.out _).mono ?_; rintro e w' ⟨rfl, rfl⟩) | (go_at_call_of 40 (Value.int .u64 z); refine (HKz.out _).mono ?_; rintro e w' ⟨rfl, rfl⟩))
          refine bodyPost_ret (v := .tuple #[.agg #[.int .u64 (bits .or .u64 z 2251799813685248), .int .i64 (NF), .bool false], .bool true]) (by simp [results, Tryz.results19, go_sem]) rfl ⟨by rw [HN.out.1, HN.out.2.1, HN.out.2.2], ?_⟩
          exact ((((Below.refl _ _).alloc (Nat.le_refl _) _).alloc (by simp) _).alloc (by simp; omega) _).alloc (by simp; omega) _
      · have hfi : fi3 x y z = -1 := by simp [fi3, x4, y4, z4]
        have HN : Hid (anyN [x, y, z] = false ∧ n5B x y z = 0 ∧ n5F x y z = 0) := (by
          have hq : ¬ (zti (kind x) (kind y) = true ∧ kind z = 4) := fun h => by omega
          have hna : anyN [x, y, z] = false := by simp [anyN, isN]; omega
          exact ⟨hna, by unfold n5B; rw [if_neg hq]; simp [nanBits, isN, x4, y4, z4], by unfold n5F; rw [if_neg hq]; exact nanFlag_none hna⟩ : _)
        go_wp2_with fail
        refine bodyPost_ret (v := .tuple #[.agg #[.int .u64 0, .int .i64 0, .bool false], .bool false]) (by simp [results, Tryz.results19, go_sem]) rfl ⟨by rw [HN.out.1, HN.out.2.1, HN.out.2.2], ?_⟩
        exact ((((Below.refl _ _).alloc (Nat.le_refl _) _).alloc (by simp) _).alloc (by simp; omega) _).alloc (by simp; omega) _
end Go.Proofs.YtcjihaafohnbeaaGreatDoor
