import Derived.Test.YtcjihaafohnbeaaGreatDoorRefN1
import Derived.Test.YtcjihaafohnbeaaGreatDoorJRefNan
namespace Go.Proofs.YtcjihaafohnbeaaGreatDoor
open Go.RowKit

set_option maxHeartbeats 400000 in
theorem operands9_any (m x y z : Int) (w : World) :
    Calls Tryz.prog 39 #[.agg #[.int .i64 9, .int .i64 m, .int .u64 x, .int .u64 y, .int .u64 z]] w fun e w' =>
      e = .returned (.slice (some ⟨w.heap.size + 1, 0, none⟩) 2 2) ∧ w' = (w.alloc (.cells #[.int .i64 9, .int .i64 m, .int .u64 x, .int .u64 y, .int .u64 z] 41)).alloc (.cells #[.int .u64 x, .int .u64 y] 25) := by
  go_enter Tryz.func39, Tryz.ntmps39
  go_wp2
  go_ret
  exact ⟨rfl, rfl⟩

set_option maxHeartbeats 1000000 in
theorem nans9_any (m x y z : Int) (hx : 0 ≤ x ∧ x < 18446744073709551616) (hy : 0 ≤ y ∧ y < 18446744073709551616) (hz : 0 ≤ z ∧ z < 18446744073709551616) (w : World) :
    Calls Tryz.prog 19 #[.agg #[.int .i64 9, .int .i64 m, .int .u64 x, .int .u64 y, .int .u64 z]] w fun e w' =>
      e = .returned (.tuple #[.agg #[.int .u64 (n9B x y), .int .i64 (nanFlag [x, y]), .bool false], .bool (anyN [x, y])]) ∧ Below w.heap.size w w' := by
  go_enter Tryz.func19, Tryz.ntmps19
  go_wp2_with (go_at_call 39; refine (operands9_any m x y z _).mono ?_; rintro e w' ⟨rfl, rfl⟩)
  go_loop [5, 6, 7, 8] (fun fs ld i _ => ∃ k : Nat, k ≤ 2 ∧ i = .int .i64 k ∧ fs = .int .i64 (fi x ([x, y].take k)) ∧ ld = .int .i64 (nanFlag ([x, y].take k))) (fun _ _ i _ => 2 - (intOf i).toNat)
  case atStart => exact ⟨0, by omega, rfl, rfl, rfl⟩
  case round =>
    obtain ⟨k, hk, rfl, rfl, rfl⟩ := hrel
    have kx := kind_range x
    have ky := kind_range y
    match k, hk with
    | 0, _ =>
      go_wp2_with (go_at_call 40; refine (refKind_any x hx.1 hx.2 _).mono ?_; rintro e w' ⟨rfl, rfl⟩)
      all_goals
        go_round
        case rel =>
          go_light
          simp only [beq_iff_eq, beq_eq_false_iff_ne, ne_eq] at *
          refine ⟨1, by omega, by go_num, ?_, ?_⟩
          · congr 1; simp [fi, isN, *] <;> (intros; omega)
          · congr 1; simp [nanFlag, isS, *] <;> (intros; omega)
        case measure => simp [intOf]
    | 1, _ =>
      by_cases hx4 : 4 ≤ kind x
      · have hfi : fi x [x] = 0 := by simp [fi, isN, hx4]
        go_wp2_with (go_at_call 40; refine (refKind_any y hy.1 hy.2 _).mono ?_; rintro e w' ⟨rfl, rfl⟩)
        all_goals
          go_round
          case rel =>
            go_light
            simp only [beq_iff_eq, beq_eq_false_iff_ne, ne_eq] at *
            refine ⟨2, by omega, by go_num, ?_, ?_⟩
            · congr 1; simp [fi, isN, *] <;> (intros; omega)
            · congr 1; simp [nanFlag, isS, *] <;> (intros; omega)
          case measure => simp [intOf]
      · have hfi : fi x [x] = -1 := by simp [fi, isN, hx4]
        go_wp2_with (go_at_call 40; refine (refKind_any y hy.1 hy.2 _).mono ?_; rintro e w' ⟨rfl, rfl⟩)
        all_goals
          go_round
          case rel =>
            go_light
            simp only [beq_iff_eq, beq_eq_false_iff_ne, ne_eq] at *
            refine ⟨2, by omega, by go_num, ?_, ?_⟩
            · congr 1; simp [fi, isN, *] <;> (intros; omega)
            · congr 1; simp [nanFlag, isS, *] <;> (intros; omega)
          case measure => simp [intOf]
    | 2, _ =>
      have e2 : ((2 : Nat) : Int) = 2 := rfl
      by_cases hx4 : 4 ≤ kind x
      · have hfi : fi x [x, y] = 0 := by simp [fi, isN, hx4]
        have HN : Hid (anyN [x, y] = true ∧ nanBits [x, y] = bits .or .u64 x 2251799813685248) := ⟨by simp [anyN, isN, hx4], by simp [nanBits, isN, hx4]⟩
        have bx : (kind x == 3) = false := by rw [beq_eq_false_iff_ne]; omega
        by_cases hf : nanFlag [x, y] = 0
        · have bf : (nanFlag [x, y] == 0) = true := by rw [beq_iff_eq]; exact hf
          have HF : Hid (nanFlag [x, y] = 0) := hf
          by_cases h3 : kind y = 3
          · have b3 : (kind y == 3) = true := by rw [beq_iff_eq]; exact h3
            have HV : Hid (n9B x y = 9218868437227405312) := (by unfold n9B; rw [if_pos ⟨HN.out.1, hf, .inr h3⟩] : n9B x y = 9218868437227405312)
            clear hf h3
            go_wp2_with fail
            refine (refKind_any x hx.1 hx.2 _).mono ?_; rintro e w' ⟨rfl, rfl⟩
            go_wp2_with fail
            refine (refKind_any y hy.1 hy.2 _).mono ?_; rintro e w' ⟨rfl, rfl⟩
            go_wp2_with fail
            refine (refKind_any z hz.1 hz.2 _).mono ?_; rintro e w' ⟨rfl, rfl⟩
            generalize kind x = KX at *
            generalize kind y = KY at *
            generalize kind z = KZ at *
            go_wp2_with fail
            refine bodyPost_ret (v := .tuple #[.agg #[.int .u64 9218868437227405312, .int .i64 0, .bool false], .bool true]) (by simp [results, Tryz.results19, go_sem]) rfl ⟨by rw [HN.out.1, HV.out, HF.out], ?_⟩
            exact ((((Below.refl _ _).alloc (Nat.le_refl _) _).alloc (by simp) _).alloc (by simp; omega) _).alloc (by simp; omega) _
          · have b3 : (kind y == 3) = false := by rw [beq_eq_false_iff_ne]; exact h3
            have HV : Hid (n9B x y = bits .or .u64 x 2251799813685248) := (by unfold n9B; rw [if_neg (fun g => by have := g.2.2; omega), HN.out.2] : n9B x y = bits .or .u64 x 2251799813685248)
            clear hf h3 hx4 kx ky
            go_wp2_with fail
            refine (refKind_any x hx.1 hx.2 _).mono ?_; rintro e w' ⟨rfl, rfl⟩
            go_wp2_with fail
            refine (refKind_any y hy.1 hy.2 _).mono ?_; rintro e w' ⟨rfl, rfl⟩
            go_wp2_with fail
            refine (refKind_any z hz.1 hz.2 _).mono ?_; rintro e w' ⟨rfl, rfl⟩
            generalize kind x = KX at *
            generalize kind y = KY at *
            generalize kind z = KZ at *
            go_wp2_with fail
            refine bodyPost_ret (v := .tuple #[.agg #[.int .u64 (bits .or .u64 x 2251799813685248), .int .i64 (nanFlag [x, y]), .bool false], .bool true]) (by simp [results, Tryz.results19, go_sem]) rfl ⟨by rw [HN.out.1, HV.out], ?_⟩
            exact ((((Below.refl _ _).alloc (Nat.le_refl _) _).alloc (by simp) _).alloc (by simp; omega) _).alloc (by simp; omega) _
        · have bf : (nanFlag [x, y] == 0) = false := by rw [beq_eq_false_iff_ne]; exact hf
          have HV : Hid (n9B x y = bits .or .u64 x 2251799813685248) := (by unfold n9B; rw [if_neg (fun g => hf g.2.1), HN.out.2] : n9B x y = bits .or .u64 x 2251799813685248)
          clear hf hx4 kx ky
          go_wp2_with fail
          refine (refKind_any x hx.1 hx.2 _).mono ?_; rintro e w' ⟨rfl, rfl⟩
          go_wp2_with fail
          refine (refKind_any y hy.1 hy.2 _).mono ?_; rintro e w' ⟨rfl, rfl⟩
          go_wp2_with fail
          refine (refKind_any z hz.1 hz.2 _).mono ?_; rintro e w' ⟨rfl, rfl⟩
          generalize kind x = KX at *
          generalize kind y = KY at *
          generalize kind z = KZ at *
          go_wp2_with fail
          refine bodyPost_ret (v := .tuple #[.agg #[.int .u64 (bits .or .u64 x 2251799813685248), .int .i64 (nanFlag [x, y]), .bool false], .bool true]) (by simp [results, Tryz.results19, go_sem]) rfl ⟨by rw [HN.out.1, HV.out], ?_⟩
          exact ((((Below.refl _ _).alloc (Nat.le_refl _) _).alloc (by simp) _).alloc (by simp; omega) _).alloc (by simp; omega) _
      · by_cases hy4 : 4 ≤ kind y
        · have hfi : fi x [x, y] = 1 := by simp [fi, isN, hx4, hy4]
          have HN : Hid (anyN [x, y] = true ∧ nanBits [x, y] = bits .or .u64 y 2251799813685248) := ⟨by simp [anyN, isN, hy4], by simp [nanBits, isN, hx4, hy4]⟩
          have bx : (kind y == 3) = false := by rw [beq_eq_false_iff_ne]; omega
          clear hx4
          by_cases hf : nanFlag [x, y] = 0
          · have bf : (nanFlag [x, y] == 0) = true := by rw [beq_iff_eq]; exact hf
            have HF : Hid (nanFlag [x, y] = 0) := hf
            by_cases h3 : kind x = 3
            · have b3 : (kind x == 3) = true := by rw [beq_iff_eq]; exact h3
              have HV : Hid (n9B x y = 9218868437227405312) := (by unfold n9B; rw [if_pos ⟨HN.out.1, hf, .inl h3⟩] : n9B x y = 9218868437227405312)
              clear hf h3
              go_wp2_with fail
              refine (refKind_any x hx.1 hx.2 _).mono ?_; rintro e w' ⟨rfl, rfl⟩
              go_wp2_with fail
              refine (refKind_any y hy.1 hy.2 _).mono ?_; rintro e w' ⟨rfl, rfl⟩
              go_wp2_with fail
              refine (refKind_any z hz.1 hz.2 _).mono ?_; rintro e w' ⟨rfl, rfl⟩
              generalize kind x = KX at *
              generalize kind y = KY at *
              generalize kind z = KZ at *
              go_wp2_with fail
              refine bodyPost_ret (v := .tuple #[.agg #[.int .u64 9218868437227405312, .int .i64 0, .bool false], .bool true]) (by simp [results, Tryz.results19, go_sem]) rfl ⟨by rw [HN.out.1, HV.out, HF.out], ?_⟩
              exact ((((Below.refl _ _).alloc (Nat.le_refl _) _).alloc (by simp) _).alloc (by simp; omega) _).alloc (by simp; omega) _
            · have b3 : (kind x == 3) = false := by rw [beq_eq_false_iff_ne]; exact h3
              have HV : Hid (n9B x y = bits .or .u64 y 2251799813685248) := (by unfold n9B; rw [if_neg (fun g => by have := g.2.2; omega), HN.out.2] : n9B x y = bits .or .u64 y 2251799813685248)
              clear hf h3 hy4 kx ky
              go_wp2_with fail
              refine (refKind_any x hx.1 hx.2 _).mono ?_; rintro e w' ⟨rfl, rfl⟩
              go_wp2_with fail
              refine (refKind_any y hy.1 hy.2 _).mono ?_; rintro e w' ⟨rfl, rfl⟩
              go_wp2_with fail
              refine (refKind_any z hz.1 hz.2 _).mono ?_; rintro e w' ⟨rfl, rfl⟩
              generalize kind x = KX at *
              generalize kind y = KY at *
              generalize kind z = KZ at *
              go_wp2_with fail
              refine bodyPost_ret (v := .tuple #[.agg #[.int .u64 (bits .or .u64 y 2251799813685248), .int .i64 (nanFlag [x, y]), .bool false], .bool true]) (by simp [results, Tryz.results19, go_sem]) rfl ⟨by rw [HN.out.1, HV.out], ?_⟩
              exact ((((Below.refl _ _).alloc (Nat.le_refl _) _).alloc (by simp) _).alloc (by simp; omega) _).alloc (by simp; omega) _
          · have bf : (nanFlag [x, y] == 0) = false := by rw [beq_eq_false_iff_ne]; exact hf
            have HV : Hid (n9B x y = bits .or .u64 y 2251799813685248) := (by unfold n9B; rw [if_neg (fun g => hf g.2.1), HN.out.2] : n9B x y = bits .or .u64 y 2251799813685248)
            clear hf hy4 kx ky
            go_wp2_with fail
            refine (refKind_any x hx.1 hx.2 _).mono ?_; rintro e w' ⟨rfl, rfl⟩
            go_wp2_with fail
            refine (refKind_any y hy.1 hy.2 _).mono ?_; rintro e w' ⟨rfl, rfl⟩
            go_wp2_with fail
            refine (refKind_any z hz.1 hz.2 _).mono ?_; rintro e w' ⟨rfl, rfl⟩
            generalize kind x = KX at *
            generalize kind y = KY at *
            generalize kind z = KZ at *
            go_wp2_with fail
            refine bodyPost_ret (v := .tuple #[.agg #[.int .u64 (bits .or .u64 y 2251799813685248), .int .i64 (nanFlag [x, y]), .bool false], .bool true]) (by simp [results, Tryz.results19, go_sem]) rfl ⟨by rw [HN.out.1, HV.out], ?_⟩
            exact ((((Below.refl _ _).alloc (Nat.le_refl _) _).alloc (by simp) _).alloc (by simp; omega) _).alloc (by simp; omega) _
        · have hfi : fi x [x, y] = -1 := by simp [fi, isN, hx4, hy4]
          have hna : anyN [x, y] = false := by simp [anyN, isN]; omega
          have HN : Hid (anyN [x, y] = false ∧ n9B x y = 0 ∧ nanFlag [x, y] = 0) := ⟨hna, by unfold n9B; rw [if_neg (fun g => by rw [hna] at g; exact absurd g.1 (by decide))]; simp [nanBits, isN, hx4, hy4], nanFlag_none hna⟩
          clear hna
          go_wp2_with fail
          refine bodyPost_ret (v := .tuple #[.agg #[.int .u64 0, .int .i64 0, .bool false], .bool false]) (by simp [results, Tryz.results19, go_sem]) rfl ⟨by rw [HN.out.1, HN.out.2.1, HN.out.2.2], ?_⟩
          exact ((((Below.refl _ _).alloc (Nat.le_refl _) _).alloc (by simp) _).alloc (by simp; omega) _).alloc (by simp; omega) _
end Go.Proofs.YtcjihaafohnbeaaGreatDoor
