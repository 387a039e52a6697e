import Derived.Test.YtcjihaafohnbeaaGreatDoorNan
import Derived.Deep.Light
import Derived.Deep.Cut
import Derived.Deep.CutRange
namespace Go.Proofs.YtcjihaafohnbeaaGreatDoor
open Go.RowKit

set_option maxHeartbeats 400000 in
theorem operands2_any (op m x y z : Int) (h : 1 ≤ op ∧ op ≤ 4) (w : World) :
    Calls Tryz.prog 39 #[.agg #[.int .i64 op, .int .i64 m, .int .u64 x, .int .u64 y, .int .u64 z]] w fun e w' =>
      e = .returned (.slice (some ⟨w.heap.size + 1, 0, none⟩) 2 2) ∧ w' = (w.alloc (.cells #[.int .i64 op, .int .i64 m, .int .u64 x, .int .u64 y, .int .u64 z] 41)).alloc (.cells #[.int .u64 x, .int .u64 y] 25) := by
  obtain ⟨h1, h2⟩ := h
  have e5 : (op == 5) = false := by simp; omega
  have e6 : (op == 6) = false := by simp; omega
  have e7 : (op == 7) = false := by simp; omega
  have e8 : (op == 8) = false := by simp; omega
  go_enter Tryz.func39, Tryz.ntmps39
  go_wp2
  go_ret
  exact ⟨rfl, rfl⟩

def anyN (l : List Int) : Bool := l.any isN
theorem nanFlag_none {l : List Int} (h : anyN l = false) : nanFlag l = 0 := by
  unfold nanFlag
  rw [if_neg]
  intro hs
  obtain ⟨a, ha, h5⟩ := List.any_eq_true.1 hs
  have := List.any_eq_false.1 h a ha
  simp [isS, isN] at this h5
  omega
def fi (x : Int) (l : List Int) : Int := if l.any isN then (if isN x then 0 else 1) else -1

set_option maxHeartbeats 1000000 in
theorem nans2_any (op m x y z : Int) (h : 1 ≤ op ∧ op ≤ 4) (hx : 0 ≤ x ∧ x < 18446744073709551616) (hy : 0 ≤ y ∧ y < 18446744073709551616) (hz : 0 ≤ z ∧ z < 18446744073709551616) (w : World) :
    Calls Tryz.prog 19 #[.agg #[.int .i64 op, .int .i64 m, .int .u64 x, .int .u64 y, .int .u64 z]] w fun e w' =>
      e = .returned (.tuple #[.agg #[.int .u64 (nanBits [x, y]), .int .i64 (nanFlag [x, y]), .bool false], .bool (anyN [x, y])]) ∧ Below w.heap.size w w' := by
  obtain ⟨h1, h2⟩ := h
  have e5 : (op == 5) = false := by simp; omega
  have e9 : (op == 9) = false := by simp; omega
  go_enter Tryz.func19, Tryz.ntmps19
  go_wp2_with (go_at_call 39; refine (operands2_any op m x y z ⟨h1, h2⟩ _).mono ?_; rintro e w' ⟨rfl, rfl⟩)
  go_loop [5, 6, 7, 8] (fun fs ld i _ => ∃ k : Nat, k ≤ 2 ∧ i = .int .i64 k ∧ fs = .int .i64 (fi x ([x, y].take k)) ∧ ld = .int .i64 (nanFlag ([x, y].take k))) (fun _ _ i _ => 2 - (intOf i).toNat)
  case atStart => exact ⟨0, by omega, rfl, rfl, rfl⟩
  case round =>
    obtain ⟨k, hk, rfl, rfl, rfl⟩ := hrel
    have kx := kind_range x
    have ky := kind_range y
    match k, hk with
    | 0, _ =>
      go_wp2_with (go_at_call 40; refine (refKind_any x hx.1 hx.2 _).mono ?_; rintro e w' ⟨rfl, rfl⟩)
      all_goals
        go_round
        case rel =>
          go_light
          simp only [beq_iff_eq, beq_eq_false_iff_ne, ne_eq] at *
          refine ⟨1, by omega, by go_num, ?_, ?_⟩
          · congr 1; simp [fi, isN, *] <;> (intros; omega)
          · congr 1; simp [nanFlag, isS, *] <;> (intros; omega)
        case measure => simp [intOf]
    | 1, _ =>
      by_cases hx4 : 4 ≤ kind x
      · have hfi : fi x [x] = 0 := by simp [fi, isN, hx4]
        go_wp2_with (go_at_call 40; refine (refKind_any y hy.1 hy.2 _).mono ?_; rintro e w' ⟨rfl, rfl⟩)
        all_goals
          go_round
          case rel =>
            go_light
            simp only [beq_iff_eq, beq_eq_false_iff_ne, ne_eq] at *
            refine ⟨2, by omega, by go_num, ?_, ?_⟩
            · congr 1; simp [fi, isN, *] <;> (intros; omega)
            · congr 1; simp [nanFlag, isS, *] <;> (intros; omega)
          case measure => simp [intOf]
      · have hfi : fi x [x] = -1 := by simp [fi, isN, hx4]
        go_wp2_with (go_at_call 40; refine (refKind_any y hy.1 hy.2 _).mono ?_; rintro e w' ⟨rfl, rfl⟩)
        all_goals
          go_round
          case rel =>
            go_light
            simp only [beq_iff_eq, beq_eq_false_iff_ne, ne_eq] at *
            refine ⟨2, by omega, by go_num, ?_, ?_⟩
            · congr 1; simp [fi, isN, *] <;> (intros; omega)
            · congr 1; simp [nanFlag, isS, *] <;> (intros; omega)
          case measure => simp [intOf]
    | 2, _ =>
      have e2 : ((2 : Nat) : Int) = 2 := rfl
      by_cases hx4 : 4 ≤ kind x
      · have hfi : fi x [x, y] = 0 := by simp [fi, isN, hx4]
        have HN : Hid (anyN [x, y] = true ∧ nanBits [x, y] = bits .or .u64 x 2251799813685248) := ⟨by simp [anyN, isN, hx4], by simp [nanBits, isN, hx4]⟩
        clear hx4 kx ky
        go_wp2_with fail
        refine (refKind_any x hx.1 hx.2 _).mono ?_; rintro e w' ⟨rfl, rfl⟩
        go_wp2_with fail
        refine (refKind_any y hy.1 hy.2 _).mono ?_; rintro e w' ⟨rfl, rfl⟩
        go_wp2_with fail
        refine (refKind_any z hz.1 hz.2 _).mono ?_; rintro e w' ⟨rfl, rfl⟩
        generalize kind x = KX at *
        generalize kind y = KY at *
        generalize kind z = KZ at *
        go_wp2_with fail
        refine bodyPost_ret (v := .tuple #[.agg #[.int .u64 (bits .or .u64 x 2251799813685248), .int .i64 (nanFlag [x, y]), .bool false], .bool true]) (by simp [results, Tryz.results19, go_sem]) rfl ⟨by rw [HN.out.1, HN.out.2], ?_⟩
        exact ((((Below.refl _ _).alloc (Nat.le_refl _) _).alloc (by simp) _).alloc (by simp; omega) _).alloc (by simp; omega) _
      · by_cases hy4 : 4 ≤ kind y
        · have hfi : fi x [x, y] = 1 := by simp [fi, isN, hx4, hy4]
          have HN : Hid (anyN [x, y] = true ∧ nanBits [x, y] = bits .or .u64 y 2251799813685248) := ⟨by simp [anyN, isN, hy4], by simp [nanBits, isN, hx4, hy4]⟩
          clear hx4 hy4 kx ky
          go_wp2_with fail
          refine (refKind_any x hx.1 hx.2 _).mono ?_; rintro e w' ⟨rfl, rfl⟩
          go_wp2_with fail
          refine (refKind_any y hy.1 hy.2 _).mono ?_; rintro e w' ⟨rfl, rfl⟩
          go_wp2_with fail
          refine (refKind_any z hz.1 hz.2 _).mono ?_; rintro e w' ⟨rfl, rfl⟩
          generalize kind x = KX at *
          generalize kind y = KY at *
          generalize kind z = KZ at *
          go_wp2_with fail
          refine bodyPost_ret (v := .tuple #[.agg #[.int .u64 (bits .or .u64 y 2251799813685248), .int .i64 (nanFlag [x, y]), .bool false], .bool true]) (by simp [results, Tryz.results19, go_sem]) rfl ⟨by rw [HN.out.1, HN.out.2], ?_⟩
          exact ((((Below.refl _ _).alloc (Nat.le_refl _) _).alloc (by simp) _).alloc (by simp; omega) _).alloc (by simp; omega) _
        · have hfi : fi x [x, y] = -1 := by simp [fi, isN, hx4, hy4]
          have hna : anyN [x, y] = false := by simp [anyN, isN]; omega
          have HN : Hid (anyN [x, y] = false ∧ nanBits [x, y] = 0 ∧ nanFlag [x, y] = 0) := ⟨hna, by simp [nanBits, isN, hx4, hy4], nanFlag_none hna⟩
          clear hna
          go_wp2_with fail
          refine bodyPost_ret (v := .tuple #[.agg #[.int .u64 0, .int .i64 0, .bool false], .bool false]) (by simp [results, Tryz.results19, go_sem]) rfl ⟨by rw [HN.out.1, HN.out.2.1, HN.out.2.2], ?_⟩
          exact ((((Below.refl _ _).alloc (Nat.le_refl _) _).alloc (by simp) _).alloc (by simp; omega) _).alloc (by simp; omega) _
end Go.Proofs.YtcjihaafohnbeaaGreatDoor
