import Derived.Test.YtcjihaafohnbeaaDoorCells
namespace Go.Proofs.YtcjihaafohnbeaaDoor.W2
open Go.RowKit

set_option maxHeartbeats 400000 in
theorem word_any (D : Nat) (hD : D < 18446744073709551616 ^ 2) (i : Int) (w : World) :
    Calls Tryd.prog 87 #[.agg #[.int .u64 (wd D 0), .int .u64 (wd D 1)], .int .i64 i] w fun e w' => e = .returned (.int .u64 (wdI D i)) ∧ w' = w.alloc (.cells #[.int .u64 (wd D 0), .int .u64 (wd D 1)] 57) := by
  by_cases h0 : i = 0
  · have HW : Hid (wdI D i = wd D 0) := (by rw [h0]; exact wdI_nat D 0 : wdI D i = wd D 0)
    clear hD
    subst h0
    go_enter Tryd.func87, Tryd.ntmps87
    go_wp2
    go_ret
    exact ⟨by rw [HW.out]; rfl, rfl⟩
  by_cases h1 : i = 1
  · have HW : Hid (wdI D i = wd D 1) := (by rw [h1]; exact wdI_nat D 1 : wdI D i = wd D 1)
    clear hD
    subst h1
    go_enter Tryd.func87, Tryd.ntmps87
    go_wp2
    go_ret
    exact ⟨by rw [HW.out]; rfl, rfl⟩
  by_cases hn : i < 0
  · have HW : Hid (wdI D i = 0) := wdI_neg D hn
    clear hD
    go_enter Tryd.func87, Tryd.ntmps87
    go_wp2
    go_ret
    exact ⟨by rw [HW.out]; rfl, rfl⟩
  · have hp : 2 ≤ i := by omega
    have HW : Hid (wdI D i = 0) := (by unfold wdI; rw [if_neg hn, wd_high i.toNat hD (by omega)]; rfl : wdI D i = 0)
    clear hD
    go_enter Tryd.func87, Tryd.ntmps87
    go_wp2
    go_ret
    exact ⟨by rw [HW.out]; rfl, rfl⟩

set_option maxHeartbeats 2000000 in
theorem left_any (D : Nat) (hD : D < 18446744073709551616 ^ 2) (n : Int) (h0 : 0 ≤ n) (h1 : n < 18446744073709551616) (w : World) :
    Calls Tryd.prog 77 #[.agg #[.int .u64 (wd D 0), .int .u64 (wd D 1)], .int .u64 n] w fun e w' => e = .returned (.agg #[.int .u64 (wd (D * 2 ^ n.toNat) 0), .int .u64 (wd (D * 2 ^ n.toNat) 1)]) ∧ Below w.heap.size w w' := by
  have HD : Hid (D < 18446744073709551616 ^ 2) := hD
  clear hD
  have hw := wrap64_small (n / 64) (by omega) (by omega)
  have E0 : Hid (bits .or .u64 (IntKind.u64.wrap (wdI D (-(n / 64)) * 2 ^ (n % 64).toNat)) (wdI D (-(n / 64) - 1) / 2 ^ min (64 - n % 64).toNat 64) = (wd (D * 2 ^ n.toNat) 0 : Int)) := left_w0 D n h0
  have E1 : Hid (bits .or .u64 (IntKind.u64.wrap (wdI D (1 - n / 64) * 2 ^ (n % 64).toNat)) (wdI D (1 - n / 64 - 1) / 2 ^ min (64 - n % 64).toNat 64) = (wd (D * 2 ^ n.toNat) 1 : Int)) := left_w D 1 n h0
  generalize wd (D * 2 ^ n.toNat) 0 = R0 at *
  generalize wd (D * 2 ^ n.toNat) 1 = R1 at *
  go_enter Tryd.func77, Tryd.ntmps77
  go_wp2
  go_loopw [8] (fun i wr => ∃ k : Nat, k ≤ 2 ∧ i = .int .i64 k ∧ Laying w [.int .u64 (wd D 0), .int .u64 (wd D 1)] [.int .u64 0, .int .u64 0] [.int .u64 (if 1 ≤ k then (R0 : Int) else 0), .int .u64 (if 2 ≤ k then (R1 : Int) else 0)] wr) (fun i _ => 2 - (intOf i).toNat)
  case atStart => exact ⟨0, by omega, rfl, Laying.start _ _ _ _ _ _ _ (by simp) (by simp) (by simp)⟩
  case round =>
    obtain ⟨k, hk, rfl, hl⟩ := hrel
    have x0 := hl.x.cells 0 _ rfl
    have x1 := hl.x.cells 1 _ rfl
    have z2 := hl.size
    have z0 : w.heap.size < wr.heap.size := by omega
    have z1 : w.heap.size + 1 < wr.heap.size := by omega
    match k, hk with
    | 0, _ =>
      have HL : Hid (Laying w [.int .u64 (wd D 0), .int .u64 (wd D 1)] [.int .u64 0, .int .u64 0] [.int .u64 0, .int .u64 0] wr) := hl
      have o0 := HL.out.o.cells 0 _ rfl
      have p0 := HL.out.o.live 0 _ rfl
      clear hl
      go_wp2_with fail
      go_region_held3 (fun w' => w'.cell? ⟨w.heap.size, 0, none⟩ = some (.int .u64 (wd D 0)) ∧ w'.cell? ⟨w.heap.size, 1, none⟩ = some (.int .u64 (wd D 1))) (first | (go_keep; done) | (exact ⟨(HL.out.x.keepX (by omega)).cells 0 _ rfl, (HL.out.x.keepX (by omega)).cells 1 _ rfl⟩)) ((go_at_call 87; refine (word_any D HD.out _ _).mono ?_; rintro e w' ⟨rfl, rfl⟩))
      all_goals (try go_wp2_with fail)
      all_goals
        go_roundw
        case rel =>
          go_light
          exact ⟨1, by omega, by go_num, (((by rw [E0.out]; exact HL.out.setO 0 _ rfl (by simp) : Laying w _ _ _ _).alloc _).alloc _).drew⟩
        case measure => simp [intOf]
    | 1, _ =>
      have HL : Hid (Laying w [.int .u64 (wd D 0), .int .u64 (wd D 1)] [.int .u64 0, .int .u64 0] [.int .u64 R0, .int .u64 0] wr) := hl
      have o0 := HL.out.o.cells 1 _ rfl
      have p0 := HL.out.o.live 1 _ rfl
      clear hl
      go_wp2_with fail
      go_region_held3 (fun w' => w'.cell? ⟨w.heap.size, 0, none⟩ = some (.int .u64 (wd D 0)) ∧ w'.cell? ⟨w.heap.size, 1, none⟩ = some (.int .u64 (wd D 1))) (first | (go_keep; done) | (exact ⟨(HL.out.x.keepX (by omega)).cells 0 _ rfl, (HL.out.x.keepX (by omega)).cells 1 _ rfl⟩)) ((go_at_call 87; refine (word_any D HD.out _ _).mono ?_; rintro e w' ⟨rfl, rfl⟩))
      all_goals (try go_wp2_with fail)
      all_goals
        go_roundw
        case rel =>
          go_light
          exact ⟨2, by omega, by go_num, (((by rw [E1.out]; exact HL.out.setO 1 _ rfl (by simp) : Laying w _ _ _ _).alloc _).alloc _).drew⟩
        case measure => simp [intOf]
    | 2, _ =>
      have HL : Hid (Laying w [.int .u64 (wd D 0), .int .u64 (wd D 1)] [.int .u64 0, .int .u64 0] [.int .u64 R0, .int .u64 R1] wr) := hl
      have e2 : ((2 : Nat) : Int) = 2 := rfl
      have o0 := HL.out.o.cells 0 _ rfl
      have o1 := HL.out.o.cells 1 _ rfl
      have r0 := HL.out.r.cells 0 _ rfl
      have r1 := HL.out.r.cells 1 _ rfl
      have q0 := HL.out.r.live 0 _ rfl
      have q1 := HL.out.r.live 1 _ rfl
      clear hl
      go_wp2_with fail
      refine bodyPost_ret (v := .agg #[.int .u64 R0, .int .u64 R1]) (by simp [results, Tryd.results77, go_sem, *]) rfl ⟨rfl, ?_⟩
      exact ((HL.out.below.setCell (by simp) _).setCell (by simp) _)
end Go.Proofs.YtcjihaafohnbeaaDoor.W2
