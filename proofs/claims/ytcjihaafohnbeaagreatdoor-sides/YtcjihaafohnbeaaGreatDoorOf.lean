import Derived.Test.YtcjihaafohnbeaaGreatDoorLaw2
import Derived.Test.YtcjihaafohnbeaaGreatDoorScript
namespace Go.Proofs.YtcjihaafohnbeaaGreatDoor
open Go.RowKit

set_option maxHeartbeats 1000000 in
/-- 'of' answers true, if 'done' does for each record that it comes to. -/
theorem of_any (a0 : Option Addr) (b off len cap : Nat) (lo hi : Int) (w : World) (ha : 0 < len → a0 = some ⟨b, off, none⟩) (hb : 0 < len → b < w.heap.size)
    (hstep : ∀ i, i < len → ∃ k a op m x y z la ln lc, StepAt w b (off + i * 8) k a op m x y z la ln lc)
    (hdone : ∀ op m x y z : Int, lo ≤ op % 256 → op % 256 ≤ hi → 0 ≤ x ∧ x < 18446744073709551616 → 0 ≤ y ∧ y < 18446744073709551616 → 0 ≤ z ∧ z < 18446744073709551616 → ∀ w1, Below w.heap.size w w1 →
      Calls Tryz.prog 11 #[.agg #[.int .i64 op, .int .i64 m, .int .u64 x, .int .u64 y, .int .u64 z]] w1 fun e w' => e = .returned (.bool true) ∧ Below w1.heap.size w1 w') :
    Calls Tryz.prog 10 #[.slice a0 len cap, .int .i64 lo, .int .i64 hi] w fun e w' => e = .returned (.bool true) ∧ Below w.heap.size w w' := by
  have HD : Hid (∀ op m x y z : Int, lo ≤ op % 256 → op % 256 ≤ hi → 0 ≤ x ∧ x < 18446744073709551616 → 0 ≤ y ∧ y < 18446744073709551616 → 0 ≤ z ∧ z < 18446744073709551616 → ∀ w1, Below w.heap.size w w1 →
      Calls Tryz.prog 11 #[.agg #[.int .i64 op, .int .i64 m, .int .u64 x, .int .u64 y, .int .u64 z]] w1 fun e w' => e = .returned (.bool true) ∧ Below w1.heap.size w1 w') := hdone
  clear hdone
  have HSt : Hid (∀ i, i < len → ∃ k a op m x y z la ln lc, StepAt w b (off + i * 8) k a op m x y z la ln lc) := hstep
  clear hstep
  go_enter Tryz.func10, Tryz.ntmps10
  go_wp2
  go_loopw [7, 8, 9, 10] (fun i _ _ _ wr => ∃ k : Nat, k ≤ len ∧ i = .int .i64 k ∧ Below w.heap.size w wr) (fun i _ _ _ _ => len - (intOf i).toNat)
  case atStart => exact ⟨0, Nat.zero_le _, rfl, Below.refl _ _⟩
  case round =>
    obtain ⟨k, hk, rfl, hbel⟩ := hrel
    have HB : Hid (Below w.heap.size w wr) := hbel
    by_cases hlt : k < len
    · obtain ⟨kk, aa, op, m, x, y, z, la, ln, lc, hst⟩ := HSt.out k hlt
      have hbb := hb (by omega)
      have := ha (by omega)
      subst this
      have c0 := (hbel.cell (p := ⟨b, off + k * 8, none⟩) hbb).trans hst.c0
      have c1 := (hbel.cell (p := ⟨b, off + k * 8 + 1, none⟩) hbb).trans hst.c1
      have c2 := (hbel.cell (p := ⟨b, off + k * 8 + 2, none⟩) hbb).trans hst.c2
      have c3 := (hbel.cell (p := ⟨b, off + k * 8 + 3, none⟩) hbb).trans hst.c3
      have c4 := (hbel.cell (p := ⟨b, off + k * 8 + 4, none⟩) hbb).trans hst.c4
      have c5 := (hbel.cell (p := ⟨b, off + k * 8 + 5, none⟩) hbb).trans hst.c5
      have c6 := (hbel.cell (p := ⟨b, off + k * 8 + 6, none⟩) hbb).trans hst.c6
      have c7 := (hbel.cell (p := ⟨b, off + k * 8 + 7, none⟩) hbb).trans hst.c7
      have hwrap := wrap64_small (op % 256) (by omega) (by omega)
      have HST : Hid (StepAt w b (off + k * 8) kk aa op m x y z la ln lc) := hst
      clear hst hbel
      by_cases h60 : (k : Int) < 1152921504606846976
      · by_cases h2 : kk = 2
        · by_cases h3 : lo ≤ op % 256
          · by_cases h4 : op % 256 ≤ hi
            · go_wp2_with fail
              refine (HD.out op m x y z h3 h4 HST.out.rx HST.out.ry HST.out.rz _ (HB.out.alloc HB.out.size _)).mono ?_
              rintro e w1 ⟨rfl, hb1⟩
              have HB1 : Hid (Below w.heap.size w w1) := (HB.out.alloc HB.out.size _).trans (hb1.mono (by have := HB.out.size; simp; omega))
              clear hb1 c0 c1 c2 c3 c4 c5 c6 c7
              go_wp2_with fail
              go_roundw
              case rel => exact ⟨k + 1, by omega, by go_num, HB1.out⟩
              case measure => simp [intOf]; omega
            · go_wp2_with fail
              go_roundw
              case rel => exact ⟨k + 1, by omega, by go_num, HB.out.alloc HB.out.size _⟩
              case measure => simp [intOf]; omega
          · go_wp2_with fail
            go_roundw
            case rel => exact ⟨k + 1, by omega, by go_num, HB.out.alloc HB.out.size _⟩
            case measure => simp [intOf]; omega
        · have h2' : (kk == 2) = false := by simp [h2]
          go_wp2_with fail
          go_roundw
          case rel => exact ⟨k + 1, by omega, by go_num, HB.out.alloc HB.out.size _⟩
          case measure => simp [intOf]; omega
      · clear c0 c1 c2 c3 c4 c5 c6 c7
        go_wp2
        go_ret
        exact ⟨rfl, HB.out⟩
    · go_wp2
      go_ret
      exact ⟨rfl, HB.out⟩
end Go.Proofs.YtcjihaafohnbeaaGreatDoor
