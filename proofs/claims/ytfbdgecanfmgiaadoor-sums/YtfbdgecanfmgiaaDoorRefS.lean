import Derived.Test.YtfbdgecanfmgiaaDoorRefR
import Derived.Test.YtfbdgecanfmgiaaDoorRefO
namespace Go.Proofs.YtfbdgecanfmgiaaDoor
open Go.RowKit

/-- What the document's answer makes of the sum of two finite numbers. -/
def adB (n1 : Bool) (D1 : Nat) (n2 : Bool) (D2 : Nat) (G : Bool) (D : Nat) (q m : Int) : Int :=
  if D ≠ 0 then roundB (sOf G) D q m else if D1 = 0 ∧ D2 = 0 ∧ n1 = n2 then sOf n1 * 9223372036854775808 else sOf (m == 4) * 9223372036854775808
def adF (G : Bool) (D : Nat) (q m : Int) : Int := if D ≠ 0 then roundF (sOf G) D q m else 0

set_option maxRecDepth 10000 in
set_option maxHeartbeats 2000000 in
theorem added_some (n1 n2 G : Bool) (a1 a2 : Option Addr) (l1 c1 l2 c2 D : Nat) (p1 p2 q m : Int) (w : World) (hD : D ≠ 0) (hd : nd D ≤ 1000) (hq : -10000 ≤ q ∧ q ≤ 10000) (hm : 0 ≤ m ∧ m ≤ 4)
    (HS : Hid (∀ w1, Below w.heap.size w w1 → Calls Tryd.prog 44 #[.agg #[.bool n1, .slice a1 l1 c1, .int .i64 p1], .agg #[.bool n2, .slice a2 l2 c2, .int .i64 p2]] w1 fun e w' => ∃ a len cap, e = .returned (.agg #[.bool G, .slice a len cap, .int .i64 q]) ∧ IsNat w' (.slice a len cap) D ∧ Below w1.heap.size w1 w')) :
    Calls Tryd.prog 38 #[.agg #[.bool n1, .slice a1 l1 c1, .int .i64 p1], .agg #[.bool n2, .slice a2 l2 c2, .int .i64 p2], .int .i64 m] w fun e w' => e = .returned (.agg #[.int .u64 (roundB (sOf G) D q m), .int .i64 (roundF (sOf G) D q m), .bool false]) ∧ Below w.heap.size w w' := by
  have E0 : Hid (EmptyR (((w.alloc (.cells #[.bool n1, .slice a1 l1 c1, .int .i64 p1] 68)).alloc (.cells #[.bool n2, .slice a2 l2 c2, .int .i64 p2] 68)).alloc (.cells #[.int .u64 0, .int .i64 0, .bool false] 46)) (w.heap.size + 2)) := ⟨by simp, by go_simp, by go_simp, by go_simp, by go_simp, by go_simp, by go_simp⟩
  have B0 : Hid (Below w.heap.size w (((w.alloc (.cells #[.bool n1, .slice a1 l1 c1, .int .i64 p1] 68)).alloc (.cells #[.bool n2, .slice a2 l2 c2, .int .i64 p2] 68)).alloc (.cells #[.int .u64 0, .int .i64 0, .bool false] 46))) := (((Below.refl _ _).alloc (Nat.le_refl _) _).alloc (by simp) _).alloc (by simp; omega) _
  have HND : Hid (0 < nd D) := nd_pos hD
  have HRO : Hid (∀ w1 a len cap, IsNat w1 (.slice a len cap) D → Calls Tryd.prog 58 #[.agg #[.bool G, .slice a len cap, .int .i64 q], .int .i64 m] w1 fun e w' => e = .returned (.tuple #[.int .u64 (roundB (sOf G) D q m), .int .i64 (roundF (sOf G) D q m)]) ∧ Below w1.heap.size w1 w') := fun w1 a len cap h1 => round_ref G D q m a len cap w1 h1 hD hd hq hm
  clear hD hd hq hm
  generalize roundB (sOf G) D q m = RB at *
  generalize roundF (sOf G) D q m = RF at *
  go_enter Tryd.func38, Tryd.ntmps38
  go_wp2_with fail
  refine (HS.out _ B0.out).mono ?_
  rintro e w1 ⟨a, len, cap, rfl, hv, hb⟩
  have HV : Hid (IsNat w1 (.slice a len cap) D) := hv
  have E1 : Hid (EmptyR w1 (w.heap.size + 2)) := E0.out.later hb
  have B1 : Hid (Below w.heap.size w w1) := B0.out.trans (hb.mono B0.out.size)
  have hlen : 0 < len := by
    obtain ⟨a', len', cap', g', he, hl, -, -⟩ := hv.slice
    cases he
    rw [hl]
    exact HND.out
  have hlen' : (0 : Int) < (len : Int) := by omega
  clear hv hb
  go_wp2_with fail
  refine (finite_of G a len cap q m RB RF _ (fun w4 hb4 => ?fin)).mono ?_
  case fin => exact HRO.out w4 a len cap ((HV.out.later ((Below.refl _ _).alloc (Nat.le_refl _) _)).later hb4)
  rintro e w5 ⟨rfl, hb5⟩
  have V1a := B1.out.alloc B1.out.size (.cells #[.bool G, .slice a len cap, .int .i64 q] 68)
  have V5 : Hid (Below w.heap.size w w5) := V1a.trans (hb5.mono V1a.size)
  obtain ⟨k0, k1, k2, k3, k4, k5, k6⟩ := (E1.out.later ((Below.refl _ _).alloc (Nat.le_refl _) _)).later hb5
  clear hb5 V1a
  go_wp2_with fail
  refine bodyPost_ret (v := .agg #[.int .u64 RB, .int .i64 RF, .bool false]) (by simp [results, Tryd.results38, go_sem, k1, k2, k3]) rfl ⟨rfl, ?_⟩
  repeat (first | exact V5.out | refine Below.setCell ?_ (by simp; omega) _)

set_option maxRecDepth 10000 in
set_option maxHeartbeats 2000000 in
theorem added_none (n1 n2 G : Bool) (a1 a2 : Option Addr) (l1 c1 l2 c2 : Nat) (p1 p2 q m : Int) (w : World)
    (HS : Hid (∀ w1, Below w.heap.size w w1 → Calls Tryd.prog 44 #[.agg #[.bool n1, .slice a1 l1 c1, .int .i64 p1], .agg #[.bool n2, .slice a2 l2 c2, .int .i64 p2]] w1 fun e w' => ∃ a len cap, e = .returned (.agg #[.bool G, .slice a len cap, .int .i64 q]) ∧ IsNat w' (.slice a len cap) 0 ∧ Below w1.heap.size w1 w')) :
    Calls Tryd.prog 38 #[.agg #[.bool n1, .slice a1 l1 c1, .int .i64 p1], .agg #[.bool n2, .slice a2 l2 c2, .int .i64 p2], .int .i64 m] w fun e w' => e = .returned (.agg #[.int .u64 (sOf (if l1 = 0 ∧ l2 = 0 ∧ n1 = n2 then n1 else (m == 4)) * 9223372036854775808), .int .i64 0, .bool false]) ∧ Below w.heap.size w w' := by
  have E0 : Hid (EmptyR (((w.alloc (.cells #[.bool n1, .slice a1 l1 c1, .int .i64 p1] 68)).alloc (.cells #[.bool n2, .slice a2 l2 c2, .int .i64 p2] 68)).alloc (.cells #[.int .u64 0, .int .i64 0, .bool false] 46)) (w.heap.size + 2)) := ⟨by simp, by go_simp, by go_simp, by go_simp, by go_simp, by go_simp, by go_simp⟩
  have B0 : Hid (Below w.heap.size w (((w.alloc (.cells #[.bool n1, .slice a1 l1 c1, .int .i64 p1] 68)).alloc (.cells #[.bool n2, .slice a2 l2 c2, .int .i64 p2] 68)).alloc (.cells #[.int .u64 0, .int .i64 0, .bool false] 46))) := (((Below.refl _ _).alloc (Nat.le_refl _) _).alloc (by simp) _).alloc (by simp; omega) _
  have HEQ : Hid (∀ b : Bool, (if l1 = 0 ∧ l2 = 0 ∧ n1 = n2 then n1 else (m == 4)) = b → Ending.returned (.agg #[.int .u64 (sOf b * 9223372036854775808), .int .i64 0, .bool false]) = Ending.returned (.agg #[.int .u64 (sOf (if l1 = 0 ∧ l2 = 0 ∧ n1 = n2 then n1 else (m == 4)) * 9223372036854775808), .int .i64 0, .bool false])) := fun b h => by rw [h]
  generalize hb4 : (m == 4) = b4 at *
  go_enter Tryd.func38, Tryd.ntmps38
  go_wp2_with fail
  refine (HS.out _ B0.out).mono ?_
  rintro e w1 ⟨a, len, cap, rfl, hv, hb⟩
  have x0 : w1.cell? ⟨w.heap.size, 0, none⟩ = some (.bool n1) := (hb.cell (p := ⟨w.heap.size, 0, none⟩) (by simp; omega)).trans (by go_simp)
  have x1 : w1.cell? ⟨w.heap.size, 1, none⟩ = some (.slice a1 l1 c1) := (hb.cell (p := ⟨w.heap.size, 1, none⟩) (by simp; omega)).trans (by go_simp)
  have y0 : w1.cell? ⟨w.heap.size + 1, 0, none⟩ = some (.bool n2) := (hb.cell (p := ⟨w.heap.size + 1, 0, none⟩) (by first | (simp; done) | (simp; omega))).trans (by go_simp)
  have y1 : w1.cell? ⟨w.heap.size + 1, 1, none⟩ = some (.slice a2 l2 c2) := (hb.cell (p := ⟨w.heap.size + 1, 1, none⟩) (by first | (simp; done) | (simp; omega))).trans (by go_simp)
  have B1 : Hid (Below w.heap.size w w1) := B0.out.trans (hb.mono B0.out.size)
  obtain ⟨k0, k1, k2, k3, k4, k5, k6⟩ := E0.out.later hb
  have xl : w.heap.size < w1.heap.size := by omega
  have yl : w.heap.size + 1 < w1.heap.size := by omega
  obtain rfl : len = 0 := by
    obtain ⟨a', len', cap', g', he, hl, -, -⟩ := hv.slice
    cases he
    rw [hl, nd_zero]
  clear hv hb
  by_cases h1 : l1 = 0
  · subst h1
    by_cases h2 : l2 = 0
    · subst h2
      by_cases hn : n1 = n2
      · subst hn
        have hbq : (n1 == n1) = true := by simp
        have HE := HEQ.out n1 (by simp)
        have HE2 : Hid _ := HE
        clear HE
        go_wp2_with (go_at_call 56; refine (sign_any _ _).mono ?_; rintro e w' ⟨rfl, rfl⟩)
        refine bodyPost_ret (v := .agg #[.int .u64 (sOf n1 * 9223372036854775808), .int .i64 0, .bool false]) (by simp [results, Tryd.results38, go_sem, k1, k2, k3, World.cell?_alloc_lt, k0]) rfl ⟨by first | rfl | exact HE2.out, ?_⟩
        repeat (first | exact B1.out | refine Below.setCell ?_ (by simp; omega) _ | (refine Below.alloc ?_ (by have := B1.out.size; simp; omega) _))
      · have hbq : (n1 == n2) = false := by rw [beq_eq_false_iff_ne]; exact hn
        have HE := HEQ.out b4 (by simp [hn])
        have HE2 : Hid _ := HE
        clear HE
        go_wp2_with (go_at_call 56; refine (sign_any _ _).mono ?_; rintro e w' ⟨rfl, rfl⟩)
        refine bodyPost_ret (v := .agg #[.int .u64 (sOf b4 * 9223372036854775808), .int .i64 0, .bool false]) (by simp [results, Tryd.results38, go_sem, k1, k2, k3, World.cell?_alloc_lt, k0]) rfl ⟨by first | rfl | exact HE2.out, ?_⟩
        repeat (first | exact B1.out | refine Below.setCell ?_ (by simp; omega) _ | (refine Below.alloc ?_ (by have := B1.out.size; simp; omega) _))
    · have h2b : ((l2 : Int) == 0) = false := by rw [beq_eq_false_iff_ne]; omega
      have HE := HEQ.out b4 (by simp [h2])
      have HE2 : Hid _ := HE
      clear HE
      go_wp2_with (go_at_call 56; refine (sign_any _ _).mono ?_; rintro e w' ⟨rfl, rfl⟩)
      refine bodyPost_ret (v := .agg #[.int .u64 (sOf b4 * 9223372036854775808), .int .i64 0, .bool false]) (by simp [results, Tryd.results38, go_sem, k1, k2, k3, World.cell?_alloc_lt, k0]) rfl ⟨by first | rfl | exact HE2.out, ?_⟩
      repeat (first | exact B1.out | refine Below.setCell ?_ (by simp; omega) _ | (refine Below.alloc ?_ (by have := B1.out.size; simp; omega) _))
  · have h1b : ((l1 : Int) == 0) = false := by rw [beq_eq_false_iff_ne]; omega
    have HE := HEQ.out b4 (by simp [h1])
    have HE2 : Hid _ := HE
    clear HE
    go_wp2_with (go_at_call 56; refine (sign_any _ _).mono ?_; rintro e w' ⟨rfl, rfl⟩)
    refine bodyPost_ret (v := .agg #[.int .u64 (sOf b4 * 9223372036854775808), .int .i64 0, .bool false]) (by simp [results, Tryd.results38, go_sem, k1, k2, k3, World.cell?_alloc_lt, k0]) rfl ⟨by first | rfl | exact HE2.out, ?_⟩
    repeat (first | exact B1.out | refine Below.setCell ?_ (by simp; omega) _ | (refine Below.alloc ?_ (by have := B1.out.size; simp; omega) _))
end Go.Proofs.YtfbdgecanfmgiaaDoor
