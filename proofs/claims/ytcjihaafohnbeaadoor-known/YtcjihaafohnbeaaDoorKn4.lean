import Derived.Test.YtcjihaafohnbeaaDoorKn3
import Derived.BigQuiet
namespace Go.Proofs.YtcjihaafohnbeaaDoor
open Go.RowKit

theorem Lies.drewN {w : World} {g : Nat} {a b : Int} {c : Bool} (h : Lies w g a b c) (n : Nat) : Lies (w.drewN n) g a b c := ⟨h.lt, h.c0, h.c1, h.c2⟩
/-- Results as they lie, and all that was there. -/
structure Res3 (w wx : World) (g1 g2 g3 : Nat) (S1 F1 S2 F2 S3 F3 : Int) : Prop where
  below : Below w.heap.size w wx
  l1 : Lies wx g1 S1 F1 false
  l2 : Lies wx g2 S2 F2 false
  l3 : Lies wx g3 S3 F3 false
theorem Res3.drewN {w wx : World} {g1 g2 g3 : Nat} {S1 F1 S2 F2 S3 F3 : Int} (h : Res3 w wx g1 g2 g3 S1 F1 S2 F2 S3 F3) (n : Nat) : Res3 w (wx.drewN n) g1 g2 g3 S1 F1 S2 F2 S3 F3 := ⟨below_drewN h.below n, h.l1.drewN n, h.l2.drewN n, h.l3.drewN n⟩

structure Res4 (w wx : World) (g5 g6 g8 g9 : Nat) (S5 F5 S6 S8 S9 : Int) : Prop where
  below : Below w.heap.size w wx
  l5 : Lies wx g5 S5 F5 false
  l6 : Lies wx g6 S6 0 false
  l8 : Lies wx g8 S8 0 false
  l9 : Lies wx g9 S9 0 false
theorem Res4.drewN {w wx : World} {g5 g6 g8 g9 : Nat} {S5 F5 S6 S8 S9 : Int} (h : Res4 w wx g5 g6 g8 g9 S5 F5 S6 S8 S9) (n : Nat) : Res4 w (wx.drewN n) g5 g6 g8 g9 S5 F5 S6 S8 S9 := ⟨below_drewN h.below n, h.l5.drewN n, h.l6.drewN n, h.l8.drewN n, h.l9.drewN n⟩
theorem nat_rng {v : Int} {n b : Nat} (h : v = (n : Int)) (hb : n ≤ b) : 0 ≤ v ∧ v ≤ (b : Int) := by omega
theorem wrap_rng {v : Int} {B : Int} (hB : B ≤ 9223372036854775807) (h : -B ≤ v ∧ v ≤ B) : wrap64 v = v := by unfold wrap64; omega
theorem k_facts (a : Int) : ∃ (K : Nat) (K2 K3 : Int), bits .and .i64 a 65535 = (K : Int) ∧ K < 65536 ∧ wrap64 ((K : Int) * K) = K2 ∧ wrap64 (K2 * K) = K3 ∧ K3 = (K : Int) * K * K ∧ (0 ≤ K2 ∧ K2 ≤ 4294967296) ∧ (0 ≤ K3 ∧ K3 ≤ 281474976710656) := by
  obtain ⟨K, hK⟩ : ∃ K : Nat, a % 65536 = K := ⟨(a % 65536).toNat, by omega⟩
  have lK : K ≤ 65536 := by omega
  have h1 : ((K : Int) * K) = ((K * K : Nat) : Int) := (Int.natCast_mul _ _).symm
  have h2 : ((K : Int) * K * K) = ((K * K * K : Nat) : Int) := by rw [h1, ← Int.natCast_mul]
  have r1 := nat_rng h1 (Nat.mul_le_mul lK lK)
  have r2 := nat_rng h2 (Nat.mul_le_mul (Nat.mul_le_mul lK lK) lK)
  have r1' : 0 ≤ (K : Int) * K ∧ (K : Int) * K ≤ 4294967296 := r1
  have r2' : 0 ≤ (K : Int) * K * K ∧ (K : Int) * K * K ≤ 281474976710656 := r2
  refine ⟨K, (K : Int) * K, (K : Int) * K * K, by rw [i64_and16, hK], by omega, wrap_rng (B := 4294967296) (by decide) (by omega), wrap_rng (B := 281474976710656) (by decide) (by omega), rfl, r1', r2'⟩
theorem g_facts (a : Int) : ∃ G : Nat, bits .and .i64 a 1048575 = (G : Int) ∧ G < 1048576 := by
  obtain ⟨G, hG⟩ : ∃ G : Nat, a % 1048576 = G := ⟨(a % 1048576).toNat, by omega⟩
  exact ⟨G, by rw [i64_and20, hG], by omega⟩
theorem g5_facts (G : Nat) (lG : G < 1048576) : ∃ G5 : Int, 5 * (G : Int) = G5 ∧ IntKind.i64.wrap (5 * (G : Int)) = G5 ∧ wrap64 (5 * (G : Int)) = G5 ∧ (0 ≤ G5 ∧ G5 ≤ 5242880) := by
  refine ⟨5 * (G : Int), rfl, wrapI _ (by omega) (by omega), wrap_rng (B := 5242880) (by decide) (by omega), by omega⟩
theorem q_facts (a : Int) (la : a.natAbs ≤ 33554432) : wrap64 (a * a) = a * a ∧ (0 ≤ a * a ∧ a * a ≤ 1125899906842624) := by
  have h := @Int.natAbs_mul_self a
  have r := nat_rng h.symm (Nat.mul_le_mul la la)
  have r' : 0 ≤ a * a ∧ a * a ≤ 1125899906842624 := r
  exact ⟨wrap_rng (B := 1125899906842624) (by decide) (by omega), r'⟩

set_option maxRecDepth 20000 in
set_option maxHeartbeats 8000000 in
theorem known_rec (op mo x y z : Int) (hx : 0 ≤ x ∧ x < 18446744073709551616) (hy : 0 ≤ y ∧ y < 18446744073709551616) (hz : 0 ≤ z ∧ z < 18446744073709551616) (w : World) (hT : Tab w) :
    Calls Tryd.prog 11 #[.agg #[.int .i64 op, .int .i64 mo, .int .u64 x, .int .u64 y, .int .u64 z]] w fun e w' => e = .returned (.bool true) ∧ Below w.heap.size w w' := by
  have ax := and_26 x hx.1 hx.2
  have ay := and_26 y hy.1 hy.2
  have az := and_26 z hz.1 hz.2
  have bx : 0 ≤ x % 67108864 ∧ x % 67108864 < 67108864 := by omega
  have b_y : 0 ≤ y % 67108864 ∧ y % 67108864 < 67108864 := by omega
  have bz : 0 ≤ z % 67108864 ∧ z % 67108864 < 67108864 := by omega
  generalize x % 67108864 = ua at *
  generalize y % 67108864 = ub at *
  generalize z % 67108864 = uc at *
  obtain ⟨a, ha⟩ : ∃ a, ua - 33554432 = a := ⟨_, rfl⟩
  obtain ⟨b, hb⟩ : ∃ b, ub - 33554432 = b := ⟨_, rfl⟩
  obtain ⟨c, hc⟩ : ∃ c, uc - 33554432 = c := ⟨_, rfl⟩
  obtain ⟨M, hM⟩ : ∃ M, mo % 256 % 5 = M := ⟨_, rfl⟩
  have hm : 0 ≤ M ∧ M ≤ 4 := by omega
  have la : a.natAbs ≤ 33554432 := by omega
  have lb : b.natAbs ≤ 33554432 := by omega
  have lc : c.natAbs ≤ 33554432 := by omega
  have lab : (a * b).natAbs ≤ 1125899906842624 := by rw [Int.natAbs_mul]; exact Nat.mul_le_mul la lb
  have laa : (a * a).natAbs ≤ 1125899906842624 := by rw [Int.natAbs_mul]; exact Nat.mul_le_mul la la
  obtain ⟨P, hP⟩ : ∃ P, a * b = P := ⟨_, rfl⟩
  have hab1 : wrap64 (a * b) = P := by rw [← hP]; unfold wrap64; omega
  have hab2 : IntKind.i64.wrap (a * b) = P := by rw [hP]; exact wrapI _ (by omega) (by omega)
  obtain ⟨X, hX⟩ := wn_of a (by omega)
  obtain ⟨Y, hY⟩ := wn_of b (by omega)
  have kX := hX.parts
  have kY := hY.parts
  have k1 : kind X < 4 := by obtain ⟨_, _, _, _, _, _, _, _, _, _, k⟩ := kX; exact k
  have k2 : kind Y < 4 := by obtain ⟨_, _, _, _, _, _, _, _, _, _, k⟩ := kY; exact k
  have HWa : Hid (∀ w, Calls Tryd.prog 18 #[.int .i64 (a)] w fun e w' => e = .returned (.int .u64 (wI (a))) ∧ w' = w) := fun w => whole_any (a) (by omega) w
  have HWb : Hid (∀ w, Calls Tryd.prog 18 #[.int .i64 (b)] w fun e w' => e = .returned (.int .u64 (wI (b))) ∧ w' = w) := fun w => whole_any (b) (by omega) w
  have HWs : Hid (∀ w, Calls Tryd.prog 18 #[.int .i64 (a + b)] w fun e w' => e = .returned (.int .u64 (wI (a + b))) ∧ w' = w) := fun w => whole_any (a + b) (by omega) w
  have HWd : Hid (∀ w, Calls Tryd.prog 18 #[.int .i64 (a - b)] w fun e w' => e = .returned (.int .u64 (wI (a - b))) ∧ w' = w) := fun w => whole_any (a - b) (by omega) w
  have HWp : Hid (∀ w, Calls Tryd.prog 18 #[.int .i64 P] w fun e w' => e = .returned (.int .u64 (wI P)) ∧ w' = w) := fun w => whole_any P (by omega) w
  obtain ⟨S1, F1, H1, E1⟩ : ∃ S F : Int, Hid (∀ w1, Below w.heap.size w w1 → Calls Tryd.prog 12 #[.agg #[.int .u8 1, .int .u8 M, .int .u64 (wI a), .int .u64 (wI b), .int .u64 (0)]] w1 fun e w' => e = .returned (.agg #[.int .u64 S, .int .u8 F, .bool false]) ∧ Below w1.heap.size w1 w') ∧ Hid (a + b ≠ 0 → S = wI (a + b) ∧ F = 0) := by
    refine ⟨psB X Y M, psF X Y M, fun w1 hb1 => ?_, fun h => kn_add hX hY h (by omega)⟩
    rw [← hX.bits, ← hY.bits]
    exact soft_add X Y M 0 hX.lt hY.lt (by decide) hm k1 k2 w1 (hT.later hb1)
  obtain ⟨S2, F2, H2, E2⟩ : ∃ S F : Int, Hid (∀ w1, Below w.heap.size w w1 → Calls Tryd.prog 12 #[.agg #[.int .u8 2, .int .u8 M, .int .u64 (wI a), .int .u64 (wI b), .int .u64 (0)]] w1 fun e w' => e = .returned (.agg #[.int .u64 S, .int .u8 F, .bool false]) ∧ Below w1.heap.size w1 w') ∧ Hid (a - b ≠ 0 → S = wI (a - b) ∧ F = 0) := by
    refine ⟨psB X (neg Y) M, psF X (neg Y) M, fun w1 hb1 => ?_, fun h => kn_sub hX hY h (by omega)⟩
    rw [← hX.bits, ← hY.bits]
    exact soft_sub X Y M 0 hX.lt hY.lt (by decide) hm k1 k2 w1 (hT.later hb1)
  obtain ⟨S3, F3, H3, E3⟩ : ∃ S F : Int, Hid (∀ w1, Below w.heap.size w w1 → Calls Tryd.prog 12 #[.agg #[.int .u8 3, .int .u8 M, .int .u64 (wI a), .int .u64 (wI b), .int .u64 (0)]] w1 fun e w' => e = .returned (.agg #[.int .u64 S, .int .u8 F, .bool false]) ∧ Below w1.heap.size w1 w') ∧ Hid (P ≠ 0 → S = wI P ∧ F = 0) := by
    refine ⟨prodB X Y M, prodF X Y M, fun w1 hb1 => ?_, fun h => ?_⟩
    · rw [← hX.bits, ← hY.bits]
      exact soft_mul X Y M 0 hX.lt hY.lt (by decide) hm k1 k2 w1 (hT.later hb1)
    · rw [← hP] at h ⊢
      exact kn_mulI hX hY (fun e => h (by rw [e, Int.zero_mul])) (fun e => h (by rw [e, Int.mul_zero])) (by omega)
  have HF : Hid (Tab w ∧ 0 ≤ M ∧ M ≤ 4 ∧ WN X a ∧ WN Y b ∧ a * b = P ∧ kind X < 4 ∧ kind Y < 4) := ⟨hT, hm.1, hm.2, hX, hY, hP, k1, k2⟩
  have ba : -33554432 ≤ a ∧ a < 33554432 := by omega
  have bb : -33554432 ≤ b ∧ b < 33554432 := by omega
  have bc : -33554432 ≤ c ∧ c < 33554432 := by omega
  have bP : -1125899906842624 ≤ P ∧ P ≤ 1125899906842624 := by omega
  have HL : Hid (a.natAbs ≤ 33554432 ∧ b.natAbs ≤ 33554432 ∧ c.natAbs ≤ 33554432) := ⟨la, lb, lc⟩
  clear hT hm hX hY hP k1 k2 kX kY la lb lc lab laa hx hy hz
  go_enter Tryd.func11, Tryd.ntmps11
  go_wp2_with (first | (go_at_call_of 18 (Value.int .i64 (a)); refine (HWa.out _).mono ?_; rintro e w' ⟨rfl, rfl⟩) | (go_at_call_of 18 (Value.int .i64 (b)); refine (HWb.out _).mono ?_; rintro e w' ⟨rfl, rfl⟩))
  clear ax ay az ha hb hc bx b_y bz
  refine (H1.out _ ((Below.refl _ _).alloc (Nat.le_refl _) _)).mono ?_
  rintro e w1 ⟨rfl, hb1⟩
  have B1 : Hid (Below w.heap.size w (w1.alloc (.cells #[.int .u64 S1, .int .u8 F1, .bool false] 33))) := below_new ((Below.refl _ _).alloc (Nat.le_refl _) _) hb1 _ (Nat.le_refl _)
  have L1 : Hid (Lies (w1.alloc (.cells #[.int .u64 S1, .int .u8 F1, .bool false] 33)) w1.heap.size S1 F1 false) := Lies.new _ _ _ _ _
  clear hb1 H1
  go_wp2_with fail
  refine (H2.out _ B1.out).mono ?_
  rintro e w2 ⟨rfl, hb2⟩
  have B2 : Hid (Below w.heap.size w (w2.alloc (.cells #[.int .u64 S2, .int .u8 F2, .bool false] 33))) := below_new B1.out hb2 _ (Nat.le_refl _)
  have L1 : Hid (Lies w2 w1.heap.size S1 F1 false) := L1.out.later hb2
  have L2 : Hid (Lies (w2.alloc (.cells #[.int .u64 S2, .int .u8 F2, .bool false] 33)) w2.heap.size S2 F2 false) := Lies.new _ _ _ _ _
  clear hb2 H2
  go_wp2_with fail
  refine (H3.out _ B2.out).mono ?_
  rintro e w3 ⟨rfl, hb3⟩
  have B3 : Hid (Below w.heap.size w (w3.alloc (.cells #[.int .u64 S3, .int .u8 F3, .bool false] 33))) := below_new B2.out hb3 _ (Nat.le_refl _)
  have R0 : Hid (Res3 w (w3.alloc (.cells #[.int .u64 S3, .int .u8 F3, .bool false] 33)) w1.heap.size w2.heap.size w3.heap.size S1 F1 S2 F2 S3 F3) := ⟨B3.out, ((L1.out.alloc _).later hb3).alloc _, (L2.out.later hb3).alloc _, Lies.new _ _ _ _ _⟩
  clear hb3 H3 L1 L2 B1 B2 B3
  have y0 := R0.out.l1.c0
  have y1 := R0.out.l1.c1
  have y2 := R0.out.l1.c2
  have y3 := R0.out.l1.lt
  go_upto_region 10 with fail
  go_cut [74] from 24 (fun s wx => s = .bool false ∧ Res3 w wx w1.heap.size w2.heap.size w3.heap.size S1 F1 S2 F2 S3 F3)
  case first => as_aux_lemma =>
    by_cases h0 : a + b = 0
    · have hn : (a + b != 0) = false := by rw [bne_eq_false_iff_eq]; exact h0
      clear h0
      go_quiet (fail)
      go_wp2_with fail
      go_meet
      go_light
      exact ⟨rfl, R0.out.drewN _⟩
    · have hn : (a + b != 0) = true := by rw [bne_iff_ne]; exact h0
      have hq := ne_res S1 F1 false (wI (a + b)) 0 false
      rw [(E1.out h0).1, (E1.out h0).2, show eqR (wI (a + b)) 0 false (wI (a + b)) 0 false = true by unfold eqR; simp] at hq
      rw [(E1.out h0).1] at y0
      rw [(E1.out h0).2] at y1
      clear h0
      go_quiet ((go_at_call_of 18 (Value.int .i64 (a + b)); exact Calls.quiet_of_same (HWs.out _)))
      go_wp2_with fail
      go_meet
      go_light
      exact ⟨rfl, R0.out.drewN _⟩
  case rest =>
    obtain ⟨rfl, hcut⟩ := hcut
    have R1 : Hid (Res3 w wc w1.heap.size w2.heap.size w3.heap.size S1 F1 S2 F2 S3 F3) := hcut
    clear hcut R0 y0 y1 y2 y3
    have y0 := R1.out.l2.c0
    have y1 := R1.out.l2.c1
    have y2 := R1.out.l2.c2
    have y3 := R1.out.l2.lt
    go_upto_region 12 with fail
    go_cut [87] from 24 (fun s wx => s = .bool false ∧ Res3 w wx w1.heap.size w2.heap.size w3.heap.size S1 F1 S2 F2 S3 F3)
    case first => as_aux_lemma =>
      by_cases h0 : a - b = 0
      · have hn : (a - b != 0) = false := by rw [bne_eq_false_iff_eq]; exact h0
        clear h0
        go_quiet (fail)
        go_wp2_with fail
        go_meet
        go_light
        exact ⟨rfl, R1.out.drewN _⟩
      · have hn : (a - b != 0) = true := by rw [bne_iff_ne]; exact h0
        have hq := ne_res S2 F2 false (wI (a - b)) 0 false
        rw [(E2.out h0).1, (E2.out h0).2, show eqR (wI (a - b)) 0 false (wI (a - b)) 0 false = true by unfold eqR; simp] at hq
        rw [(E2.out h0).1] at y0
        rw [(E2.out h0).2] at y1
        clear h0
        go_quiet ((go_at_call_of 18 (Value.int .i64 (a - b)); exact Calls.quiet_of_same (HWd.out _)))
        go_wp2_with fail
        go_meet
        go_light
        exact ⟨rfl, R1.out.drewN _⟩
    case rest =>
      obtain ⟨rfl, hcut⟩ := hcut
      have R2 : Hid (Res3 w wc w1.heap.size w2.heap.size w3.heap.size S1 F1 S2 F2 S3 F3) := hcut
      clear hcut R1 y0 y1 y2 y3
      have y0 := R2.out.l3.c0
      have y1 := R2.out.l3.c1
      have y2 := R2.out.l3.c2
      have y3 := R2.out.l3.lt
      go_upto_region 14 with fail
      go_cut [100] from 24 (fun s wx => s = .bool false ∧ Res3 w wx w1.heap.size w2.heap.size w3.heap.size S1 F1 S2 F2 S3 F3)
      case first => as_aux_lemma =>
        by_cases h0 : P = 0
        · have hn : (P != 0) = false := by rw [bne_eq_false_iff_eq]; exact h0
          clear h0
          go_quiet (fail)
          go_wp2_with fail
          go_meet
          go_light
          exact ⟨rfl, R2.out.drewN _⟩
        · have hn : (P != 0) = true := by rw [bne_iff_ne]; exact h0
          have hq := ne_res S3 F3 false (wI (P)) 0 false
          rw [(E3.out h0).1, (E3.out h0).2, show eqR (wI (P)) 0 false (wI (P)) 0 false = true by unfold eqR; simp] at hq
          rw [(E3.out h0).1] at y0
          rw [(E3.out h0).2] at y1
          clear h0
          go_quiet ((go_at_call_of 18 (Value.int .i64 (P)); exact Calls.quiet_of_same (HWp.out _)))
          go_wp2_with fail
          go_meet
          go_light
          exact ⟨rfl, R2.out.drewN _⟩
      case rest =>
        obtain ⟨rfl, hcut⟩ := hcut
        have R3 : Hid (Res3 w wc w1.heap.size w2.heap.size w3.heap.size S1 F1 S2 F2 S3 F3) := hcut
        clear hcut R2 y0 y1 y2 y3
        by_cases hz0 : a = 0 ∨ b = 0
        · by_cases h0 : a = 0
          · have e0 : (a == 0) = true := by rw [beq_iff_eq]; exact h0
            clear hz0 h0
            go_wp2_with fail
            go_ret
            exact ⟨rfl, R3.out.below⟩
          · have e0 : (a == 0) = false := by rw [beq_eq_false_iff_ne]; exact h0
            have e1 : (b == 0) = true := by rw [beq_iff_eq]; omega
            clear hz0 h0
            go_wp2_with fail
            go_ret
            exact ⟨rfl, R3.out.below⟩
        have e0 : (a == 0) = false := by rw [beq_eq_false_iff_ne]; omega
        have e1 : (b == 0) = false := by rw [beq_eq_false_iff_ne]; omega
        obtain ⟨hT, hm1, hm2, hX, hY, hP, k1, k2⟩ := HF.out
        obtain ⟨la, lb, lc⟩ := HL.out
        have na : a ≠ 0 := fun e => hz0 (.inl e)
        have nb : b ≠ 0 := fun e => hz0 (.inr e)
        obtain ⟨haa1, bQ⟩ := q_facts a la
        obtain ⟨K, K2, K3, hk1, lK, hkk1, hkk2, hK3, bK2, bK3⟩ := k_facts a
        obtain ⟨G, hg1, lG⟩ := g_facts a
        obtain ⟨G5, hG5, hg5w, hg5x, bG5⟩ := g5_facts G lG
        obtain ⟨Q, hQ⟩ : ∃ Q, a * a = Q := ⟨_, rfl⟩
        rw [hQ] at haa1 bQ
        have haa1 : wrap64 (a * a) = Q := by rw [hQ]; exact haa1
        obtain ⟨ZP, hZP⟩ := wn_of P (by omega)
        obtain ⟨ZC, hZC⟩ := wn_of c (by omega)
        obtain ⟨ZQ, hZQ⟩ := wn_of Q (by omega)
        obtain ⟨ZK, hZK⟩ := wn_of K3 (by omega)
        obtain ⟨ZG, hZG⟩ := wn_of (3 * (G : Int)) (by omega)
        obtain ⟨ZH, hZH⟩ := wn_of (-4 * (G : Int)) (by omega)
        have HWc : Hid (∀ w, Calls Tryd.prog 18 #[.int .i64 (c)] w fun e w' => e = .returned (.int .u64 (wI (c))) ∧ w' = w) := fun w => whole_any (c) (by omega) w
        have HWq : Hid (∀ w, Calls Tryd.prog 18 #[.int .i64 (Q)] w fun e w' => e = .returned (.int .u64 (wI (Q))) ∧ w' = w) := fun w => whole_any (Q) (by omega) w
        have HWt : Hid (∀ w, Calls Tryd.prog 18 #[.int .i64 (K3)] w fun e w' => e = .returned (.int .u64 (wI (K3))) ∧ w' = w) := fun w => whole_any (K3) (by omega) w
        have HWg : Hid (∀ w, Calls Tryd.prog 18 #[.int .i64 (3 * (G : Int))] w fun e w' => e = .returned (.int .u64 (wI (3 * (G : Int)))) ∧ w' = w) := fun w => whole_any (3 * (G : Int)) (by omega) w
        have HWh : Hid (∀ w, Calls Tryd.prog 18 #[.int .i64 (-4 * (G : Int))] w fun e w' => e = .returned (.int .u64 (wI (-4 * (G : Int)))) ∧ w' = w) := fun w => whole_any (-4 * (G : Int)) (by omega) w
        have HWk : Hid (∀ w, Calls Tryd.prog 18 #[.int .i64 ((K : Int))] w fun e w' => e = .returned (.int .u64 (wI ((K : Int)))) ∧ w' = w) := fun w => whole_any ((K : Int)) (by omega) w
        have HWv : Hid (∀ w, Calls Tryd.prog 18 #[.int .i64 (G5)] w fun e w' => e = .returned (.int .u64 (wI (G5))) ∧ w' = w) := fun w => whole_any (G5) (by omega) w
        have HWm : Hid (∀ w, Calls Tryd.prog 18 #[.int .i64 (P + c)] w fun e w' => e = .returned (.int .u64 (wI (P + c))) ∧ w' = w) := fun w => whole_any (P + c) (by omega) w
        have kZP : kind ZP < 4 := (by obtain ⟨_, _, _, _, _, _, _, _, _, _, k⟩ := hZP.parts; exact k)
        have kZC : kind ZC < 4 := (by obtain ⟨_, _, _, _, _, _, _, _, _, _, k⟩ := hZC.parts; exact k)
        have kZQ : kind ZQ < 4 := (by obtain ⟨_, _, _, _, _, _, _, _, _, _, k⟩ := hZQ.parts; exact k)
        have kZK : kind ZK < 4 := (by obtain ⟨_, _, _, _, _, _, _, _, _, _, k⟩ := hZK.parts; exact k)
        have kZG : kind ZG < 4 := (by obtain ⟨_, _, _, _, _, _, _, _, _, _, k⟩ := hZG.parts; exact k)
        have kZH : kind ZH < 4 := (by obtain ⟨_, _, _, _, _, _, _, _, _, _, k⟩ := hZH.parts; exact k)
        have H4 : Hid (∀ w1, Below w.heap.size w w1 → Calls Tryd.prog 12 #[.agg #[.int .u8 4, .int .u8 M, .int .u64 (wI P), .int .u64 (wI b), .int .u64 (0)]] w1 fun e w' => e = .returned (.agg #[.int .u64 (wI a), .int .u8 0, .bool false]) ∧ Below w1.heap.size w1 w') := fun w1 hb1 => by
          have h := soft_div ZP Y M 0 hZP.lt hY.lt (by decide) ⟨hm1, hm2⟩ kZP k2 w1 (hT.later hb1)
          have e := kn_divI (m := M) (by rw [hP]; exact hZP : WN ZP (a * b)) hY na nb (by omega)
          rw [e.1, e.2, hZP.bits, hY.bits] at h
          exact h
        obtain ⟨S5, F5, H5, E5⟩ : ∃ S F : Int, Hid (∀ w1, Below w.heap.size w w1 → Calls Tryd.prog 12 #[.agg #[.int .u8 5, .int .u8 M, .int .u64 (wI a), .int .u64 (wI b), .int .u64 (wI c)]] w1 fun e w' => e = .returned (.agg #[.int .u64 S, .int .u8 F, .bool false]) ∧ Below w1.heap.size w1 w') ∧ Hid (P + c ≠ 0 → S = wI (P + c) ∧ F = 0) := by
          refine ⟨fmB X Y ZC M, fmF X Y ZC M, fun w1 hb1 => ?_, fun h => by rw [← hP] at h ⊢; exact kn_fmI hX hY hZC na nb la lb lc h⟩
          rw [← hX.bits, ← hY.bits, ← hZC.bits]
          exact soft_fmDo X Y ZC M hX.lt hY.lt hZC.lt ⟨hm1, hm2⟩ (by simp [isN]; omega) w1 (hT.later hb1)
        have H8 : Hid (∀ w1, Below w.heap.size w w1 → Calls Tryd.prog 12 #[.agg #[.int .u8 8, .int .u8 M, .int .u64 (wI K3), .int .u64 (0), .int .u64 (0)]] w1 fun e w' => e = .returned (.agg #[.int .u64 (wI (K : Int)), .int .u8 0, .bool false]) ∧ Below w1.heap.size w1 w') := fun w1 hb1 => by
          have h := soft_cbDo ZK M 0 0 hZK.lt (by decide) (by decide) ⟨hm1, hm2⟩ kZK w1 (hT.later hb1)
          have e := kn_cbI (m := M) K (by rw [← hK3]; exact hZK) lK
          rw [e.1, e.2, hZK.bits] at h
          exact h
        have H9 : Hid (∀ w1, Below w.heap.size w w1 → Calls Tryd.prog 12 #[.agg #[.int .u8 9, .int .u8 M, .int .u64 (wI (3 * (G : Int))), .int .u64 (wI (-4 * (G : Int))), .int .u64 (0)]] w1 fun e w' => e = .returned (.agg #[.int .u64 (wI G5), .int .u8 0, .bool false]) ∧ Below w1.heap.size w1 w') := fun w1 hb1 => by
          have h := soft_hyDo ZG ZH M 0 hZG.lt hZH.lt (by decide) ⟨hm1, hm2⟩ (by simp [anyN, isN]; omega) w1 (hT.later hb1)
          have e := kn_sdI (m := M) G hZG hZH lG
          rw [e.1, e.2, hZG.bits, hZH.bits, hG5] at h
          exact h
        have H6 : Hid (∀ w1, Below w.heap.size w w1 → Calls Tryd.prog 12 #[.agg #[.int .u8 6, .int .u8 M, .int .u64 (wI Q), .int .u64 (0), .int .u64 (0)]] w1 fun e w' => e = .returned (.agg #[.int .u64 (wI (a.natAbs : Int)), .int .u8 0, .bool false]) ∧ Below w1.heap.size w1 w') := fun w1 hb1 => by
          have h := soft_sqDo ZQ M 0 0 hZQ.lt (by decide) (by decide) ⟨hm1, hm2⟩ kZQ w1 (hT.later hb1)
          have e := kn_sqI (m := M) (by rw [hQ]; exact hZQ : WN ZQ (a * a)) na (by omega)
          rw [e.1, e.2, hZQ.bits] at h
          exact h
        have bK : (K : Int) < 65536 := by omega
        have bG : (G : Int) < 1048576 := by omega
        clear hz0 HF HL hT hm1 hm2 hX hY hP k1 k2 la lb lc na nb hQ lK lG hK3 hG5 hZP hZC hZQ hZK hZG hZH kZP kZC kZQ kZK kZG kZH E1 E2 E3 hM
        go_wp2_with (first | (go_at_call_of 18 (Value.int .i64 (P)); refine (HWp.out _).mono ?_; rintro e w' ⟨rfl, rfl⟩) | (go_at_call_of 18 (Value.int .i64 (c)); refine (HWc.out _).mono ?_; rintro e w' ⟨rfl, rfl⟩) | (go_at_call_of 18 (Value.int .i64 (Q)); refine (HWq.out _).mono ?_; rintro e w' ⟨rfl, rfl⟩) | (go_at_call_of 18 (Value.int .i64 (K3)); refine (HWt.out _).mono ?_; rintro e w' ⟨rfl, rfl⟩))
        refine (H4.out _ R3.out.below).mono ?_
        rintro e w4 ⟨rfl, hb⟩
        have B4 : Hid (Below w.heap.size w (w4.alloc (.cells #[.int .u64 (wI a), .int .u8 0, .bool false] 33))) := below_new R3.out.below hb _ (Nat.le_refl _)
        have L4 : Hid (Lies (w4.alloc (.cells #[.int .u64 (wI a), .int .u8 0, .bool false] 33)) w4.heap.size (wI a) 0 false) := Lies.new _ _ _ _ _
        clear hb H4
        go_wp2_with (first | (go_at_call_of 18 (Value.int .i64 (P)); refine (HWp.out _).mono ?_; rintro e w' ⟨rfl, rfl⟩) | (go_at_call_of 18 (Value.int .i64 (c)); refine (HWc.out _).mono ?_; rintro e w' ⟨rfl, rfl⟩) | (go_at_call_of 18 (Value.int .i64 (Q)); refine (HWq.out _).mono ?_; rintro e w' ⟨rfl, rfl⟩) | (go_at_call_of 18 (Value.int .i64 (K3)); refine (HWt.out _).mono ?_; rintro e w' ⟨rfl, rfl⟩))
        refine (H5.out _ B4.out).mono ?_
        rintro e w5 ⟨rfl, hb⟩
        have B5 : Hid (Below w.heap.size w (w5.alloc (.cells #[.int .u64 (S5), .int .u8 F5, .bool false] 33))) := below_new B4.out hb _ (Nat.le_refl _)
        have L4 : Hid (Lies w5 w4.heap.size (wI a) 0 false) := L4.out.later hb
        have L5 : Hid (Lies (w5.alloc (.cells #[.int .u64 (S5), .int .u8 F5, .bool false] 33)) w5.heap.size (S5) F5 false) := Lies.new _ _ _ _ _
        clear hb H5
        go_wp2_with (first | (go_at_call_of 18 (Value.int .i64 (P)); refine (HWp.out _).mono ?_; rintro e w' ⟨rfl, rfl⟩) | (go_at_call_of 18 (Value.int .i64 (c)); refine (HWc.out _).mono ?_; rintro e w' ⟨rfl, rfl⟩) | (go_at_call_of 18 (Value.int .i64 (Q)); refine (HWq.out _).mono ?_; rintro e w' ⟨rfl, rfl⟩) | (go_at_call_of 18 (Value.int .i64 (K3)); refine (HWt.out _).mono ?_; rintro e w' ⟨rfl, rfl⟩))
        refine (H6.out _ B5.out).mono ?_
        rintro e w6 ⟨rfl, hb⟩
        have B6 : Hid (Below w.heap.size w (w6.alloc (.cells #[.int .u64 (wI (a.natAbs : Int)), .int .u8 0, .bool false] 33))) := below_new B5.out hb _ (Nat.le_refl _)
        have L4 : Hid (Lies w6 w4.heap.size (wI a) 0 false) := (L4.out.alloc _).later hb
        have L5 : Hid (Lies w6 w5.heap.size (S5) F5 false) := L5.out.later hb
        have L6 : Hid (Lies (w6.alloc (.cells #[.int .u64 (wI (a.natAbs : Int)), .int .u8 0, .bool false] 33)) w6.heap.size (wI (a.natAbs : Int)) 0 false) := Lies.new _ _ _ _ _
        clear hb H6
        go_wp2_with (first | (go_at_call_of 18 (Value.int .i64 (P)); refine (HWp.out _).mono ?_; rintro e w' ⟨rfl, rfl⟩) | (go_at_call_of 18 (Value.int .i64 (c)); refine (HWc.out _).mono ?_; rintro e w' ⟨rfl, rfl⟩) | (go_at_call_of 18 (Value.int .i64 (Q)); refine (HWq.out _).mono ?_; rintro e w' ⟨rfl, rfl⟩) | (go_at_call_of 18 (Value.int .i64 (K3)); refine (HWt.out _).mono ?_; rintro e w' ⟨rfl, rfl⟩))
        refine (H8.out _ B6.out).mono ?_
        rintro e w8 ⟨rfl, hb⟩
        have B8 : Hid (Below w.heap.size w (w8.alloc (.cells #[.int .u64 (wI (K : Int)), .int .u8 0, .bool false] 33))) := below_new B6.out hb _ (Nat.le_refl _)
        have L4 : Hid (Lies w8 w4.heap.size (wI a) 0 false) := (L4.out.alloc _).later hb
        have L5 : Hid (Lies w8 w5.heap.size (S5) F5 false) := (L5.out.alloc _).later hb
        have L6 : Hid (Lies w8 w6.heap.size (wI (a.natAbs : Int)) 0 false) := L6.out.later hb
        have L8 : Hid (Lies (w8.alloc (.cells #[.int .u64 (wI (K : Int)), .int .u8 0, .bool false] 33)) w8.heap.size (wI (K : Int)) 0 false) := Lies.new _ _ _ _ _
        clear hb H8
        go_wp2_with fail
        refine (HWg.out _).mono ?_
        rintro e w' ⟨rfl, rfl⟩
        go_wp2_with fail
        refine (HWh.out _).mono ?_
        rintro e w' ⟨rfl, rfl⟩
        go_wp2_with fail
        refine (H9.out _ B8.out).mono ?_
        rintro e w9 ⟨rfl, hb⟩
        have B9 : Hid (Below w.heap.size w (w9.alloc (.cells #[.int .u64 (wI G5), .int .u8 0, .bool false] 33))) := below_new B8.out hb _ (Nat.le_refl _)
        have L4 : Hid (Lies w9 w4.heap.size (wI a) 0 false) := (L4.out.alloc _).later hb
        have L5 : Hid (Lies w9 w5.heap.size (S5) F5 false) := (L5.out.alloc _).later hb
        have L6 : Hid (Lies w9 w6.heap.size (wI (a.natAbs : Int)) 0 false) := (L6.out.alloc _).later hb
        have L8 : Hid (Lies w9 w8.heap.size (wI (K : Int)) 0 false) := L8.out.later hb
        have L9 : Hid (Lies (w9.alloc (.cells #[.int .u64 (wI G5), .int .u8 0, .bool false] 33)) w9.heap.size (wI G5) 0 false) := Lies.new _ _ _ _ _
        clear hb H9
        have L4 := Hid.out L4
        have L5 := Hid.out L5
        have L6 := Hid.out L6
        have L8 := Hid.out L8
        have qa := eq_res (wI a) 0 false (wI a) 0 false
        rw [show eqR (wI a) 0 false (wI a) 0 false = true by unfold eqR; simp] at qa
        have x40 := L4.c0
        have x41 := L4.c1
        have x42 := L4.c2
        have x43 := L4.lt
        have RR : Hid (Res4 w (w9.alloc (.cells #[.int .u64 (wI G5), .int .u8 0, .bool false] 33)) w5.heap.size w6.heap.size w8.heap.size w9.heap.size S5 F5 (wI (a.natAbs : Int)) (wI (K : Int)) (wI G5)) := ⟨B9.out, L5.alloc _, L6.alloc _, L8.alloc _, L9.out⟩
        clear L4 L5 L6 L8 L9 B4 B5 B6 B8 B9
        by_cases hs : a < 0
        · have hs' : (a.natAbs : Int) = -a := by omega
          rw [hs'] at RR
          have HWn : Hid (∀ w, Calls Tryd.prog 18 #[.int .i64 (-a)] w fun e w' => e = .returned (.int .u64 (wI (-a))) ∧ w' = w) := fun w => whole_any (-a) (by omega) w
          have hs0 : decide (a < 0) = true := decide_eq_true hs
          clear hs' hs
          go_upto_region 28 with fail
          have y0 := RR.out.l5.c0
          have y1 := RR.out.l5.c1
          have y2 := RR.out.l5.c2
          have y3 := RR.out.l5.lt
          go_cut [20] from 24 (fun s wx => s = .bool true ∧ Res4 w wx w5.heap.size w6.heap.size w8.heap.size w9.heap.size S5 F5 (wI (-a)) (wI (K : Int)) (wI G5))
          case first => as_aux_lemma =>
            by_cases h0 : P + c = 0
            · have hn : (P + c == 0) = true := by rw [beq_iff_eq]; exact h0
              clear h0
              go_quiet (fail)
              go_wp2_with fail
              go_meet
              go_light
              exact ⟨rfl, RR.out.drewN _⟩
            · have hn : (P + c == 0) = false := by rw [beq_eq_false_iff_ne]; exact h0
              have hq := eq_res S5 F5 false (wI (P + c)) 0 false
              rw [(E5.out h0).1, (E5.out h0).2, show eqR (wI (P + c)) 0 false (wI (P + c)) 0 false = true by unfold eqR; simp] at hq
              rw [(E5.out h0).1] at y0
              rw [(E5.out h0).2] at y1
              clear h0
              go_quiet ((go_at_call_of 18 (Value.int .i64 (P + c)); exact Calls.quiet_of_same (HWm.out _)))
              go_wp2_with fail
              go_meet
              go_light
              exact ⟨rfl, RR.out.drewN _⟩
          case rest =>
            obtain ⟨rfl, hcut⟩ := hcut
            have RS : Hid (Res4 w wc w5.heap.size w6.heap.size w8.heap.size w9.heap.size S5 F5 (wI (-a)) (wI (K : Int)) (wI G5)) := hcut
            clear hcut RR y0 y1 y2 y3
            have y0 := RS.out.l6.c0
            have y1 := RS.out.l6.c1
            have y2 := RS.out.l6.c2
            have y3 := RS.out.l6.lt
            have hq := eq_res (wI (-a)) 0 false (wI (-a)) 0 false
            rw [show eqR (wI (-a)) 0 false (wI (-a)) 0 false = true by unfold eqR; simp] at hq
            go_upto_region 29 with fail
            go_cut [21] from 24 (fun s wx => s = .bool true ∧ Res4 w wx w5.heap.size w6.heap.size w8.heap.size w9.heap.size S5 F5 (wI (-a)) (wI (K : Int)) (wI G5))
            case first => as_aux_lemma =>
              go_quiet ((go_at_call_of 18 (Value.int .i64 (-a)); exact Calls.quiet_of_same (HWn.out _)))
              go_wp2_with fail
              go_meet
              go_light
              exact ⟨rfl, RS.out.drewN _⟩
            case' rest =>
              obtain ⟨rfl, hcut⟩ := hcut
              have R29 : Hid (Res4 w wc w5.heap.size w6.heap.size w8.heap.size w9.heap.size S5 F5 (wI (-a)) (wI (K : Int)) (wI G5)) := hcut
              clear hcut RS y0 y1 y2 y3 hq
            have y0 := R29.out.l8.c0
            have y1 := R29.out.l8.c1
            have y2 := R29.out.l8.c2
            have y3 := R29.out.l8.lt
            have hq := eq_res (wI ((K : Int))) 0 false (wI ((K : Int))) 0 false
            rw [show eqR (wI ((K : Int))) 0 false (wI ((K : Int))) 0 false = true by unfold eqR; simp] at hq
            go_upto_region 30 with fail
            go_cut [22] from 24 (fun s wx => s = .bool true ∧ Res4 w wx w5.heap.size w6.heap.size w8.heap.size w9.heap.size S5 F5 (wI (-a)) (wI (K : Int)) (wI G5))
            case first => as_aux_lemma =>
              go_quiet ((go_at_call_of 18 (Value.int .i64 ((K : Int))); exact Calls.quiet_of_same (HWk.out _)))
              go_wp2_with fail
              go_meet
              go_light
              exact ⟨rfl, R29.out.drewN _⟩
            case' rest =>
              obtain ⟨rfl, hcut⟩ := hcut
              have R30 : Hid (Res4 w wc w5.heap.size w6.heap.size w8.heap.size w9.heap.size S5 F5 (wI (-a)) (wI (K : Int)) (wI G5)) := hcut
              clear hcut R29 y0 y1 y2 y3 hq
            have y0 := R30.out.l9.c0
            have y1 := R30.out.l9.c1
            have y2 := R30.out.l9.c2
            have y3 := R30.out.l9.lt
            have hq := eq_res (wI (G5)) 0 false (wI (G5)) 0 false
            rw [show eqR (wI (G5)) 0 false (wI (G5)) 0 false = true by unfold eqR; simp] at hq
            go_upto_region 31 with fail
            go_cut [23] from 24 (fun s wx => s = .bool true ∧ Res4 w wx w5.heap.size w6.heap.size w8.heap.size w9.heap.size S5 F5 (wI (-a)) (wI (K : Int)) (wI G5))
            case first => as_aux_lemma =>
              go_quiet ((go_at_call_of 18 (Value.int .i64 (G5)); exact Calls.quiet_of_same (HWv.out _)))
              go_wp2_with fail
              go_meet
              go_light
              exact ⟨rfl, R30.out.drewN _⟩
            case' rest =>
              obtain ⟨rfl, hcut⟩ := hcut
              have R31 : Hid (Res4 w wc w5.heap.size w6.heap.size w8.heap.size w9.heap.size S5 F5 (wI (-a)) (wI (K : Int)) (wI G5)) := hcut
              clear hcut R30 y0 y1 y2 y3 hq
            go_wp2_with fail
            go_ret
            exact ⟨rfl, R31.out.below⟩
        
        · have hs' : (a.natAbs : Int) = a := by omega
          rw [hs'] at RR
          have HWn : Hid (∀ w, Calls Tryd.prog 18 #[.int .i64 (a)] w fun e w' => e = .returned (.int .u64 (wI (a))) ∧ w' = w) := fun w => whole_any (a) (by omega) w
          have hs0 : decide (a < 0) = false := decide_eq_false hs
          clear hs' hs
          go_upto_region 28 with fail
          have y0 := RR.out.l5.c0
          have y1 := RR.out.l5.c1
          have y2 := RR.out.l5.c2
          have y3 := RR.out.l5.lt
          go_cut [20] from 24 (fun s wx => s = .bool true ∧ Res4 w wx w5.heap.size w6.heap.size w8.heap.size w9.heap.size S5 F5 (wI (a)) (wI (K : Int)) (wI G5))
          case first => as_aux_lemma =>
            by_cases h0 : P + c = 0
            · have hn : (P + c == 0) = true := by rw [beq_iff_eq]; exact h0
              clear h0
              go_quiet (fail)
              go_wp2_with fail
              go_meet
              go_light
              exact ⟨rfl, RR.out.drewN _⟩
            · have hn : (P + c == 0) = false := by rw [beq_eq_false_iff_ne]; exact h0
              have hq := eq_res S5 F5 false (wI (P + c)) 0 false
              rw [(E5.out h0).1, (E5.out h0).2, show eqR (wI (P + c)) 0 false (wI (P + c)) 0 false = true by unfold eqR; simp] at hq
              rw [(E5.out h0).1] at y0
              rw [(E5.out h0).2] at y1
              clear h0
              go_quiet ((go_at_call_of 18 (Value.int .i64 (P + c)); exact Calls.quiet_of_same (HWm.out _)))
              go_wp2_with fail
              go_meet
              go_light
              exact ⟨rfl, RR.out.drewN _⟩
          case rest =>
            obtain ⟨rfl, hcut⟩ := hcut
            have RS : Hid (Res4 w wc w5.heap.size w6.heap.size w8.heap.size w9.heap.size S5 F5 (wI (a)) (wI (K : Int)) (wI G5)) := hcut
            clear hcut RR y0 y1 y2 y3
            have y0 := RS.out.l6.c0
            have y1 := RS.out.l6.c1
            have y2 := RS.out.l6.c2
            have y3 := RS.out.l6.lt
            have hq := eq_res (wI (a)) 0 false (wI (a)) 0 false
            rw [show eqR (wI (a)) 0 false (wI (a)) 0 false = true by unfold eqR; simp] at hq
            go_upto_region 29 with fail
            go_cut [21] from 24 (fun s wx => s = .bool true ∧ Res4 w wx w5.heap.size w6.heap.size w8.heap.size w9.heap.size S5 F5 (wI (a)) (wI (K : Int)) (wI G5))
            case first => as_aux_lemma =>
              go_quiet ((go_at_call_of 18 (Value.int .i64 (a)); exact Calls.quiet_of_same (HWn.out _)))
              go_wp2_with fail
              go_meet
              go_light
              exact ⟨rfl, RS.out.drewN _⟩
            case' rest =>
              obtain ⟨rfl, hcut⟩ := hcut
              have R29 : Hid (Res4 w wc w5.heap.size w6.heap.size w8.heap.size w9.heap.size S5 F5 (wI (a)) (wI (K : Int)) (wI G5)) := hcut
              clear hcut RS y0 y1 y2 y3 hq
            have y0 := R29.out.l8.c0
            have y1 := R29.out.l8.c1
            have y2 := R29.out.l8.c2
            have y3 := R29.out.l8.lt
            have hq := eq_res (wI ((K : Int))) 0 false (wI ((K : Int))) 0 false
            rw [show eqR (wI ((K : Int))) 0 false (wI ((K : Int))) 0 false = true by unfold eqR; simp] at hq
            go_upto_region 30 with fail
            go_cut [22] from 24 (fun s wx => s = .bool true ∧ Res4 w wx w5.heap.size w6.heap.size w8.heap.size w9.heap.size S5 F5 (wI (a)) (wI (K : Int)) (wI G5))
            case first => as_aux_lemma =>
              go_quiet ((go_at_call_of 18 (Value.int .i64 ((K : Int))); exact Calls.quiet_of_same (HWk.out _)))
              go_wp2_with fail
              go_meet
              go_light
              exact ⟨rfl, R29.out.drewN _⟩
            case' rest =>
              obtain ⟨rfl, hcut⟩ := hcut
              have R30 : Hid (Res4 w wc w5.heap.size w6.heap.size w8.heap.size w9.heap.size S5 F5 (wI (a)) (wI (K : Int)) (wI G5)) := hcut
              clear hcut R29 y0 y1 y2 y3 hq
            have y0 := R30.out.l9.c0
            have y1 := R30.out.l9.c1
            have y2 := R30.out.l9.c2
            have y3 := R30.out.l9.lt
            have hq := eq_res (wI (G5)) 0 false (wI (G5)) 0 false
            rw [show eqR (wI (G5)) 0 false (wI (G5)) 0 false = true by unfold eqR; simp] at hq
            go_upto_region 31 with fail
            go_cut [23] from 24 (fun s wx => s = .bool true ∧ Res4 w wx w5.heap.size w6.heap.size w8.heap.size w9.heap.size S5 F5 (wI (a)) (wI (K : Int)) (wI G5))
            case first => as_aux_lemma =>
              go_quiet ((go_at_call_of 18 (Value.int .i64 (G5)); exact Calls.quiet_of_same (HWv.out _)))
              go_wp2_with fail
              go_meet
              go_light
              exact ⟨rfl, R30.out.drewN _⟩
            case' rest =>
              obtain ⟨rfl, hcut⟩ := hcut
              have R31 : Hid (Res4 w wc w5.heap.size w6.heap.size w8.heap.size w9.heap.size S5 F5 (wI (a)) (wI (K : Int)) (wI G5)) := hcut
              clear hcut R30 y0 y1 y2 y3 hq
            go_wp2_with fail
            go_ret
            exact ⟨rfl, R31.out.below⟩

set_option maxHeartbeats 1000000 in
theorem known_walk (a0 : Option Addr) (b off len cap : Nat) (w : World) (hT : Tab w) (ha : 0 < len → a0 = some ⟨b, off, none⟩) (hb : 0 < len → b < w.heap.size)
    (hstep : ∀ i, i < len → ∃ k a op m x y z la ln lc, StepAt w b (off + i * 8) k a op m x y z la ln lc) :
    Calls Tryd.prog 6 #[.slice a0 len cap] w fun e w' => e = .returned (.bool true) ∧ Below w.heap.size w w' := by
  have HT : Hid (Tab w) := hT
  have HSt : Hid (∀ i, i < len → ∃ k a op m x y z la ln lc, StepAt w b (off + i * 8) k a op m x y z la ln lc) := hstep
  clear hstep hT
  go_enter Tryd.func6, Tryd.ntmps6
  go_wp2_with fail
  refine (lives_any w HT.out).mono ?_
  rintro e w0 ⟨rfl, hb0⟩
  have HB0 : Hid (Below w.heap.size w w0) := hb0
  clear hb0
  go_wp2_with fail
  refine (rooted_any _ (HT.out.later HB0.out)).mono ?_
  rintro e w1 ⟨rfl, hb1⟩
  have HB1 : Hid (Below w.heap.size w w1) := HB0.out.trans (hb1.mono HB0.out.size)
  clear hb1 HB0
  go_wp2_with fail
  go_loopw [4, 5] (fun i _ wr => ∃ k : Nat, k ≤ len ∧ i = .int .i64 k ∧ Below w.heap.size w wr) (fun i _ _ => len - (intOf i).toNat)
  case atStart => exact ⟨0, Nat.zero_le _, rfl, HB1.out⟩
  case round =>
    obtain ⟨k, hk, rfl, hbel⟩ := hrel
    have HB : Hid (Below w.heap.size w wr) := hbel
    by_cases hlt : k < len
    · obtain ⟨kk, aa, op, m, x, y, z, la, ln, lc, hst⟩ := HSt.out k hlt
      have hbb := hb (by omega)
      have := ha (by omega)
      subst this
      have c2 := (hbel.cell (p := ⟨b, off + k * 8 + 2, none⟩) hbb).trans hst.c2
      have c3 := (hbel.cell (p := ⟨b, off + k * 8 + 3, none⟩) hbb).trans hst.c3
      have c4 := (hbel.cell (p := ⟨b, off + k * 8 + 4, none⟩) hbb).trans hst.c4
      have c5 := (hbel.cell (p := ⟨b, off + k * 8 + 5, none⟩) hbb).trans hst.c5
      have c6 := (hbel.cell (p := ⟨b, off + k * 8 + 6, none⟩) hbb).trans hst.c6
      have HST : Hid (StepAt w b (off + k * 8) kk aa op m x y z la ln lc) := hst
      clear hst hbel
      by_cases h60 : (k : Int) < 1152921504606846976
      · go_wp2_with fail
        refine (known_rec op m x y z HST.out.rx HST.out.ry HST.out.rz _ (HT.out.later HB.out)).mono ?_
        rintro e w1 ⟨rfl, hb1⟩
        have HB1 : Hid (Below w.heap.size w w1) := HB.out.trans (hb1.mono HB.out.size)
        clear hb1 c2 c3 c4 c5 c6
        go_wp2_with fail
        go_roundw
        case rel => exact ⟨k + 1, by omega, by go_num, HB1.out⟩
        case measure => simp [intOf]; omega
      · clear c2 c3 c4 c5 c6
        go_wp2
        go_ret
        exact ⟨rfl, HB.out⟩
    · go_wp2
      go_ret
      exact ⟨rfl, HB.out⟩
end Go.Proofs.YtcjihaafohnbeaaDoor
