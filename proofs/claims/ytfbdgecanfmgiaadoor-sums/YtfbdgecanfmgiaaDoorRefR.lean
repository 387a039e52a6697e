import Derived.Test.YtfbdgecanfmgiaaDoorRefQ
namespace Go.Proofs.YtfbdgecanfmgiaaDoor
open Go.RowKit

set_option maxRecDepth 10000 in
set_option maxHeartbeats 4000000 in
theorem sum_le (n1 n2 : Bool) (a1 a2 : Option Addr) (l1 c1 l2 c2 D1 D2 k : Nat) (p : Int) (w : World) (h1 : IsNat w (.slice a1 l1 c1) D1) (h2 : IsNat w (.slice a2 l2 c2) D2) (s1 : nd D1 ≤ 1000) (s2 : nd D2 ≤ 1000) (hk : k ≤ 10000) (hp : -10000 ≤ p ∧ p ≤ 10000) :
    Calls Tryd.prog 44 #[.agg #[.bool n1, .slice a1 l1 c1, .int .i64 p], .agg #[.bool n2, .slice a2 l2 c2, .int .i64 (p + k)]] w fun e w' =>
      ∃ a len cap, e = .returned (.agg #[.bool (snG n1 D1 n2 (D2 * 2 ^ k)), .slice a len cap, .int .i64 (snP n1 D1 n2 (D2 * 2 ^ k) p)]) ∧ IsNat w' (.slice a len cap) (snD n1 D1 n2 (D2 * 2 ^ k)) ∧ Below w.heap.size w w' := by
  have N1o : Hid (NumAt (((w.alloc (.cells #[.bool n1, .slice a1 l1 c1, .int .i64 p] 68)).alloc (.cells #[.bool n2, .slice a2 l2 c2, .int .i64 (p + k)] 68)).alloc (.cells #[.bool false, .slice none 0 0, .int .i64 0] 68)) w.heap.size n1 (.slice a1 l1 c1) D1 p) := ⟨by simp; omega, by go_simp, by go_simp, by go_simp, h1.later ((((Below.refl _ _).alloc (Nat.le_refl _) _).alloc (by simp) _).alloc (by simp; omega) _)⟩
  have N2o : Hid (NumAt (((w.alloc (.cells #[.bool n1, .slice a1 l1 c1, .int .i64 p] 68)).alloc (.cells #[.bool n2, .slice a2 l2 c2, .int .i64 (p + k)] 68)).alloc (.cells #[.bool false, .slice none 0 0, .int .i64 0] 68)) (w.heap.size + 1) n2 (.slice a2 l2 c2) D2 (p + k)) := ⟨by simp, by go_simp, by go_simp, by go_simp, h2.later ((((Below.refl _ _).alloc (Nat.le_refl _) _).alloc (by simp) _).alloc (by simp; omega) _)⟩
  have E3o : Hid (Empty3 (((w.alloc (.cells #[.bool n1, .slice a1 l1 c1, .int .i64 p] 68)).alloc (.cells #[.bool n2, .slice a2 l2 c2, .int .i64 (p + k)] 68)).alloc (.cells #[.bool false, .slice none 0 0, .int .i64 0] 68)) (w.heap.size + 2)) := ⟨by simp, by go_simp, by go_simp, by go_simp, by go_simp, by go_simp, by go_simp⟩
  have B0o : Hid (Below w.heap.size w (((w.alloc (.cells #[.bool n1, .slice a1 l1 c1, .int .i64 p] 68)).alloc (.cells #[.bool n2, .slice a2 l2 c2, .int .i64 (p + k)] 68)).alloc (.cells #[.bool false, .slice none 0 0, .int .i64 0] 68))) := (((Below.refl _ _).alloc (Nat.le_refl _) _).alloc (by simp) _).alloc (by simp; omega) _
  have hnk : nd (2 ^ k) ≤ k + 1 := nd_of_lt (Nat.pow_lt_pow_right (by decide) (by omega))
  have HSX : Hid (nd D1 ≤ 100000) := (by omega : nd D1 ≤ 100000)
  have HSY : Hid (nd (D2 * 2 ^ k) ≤ 100000) := Nat.le_trans (nd_mul_le _ _) (by omega)
  have HS1 : Hid (nd D1 ≤ 1000 ∧ nd D2 ≤ 1000 ∧ k ≤ 10000) := ⟨s1, s2, hk⟩
  obtain ⟨hp1, hp2⟩ := hp
  have hk2 := hk
  have hw1 : wrap64 (k : Int) = k := wrap64_small _ (by omega) (by omega)
  have hsub : p + (k : Int) - p = (k : Int) := by omega
  clear h1 h2 s1 s2 hnk
  go_enter Tryd.func44, Tryd.ntmps44
  go_wp2_with fail
  refine (up_any D2 k _ _ N2o.out.nat (by have := HS1.out; omega) (by omega)).mono ?_
  rintro e w4 ⟨v4, rfl, hv4, hb4⟩
  have N1 := N1o.out.later hb4
  have N2 := N2o.out.later hb4
  have E3 := E3o.out.later hb4
  have B0 := B0o.out.trans (hb4.mono B0o.out.size)
  clear N1o N2o E3o B0o
  obtain ⟨a4, l4, c4, g4, rfl, -, -, -⟩ := hv4.slice
  have N2' := N2.turn (p := p) hv4
  have N1' : NumAt ((w4.setCell ⟨w.heap.size + 1, 1, none⟩ (.slice a4 l4 c4)).setCell ⟨w.heap.size + 1, 2, none⟩ (.int .i64 p)) w.heap.size n1 (.slice a1 l1 c1) D1 p := (N1.set (by omega) N2.c0 1 _).set (by omega) ((World.cell?_setCell_other _ _ _ _ (by simp)).trans N2.c0) 2 _
  have E3' := (E3.set (g' := w.heap.size + 1) (by omega) 1 (.slice a4 l4 c4)).set (g' := w.heap.size + 1) (by omega) 2 (.int .i64 p)
  have B0' : Below w.heap.size w ((w4.setCell ⟨w.heap.size + 1, 1, none⟩ (.slice a4 l4 c4)).setCell ⟨w.heap.size + 1, 2, none⟩ (.int .i64 p)) := (B0.setCell (by simp) _).setCell (by simp) _
  have x0 := N1.c0
  have x1 := N1.c1
  have x2 := N1.c2
  have y0 := N2.c0
  have y1 := N2.c1
  have y2 := N2.c2
  have xl := N1.lt
  have yl := N2.lt
  have f1 : w4.frozen? ⟨w.heap.size + 1, 1, none⟩ = false := (hb4.frozen (p := ⟨w.heap.size + 1, 1, none⟩) (by first | (simp; done) | (simp; omega))).trans (by go_simp)
  have f2 : w4.frozen? ⟨w.heap.size + 1, 2, none⟩ = false := (hb4.frozen (p := ⟨w.heap.size + 1, 2, none⟩) (by first | (simp; done) | (simp; omega))).trans (by go_simp)
  generalize hwA : (w4.setCell ⟨w.heap.size + 1, 1, none⟩ (.slice a4 l4 c4)).setCell ⟨w.heap.size + 1, 2, none⟩ (.int .i64 p) = wA at *
  clear N1 N2 E3 B0
  have N1 : Hid (NumAt wA w.heap.size n1 (Value.slice a1 l1 c1) D1 p) := N1'
  have N2 : Hid (NumAt wA (w.heap.size + 1) n2 (Value.slice a4 l4 c4) (D2 * 2 ^ k) p) := N2'
  have E3 : Hid (Empty3 wA (w.heap.size + 2)) := E3'
  have B0 : Hid (Below w.heap.size w wA) := B0'
  have HPL : Hid (∀ w1, IsNat w1 (Value.slice a1 l1 c1) D1 → IsNat w1 (Value.slice a4 l4 c4) (D2 * 2 ^ k) → Calls Tryd.prog 64 #[Value.slice a1 l1 c1, Value.slice a4 l4 c4] w1 fun e w' => ∃ a len cap, e = .returned (.slice a len cap) ∧ IsNat w' (.slice a len cap) (D1 + (D2 * 2 ^ k)) ∧ Below w1.heap.size w1 w') := fun w1 k1 k2 => slice_of (plus_any _ _ _ _ w1 k1 k2 HSX.out HSY.out)
  have HCM : Hid (∀ w1, IsNat w1 (Value.slice a1 l1 c1) D1 → IsNat w1 (Value.slice a4 l4 c4) (D2 * 2 ^ k) → Calls Tryd.prog 65 #[Value.slice a1 l1 c1, Value.slice a4 l4 c4] w1 fun e w' => e = .returned (.int .i64 (cmpI D1 (D2 * 2 ^ k))) ∧ Below w1.heap.size w1 w') := fun w1 k1 k2 => cmp_any _ _ _ _ w1 k1 k2 HSX.out HSY.out
  clear N1' N2' E3' B0' hv4 hb4
  generalize hXE : D1 = X at *
  have HXE : Hid (D1 = X) := hXE
  clear hXE
  generalize hYE : (D2 * 2 ^ k) = Y at *
  have HYE : Hid ((D2 * 2 ^ k) = Y) := hYE
  clear hYE
  go_upto_region 6 with fail
  try rw [hwA]
  clear hwA x0 x1 x2 y0 y1 y2 xl yl f1 f2
  have t0 := N1.out.c0
  have t1 := N1.out.c1
  have t2 := N1.out.c2
  have u0 := N2.out.c0
  have u1 := N2.out.c1
  have u2 := N2.out.c2
  have tl := N1.out.lt
  have ul := N2.out.lt
  have vl := E3.out.lt
  by_cases hnn : n1 = n2
  · subst hnn
    have hbq : (n1 == n1) = true := by simp
    go_wp2_with fail
    go_region_held3 (fun w' => w'.cell? ⟨w.heap.size, 0, none⟩ = some (.bool n1) ∧ w'.cell? ⟨w.heap.size, 1, none⟩ = some (Value.slice a1 l1 c1) ∧ w'.cell? ⟨w.heap.size, 2, none⟩ = some (.int .i64 p) ∧ w'.cell? ⟨w.heap.size + 1, 0, none⟩ = some (.bool n1) ∧ w'.cell? ⟨w.heap.size + 1, 1, none⟩ = some (Value.slice a4 l4 c4) ∧ w'.cell? ⟨w.heap.size + 1, 2, none⟩ = some (.int .i64 p))
      (first | (go_keep; done) | exact ⟨K1.out.c0, K1.out.c1, K1.out.c2, K2.out.c0, K2.out.c1, K2.out.c2⟩ | (refine ⟨?_, ?_, ?_, ?_, ?_, ?_⟩ <;> go_simp; done) | (refine ⟨?_, ?_, ?_, ?_, ?_, ?_⟩ <;> (rw [cellSet _ _ _ _ (by simp), cellSet _ _ _ _ (by simp), cellSet _ _ _ _ (by simp)]; first | exact K1.out.c0 | exact K1.out.c1 | exact K1.out.c2 | exact K2.out.c0 | exact K2.out.c1 | exact K2.out.c2); done))
      (first | (go_at_call 64; refine (HPL.out _ (N1.out.nat.later (by repeat (first | exact Below.refl _ _ | refine Below.drew ?_ | refine below_drewN ?_ _))) (N2.out.nat.later (by repeat (first | exact Below.refl _ _ | refine Below.drew ?_ | refine below_drewN ?_ _)))).mono ?_; rintro e w' ⟨a, len, cap, rfl, hv, hb⟩; have HV : Hid (IsNat w' (.slice a len cap) (X + Y)) := hv; clear hv; have hbb : Hid (Below wA.heap.size wA w') := (Below.drew (Below.refl _ _)).trans hb; clear hb; have K1 : Hid (NumAt w' w.heap.size n1 (Value.slice a1 l1 c1) X p) := N1.out.later hbb.out; have K2 : Hid (NumAt w' (w.heap.size + 1) n1 (Value.slice a4 l4 c4) Y p) := N2.out.later hbb.out; have K3 := E3.out.later hbb.out; obtain ⟨k0, k1, k2, k3, k4, k5, k6⟩ := K3))
    all_goals (try go_wp2_with fail)
    have HG := sn_same (n := n1) (X := X) (Y := Y) (p := p)
    refine bodyPost_ret (v := .agg #[.bool n1, .slice a len cap, .int .i64 p]) (by simp [results, Tryd.results44, go_sem, k1, k2, k3]) rfl ⟨a, len, cap, by rw [HXE.out, HYE.out, HG.1, HG.2.2], ?_, ?_⟩
    · rw [HXE.out, HYE.out, HG.2.1]; exact set_num HV.out k1
    · exact (((B0.out.trans (hbb.out.mono B0.out.size)).setCell (by simp; omega) _).setCell (by simp; omega) _).setCell (by simp; omega) _
  · have hbq : (n1 == n2) = false := by rw [beq_eq_false_iff_ne]; exact hnn
    go_wp2_with fail
    refine (HCM.out _ N1.out.nat N2.out.nat).mono ?_
    rintro e w6 ⟨rfl, hb6⟩
    have N1' : Hid (NumAt w6 w.heap.size n1 (Value.slice a1 l1 c1) X p) := N1.out.later hb6
    have N2' : Hid (NumAt w6 (w.heap.size + 1) n2 (Value.slice a4 l4 c4) Y p) := N2.out.later hb6
    have E3' : Hid (Empty3 w6 (w.heap.size + 2)) := E3.out.later hb6
    have B0' : Hid (Below w.heap.size w w6) := B0.out.trans (hb6.mono B0.out.size)
    clear hb6 t0 t1 t2 u0 u1 u2 tl ul vl N1 N2 E3 B0
    have N1 := N1'
    have N2 := N2'
    have E3 := E3'
    have B0 := B0'
    clear N1' N2' E3' B0'
    have t0 := N1.out.c0
    have t1 := N1.out.c1
    have t2 := N1.out.c2
    have u0 := N2.out.c0
    have u1 := N2.out.c1
    have u2 := N2.out.c2
    have tl := N1.out.lt
    have ul := N2.out.lt
    have vl := E3.out.lt
    by_cases hlt : Y < X
    · have hc := cmpI_gt hlt
      rw [hc]
      clear hc
      have HMI : Hid (∀ w1, IsNat w1 (Value.slice a1 l1 c1) X → IsNat w1 (Value.slice a4 l4 c4) Y → Calls Tryd.prog 66 #[Value.slice a1 l1 c1, Value.slice a4 l4 c4] w1 fun e w' => ∃ a len cap, e = .returned (.slice a len cap) ∧ IsNat w' (.slice a len cap) (X - Y) ∧ Below w1.heap.size w1 w') := fun w1 k1 k2 => slice_of (minus_any X Y _ _ w1 (by omega) k1 k2 HSX.out)
      go_wp2_with fail
      go_region_held3 (fun w' => w'.cell? ⟨w.heap.size, 0, none⟩ = some (.bool n1) ∧ w'.cell? ⟨w.heap.size, 1, none⟩ = some (Value.slice a1 l1 c1) ∧ w'.cell? ⟨w.heap.size, 2, none⟩ = some (.int .i64 p) ∧ w'.cell? ⟨w.heap.size + 1, 0, none⟩ = some (.bool n2) ∧ w'.cell? ⟨w.heap.size + 1, 1, none⟩ = some (Value.slice a4 l4 c4) ∧ w'.cell? ⟨w.heap.size + 1, 2, none⟩ = some (.int .i64 p))
        (first | (go_keep; done) | exact ⟨K1.out.c0, K1.out.c1, K1.out.c2, K2.out.c0, K2.out.c1, K2.out.c2⟩ | (refine ⟨?_, ?_, ?_, ?_, ?_, ?_⟩ <;> go_simp; done) | (refine ⟨?_, ?_, ?_, ?_, ?_, ?_⟩ <;> (rw [cellSet _ _ _ _ (by simp), cellSet _ _ _ _ (by simp), cellSet _ _ _ _ (by simp)]; first | exact K1.out.c0 | exact K1.out.c1 | exact K1.out.c2 | exact K2.out.c0 | exact K2.out.c1 | exact K2.out.c2); done))
        (first | (go_at_call 66; refine (HMI.out _ (N1.out.nat.later (by repeat (first | exact Below.refl _ _ | refine Below.drew ?_ | refine below_drewN ?_ _))) (N2.out.nat.later (by repeat (first | exact Below.refl _ _ | refine Below.drew ?_ | refine below_drewN ?_ _)))).mono ?_; rintro e w' ⟨a, len, cap, rfl, hv, hb⟩; have HV : Hid (IsNat w' (.slice a len cap) (X - Y)) := hv; clear hv; have hbb : Hid (Below w6.heap.size w6 w') := (Below.drew (Below.refl _ _)).trans hb; clear hb; have K1 : Hid (NumAt w' w.heap.size n1 (Value.slice a1 l1 c1) X p) := N1.out.later hbb.out; have K2 : Hid (NumAt w' (w.heap.size + 1) n2 (Value.slice a4 l4 c4) Y p) := N2.out.later hbb.out; have K3 := E3.out.later hbb.out; obtain ⟨k0, k1, k2, k3, k4, k5, k6⟩ := K3))
      all_goals (try go_wp2_with fail)
      have HG := sn_first (p := p) hnn hlt
      refine bodyPost_ret (v := .agg #[.bool n1, .slice a len cap, .int .i64 p]) (by simp [results, Tryd.results44, go_sem, k1, k2, k3]) rfl ⟨a, len, cap, by rw [HXE.out, HYE.out, HG.1, HG.2.2], ?_, ?_⟩
      · rw [HXE.out, HYE.out, HG.2.1]; exact set_num HV.out k1
      · exact (((B0.out.trans (hbb.out.mono B0.out.size)).setCell (by simp; omega) _).setCell (by simp; omega) _).setCell (by simp; omega) _
    · by_cases hgt : X < Y
      · have hc := cmpI_lt hgt
        rw [hc]
        clear hc
        have HMI : Hid (∀ w1, IsNat w1 (Value.slice a4 l4 c4) Y → IsNat w1 (Value.slice a1 l1 c1) X → Calls Tryd.prog 66 #[Value.slice a4 l4 c4, Value.slice a1 l1 c1] w1 fun e w' => ∃ a len cap, e = .returned (.slice a len cap) ∧ IsNat w' (.slice a len cap) (Y - X) ∧ Below w1.heap.size w1 w') := fun w1 k1 k2 => slice_of (minus_any Y X _ _ w1 (by omega) k1 k2 HSY.out)
        go_wp2_with fail
        go_region_held3 (fun w' => w'.cell? ⟨w.heap.size, 0, none⟩ = some (.bool n1) ∧ w'.cell? ⟨w.heap.size, 1, none⟩ = some (Value.slice a1 l1 c1) ∧ w'.cell? ⟨w.heap.size, 2, none⟩ = some (.int .i64 p) ∧ w'.cell? ⟨w.heap.size + 1, 0, none⟩ = some (.bool n2) ∧ w'.cell? ⟨w.heap.size + 1, 1, none⟩ = some (Value.slice a4 l4 c4) ∧ w'.cell? ⟨w.heap.size + 1, 2, none⟩ = some (.int .i64 p))
          (first | (go_keep; done) | exact ⟨K1.out.c0, K1.out.c1, K1.out.c2, K2.out.c0, K2.out.c1, K2.out.c2⟩ | (refine ⟨?_, ?_, ?_, ?_, ?_, ?_⟩ <;> go_simp; done) | (refine ⟨?_, ?_, ?_, ?_, ?_, ?_⟩ <;> (rw [cellSet _ _ _ _ (by simp), cellSet _ _ _ _ (by simp), cellSet _ _ _ _ (by simp)]; first | exact K1.out.c0 | exact K1.out.c1 | exact K1.out.c2 | exact K2.out.c0 | exact K2.out.c1 | exact K2.out.c2); done))
          (first | (go_at_call 66; refine (HMI.out _ (N2.out.nat.later (by repeat (first | exact Below.refl _ _ | refine Below.drew ?_ | refine below_drewN ?_ _))) (N1.out.nat.later (by repeat (first | exact Below.refl _ _ | refine Below.drew ?_ | refine below_drewN ?_ _)))).mono ?_; rintro e w' ⟨a, len, cap, rfl, hv, hb⟩; have HV : Hid (IsNat w' (.slice a len cap) (Y - X)) := hv; clear hv; have hbb : Hid (Below w6.heap.size w6 w') := (Below.drew (Below.refl _ _)).trans hb; clear hb; have K1 : Hid (NumAt w' w.heap.size n1 (Value.slice a1 l1 c1) X p) := N1.out.later hbb.out; have K2 : Hid (NumAt w' (w.heap.size + 1) n2 (Value.slice a4 l4 c4) Y p) := N2.out.later hbb.out; have K3 := E3.out.later hbb.out; obtain ⟨k0, k1, k2, k3, k4, k5, k6⟩ := K3))
        all_goals (try go_wp2_with fail)
        have HG := sn_second (p := p) hnn hgt
        refine bodyPost_ret (v := .agg #[.bool n2, .slice a len cap, .int .i64 p]) (by simp [results, Tryd.results44, go_sem, k1, k2, k3]) rfl ⟨a, len, cap, by rw [HXE.out, HYE.out, HG.1, HG.2.2], ?_, ?_⟩
        · rw [HXE.out, HYE.out, HG.2.1]; exact set_num HV.out k1
        · exact (((B0.out.trans (hbb.out.mono B0.out.size)).setCell (by simp; omega) _).setCell (by simp; omega) _).setCell (by simp; omega) _
      · have hE : X = Y := by omega
        have hc := cmpI_eq hE
        rw [hc]
        clear hc
        obtain ⟨k0, k1, k2, k3, k4, k5, k6⟩ := E3.out
        have HG := sn_zero (p := p) hnn hE
        go_wp2_with fail
        refine bodyPost_ret (v := .agg #[.bool false, .slice none 0 0, .int .i64 0]) (by simp [results, Tryd.results44, go_sem, k1, k2, k3]) rfl ⟨none, 0, 0, by rw [HXE.out, HYE.out, HG.1, HG.2.2], ?_, ?_⟩
        · rw [HXE.out, HYE.out, HG.2.1]; exact IsNat.nil _
        · exact ((B0.out.setCell (by simp; omega) _).setCell (by simp; omega) _).setCell (by simp; omega) _

/-- An amount, brought to the lesser of two exponents. -/
def alN (D : Nat) (p q : Int) : Nat := D * 2 ^ (p - min p q).toNat
theorem alN_low {D : Nat} {p q : Int} (h : p ≤ q) : alN D p q = D := by
  unfold alN
  rw [Int.min_eq_left h, Int.sub_self]
  simp
theorem alN_high {D k : Nat} {p : Int} : alN D (p + k) p = D * 2 ^ k := by
  unfold alN
  rw [Int.min_eq_right (by omega), show (p + k - p).toNat = k by omega]
/-- The document's sum. -/
theorem sum_ref (n1 n2 : Bool) (a1 a2 : Option Addr) (l1 c1 l2 c2 D1 D2 : Nat) (p1 p2 : Int) (w : World) (h1 : IsNat w (.slice a1 l1 c1) D1) (h2 : IsNat w (.slice a2 l2 c2) D2) (s1 : nd D1 ≤ 1000) (s2 : nd D2 ≤ 1000) (hp1 : -5000 ≤ p1 ∧ p1 ≤ 5000) (hp2 : -5000 ≤ p2 ∧ p2 ≤ 5000) :
    Calls Tryd.prog 44 #[.agg #[.bool n1, .slice a1 l1 c1, .int .i64 p1], .agg #[.bool n2, .slice a2 l2 c2, .int .i64 p2]] w fun e w' =>
      ∃ a len cap, e = .returned (.agg #[.bool (snG n1 (alN D1 p1 p2) n2 (alN D2 p2 p1)), .slice a len cap, .int .i64 (snP n1 (alN D1 p1 p2) n2 (alN D2 p2 p1) (min p1 p2))]) ∧ IsNat w' (.slice a len cap) (snD n1 (alN D1 p1 p2) n2 (alN D2 p2 p1)) ∧ Below w.heap.size w w' := by
  by_cases h : p2 < p1
  · obtain ⟨k, rfl⟩ : ∃ k : Nat, p1 = p2 + k := ⟨(p1 - p2).toNat, by omega⟩
    have := sum_gt n1 n2 a1 a2 l1 c1 l2 c2 D1 D2 k p2 w h1 h2 s1 s2 (by omega) (by omega)
    rw [alN_high, alN_low (by omega), Int.min_eq_right (by omega)]
    exact this
  · obtain ⟨k, rfl⟩ : ∃ k : Nat, p2 = p1 + k := ⟨(p2 - p1).toNat, by omega⟩
    have := sum_le n1 n2 a1 a2 l1 c1 l2 c2 D1 D2 k p1 w h1 h2 s1 s2 (by omega) (by omega)
    rw [alN_high, alN_low (by omega), Int.min_eq_left (by omega)]
    exact this
end Go.Proofs.YtfbdgecanfmgiaaDoor
