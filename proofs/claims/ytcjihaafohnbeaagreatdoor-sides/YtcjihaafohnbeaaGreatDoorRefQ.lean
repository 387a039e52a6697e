import Derived.Test.YtcjihaafohnbeaaGreatDoorRefN
import Derived.Test.YtcjihaafohnbeaaGreatDoorRefF
import Derived.Test.YtcjihaafohnbeaaGreatDoorRefO
namespace Go.Proofs.YtcjihaafohnbeaaGreatDoor
open Go.RowKit

/-- The sum of two numbers with one exponent: its sign, its amount, its exponent. -/
def snG (n1 : Bool) (X : Nat) (n2 : Bool) (Y : Nat) : Bool := if n1 = n2 then n1 else if X = Y then false else if Y < X then n1 else n2
def snD (n1 : Bool) (X : Nat) (n2 : Bool) (Y : Nat) : Nat := if n1 = n2 then X + Y else if X = Y then 0 else if Y < X then X - Y else Y - X
def snP (n1 : Bool) (X : Nat) (n2 : Bool) (Y : Nat) (p : Int) : Int := if n1 = n2 then p else if X = Y then 0 else p
theorem sn_same {n : Bool} {X Y : Nat} {p : Int} : snG n X n Y = n ∧ snD n X n Y = X + Y ∧ snP n X n Y p = p := by unfold snG snD snP; simp
theorem sn_zero {n1 n2 : Bool} {X Y : Nat} {p : Int} (h : n1 ≠ n2) (e : X = Y) : snG n1 X n2 Y = false ∧ snD n1 X n2 Y = 0 ∧ snP n1 X n2 Y p = 0 := by unfold snG snD snP; simp [h, e]
theorem sn_first {n1 n2 : Bool} {X Y : Nat} {p : Int} (h : n1 ≠ n2) (e : Y < X) : snG n1 X n2 Y = n1 ∧ snD n1 X n2 Y = X - Y ∧ snP n1 X n2 Y p = p := by
  have : ¬ X = Y := by omega
  unfold snG snD snP; simp [h, e, this]
theorem sn_second {n1 n2 : Bool} {X Y : Nat} {p : Int} (h : n1 ≠ n2) (e : X < Y) : snG n1 X n2 Y = n2 ∧ snD n1 X n2 Y = Y - X ∧ snP n1 X n2 Y p = p := by
  have h1 : ¬ X = Y := by omega
  have h2 : ¬ Y < X := by omega
  unfold snG snD snP; simp [h, h1, h2]
theorem NumAt.set {w : World} {g g' : Nat} {neg b : Bool} {va : Value} {D : Nat} {p : Int} (h : NumAt w g neg va D p) (hne : g ≠ g') (hb : w.cell? ⟨g', 0, none⟩ = some (.bool b)) (j : Nat) (u : Value) : NumAt (w.setCell ⟨g', j, none⟩ u) g neg va D p :=
  ⟨by simpa using h.lt, by rw [cellSet _ _ _ _ (by simpa using hne)]; exact h.c0, by rw [cellSet _ _ _ _ (by simpa using hne)]; exact h.c1, by rw [cellSet _ _ _ _ (by simpa using hne)]; exact h.c2, h.nat.set hb j u⟩
theorem Empty3.set {w : World} {g g' : Nat} (h : Empty3 w g) (hne : g ≠ g') (j : Nat) (u : Value) : Empty3 (w.setCell ⟨g', j, none⟩ u) g :=
  have e := heap_setCell_other w ⟨g', j, none⟩ g u hne
  ⟨by simpa using h.lt, (World.cell?_of_block (a := ⟨g, 0, none⟩) e).trans h.c0, (World.cell?_of_block (a := ⟨g, 1, none⟩) e).trans h.c1, (World.cell?_of_block (a := ⟨g, 2, none⟩) e).trans h.c2, (World.frozen?_of_block (a := ⟨g, 0, none⟩) e).trans h.f0, (World.frozen?_of_block (a := ⟨g, 1, none⟩) e).trans h.f1, (World.frozen?_of_block (a := ⟨g, 2, none⟩) e).trans h.f2⟩
/-- A number whose amount and exponent are set anew. -/
theorem NumAt.turn {w : World} {g : Nat} {neg : Bool} {v0 va : Value} {D0 D : Nat} {p0 p : Int} (h : NumAt w g neg v0 D0 p0) (hn : IsNat w va D) : NumAt ((w.setCell ⟨g, 1, none⟩ va).setCell ⟨g, 2, none⟩ (.int .i64 p)) g neg va D p := by
  have e0 : (w.setCell ⟨g, 1, none⟩ va).cell? ⟨g, 0, none⟩ = some (.bool neg) := (World.cell?_setCell_other _ _ _ _ (by simp)).trans h.c0
  have e1 : (w.setCell ⟨g, 1, none⟩ va).cell? ⟨g, 1, none⟩ = some va := World.cell?_setCell_same _ _ _ h.c1
  have e2 : (w.setCell ⟨g, 1, none⟩ va).cell? ⟨g, 2, none⟩ = some (.int .i64 p0) := (World.cell?_setCell_other _ _ _ _ (by simp)).trans h.c2
  exact ⟨by simpa using h.lt, (World.cell?_setCell_other _ _ _ _ (by simp)).trans e0, (World.cell?_setCell_other _ _ _ _ (by simp)).trans e1, World.cell?_setCell_same _ _ _ e2, (hn.set h.c0 1 va).set e0 2 _⟩
theorem slice_of {P : Program} {f : FuncId} {args : Array Value} {w : World} {D : Nat} (h : Calls P f args w fun e w' => ∃ v, e = .returned v ∧ IsNat w' v D ∧ Below w.heap.size w w') :
    Calls P f args w fun e w' => ∃ a len cap, e = .returned (.slice a len cap) ∧ IsNat w' (.slice a len cap) D ∧ Below w.heap.size w w' := by
  refine h.mono ?_
  rintro e w' ⟨v, rfl, hv, hb⟩
  obtain ⟨a, len, cap, g, rfl, -, -, -⟩ := hv.slice
  exact ⟨a, len, cap, rfl, hv, hb⟩

set_option maxRecDepth 10000 in
set_option maxHeartbeats 4000000 in
theorem sum_gt (n1 n2 : Bool) (a1 a2 : Option Addr) (l1 c1 l2 c2 D1 D2 k : Nat) (p : Int) (w : World) (h1 : IsNat w (.slice a1 l1 c1) D1) (h2 : IsNat w (.slice a2 l2 c2) D2) (s1 : nd D1 ≤ 1000) (s2 : nd D2 ≤ 1000) (hk : 0 < k ∧ k ≤ 10000) (hp : -10000 ≤ p ∧ p ≤ 10000) :
    Calls Tryz.prog 47 #[.agg #[.bool n1, .slice a1 l1 c1, .int .i64 (p + k)], .agg #[.bool n2, .slice a2 l2 c2, .int .i64 p]] w fun e w' =>
      ∃ a len cap, e = .returned (.agg #[.bool (snG n1 (D1 * 2 ^ k) n2 D2), .slice a len cap, .int .i64 (snP n1 (D1 * 2 ^ k) n2 D2 p)]) ∧ IsNat w' (.slice a len cap) (snD n1 (D1 * 2 ^ k) n2 D2) ∧ Below w.heap.size w w' := by
  have N1o : Hid (NumAt (((w.alloc (.cells #[.bool n1, .slice a1 l1 c1, .int .i64 (p + k)] 63)).alloc (.cells #[.bool n2, .slice a2 l2 c2, .int .i64 p] 63)).alloc (.cells #[.bool false, .slice none 0 0, .int .i64 0] 63)) w.heap.size n1 (.slice a1 l1 c1) D1 (p + k)) := ⟨by simp; omega, by go_simp, by go_simp, by go_simp, h1.later ((((Below.refl _ _).alloc (Nat.le_refl _) _).alloc (by simp) _).alloc (by simp; omega) _)⟩
  have N2o : Hid (NumAt (((w.alloc (.cells #[.bool n1, .slice a1 l1 c1, .int .i64 (p + k)] 63)).alloc (.cells #[.bool n2, .slice a2 l2 c2, .int .i64 p] 63)).alloc (.cells #[.bool false, .slice none 0 0, .int .i64 0] 63)) (w.heap.size + 1) n2 (.slice a2 l2 c2) D2 p) := ⟨by simp, by go_simp, by go_simp, by go_simp, h2.later ((((Below.refl _ _).alloc (Nat.le_refl _) _).alloc (by simp) _).alloc (by simp; omega) _)⟩
  have E3o : Hid (Empty3 (((w.alloc (.cells #[.bool n1, .slice a1 l1 c1, .int .i64 (p + k)] 63)).alloc (.cells #[.bool n2, .slice a2 l2 c2, .int .i64 p] 63)).alloc (.cells #[.bool false, .slice none 0 0, .int .i64 0] 63)) (w.heap.size + 2)) := ⟨by simp, by go_simp, by go_simp, by go_simp, by go_simp, by go_simp, by go_simp⟩
  have B0o : Hid (Below w.heap.size w (((w.alloc (.cells #[.bool n1, .slice a1 l1 c1, .int .i64 (p + k)] 63)).alloc (.cells #[.bool n2, .slice a2 l2 c2, .int .i64 p] 63)).alloc (.cells #[.bool false, .slice none 0 0, .int .i64 0] 63))) := (((Below.refl _ _).alloc (Nat.le_refl _) _).alloc (by simp) _).alloc (by simp; omega) _
  have hnk : nd (2 ^ k) ≤ k + 1 := nd_of_lt (Nat.pow_lt_pow_right (by decide) (by omega))
  have HSX : Hid (nd (D1 * 2 ^ k) ≤ 100000) := Nat.le_trans (nd_mul_le _ _) (by omega)
  have HSY : Hid (nd D2 ≤ 100000) := (by omega : nd D2 ≤ 100000)
  have HS1 : Hid (nd D1 ≤ 1000 ∧ nd D2 ≤ 1000 ∧ k ≤ 10000) := ⟨s1, s2, hk.2⟩
  obtain ⟨hp1, hp2⟩ := hp
  obtain ⟨hk1, hk2⟩ := hk
  have hw1 : wrap64 (k : Int) = k := wrap64_small _ (by omega) (by omega)
  have hsub : p + (k : Int) - p = (k : Int) := by omega
  clear h1 h2 s1 s2 hnk
  go_enter Tryz.func47, Tryz.ntmps47
  go_wp2_with fail
  refine (up_any D1 k _ _ N1o.out.nat (by have := HS1.out; omega) (by omega)).mono ?_
  rintro e w4 ⟨v4, rfl, hv4, hb4⟩
  have N1 := N1o.out.later hb4
  have N2 := N2o.out.later hb4
  have E3 := E3o.out.later hb4
  have B0 := B0o.out.trans (hb4.mono B0o.out.size)
  clear N1o N2o E3o B0o
  obtain ⟨a4, l4, c4, g4, rfl, -, -, -⟩ := hv4.slice
  have N1' := N1.turn (p := p) hv4
  have N2' : NumAt ((w4.setCell ⟨w.heap.size, 1, none⟩ (.slice a4 l4 c4)).setCell ⟨w.heap.size, 2, none⟩ (.int .i64 p)) (w.heap.size + 1) n2 (.slice a2 l2 c2) D2 p := (N2.set (by omega) N1.c0 1 _).set (by omega) ((World.cell?_setCell_other _ _ _ _ (by simp)).trans N1.c0) 2 _
  have E3' := (E3.set (g' := w.heap.size) (by omega) 1 (.slice a4 l4 c4)).set (g' := w.heap.size) (by omega) 2 (.int .i64 p)
  have B0' : Below w.heap.size w ((w4.setCell ⟨w.heap.size, 1, none⟩ (.slice a4 l4 c4)).setCell ⟨w.heap.size, 2, none⟩ (.int .i64 p)) := (B0.setCell (Nat.le_refl _) _).setCell (Nat.le_refl _) _
  have x0 := N1.c0
  have x1 := N1.c1
  have x2 := N1.c2
  have y0 := N2.c0
  have y1 := N2.c1
  have y2 := N2.c2
  have xl := N1.lt
  have yl := N2.lt
  have f1 : w4.frozen? ⟨w.heap.size, 1, none⟩ = false := (hb4.frozen (p := ⟨w.heap.size, 1, none⟩) (by simp; omega)).trans (by go_simp)
  have f2 : w4.frozen? ⟨w.heap.size, 2, none⟩ = false := (hb4.frozen (p := ⟨w.heap.size, 2, none⟩) (by simp; omega)).trans (by go_simp)
  generalize hwA : (w4.setCell ⟨w.heap.size, 1, none⟩ (.slice a4 l4 c4)).setCell ⟨w.heap.size, 2, none⟩ (.int .i64 p) = wA at *
  clear N1 N2 E3 B0
  have N1 : Hid (NumAt wA w.heap.size n1 (Value.slice a4 l4 c4) (D1 * 2 ^ k) p) := N1'
  have N2 : Hid (NumAt wA (w.heap.size + 1) n2 (Value.slice a2 l2 c2) D2 p) := N2'
  have E3 : Hid (Empty3 wA (w.heap.size + 2)) := E3'
  have B0 : Hid (Below w.heap.size w wA) := B0'
  have HPL : Hid (∀ w1, IsNat w1 (Value.slice a4 l4 c4) (D1 * 2 ^ k) → IsNat w1 (Value.slice a2 l2 c2) D2 → Calls Tryz.prog 75 #[Value.slice a4 l4 c4, Value.slice a2 l2 c2] w1 fun e w' => ∃ a len cap, e = .returned (.slice a len cap) ∧ IsNat w' (.slice a len cap) ((D1 * 2 ^ k) + D2) ∧ Below w1.heap.size w1 w') := fun w1 k1 k2 => slice_of (plus_any _ _ _ _ w1 k1 k2 HSX.out HSY.out)
  have HCM : Hid (∀ w1, IsNat w1 (Value.slice a4 l4 c4) (D1 * 2 ^ k) → IsNat w1 (Value.slice a2 l2 c2) D2 → Calls Tryz.prog 76 #[Value.slice a4 l4 c4, Value.slice a2 l2 c2] w1 fun e w' => e = .returned (.int .i64 (cmpI (D1 * 2 ^ k) D2)) ∧ Below w1.heap.size w1 w') := fun w1 k1 k2 => cmp_any _ _ _ _ w1 k1 k2 HSX.out HSY.out
  clear N1' N2' E3' B0' hv4 hb4
  generalize hXE : (D1 * 2 ^ k) = X at *
  have HXE : Hid ((D1 * 2 ^ k) = X) := hXE
  clear hXE
  generalize hYE : D2 = Y at *
  have HYE : Hid (D2 = Y) := hYE
  clear hYE
  go_upto_region 6 with fail
  try rw [hwA]
  clear hwA x0 x1 x2 y0 y1 y2 xl yl f1 f2
  have t0 := N1.out.c0
  have t1 := N1.out.c1
  have t2 := N1.out.c2
  have u0 := N2.out.c0
  have u1 := N2.out.c1
  have u2 := N2.out.c2
  have tl := N1.out.lt
  have ul := N2.out.lt
  have vl := E3.out.lt
  by_cases hnn : n1 = n2
  · subst hnn
    have hbq : (n1 == n1) = true := by simp
    go_wp2_with fail
    go_region_held3 (fun w' => w'.cell? ⟨w.heap.size, 0, none⟩ = some (.bool n1) ∧ w'.cell? ⟨w.heap.size, 1, none⟩ = some (Value.slice a4 l4 c4) ∧ w'.cell? ⟨w.heap.size, 2, none⟩ = some (.int .i64 p) ∧ w'.cell? ⟨w.heap.size + 1, 0, none⟩ = some (.bool n1) ∧ w'.cell? ⟨w.heap.size + 1, 1, none⟩ = some (Value.slice a2 l2 c2) ∧ w'.cell? ⟨w.heap.size + 1, 2, none⟩ = some (.int .i64 p))
      (first | (go_keep; done) | exact ⟨K1.out.c0, K1.out.c1, K1.out.c2, K2.out.c0, K2.out.c1, K2.out.c2⟩ | (refine ⟨?_, ?_, ?_, ?_, ?_, ?_⟩ <;> go_simp; done) | (refine ⟨?_, ?_, ?_, ?_, ?_, ?_⟩ <;> (rw [cellSet _ _ _ _ (by simp), cellSet _ _ _ _ (by simp), cellSet _ _ _ _ (by simp)]; first | exact K1.out.c0 | exact K1.out.c1 | exact K1.out.c2 | exact K2.out.c0 | exact K2.out.c1 | exact K2.out.c2); done))
      (first | (go_at_call 75; refine (HPL.out _ (N1.out.nat.later (by repeat (first | exact Below.refl _ _ | refine Below.drew ?_ | refine below_drewN ?_ _))) (N2.out.nat.later (by repeat (first | exact Below.refl _ _ | refine Below.drew ?_ | refine below_drewN ?_ _)))).mono ?_; rintro e w' ⟨a, len, cap, rfl, hv, hb⟩; have HV : Hid (IsNat w' (.slice a len cap) (X + Y)) := hv; clear hv; have hbb : Hid (Below wA.heap.size wA w') := (Below.drew (Below.refl _ _)).trans hb; clear hb; have K1 : Hid (NumAt w' w.heap.size n1 (Value.slice a4 l4 c4) X p) := N1.out.later hbb.out; have K2 : Hid (NumAt w' (w.heap.size + 1) n1 (Value.slice a2 l2 c2) Y p) := N2.out.later hbb.out; have K3 := E3.out.later hbb.out; obtain ⟨k0, k1, k2, k3, k4, k5, k6⟩ := K3))
    all_goals (try go_wp2_with fail)
    have HG := sn_same (n := n1) (X := X) (Y := Y) (p := p)
    refine bodyPost_ret (v := .agg #[.bool n1, .slice a len cap, .int .i64 p]) (by simp [results, Tryz.results47, go_sem, k1, k2, k3]) rfl ⟨a, len, cap, by rw [HXE.out, HYE.out, HG.1, HG.2.2], ?_, ?_⟩
    · rw [HXE.out, HYE.out, HG.2.1]; exact set_num HV.out k1
    · exact (((B0.out.trans (hbb.out.mono B0.out.size)).setCell (by simp; omega) _).setCell (by simp; omega) _).setCell (by simp; omega) _
  · have hbq : (n1 == n2) = false := by rw [beq_eq_false_iff_ne]; exact hnn
    go_wp2_with fail
    refine (HCM.out _ N1.out.nat N2.out.nat).mono ?_
    rintro e w6 ⟨rfl, hb6⟩
    have N1' : Hid (NumAt w6 w.heap.size n1 (Value.slice a4 l4 c4) X p) := N1.out.later hb6
    have N2' : Hid (NumAt w6 (w.heap.size + 1) n2 (Value.slice a2 l2 c2) Y p) := N2.out.later hb6
    have E3' : Hid (Empty3 w6 (w.heap.size + 2)) := E3.out.later hb6
    have B0' : Hid (Below w.heap.size w w6) := B0.out.trans (hb6.mono B0.out.size)
    clear hb6 t0 t1 t2 u0 u1 u2 tl ul vl N1 N2 E3 B0
    have N1 := N1'
    have N2 := N2'
    have E3 := E3'
    have B0 := B0'
    clear N1' N2' E3' B0'
    have t0 := N1.out.c0
    have t1 := N1.out.c1
    have t2 := N1.out.c2
    have u0 := N2.out.c0
    have u1 := N2.out.c1
    have u2 := N2.out.c2
    have tl := N1.out.lt
    have ul := N2.out.lt
    have vl := E3.out.lt
    by_cases hlt : Y < X
    · have hc := cmpI_gt hlt
      rw [hc]
      clear hc
      have HMI : Hid (∀ w1, IsNat w1 (Value.slice a4 l4 c4) X → IsNat w1 (Value.slice a2 l2 c2) Y → Calls Tryz.prog 77 #[Value.slice a4 l4 c4, Value.slice a2 l2 c2] w1 fun e w' => ∃ a len cap, e = .returned (.slice a len cap) ∧ IsNat w' (.slice a len cap) (X - Y) ∧ Below w1.heap.size w1 w') := fun w1 k1 k2 => slice_of (minus_any X Y _ _ w1 (by omega) k1 k2 HSX.out)
      go_wp2_with fail
      go_region_held3 (fun w' => w'.cell? ⟨w.heap.size, 0, none⟩ = some (.bool n1) ∧ w'.cell? ⟨w.heap.size, 1, none⟩ = some (Value.slice a4 l4 c4) ∧ w'.cell? ⟨w.heap.size, 2, none⟩ = some (.int .i64 p) ∧ w'.cell? ⟨w.heap.size + 1, 0, none⟩ = some (.bool n2) ∧ w'.cell? ⟨w.heap.size + 1, 1, none⟩ = some (Value.slice a2 l2 c2) ∧ w'.cell? ⟨w.heap.size + 1, 2, none⟩ = some (.int .i64 p))
        (first | (go_keep; done) | exact ⟨K1.out.c0, K1.out.c1, K1.out.c2, K2.out.c0, K2.out.c1, K2.out.c2⟩ | (refine ⟨?_, ?_, ?_, ?_, ?_, ?_⟩ <;> go_simp; done) | (refine ⟨?_, ?_, ?_, ?_, ?_, ?_⟩ <;> (rw [cellSet _ _ _ _ (by simp), cellSet _ _ _ _ (by simp), cellSet _ _ _ _ (by simp)]; first | exact K1.out.c0 | exact K1.out.c1 | exact K1.out.c2 | exact K2.out.c0 | exact K2.out.c1 | exact K2.out.c2); done))
        (first | (go_at_call 77; refine (HMI.out _ (N1.out.nat.later (by repeat (first | exact Below.refl _ _ | refine Below.drew ?_ | refine below_drewN ?_ _))) (N2.out.nat.later (by repeat (first | exact Below.refl _ _ | refine Below.drew ?_ | refine below_drewN ?_ _)))).mono ?_; rintro e w' ⟨a, len, cap, rfl, hv, hb⟩; have HV : Hid (IsNat w' (.slice a len cap) (X - Y)) := hv; clear hv; have hbb : Hid (Below w6.heap.size w6 w') := (Below.drew (Below.refl _ _)).trans hb; clear hb; have K1 : Hid (NumAt w' w.heap.size n1 (Value.slice a4 l4 c4) X p) := N1.out.later hbb.out; have K2 : Hid (NumAt w' (w.heap.size + 1) n2 (Value.slice a2 l2 c2) Y p) := N2.out.later hbb.out; have K3 := E3.out.later hbb.out; obtain ⟨k0, k1, k2, k3, k4, k5, k6⟩ := K3))
      all_goals (try go_wp2_with fail)
      have HG := sn_first (p := p) hnn hlt
      refine bodyPost_ret (v := .agg #[.bool n1, .slice a len cap, .int .i64 p]) (by simp [results, Tryz.results47, go_sem, k1, k2, k3]) rfl ⟨a, len, cap, by rw [HXE.out, HYE.out, HG.1, HG.2.2], ?_, ?_⟩
      · rw [HXE.out, HYE.out, HG.2.1]; exact set_num HV.out k1
      · exact (((B0.out.trans (hbb.out.mono B0.out.size)).setCell (by simp; omega) _).setCell (by simp; omega) _).setCell (by simp; omega) _
    · by_cases hgt : X < Y
      · have hc := cmpI_lt hgt
        rw [hc]
        clear hc
        have HMI : Hid (∀ w1, IsNat w1 (Value.slice a2 l2 c2) Y → IsNat w1 (Value.slice a4 l4 c4) X → Calls Tryz.prog 77 #[Value.slice a2 l2 c2, Value.slice a4 l4 c4] w1 fun e w' => ∃ a len cap, e = .returned (.slice a len cap) ∧ IsNat w' (.slice a len cap) (Y - X) ∧ Below w1.heap.size w1 w') := fun w1 k1 k2 => slice_of (minus_any Y X _ _ w1 (by omega) k1 k2 HSY.out)
        go_wp2_with fail
        go_region_held3 (fun w' => w'.cell? ⟨w.heap.size, 0, none⟩ = some (.bool n1) ∧ w'.cell? ⟨w.heap.size, 1, none⟩ = some (Value.slice a4 l4 c4) ∧ w'.cell? ⟨w.heap.size, 2, none⟩ = some (.int .i64 p) ∧ w'.cell? ⟨w.heap.size + 1, 0, none⟩ = some (.bool n2) ∧ w'.cell? ⟨w.heap.size + 1, 1, none⟩ = some (Value.slice a2 l2 c2) ∧ w'.cell? ⟨w.heap.size + 1, 2, none⟩ = some (.int .i64 p))
          (first | (go_keep; done) | exact ⟨K1.out.c0, K1.out.c1, K1.out.c2, K2.out.c0, K2.out.c1, K2.out.c2⟩ | (refine ⟨?_, ?_, ?_, ?_, ?_, ?_⟩ <;> go_simp; done) | (refine ⟨?_, ?_, ?_, ?_, ?_, ?_⟩ <;> (rw [cellSet _ _ _ _ (by simp), cellSet _ _ _ _ (by simp), cellSet _ _ _ _ (by simp)]; first | exact K1.out.c0 | exact K1.out.c1 | exact K1.out.c2 | exact K2.out.c0 | exact K2.out.c1 | exact K2.out.c2); done))
          (first | (go_at_call 77; refine (HMI.out _ (N2.out.nat.later (by repeat (first | exact Below.refl _ _ | refine Below.drew ?_ | refine below_drewN ?_ _))) (N1.out.nat.later (by repeat (first | exact Below.refl _ _ | refine Below.drew ?_ | refine below_drewN ?_ _)))).mono ?_; rintro e w' ⟨a, len, cap, rfl, hv, hb⟩; have HV : Hid (IsNat w' (.slice a len cap) (Y - X)) := hv; clear hv; have hbb : Hid (Below w6.heap.size w6 w') := (Below.drew (Below.refl _ _)).trans hb; clear hb; have K1 : Hid (NumAt w' w.heap.size n1 (Value.slice a4 l4 c4) X p) := N1.out.later hbb.out; have K2 : Hid (NumAt w' (w.heap.size + 1) n2 (Value.slice a2 l2 c2) Y p) := N2.out.later hbb.out; have K3 := E3.out.later hbb.out; obtain ⟨k0, k1, k2, k3, k4, k5, k6⟩ := K3))
        all_goals (try go_wp2_with fail)
        have HG := sn_second (p := p) hnn hgt
        refine bodyPost_ret (v := .agg #[.bool n2, .slice a len cap, .int .i64 p]) (by simp [results, Tryz.results47, go_sem, k1, k2, k3]) rfl ⟨a, len, cap, by rw [HXE.out, HYE.out, HG.1, HG.2.2], ?_, ?_⟩
        · rw [HXE.out, HYE.out, HG.2.1]; exact set_num HV.out k1
        · exact (((B0.out.trans (hbb.out.mono B0.out.size)).setCell (by simp; omega) _).setCell (by simp; omega) _).setCell (by simp; omega) _
      · have hE : X = Y := by omega
        have hc := cmpI_eq hE
        rw [hc]
        clear hc
        obtain ⟨k0, k1, k2, k3, k4, k5, k6⟩ := E3.out
        have HG := sn_zero (p := p) hnn hE
        go_wp2_with fail
        refine bodyPost_ret (v := .agg #[.bool false, .slice none 0 0, .int .i64 0]) (by simp [results, Tryz.results47, go_sem, k1, k2, k3]) rfl ⟨none, 0, 0, by rw [HXE.out, HYE.out, HG.1, HG.2.2], ?_, ?_⟩
        · rw [HXE.out, HYE.out, HG.2.1]; exact IsNat.nil _
        · exact ((B0.out.setCell (by simp; omega) _).setCell (by simp; omega) _).setCell (by simp; omega) _


set_option maxRecDepth 10000 in
set_option maxHeartbeats 4000000 in
theorem sum_le (n1 n2 : Bool) (a1 a2 : Option Addr) (l1 c1 l2 c2 D1 D2 k : Nat) (p : Int) (w : World) (h1 : IsNat w (.slice a1 l1 c1) D1) (h2 : IsNat w (.slice a2 l2 c2) D2) (s1 : nd D1 ≤ 1000) (s2 : nd D2 ≤ 1000) (hk : k ≤ 10000) (hp : -10000 ≤ p ∧ p ≤ 10000) :
    Calls Tryz.prog 47 #[.agg #[.bool n1, .slice a1 l1 c1, .int .i64 p], .agg #[.bool n2, .slice a2 l2 c2, .int .i64 (p + k)]] w fun e w' =>
      ∃ a len cap, e = .returned (.agg #[.bool (snG n1 D1 n2 (D2 * 2 ^ k)), .slice a len cap, .int .i64 (snP n1 D1 n2 (D2 * 2 ^ k) p)]) ∧ IsNat w' (.slice a len cap) (snD n1 D1 n2 (D2 * 2 ^ k)) ∧ Below w.heap.size w w' := by
  have N1o : Hid (NumAt (((w.alloc (.cells #[.bool n1, .slice a1 l1 c1, .int .i64 p] 63)).alloc (.cells #[.bool n2, .slice a2 l2 c2, .int .i64 (p + k)] 63)).alloc (.cells #[.bool false, .slice none 0 0, .int .i64 0] 63)) w.heap.size n1 (.slice a1 l1 c1) D1 p) := ⟨by simp; omega, by go_simp, by go_simp, by go_simp, h1.later ((((Below.refl _ _).alloc (Nat.le_refl _) _).alloc (by simp) _).alloc (by simp; omega) _)⟩
  have N2o : Hid (NumAt (((w.alloc (.cells #[.bool n1, .slice a1 l1 c1, .int .i64 p] 63)).alloc (.cells #[.bool n2, .slice a2 l2 c2, .int .i64 (p + k)] 63)).alloc (.cells #[.bool false, .slice none 0 0, .int .i64 0] 63)) (w.heap.size + 1) n2 (.slice a2 l2 c2) D2 (p + k)) := ⟨by simp, by go_simp, by go_simp, by go_simp, h2.later ((((Below.refl _ _).alloc (Nat.le_refl _) _).alloc (by simp) _).alloc (by simp; omega) _)⟩
  have E3o : Hid (Empty3 (((w.alloc (.cells #[.bool n1, .slice a1 l1 c1, .int .i64 p] 63)).alloc (.cells #[.bool n2, .slice a2 l2 c2, .int .i64 (p + k)] 63)).alloc (.cells #[.bool false, .slice none 0 0, .int .i64 0] 63)) (w.heap.size + 2)) := ⟨by simp, by go_simp, by go_simp, by go_simp, by go_simp, by go_simp, by go_simp⟩
  have B0o : Hid (Below w.heap.size w (((w.alloc (.cells #[.bool n1, .slice a1 l1 c1, .int .i64 p] 63)).alloc (.cells #[.bool n2, .slice a2 l2 c2, .int .i64 (p + k)] 63)).alloc (.cells #[.bool false, .slice none 0 0, .int .i64 0] 63))) := (((Below.refl _ _).alloc (Nat.le_refl _) _).alloc (by simp) _).alloc (by simp; omega) _
  have hnk : nd (2 ^ k) ≤ k + 1 := nd_of_lt (Nat.pow_lt_pow_right (by decide) (by omega))
  have HSX : Hid (nd D1 ≤ 100000) := (by omega : nd D1 ≤ 100000)
  have HSY : Hid (nd (D2 * 2 ^ k) ≤ 100000) := Nat.le_trans (nd_mul_le _ _) (by omega)
  have HS1 : Hid (nd D1 ≤ 1000 ∧ nd D2 ≤ 1000 ∧ k ≤ 10000) := ⟨s1, s2, hk⟩
  obtain ⟨hp1, hp2⟩ := hp
  have hk2 := hk
  have hw1 : wrap64 (k : Int) = k := wrap64_small _ (by omega) (by omega)
  have hsub : p + (k : Int) - p = (k : Int) := by omega
  clear h1 h2 s1 s2 hnk
  go_enter Tryz.func47, Tryz.ntmps47
  go_wp2_with fail
  refine (up_any D2 k _ _ N2o.out.nat (by have := HS1.out; omega) (by omega)).mono ?_
  rintro e w4 ⟨v4, rfl, hv4, hb4⟩
  have N1 := N1o.out.later hb4
  have N2 := N2o.out.later hb4
  have E3 := E3o.out.later hb4
  have B0 := B0o.out.trans (hb4.mono B0o.out.size)
  clear N1o N2o E3o B0o
  obtain ⟨a4, l4, c4, g4, rfl, -, -, -⟩ := hv4.slice
  have N2' := N2.turn (p := p) hv4
  have N1' : NumAt ((w4.setCell ⟨w.heap.size + 1, 1, none⟩ (.slice a4 l4 c4)).setCell ⟨w.heap.size + 1, 2, none⟩ (.int .i64 p)) w.heap.size n1 (.slice a1 l1 c1) D1 p := (N1.set (by omega) N2.c0 1 _).set (by omega) ((World.cell?_setCell_other _ _ _ _ (by simp)).trans N2.c0) 2 _
  have E3' := (E3.set (g' := w.heap.size + 1) (by omega) 1 (.slice a4 l4 c4)).set (g' := w.heap.size + 1) (by omega) 2 (.int .i64 p)
  have B0' : Below w.heap.size w ((w4.setCell ⟨w.heap.size + 1, 1, none⟩ (.slice a4 l4 c4)).setCell ⟨w.heap.size + 1, 2, none⟩ (.int .i64 p)) := (B0.setCell (by simp) _).setCell (by simp) _
  have x0 := N1.c0
  have x1 := N1.c1
  have x2 := N1.c2
  have y0 := N2.c0
  have y1 := N2.c1
  have y2 := N2.c2
  have xl := N1.lt
  have yl := N2.lt
  have f1 : w4.frozen? ⟨w.heap.size + 1, 1, none⟩ = false := (hb4.frozen (p := ⟨w.heap.size + 1, 1, none⟩) (by first | (simp; done) | (simp; omega))).trans (by go_simp)
  have f2 : w4.frozen? ⟨w.heap.size + 1, 2, none⟩ = false := (hb4.frozen (p := ⟨w.heap.size + 1, 2, none⟩) (by first | (simp; done) | (simp; omega))).trans (by go_simp)
  generalize hwA : (w4.setCell ⟨w.heap.size + 1, 1, none⟩ (.slice a4 l4 c4)).setCell ⟨w.heap.size + 1, 2, none⟩ (.int .i64 p) = wA at *
  clear N1 N2 E3 B0
  have N1 : Hid (NumAt wA w.heap.size n1 (Value.slice a1 l1 c1) D1 p) := N1'
  have N2 : Hid (NumAt wA (w.heap.size + 1) n2 (Value.slice a4 l4 c4) (D2 * 2 ^ k) p) := N2'
  have E3 : Hid (Empty3 wA (w.heap.size + 2)) := E3'
  have B0 : Hid (Below w.heap.size w wA) := B0'
  have HPL : Hid (∀ w1, IsNat w1 (Value.slice a1 l1 c1) D1 → IsNat w1 (Value.slice a4 l4 c4) (D2 * 2 ^ k) → Calls Tryz.prog 75 #[Value.slice a1 l1 c1, Value.slice a4 l4 c4] w1 fun e w' => ∃ a len cap, e = .returned (.slice a len cap) ∧ IsNat w' (.slice a len cap) (D1 + (D2 * 2 ^ k)) ∧ Below w1.heap.size w1 w') := fun w1 k1 k2 => slice_of (plus_any _ _ _ _ w1 k1 k2 HSX.out HSY.out)
  have HCM : Hid (∀ w1, IsNat w1 (Value.slice a1 l1 c1) D1 → IsNat w1 (Value.slice a4 l4 c4) (D2 * 2 ^ k) → Calls Tryz.prog 76 #[Value.slice a1 l1 c1, Value.slice a4 l4 c4] w1 fun e w' => e = .returned (.int .i64 (cmpI D1 (D2 * 2 ^ k))) ∧ Below w1.heap.size w1 w') := fun w1 k1 k2 => cmp_any _ _ _ _ w1 k1 k2 HSX.out HSY.out
  clear N1' N2' E3' B0' hv4 hb4
  generalize hXE : D1 = X at *
  have HXE : Hid (D1 = X) := hXE
  clear hXE
  generalize hYE : (D2 * 2 ^ k) = Y at *
  have HYE : Hid ((D2 * 2 ^ k) = Y) := hYE
  clear hYE
  go_upto_region 6 with fail
  try rw [hwA]
  clear hwA x0 x1 x2 y0 y1 y2 xl yl f1 f2
  have t0 := N1.out.c0
  have t1 := N1.out.c1
  have t2 := N1.out.c2
  have u0 := N2.out.c0
  have u1 := N2.out.c1
  have u2 := N2.out.c2
  have tl := N1.out.lt
  have ul := N2.out.lt
  have vl := E3.out.lt
  by_cases hnn : n1 = n2
  · subst hnn
    have hbq : (n1 == n1) = true := by simp
    go_wp2_with fail
    go_region_held3 (fun w' => w'.cell? ⟨w.heap.size, 0, none⟩ = some (.bool n1) ∧ w'.cell? ⟨w.heap.size, 1, none⟩ = some (Value.slice a1 l1 c1) ∧ w'.cell? ⟨w.heap.size, 2, none⟩ = some (.int .i64 p) ∧ w'.cell? ⟨w.heap.size + 1, 0, none⟩ = some (.bool n1) ∧ w'.cell? ⟨w.heap.size + 1, 1, none⟩ = some (Value.slice a4 l4 c4) ∧ w'.cell? ⟨w.heap.size + 1, 2, none⟩ = some (.int .i64 p))
      (first | (go_keep; done) | exact ⟨K1.out.c0, K1.out.c1, K1.out.c2, K2.out.c0, K2.out.c1, K2.out.c2⟩ | (refine ⟨?_, ?_, ?_, ?_, ?_, ?_⟩ <;> go_simp; done) | (refine ⟨?_, ?_, ?_, ?_, ?_, ?_⟩ <;> (rw [cellSet _ _ _ _ (by simp), cellSet _ _ _ _ (by simp), cellSet _ _ _ _ (by simp)]; first | exact K1.out.c0 | exact K1.out.c1 | exact K1.out.c2 | exact K2.out.c0 | exact K2.out.c1 | exact K2.out.c2); done))
      (first | (go_at_call 75; refine (HPL.out _ (N1.out.nat.later (by repeat (first | exact Below.refl _ _ | refine Below.drew ?_ | refine below_drewN ?_ _))) (N2.out.nat.later (by repeat (first | exact Below.refl _ _ | refine Below.drew ?_ | refine below_drewN ?_ _)))).mono ?_; rintro e w' ⟨a, len, cap, rfl, hv, hb⟩; have HV : Hid (IsNat w' (.slice a len cap) (X + Y)) := hv; clear hv; have hbb : Hid (Below wA.heap.size wA w') := (Below.drew (Below.refl _ _)).trans hb; clear hb; have K1 : Hid (NumAt w' w.heap.size n1 (Value.slice a1 l1 c1) X p) := N1.out.later hbb.out; have K2 : Hid (NumAt w' (w.heap.size + 1) n1 (Value.slice a4 l4 c4) Y p) := N2.out.later hbb.out; have K3 := E3.out.later hbb.out; obtain ⟨k0, k1, k2, k3, k4, k5, k6⟩ := K3))
    all_goals (try go_wp2_with fail)
    have HG := sn_same (n := n1) (X := X) (Y := Y) (p := p)
    refine bodyPost_ret (v := .agg #[.bool n1, .slice a len cap, .int .i64 p]) (by simp [results, Tryz.results47, go_sem, k1, k2, k3]) rfl ⟨a, len, cap, by rw [HXE.out, HYE.out, HG.1, HG.2.2], ?_, ?_⟩
    · rw [HXE.out, HYE.out, HG.2.1]; exact set_num HV.out k1
    · exact (((B0.out.trans (hbb.out.mono B0.out.size)).setCell (by simp; omega) _).setCell (by simp; omega) _).setCell (by simp; omega) _
  · have hbq : (n1 == n2) = false := by rw [beq_eq_false_iff_ne]; exact hnn
    go_wp2_with fail
    refine (HCM.out _ N1.out.nat N2.out.nat).mono ?_
    rintro e w6 ⟨rfl, hb6⟩
    have N1' : Hid (NumAt w6 w.heap.size n1 (Value.slice a1 l1 c1) X p) := N1.out.later hb6
    have N2' : Hid (NumAt w6 (w.heap.size + 1) n2 (Value.slice a4 l4 c4) Y p) := N2.out.later hb6
    have E3' : Hid (Empty3 w6 (w.heap.size + 2)) := E3.out.later hb6
    have B0' : Hid (Below w.heap.size w w6) := B0.out.trans (hb6.mono B0.out.size)
    clear hb6 t0 t1 t2 u0 u1 u2 tl ul vl N1 N2 E3 B0
    have N1 := N1'
    have N2 := N2'
    have E3 := E3'
    have B0 := B0'
    clear N1' N2' E3' B0'
    have t0 := N1.out.c0
    have t1 := N1.out.c1
    have t2 := N1.out.c2
    have u0 := N2.out.c0
    have u1 := N2.out.c1
    have u2 := N2.out.c2
    have tl := N1.out.lt
    have ul := N2.out.lt
    have vl := E3.out.lt
    by_cases hlt : Y < X
    · have hc := cmpI_gt hlt
      rw [hc]
      clear hc
      have HMI : Hid (∀ w1, IsNat w1 (Value.slice a1 l1 c1) X → IsNat w1 (Value.slice a4 l4 c4) Y → Calls Tryz.prog 77 #[Value.slice a1 l1 c1, Value.slice a4 l4 c4] w1 fun e w' => ∃ a len cap, e = .returned (.slice a len cap) ∧ IsNat w' (.slice a len cap) (X - Y) ∧ Below w1.heap.size w1 w') := fun w1 k1 k2 => slice_of (minus_any X Y _ _ w1 (by omega) k1 k2 HSX.out)
      go_wp2_with fail
      go_region_held3 (fun w' => w'.cell? ⟨w.heap.size, 0, none⟩ = some (.bool n1) ∧ w'.cell? ⟨w.heap.size, 1, none⟩ = some (Value.slice a1 l1 c1) ∧ w'.cell? ⟨w.heap.size, 2, none⟩ = some (.int .i64 p) ∧ w'.cell? ⟨w.heap.size + 1, 0, none⟩ = some (.bool n2) ∧ w'.cell? ⟨w.heap.size + 1, 1, none⟩ = some (Value.slice a4 l4 c4) ∧ w'.cell? ⟨w.heap.size + 1, 2, none⟩ = some (.int .i64 p))
        (first | (go_keep; done) | exact ⟨K1.out.c0, K1.out.c1, K1.out.c2, K2.out.c0, K2.out.c1, K2.out.c2⟩ | (refine ⟨?_, ?_, ?_, ?_, ?_, ?_⟩ <;> go_simp; done) | (refine ⟨?_, ?_, ?_, ?_, ?_, ?_⟩ <;> (rw [cellSet _ _ _ _ (by simp), cellSet _ _ _ _ (by simp), cellSet _ _ _ _ (by simp)]; first | exact K1.out.c0 | exact K1.out.c1 | exact K1.out.c2 | exact K2.out.c0 | exact K2.out.c1 | exact K2.out.c2); done))
        (first | (go_at_call 77; refine (HMI.out _ (N1.out.nat.later (by repeat (first | exact Below.refl _ _ | refine Below.drew ?_ | refine below_drewN ?_ _))) (N2.out.nat.later (by repeat (first | exact Below.refl _ _ | refine Below.drew ?_ | refine below_drewN ?_ _)))).mono ?_; rintro e w' ⟨a, len, cap, rfl, hv, hb⟩; have HV : Hid (IsNat w' (.slice a len cap) (X - Y)) := hv; clear hv; have hbb : Hid (Below w6.heap.size w6 w') := (Below.drew (Below.refl _ _)).trans hb; clear hb; have K1 : Hid (NumAt w' w.heap.size n1 (Value.slice a1 l1 c1) X p) := N1.out.later hbb.out; have K2 : Hid (NumAt w' (w.heap.size + 1) n2 (Value.slice a4 l4 c4) Y p) := N2.out.later hbb.out; have K3 := E3.out.later hbb.out; obtain ⟨k0, k1, k2, k3, k4, k5, k6⟩ := K3))
      all_goals (try go_wp2_with fail)
      have HG := sn_first (p := p) hnn hlt
      refine bodyPost_ret (v := .agg #[.bool n1, .slice a len cap, .int .i64 p]) (by simp [results, Tryz.results47, go_sem, k1, k2, k3]) rfl ⟨a, len, cap, by rw [HXE.out, HYE.out, HG.1, HG.2.2], ?_, ?_⟩
      · rw [HXE.out, HYE.out, HG.2.1]; exact set_num HV.out k1
      · exact (((B0.out.trans (hbb.out.mono B0.out.size)).setCell (by simp; omega) _).setCell (by simp; omega) _).setCell (by simp; omega) _
    · by_cases hgt : X < Y
      · have hc := cmpI_lt hgt
        rw [hc]
        clear hc
        have HMI : Hid (∀ w1, IsNat w1 (Value.slice a4 l4 c4) Y → IsNat w1 (Value.slice a1 l1 c1) X → Calls Tryz.prog 77 #[Value.slice a4 l4 c4, Value.slice a1 l1 c1] w1 fun e w' => ∃ a len cap, e = .returned (.slice a len cap) ∧ IsNat w' (.slice a len cap) (Y - X) ∧ Below w1.heap.size w1 w') := fun w1 k1 k2 => slice_of (minus_any Y X _ _ w1 (by omega) k1 k2 HSY.out)
        go_wp2_with fail
        go_region_held3 (fun w' => w'.cell? ⟨w.heap.size, 0, none⟩ = some (.bool n1) ∧ w'.cell? ⟨w.heap.size, 1, none⟩ = some (Value.slice a1 l1 c1) ∧ w'.cell? ⟨w.heap.size, 2, none⟩ = some (.int .i64 p) ∧ w'.cell? ⟨w.heap.size + 1, 0, none⟩ = some (.bool n2) ∧ w'.cell? ⟨w.heap.size + 1, 1, none⟩ = some (Value.slice a4 l4 c4) ∧ w'.cell? ⟨w.heap.size + 1, 2, none⟩ = some (.int .i64 p))
          (first | (go_keep; done) | exact ⟨K1.out.c0, K1.out.c1, K1.out.c2, K2.out.c0, K2.out.c1, K2.out.c2⟩ | (refine ⟨?_, ?_, ?_, ?_, ?_, ?_⟩ <;> go_simp; done) | (refine ⟨?_, ?_, ?_, ?_, ?_, ?_⟩ <;> (rw [cellSet _ _ _ _ (by simp), cellSet _ _ _ _ (by simp), cellSet _ _ _ _ (by simp)]; first | exact K1.out.c0 | exact K1.out.c1 | exact K1.out.c2 | exact K2.out.c0 | exact K2.out.c1 | exact K2.out.c2); done))
          (first | (go_at_call 77; refine (HMI.out _ (N2.out.nat.later (by repeat (first | exact Below.refl _ _ | refine Below.drew ?_ | refine below_drewN ?_ _))) (N1.out.nat.later (by repeat (first | exact Below.refl _ _ | refine Below.drew ?_ | refine below_drewN ?_ _)))).mono ?_; rintro e w' ⟨a, len, cap, rfl, hv, hb⟩; have HV : Hid (IsNat w' (.slice a len cap) (Y - X)) := hv; clear hv; have hbb : Hid (Below w6.heap.size w6 w') := (Below.drew (Below.refl _ _)).trans hb; clear hb; have K1 : Hid (NumAt w' w.heap.size n1 (Value.slice a1 l1 c1) X p) := N1.out.later hbb.out; have K2 : Hid (NumAt w' (w.heap.size + 1) n2 (Value.slice a4 l4 c4) Y p) := N2.out.later hbb.out; have K3 := E3.out.later hbb.out; obtain ⟨k0, k1, k2, k3, k4, k5, k6⟩ := K3))
        all_goals (try go_wp2_with fail)
        have HG := sn_second (p := p) hnn hgt
        refine bodyPost_ret (v := .agg #[.bool n2, .slice a len cap, .int .i64 p]) (by simp [results, Tryz.results47, go_sem, k1, k2, k3]) rfl ⟨a, len, cap, by rw [HXE.out, HYE.out, HG.1, HG.2.2], ?_, ?_⟩
        · rw [HXE.out, HYE.out, HG.2.1]; exact set_num HV.out k1
        · exact (((B0.out.trans (hbb.out.mono B0.out.size)).setCell (by simp; omega) _).setCell (by simp; omega) _).setCell (by simp; omega) _
      · have hE : X = Y := by omega
        have hc := cmpI_eq hE
        rw [hc]
        clear hc
        obtain ⟨k0, k1, k2, k3, k4, k5, k6⟩ := E3.out
        have HG := sn_zero (p := p) hnn hE
        go_wp2_with fail
        refine bodyPost_ret (v := .agg #[.bool false, .slice none 0 0, .int .i64 0]) (by simp [results, Tryz.results47, go_sem, k1, k2, k3]) rfl ⟨none, 0, 0, by rw [HXE.out, HYE.out, HG.1, HG.2.2], ?_, ?_⟩
        · rw [HXE.out, HYE.out, HG.2.1]; exact IsNat.nil _
        · exact ((B0.out.setCell (by simp; omega) _).setCell (by simp; omega) _).setCell (by simp; omega) _

/-- An amount, brought to the lesser of two exponents. -/
def alN (D : Nat) (p q : Int) : Nat := D * 2 ^ (p - min p q).toNat
theorem alN_low {D : Nat} {p q : Int} (h : p ≤ q) : alN D p q = D := by
  unfold alN
  rw [Int.min_eq_left h, Int.sub_self]
  simp
theorem alN_high {D k : Nat} {p : Int} : alN D (p + k) p = D * 2 ^ k := by
  unfold alN
  rw [Int.min_eq_right (by omega), show (p + k - p).toNat = k by omega]
/-- The document's sum. -/
theorem sum_ref (n1 n2 : Bool) (a1 a2 : Option Addr) (l1 c1 l2 c2 D1 D2 : Nat) (p1 p2 : Int) (w : World) (h1 : IsNat w (.slice a1 l1 c1) D1) (h2 : IsNat w (.slice a2 l2 c2) D2) (s1 : nd D1 ≤ 1000) (s2 : nd D2 ≤ 1000) (hp1 : -5000 ≤ p1 ∧ p1 ≤ 5000) (hp2 : -5000 ≤ p2 ∧ p2 ≤ 5000) :
    Calls Tryz.prog 47 #[.agg #[.bool n1, .slice a1 l1 c1, .int .i64 p1], .agg #[.bool n2, .slice a2 l2 c2, .int .i64 p2]] w fun e w' =>
      ∃ a len cap, e = .returned (.agg #[.bool (snG n1 (alN D1 p1 p2) n2 (alN D2 p2 p1)), .slice a len cap, .int .i64 (snP n1 (alN D1 p1 p2) n2 (alN D2 p2 p1) (min p1 p2))]) ∧ IsNat w' (.slice a len cap) (snD n1 (alN D1 p1 p2) n2 (alN D2 p2 p1)) ∧ Below w.heap.size w w' := by
  by_cases h : p2 < p1
  · obtain ⟨k, rfl⟩ : ∃ k : Nat, p1 = p2 + k := ⟨(p1 - p2).toNat, by omega⟩
    have := sum_gt n1 n2 a1 a2 l1 c1 l2 c2 D1 D2 k p2 w h1 h2 s1 s2 (by omega) (by omega)
    rw [alN_high, alN_low (by omega), Int.min_eq_right (by omega)]
    exact this
  · obtain ⟨k, rfl⟩ : ∃ k : Nat, p2 = p1 + k := ⟨(p2 - p1).toNat, by omega⟩
    have := sum_le n1 n2 a1 a2 l1 c1 l2 c2 D1 D2 k p1 w h1 h2 s1 s2 (by omega) (by omega)
    rw [alN_high, alN_low (by omega), Int.min_eq_left (by omega)]
    exact this


/-- What the document's answer makes of the sum of two finite numbers. -/
def adB (n1 : Bool) (D1 : Nat) (n2 : Bool) (D2 : Nat) (G : Bool) (D : Nat) (q m : Int) : Int :=
  if D ≠ 0 then roundB (sOf G) D q m else if D1 = 0 ∧ D2 = 0 ∧ n1 = n2 then sOf n1 * 9223372036854775808 else sOf (m == 4) * 9223372036854775808
def adF (G : Bool) (D : Nat) (q m : Int) : Int := if D ≠ 0 then roundF (sOf G) D q m else 0

set_option maxRecDepth 10000 in
set_option maxHeartbeats 2000000 in
theorem added_some (n1 n2 G : Bool) (a1 a2 : Option Addr) (l1 c1 l2 c2 D : Nat) (p1 p2 q m : Int) (w : World) (hD : D ≠ 0) (hd : nd D ≤ 1000) (hq : -10000 ≤ q ∧ q ≤ 10000) (hm : 0 ≤ m ∧ m ≤ 4)
    (HS : Hid (∀ w1, Below w.heap.size w w1 → Calls Tryz.prog 47 #[.agg #[.bool n1, .slice a1 l1 c1, .int .i64 p1], .agg #[.bool n2, .slice a2 l2 c2, .int .i64 p2]] w1 fun e w' => ∃ a len cap, e = .returned (.agg #[.bool G, .slice a len cap, .int .i64 q]) ∧ IsNat w' (.slice a len cap) D ∧ Below w1.heap.size w1 w')) :
    Calls Tryz.prog 41 #[.agg #[.bool n1, .slice a1 l1 c1, .int .i64 p1], .agg #[.bool n2, .slice a2 l2 c2, .int .i64 p2], .int .i64 m] w fun e w' => e = .returned (.agg #[.int .u64 (roundB (sOf G) D q m), .int .i64 (roundF (sOf G) D q m), .bool false]) ∧ Below w.heap.size w w' := by
  have E0 : Hid (EmptyR (((w.alloc (.cells #[.bool n1, .slice a1 l1 c1, .int .i64 p1] 63)).alloc (.cells #[.bool n2, .slice a2 l2 c2, .int .i64 p2] 63)).alloc (.cells #[.int .u64 0, .int .i64 0, .bool false] 39)) (w.heap.size + 2)) := ⟨by simp, by go_simp, by go_simp, by go_simp, by go_simp, by go_simp, by go_simp⟩
  have B0 : Hid (Below w.heap.size w (((w.alloc (.cells #[.bool n1, .slice a1 l1 c1, .int .i64 p1] 63)).alloc (.cells #[.bool n2, .slice a2 l2 c2, .int .i64 p2] 63)).alloc (.cells #[.int .u64 0, .int .i64 0, .bool false] 39))) := (((Below.refl _ _).alloc (Nat.le_refl _) _).alloc (by simp) _).alloc (by simp; omega) _
  have HND : Hid (0 < nd D) := nd_pos hD
  have HRO : Hid (∀ w1 a len cap, IsNat w1 (.slice a len cap) D → Calls Tryz.prog 69 #[.agg #[.bool G, .slice a len cap, .int .i64 q], .int .i64 m] w1 fun e w' => e = .returned (.tuple #[.int .u64 (roundB (sOf G) D q m), .int .i64 (roundF (sOf G) D q m)]) ∧ Below w1.heap.size w1 w') := fun w1 a len cap h1 => round_ref G D q m a len cap w1 h1 hD hd hq hm
  clear hD hd hq hm
  generalize roundB (sOf G) D q m = RB at *
  generalize roundF (sOf G) D q m = RF at *
  go_enter Tryz.func41, Tryz.ntmps41
  go_wp2_with fail
  refine (HS.out _ B0.out).mono ?_
  rintro e w1 ⟨a, len, cap, rfl, hv, hb⟩
  have HV : Hid (IsNat w1 (.slice a len cap) D) := hv
  have E1 : Hid (EmptyR w1 (w.heap.size + 2)) := E0.out.later hb
  have B1 : Hid (Below w.heap.size w w1) := B0.out.trans (hb.mono B0.out.size)
  have hlen : 0 < len := by
    obtain ⟨a', len', cap', g', he, hl, -, -⟩ := hv.slice
    cases he
    rw [hl]
    exact HND.out
  have hlen' : (0 : Int) < (len : Int) := by omega
  clear hv hb
  go_wp2_with fail
  refine (finite_of G a len cap q m RB RF _ (fun w4 hb4 => ?fin)).mono ?_
  case fin => exact HRO.out w4 a len cap ((HV.out.later ((Below.refl _ _).alloc (Nat.le_refl _) _)).later hb4)
  rintro e w5 ⟨rfl, hb5⟩
  have V1a := B1.out.alloc B1.out.size (.cells #[.bool G, .slice a len cap, .int .i64 q] 63)
  have V5 : Hid (Below w.heap.size w w5) := V1a.trans (hb5.mono V1a.size)
  obtain ⟨k0, k1, k2, k3, k4, k5, k6⟩ := (E1.out.later ((Below.refl _ _).alloc (Nat.le_refl _) _)).later hb5
  clear hb5 V1a
  go_wp2_with fail
  refine bodyPost_ret (v := .agg #[.int .u64 RB, .int .i64 RF, .bool false]) (by simp [results, Tryz.results41, go_sem, k1, k2, k3]) rfl ⟨rfl, ?_⟩
  repeat (first | exact V5.out | refine Below.setCell ?_ (by simp; omega) _)

set_option maxRecDepth 10000 in
set_option maxHeartbeats 2000000 in
theorem added_none (n1 n2 G : Bool) (a1 a2 : Option Addr) (l1 c1 l2 c2 : Nat) (p1 p2 q m : Int) (w : World)
    (HS : Hid (∀ w1, Below w.heap.size w w1 → Calls Tryz.prog 47 #[.agg #[.bool n1, .slice a1 l1 c1, .int .i64 p1], .agg #[.bool n2, .slice a2 l2 c2, .int .i64 p2]] w1 fun e w' => ∃ a len cap, e = .returned (.agg #[.bool G, .slice a len cap, .int .i64 q]) ∧ IsNat w' (.slice a len cap) 0 ∧ Below w1.heap.size w1 w')) :
    Calls Tryz.prog 41 #[.agg #[.bool n1, .slice a1 l1 c1, .int .i64 p1], .agg #[.bool n2, .slice a2 l2 c2, .int .i64 p2], .int .i64 m] w fun e w' => e = .returned (.agg #[.int .u64 (sOf (if l1 = 0 ∧ l2 = 0 ∧ n1 = n2 then n1 else (m == 4)) * 9223372036854775808), .int .i64 0, .bool false]) ∧ Below w.heap.size w w' := by
  have E0 : Hid (EmptyR (((w.alloc (.cells #[.bool n1, .slice a1 l1 c1, .int .i64 p1] 63)).alloc (.cells #[.bool n2, .slice a2 l2 c2, .int .i64 p2] 63)).alloc (.cells #[.int .u64 0, .int .i64 0, .bool false] 39)) (w.heap.size + 2)) := ⟨by simp, by go_simp, by go_simp, by go_simp, by go_simp, by go_simp, by go_simp⟩
  have B0 : Hid (Below w.heap.size w (((w.alloc (.cells #[.bool n1, .slice a1 l1 c1, .int .i64 p1] 63)).alloc (.cells #[.bool n2, .slice a2 l2 c2, .int .i64 p2] 63)).alloc (.cells #[.int .u64 0, .int .i64 0, .bool false] 39))) := (((Below.refl _ _).alloc (Nat.le_refl _) _).alloc (by simp) _).alloc (by simp; omega) _
  have HEQ : Hid (∀ b : Bool, (if l1 = 0 ∧ l2 = 0 ∧ n1 = n2 then n1 else (m == 4)) = b → Ending.returned (.agg #[.int .u64 (sOf b * 9223372036854775808), .int .i64 0, .bool false]) = Ending.returned (.agg #[.int .u64 (sOf (if l1 = 0 ∧ l2 = 0 ∧ n1 = n2 then n1 else (m == 4)) * 9223372036854775808), .int .i64 0, .bool false])) := fun b h => by rw [h]
  generalize hb4 : (m == 4) = b4 at *
  go_enter Tryz.func41, Tryz.ntmps41
  go_wp2_with fail
  refine (HS.out _ B0.out).mono ?_
  rintro e w1 ⟨a, len, cap, rfl, hv, hb⟩
  have x0 : w1.cell? ⟨w.heap.size, 0, none⟩ = some (.bool n1) := (hb.cell (p := ⟨w.heap.size, 0, none⟩) (by simp; omega)).trans (by go_simp)
  have x1 : w1.cell? ⟨w.heap.size, 1, none⟩ = some (.slice a1 l1 c1) := (hb.cell (p := ⟨w.heap.size, 1, none⟩) (by simp; omega)).trans (by go_simp)
  have y0 : w1.cell? ⟨w.heap.size + 1, 0, none⟩ = some (.bool n2) := (hb.cell (p := ⟨w.heap.size + 1, 0, none⟩) (by first | (simp; done) | (simp; omega))).trans (by go_simp)
  have y1 : w1.cell? ⟨w.heap.size + 1, 1, none⟩ = some (.slice a2 l2 c2) := (hb.cell (p := ⟨w.heap.size + 1, 1, none⟩) (by first | (simp; done) | (simp; omega))).trans (by go_simp)
  have B1 : Hid (Below w.heap.size w w1) := B0.out.trans (hb.mono B0.out.size)
  obtain ⟨k0, k1, k2, k3, k4, k5, k6⟩ := E0.out.later hb
  have xl : w.heap.size < w1.heap.size := by omega
  have yl : w.heap.size + 1 < w1.heap.size := by omega
  obtain rfl : len = 0 := by
    obtain ⟨a', len', cap', g', he, hl, -, -⟩ := hv.slice
    cases he
    rw [hl, nd_zero]
  clear hv hb
  by_cases h1 : l1 = 0
  · subst h1
    by_cases h2 : l2 = 0
    · subst h2
      by_cases hn : n1 = n2
      · subst hn
        have hbq : (n1 == n1) = true := by simp
        have HE := HEQ.out n1 (by simp)
        have HE2 : Hid _ := HE
        clear HE
        go_wp2_with (go_at_call 67; refine (sign_any _ _).mono ?_; rintro e w' ⟨rfl, rfl⟩)
        refine bodyPost_ret (v := .agg #[.int .u64 (sOf n1 * 9223372036854775808), .int .i64 0, .bool false]) (by simp [results, Tryz.results41, go_sem, k1, k2, k3, World.cell?_alloc_lt, k0]) rfl ⟨by first | rfl | exact HE2.out, ?_⟩
        repeat (first | exact B1.out | refine Below.setCell ?_ (by simp; omega) _ | (refine Below.alloc ?_ (by have := B1.out.size; simp; omega) _))
      · have hbq : (n1 == n2) = false := by rw [beq_eq_false_iff_ne]; exact hn
        have HE := HEQ.out b4 (by simp [hn])
        have HE2 : Hid _ := HE
        clear HE
        go_wp2_with (go_at_call 67; refine (sign_any _ _).mono ?_; rintro e w' ⟨rfl, rfl⟩)
        refine bodyPost_ret (v := .agg #[.int .u64 (sOf b4 * 9223372036854775808), .int .i64 0, .bool false]) (by simp [results, Tryz.results41, go_sem, k1, k2, k3, World.cell?_alloc_lt, k0]) rfl ⟨by first | rfl | exact HE2.out, ?_⟩
        repeat (first | exact B1.out | refine Below.setCell ?_ (by simp; omega) _ | (refine Below.alloc ?_ (by have := B1.out.size; simp; omega) _))
    · have h2b : ((l2 : Int) == 0) = false := by rw [beq_eq_false_iff_ne]; omega
      have HE := HEQ.out b4 (by simp [h2])
      have HE2 : Hid _ := HE
      clear HE
      go_wp2_with (go_at_call 67; refine (sign_any _ _).mono ?_; rintro e w' ⟨rfl, rfl⟩)
      refine bodyPost_ret (v := .agg #[.int .u64 (sOf b4 * 9223372036854775808), .int .i64 0, .bool false]) (by simp [results, Tryz.results41, go_sem, k1, k2, k3, World.cell?_alloc_lt, k0]) rfl ⟨by first | rfl | exact HE2.out, ?_⟩
      repeat (first | exact B1.out | refine Below.setCell ?_ (by simp; omega) _ | (refine Below.alloc ?_ (by have := B1.out.size; simp; omega) _))
  · have h1b : ((l1 : Int) == 0) = false := by rw [beq_eq_false_iff_ne]; omega
    have HE := HEQ.out b4 (by simp [h1])
    have HE2 : Hid _ := HE
    clear HE
    go_wp2_with (go_at_call 67; refine (sign_any _ _).mono ?_; rintro e w' ⟨rfl, rfl⟩)
    refine bodyPost_ret (v := .agg #[.int .u64 (sOf b4 * 9223372036854775808), .int .i64 0, .bool false]) (by simp [results, Tryz.results41, go_sem, k1, k2, k3, World.cell?_alloc_lt, k0]) rfl ⟨by first | rfl | exact HE2.out, ?_⟩
    repeat (first | exact B1.out | refine Below.setCell ?_ (by simp; omega) _ | (refine Below.alloc ?_ (by have := B1.out.size; simp; omega) _))

end Go.Proofs.YtcjihaafohnbeaaGreatDoor
