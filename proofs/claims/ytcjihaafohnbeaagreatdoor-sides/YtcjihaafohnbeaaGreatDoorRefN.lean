import Derived.Test.YtcjihaafohnbeaaGreatDoorRefI
import Derived.Test.YtcjihaafohnbeaaGreatDoorSoft0
namespace Go.Proofs.YtcjihaafohnbeaaGreatDoor
open Go.RowKit

/-- The result's own block, yet empty. -/
structure Empty3 (w : World) (g : Nat) : Prop where
  lt : g < w.heap.size
  c0 : w.cell? ⟨g, 0, none⟩ = some (.bool false)
  c1 : w.cell? ⟨g, 1, none⟩ = some (.slice none 0 0)
  c2 : w.cell? ⟨g, 2, none⟩ = some (.int .i64 0)
  f0 : w.frozen? ⟨g, 0, none⟩ = false
  f1 : w.frozen? ⟨g, 1, none⟩ = false
  f2 : w.frozen? ⟨g, 2, none⟩ = false
theorem Empty3.later {w w' : World} {g : Nat} (h : Empty3 w g) (hb : Below w.heap.size w w') : Empty3 w' g :=
  ⟨Nat.lt_of_lt_of_le h.lt hb.size, (hb.cell (p := ⟨g, 0, none⟩) h.lt).trans h.c0, (hb.cell (p := ⟨g, 1, none⟩) h.lt).trans h.c1, (hb.cell (p := ⟨g, 2, none⟩) h.lt).trans h.c2, (hb.frozen (p := ⟨g, 0, none⟩) h.lt).trans h.f0, (hb.frozen (p := ⟨g, 1, none⟩) h.lt).trans h.f1, (hb.frozen (p := ⟨g, 2, none⟩) h.lt).trans h.f2⟩

set_option maxRecDepth 10000 in
set_option maxHeartbeats 4000000 in
theorem product_ref (n1 n2 : Bool) (a1 a2 : Option Addr) (l1 c1 l2 c2 D1 D2 : Nat) (p1 p2 : Int) (w : World) (h1 : IsNat w (.slice a1 l1 c1) D1) (h2 : IsNat w (.slice a2 l2 c2) D2) (s1 : nd D1 ≤ 1000) (s2 : nd D2 ≤ 1000) (hp : -10000 ≤ p1 + p2 ∧ p1 + p2 ≤ 10000) :
    Calls Tryz.prog 44 #[.agg #[.bool n1, .slice a1 l1 c1, .int .i64 p1], .agg #[.bool n2, .slice a2 l2 c2, .int .i64 p2]] w fun e w' =>
      ∃ a len cap, e = .returned (.agg #[.bool (n1 != n2), .slice a len cap, .int .i64 (p1 + p2)]) ∧ IsNat w' (.slice a len cap) (D1 * D2) ∧ Below w.heap.size w w' := by
  have HW1 : Hid (IntKind.i64.wrap (p1 + p2) = p1 + p2) := Go.IntWalk.i64_in _ (by omega)
  have N1 : Hid (NumAt (((w.alloc (.cells #[.bool n1, .slice a1 l1 c1, .int .i64 p1] 63)).alloc (.cells #[.bool n2, .slice a2 l2 c2, .int .i64 p2] 63)).alloc (.cells #[.bool false, .slice none 0 0, .int .i64 0] 63)) w.heap.size n1 (.slice a1 l1 c1) D1 p1) := ⟨by simp; omega, by go_simp, by go_simp, by go_simp, h1.later ((((Below.refl _ _).alloc (Nat.le_refl _) _).alloc (by simp) _).alloc (by simp; omega) _)⟩
  have N2 : Hid (NumAt (((w.alloc (.cells #[.bool n1, .slice a1 l1 c1, .int .i64 p1] 63)).alloc (.cells #[.bool n2, .slice a2 l2 c2, .int .i64 p2] 63)).alloc (.cells #[.bool false, .slice none 0 0, .int .i64 0] 63)) (w.heap.size + 1) n2 (.slice a2 l2 c2) D2 p2) := ⟨by simp, by go_simp, by go_simp, by go_simp, h2.later ((((Below.refl _ _).alloc (Nat.le_refl _) _).alloc (by simp) _).alloc (by simp; omega) _)⟩
  have E3 : Hid (Empty3 (((w.alloc (.cells #[.bool n1, .slice a1 l1 c1, .int .i64 p1] 63)).alloc (.cells #[.bool n2, .slice a2 l2 c2, .int .i64 p2] 63)).alloc (.cells #[.bool false, .slice none 0 0, .int .i64 0] 63)) (w.heap.size + 2)) := ⟨by simp, by go_simp, by go_simp, by go_simp, by go_simp, by go_simp, by go_simp⟩
  have B0 : Hid (Below w.heap.size w (((w.alloc (.cells #[.bool n1, .slice a1 l1 c1, .int .i64 p1] 63)).alloc (.cells #[.bool n2, .slice a2 l2 c2, .int .i64 p2] 63)).alloc (.cells #[.bool false, .slice none 0 0, .int .i64 0] 63))) := (((Below.refl _ _).alloc (Nat.le_refl _) _).alloc (by simp) _).alloc (by simp; omega) _
  have HTM : Hid (∀ w1, IsNat w1 (.slice a1 l1 c1) D1 → IsNat w1 (.slice a2 l2 c2) D2 → Calls Tryz.prog 70 #[.slice a1 l1 c1, .slice a2 l2 c2] w1 fun e w' => ∃ a len cap, e = .returned (.slice a len cap) ∧ IsNat w' (.slice a len cap) (D1 * D2) ∧ Below w1.heap.size w1 w') := fun w1 k1 k2 => by
    refine (times_any D1 D2 _ _ w1 k1 k2 (by omega) (by omega)).mono ?_
    rintro e w' ⟨v, rfl, hv, hb⟩
    obtain ⟨a, len, cap, g, rfl, -, -, -⟩ := hv.slice
    exact ⟨a, len, cap, rfl, hv, hb⟩
  clear h1 h2 s1 s2
  obtain ⟨hp1, hp2⟩ := hp
  go_enter Tryz.func44, Tryz.ntmps44
  go_wp2_with fail
  generalize ((w.alloc (.cells #[.bool n1, .slice a1 l1 c1, .int .i64 p1] 63)).alloc (.cells #[.bool n2, .slice a2 l2 c2, .int .i64 p2] 63)).alloc (.cells #[.bool false, .slice none 0 0, .int .i64 0] 63) = w0 at *
  have t0 := N1.out.c0
  have t1 := N1.out.c1
  have t2 := N1.out.c2
  have u0 := N2.out.c0
  have u1 := N2.out.c1
  have u2 := N2.out.c2
  have tl := N1.out.lt
  have ul := N2.out.lt
  have vl := E3.out.lt
  go_region_held3 (fun w' => w'.cell? ⟨w.heap.size, 0, none⟩ = some (.bool n1) ∧ w'.cell? ⟨w.heap.size, 1, none⟩ = some (.slice a1 l1 c1) ∧ w'.cell? ⟨w.heap.size, 2, none⟩ = some (.int .i64 p1) ∧ w'.cell? ⟨w.heap.size + 1, 0, none⟩ = some (.bool n2) ∧ w'.cell? ⟨w.heap.size + 1, 1, none⟩ = some (.slice a2 l2 c2) ∧ w'.cell? ⟨w.heap.size + 1, 2, none⟩ = some (.int .i64 p2))
    (first | (go_keep; done) | exact ⟨K1.out.c0, K1.out.c1, K1.out.c2, K2.out.c0, K2.out.c1, K2.out.c2⟩ | (refine ⟨?_, ?_, ?_, ?_, ?_, ?_⟩ <;> go_simp; done) | (refine ⟨?_, ?_, ?_, ?_, ?_, ?_⟩ <;> (rw [cellSet _ _ _ _ (by simp), cellSet _ _ _ _ (by simp), cellSet _ _ _ _ (by simp)]; first | exact K1.out.c0 | exact K1.out.c1 | exact K1.out.c2 | exact K2.out.c0 | exact K2.out.c1 | exact K2.out.c2); done))
    (first | (go_at_call 70; refine (HTM.out _ (N1.out.nat.later (by repeat (first | exact Below.refl _ _ | refine Below.drew ?_ | refine below_drewN ?_ _))) (N2.out.nat.later (by repeat (first | exact Below.refl _ _ | refine Below.drew ?_ | refine below_drewN ?_ _)))).mono ?_; rintro e w' ⟨a, len, cap, rfl, hv, hb⟩; have HV : Hid (IsNat w' (.slice a len cap) (D1 * D2)) := hv; clear hv; have hbb : Hid (Below w0.heap.size w0 w') := (Below.drew (Below.refl _ _)).trans hb; clear hb; have K1 : Hid (NumAt w' w.heap.size n1 (.slice a1 l1 c1) D1 p1) := N1.out.later hbb.out; have K2 : Hid (NumAt w' (w.heap.size + 1) n2 (.slice a2 l2 c2) D2 p2) := N2.out.later hbb.out; have K3 := E3.out.later hbb.out; obtain ⟨k0, k1, k2, k3, k4, k5, k6⟩ := K3))
  all_goals (try go_wp2_with fail)
  refine bodyPost_ret (v := .agg #[.bool (n1 != n2), .slice a len cap, .int .i64 (p1 + p2)]) (by simp [results, Tryz.results44, go_sem, k1, k2, k3, HW1.out]; cases n1 <;> cases n2 <;> rfl) rfl ⟨_, _, _, rfl, set_num HV.out k1, ?_⟩
  exact (((B0.out.trans (hbb.out.mono B0.out.size)).setCell (by simp; omega) _).setCell (by simp; omega) _).setCell (by simp; omega) _
end Go.Proofs.YtcjihaafohnbeaaGreatDoor
