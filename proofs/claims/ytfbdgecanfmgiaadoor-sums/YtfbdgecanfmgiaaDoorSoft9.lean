import Derived.Test.YtfbdgecanfmgiaaDoorSoft8
import Derived.Test.YtfbdgecanfmgiaaDoorDo
namespace Go.Proofs.YtfbdgecanfmgiaaDoor
open Go.RowKit

/-- Where the sum lies, behind its region: a new block. -/
def Summed (w W2 : World) (a b c d s5 : Value) (wx : World) : Prop := ∃ g, s5 = .pointer (some ⟨g, 0, none⟩) ∧ w.heap.size + 1 < g ∧ Below (w.heap.size + 2) W2 wx ∧ Four wx g a b c d
theorem summed_new {w W2 W w' : World} (hs : W2.heap.size = w.heap.size + 2) (h2 : Below (w.heap.size + 2) W2 W) (hb : Below W.heap.size W w') (a b c d : Value) (t : TypeId) :
    Summed w W2 a b c d (.pointer (some ⟨w'.heap.size, 0, none⟩)) (w'.alloc (.cells #[a, b, c, d] t)) := by
  have hz := hb.size
  have hz2 := h2.size
  refine ⟨_, rfl, by omega, (h2.trans (hb.mono (by omega))).alloc (by omega) _, ⟨?_, ?_, ?_, ?_⟩⟩
  all_goals go_simp
theorem summed_old {w W2 W w' : World} {g : Nat} (hg : w.heap.size + 1 < g) (u v x y : Value) (hq : Quad W g u v x y) (h2 : Below (w.heap.size + 2) W2 W) (hb : Below W.heap.size W w') (hs : W2.heap.size = w.heap.size + 2) (a b c d : Value) :
    Summed w W2 a b c d (.pointer (some ⟨g, 0, none⟩)) ((((w'.setCell ⟨g, 0, none⟩ a).setCell ⟨g, 1, none⟩ b).setCell ⟨g, 2, none⟩ c).setCell ⟨g, 3, none⟩ d) := by
  have q := ((((hq.later hb hq.lt).set0 a).set1 b).set2 c).set3 d
  have hz2 := h2.size
  refine ⟨_, rfl, hg, ((((h2.trans (hb.mono (by omega))).setCell (by simp; omega) _).setCell (by simp; omega) _).setCell (by simp; omega) _).setCell (by simp; omega) _, ⟨q.c0, q.c1, q.c2, q.c3⟩⟩

set_option maxHeartbeats 4000000 in
theorem sum_fin (x y : Nat) (op m z : Int) (hx : x < 18446744073709551616) (hy : y < 18446744073709551616) (hm : 0 ≤ m ∧ m ≤ 4) (k1 : ¬ kind x = 3) (k2 : ¬ kind y = 3) (w : World) (hT : Tab w) :
    Calls Tryd.prog 31 #[.agg #[.int .u8 op, .int .u8 m, .int .u64 x, .int .u64 y, .int .u64 z]] w fun e w' =>
      e = .returned (.agg #[.int .u64 (sumB x y m), .int .u8 (sumF x y m), .bool false]) ∧ Below w.heap.size w w' := by
  have HX : Hid (x < 18446744073709551616) := hx
  have HY : Hid (y < 18446744073709551616) := hy
  have b1 : (kind x == 3) = false := by simp [k1]
  have b2 : (kind y == 3) = false := by simp [k2]
  have H0 : Hid (fsD x y = 0 → sumB x y m = fsS x y m * 9223372036854775808 ∧ sumF x y m = 0) := fun h => sum_none k1 k2 h
  have H9 : Hid (¬ fsD x y = 0 → sumB x y m = roundB (fsS x y m) (fsD x y) (fsP x y) m ∧ sumF x y m = roundF (fsS x y m) (fsD x y) (fsP x y) m) := fun h => sum_some k1 k2 h
  have hlt := fsD_lt x y
  have HS : Hid ((fsS x y m : Int) = 0 ∨ (fsS x y m : Int) = 1) := (by have := fsS_lt (m := m) hx hy; omega : (fsS x y m : Int) = 0 ∨ (fsS x y m : Int) = 1)
  have HRD : Hid (∀ w1, Below w.heap.size w w1 → Calls Tryd.prog 51 #[.agg #[.int .u64 (fsS x y m), .int .u64 (fsD x y % 18446744073709551616 : Nat), .int .u64 (fsD x y / 18446744073709551616 : Nat), .int .i64 (fsP x y)], .int .u8 m] w1 fun e w' =>
      e = .returned (.agg #[.int .u64 (roundB (fsS x y m) (fsD x y) (fsP x y) m), .int .u8 (roundF (fsS x y m) (fsD x y) (fsP x y) m), .bool false]) ∧ Below w1.heap.size w1 w') := by
    intro w1 hb
    have hp := fsP_range x y
    have := round_any (fsS x y m) (fsD x y % 18446744073709551616) (fsD x y / 18446744073709551616) (fsP x y) m (fsS_lt hx hy) (Nat.mod_lt _ (by decide)) (by omega) hm (by omega) w1 (hT.later hb)
    rw [show fsD x y % 18446744073709551616 + fsD x y / 18446744073709551616 * 18446744073709551616 = fsD x y by omega] at this
    exact this
  have HES : Hid (∀ w, Calls Tryd.prog 48 #[.agg #[.int .u64 (sgn x), .int .u64 (mant x), .int .u64 0, .int .i64 (pow x)], .agg #[.int .u64 (sgn y), .int .u64 (mant y), .int .u64 0, .int .i64 (pow y)], .int .u8 m] w fun e w' =>
      e = .returned (.agg #[.int .u64 (fsS x y m), .int .u64 (fsD x y % 18446744073709551616 : Nat), .int .u64 (fsD x y / 18446744073709551616 : Nat), .int .i64 (fsP x y)]) ∧ Below w.heap.size w w') := fun w => exactSum_any x y m w
  have HZ : Hid ((fsD x y = 0) ↔ (fsD x y % 18446744073709551616 = 0 ∧ fsD x y / 18446744073709551616 = 0)) := (by omega : (fsD x y = 0) ↔ (fsD x y % 18446744073709551616 = 0 ∧ fsD x y / 18446744073709551616 = 0))
  clear hx hy hm k1 k2 hT hlt
  generalize fsD x y % 18446744073709551616 = D0 at *
  generalize fsD x y / 18446744073709551616 = D1 at *
  go_enter Tryd.func31, Tryd.ntmps31
  go_wp2_with fail
  go_quiet (first | (go_at_call_of 35 (Value.int .u64 (x : Int)); exact Calls.quiet_of_same (kindOf_any (x : Int) (by omega) (by have := HX.out; omega) _)) | (go_at_call_of 35 (Value.int .u64 (y : Int)); exact Calls.quiet_of_same (kindOf_any (y : Int) (by omega) (by have := HY.out; omega) _)))
  go_wp2_with fail
  go_cut [5] from 6 to 57 (Summed w ((w.alloc (.cells #[.int .u8 op, .int .u8 m, .int .u64 x, .int .u64 y, .int .u64 z] 37)).alloc (.cells #[.int .u64 0, .int .u8 0, .bool false] 34)) (.int .u64 (fsS x y m)) (.int .u64 D0) (.int .u64 D1) (.int .i64 (fsP x y)))
  case first =>
    go_region_held3 (fun w' => w'.cell? ⟨w.heap.size, 2, none⟩ = some (.int .u64 x) ∧ w'.cell? ⟨w.heap.size, 3, none⟩ = some (.int .u64 y) ∧ w'.cell? ⟨w.heap.size, 1, none⟩ = some (.int .u8 m))
      (first | (go_keep; done) | (refine ⟨?_, ?_, ?_⟩ <;> go_simp; done) | (refine ⟨?_, ?_, ?_⟩ <;> (rw [hb.cell (by first | omega | (simp; done) | (simp; omega))]; go_simp); done) | (refine ⟨?_, ?_, ?_⟩ <;> (rw [World.cell?_alloc_lt _ _ _ (by first | omega | (simp; done) | (simp; omega)), hb.cell (by first | omega | (simp; done) | (simp; omega))]; go_simp); done) | (refine ⟨?_, ?_, ?_⟩ <;> (rw [cellSet _ _ _ _ (by simp; omega), cellSet _ _ _ _ (by simp; omega), cellSet _ _ _ _ (by simp; omega), cellSet _ _ _ _ (by simp; omega), hb.cell (by first | omega | (simp; done) | (simp; omega))]; go_simp); done))
      (first | (go_at_call_of 49 (Value.int .u64 (x : Int)); refine (exactly_any x HX.out _).mono ?_; rintro e w' ⟨rfl, rfl⟩) | (go_at_call_of 49 (Value.int .u64 (y : Int)); refine (exactly_any y HY.out _).mono ?_; rintro e w' ⟨rfl, rfl⟩) | (go_at_call 48; refine (HES.out _).mono ?_; rintro e w' ⟨rfl, hb⟩; obtain ⟨hc, hf⟩ := bcell hb; have hzz : w.heap.size + 1 < w'.heap.size := by (have := hb.size; simp at this; omega)))
    all_goals (try go_wp2_with fail)
    all_goals go_meet
    all_goals go_light
    all_goals clear hc hf
    · refine summed_new (by simp) ?_ hb _ _ _ _ _
      repeat (first | exact Below.refl _ _ | refine Below.alloc ?_ (by simp <;> omega) _ | refine below_drewN ?_ _)
    all_goals
      refine summed_old (by omega) (.int .u64 0) (.int .u64 0) (.int .u64 0) (.int .i64 0) ⟨by go_simp, by go_simp, by go_simp, by go_simp, by go_simp, by go_simp, by go_simp, by go_simp⟩ ?_ hb (by simp) _ _ _ _
      repeat (first | exact Below.refl _ _ | refine Below.alloc ?_ (by simp <;> omega) _ | refine below_drewN ?_ _)
  case rest =>
    obtain ⟨g, rfl, hg, hbel, h5⟩ := hcut
    have HR : Hid (Rec5 w wc (.int .u8 op) (.int .u8 m) (.int .u64 x) (.int .u64 y) (.int .u64 z)) := (Rec5.start w _ _ _ _ _ _ _).later hbel (Nat.le_refl _)
    have H5 : Hid (Four wc g (.int .u64 (fsS x y m)) (.int .u64 D0) (.int .u64 D1) (.int .i64 (fsP x y))) := h5
    have e0 := h5.c0
    have e1 := h5.c1
    have e2 := h5.c2
    have e3 := h5.c3
    have n1 := HR.out.c1
    have r0 := HR.out.r0
    have r1 := HR.out.r1
    have r2 := HR.out.r2
    have f0 := HR.out.f0
    have f1 := HR.out.f1
    have f2 := HR.out.f2
    have hcmp := eq_two D0 D1 0 0
    clear hbel h5 b1 b2
    by_cases hz : fsD x y = 0
    · have hcb : ((D0 : Int) == 0 && (D1 : Int) == 0) = true := by have := HZ.out.1 hz; simp [this.1, this.2]
      have HB : Hid (sumB x y m = fsS x y m * 9223372036854775808 + 0 ∧ sumF x y m = 0) := (by rw [Int.add_zero]; exact H0.out hz : sumB x y m = fsS x y m * 9223372036854775808 + 0 ∧ sumF x y m = 0)
      clear hz
      go_wp2_with (go_at_call 50; refine (signed_any _ _ HS.out (by omega) _).mono ?_; rintro e w' ⟨rfl, rfl⟩)
      refine bodyPost_ret (v := .agg #[.int .u64 (fsS x y m * 9223372036854775808 + 0), .int .u8 0, .bool false]) (by simp [results, Tryd.results31, go_sem, *]) rfl ⟨by rw [HB.out.1, HB.out.2], ?_⟩
      exact ((HR.out.below.setCell (by simp) _).setCell (by simp) _).setCell (by simp) _
    · have hcb : ((D0 : Int) == 0 && (D1 : Int) == 0) = false := by
        have h := mt HZ.out.2 hz
        simp only [Bool.and_eq_false_iff, beq_eq_false_iff_ne, ne_eq]
        omega
      have HB : Hid (sumB x y m = roundB (fsS x y m) (fsD x y) (fsP x y) m ∧ sumF x y m = roundF (fsS x y m) (fsD x y) (fsP x y) m) := H9.out hz
      clear hz
      go_wp2_with fail
      refine (HRD.out _ HR.out.below).mono ?_
      rintro e w2 ⟨rfl, hb2⟩
      have KR : Hid (Rec5 w w2 (.int .u8 op) (.int .u8 m) (.int .u64 x) (.int .u64 y) (.int .u64 z)) := HR.out.later hb2 (by have := HR.out.size; omega)
      clear hb2 e0 e1 e2 e3 n1 r0 r1 r2 f0 f1 f2
      have r0 := KR.out.r0
      have r1 := KR.out.r1
      have r2 := KR.out.r2
      have f0 := KR.out.f0
      have f1 := KR.out.f1
      have f2 := KR.out.f2
      go_wp2_with fail
      refine bodyPost_ret (v := .agg #[.int .u64 (roundB (fsS x y m) (fsD x y) (fsP x y) m), .int .u8 (roundF (fsS x y m) (fsD x y) (fsP x y) m), .bool false]) (by simp [results, Tryd.results31, go_sem, *]) rfl ⟨by rw [HB.out.1, HB.out.2], ?_⟩
      exact ((KR.out.below.setCell (by simp) _).setCell (by simp) _).setCell (by simp) _

theorem soft_sum (x y : Nat) (op m z : Int) (hx : x < 18446744073709551616) (hy : y < 18446744073709551616) (hm : 0 ≤ m ∧ m ≤ 4) (w : World) (hT : Tab w) :
    Calls Tryd.prog 31 #[.agg #[.int .u8 op, .int .u8 m, .int .u64 x, .int .u64 y, .int .u64 z]] w fun e w' =>
      e = .returned (.agg #[.int .u64 (sumB x y m), .int .u8 (sumF x y m), .bool false]) ∧ Below w.heap.size w w' := by
  by_cases k1 : kind x = 3
  · by_cases k2 : kind y = 3
    · by_cases h : x = y
      · exact sum_i2 x y op m z hx hy k1 k2 h w
      · exact sum_i1 x y op m z hx hy k1 k2 h w
    · exact sum_i3 x y op m z hx hy k1 k2 w
  · by_cases k2 : kind y = 3
    · exact sum_i4 x y op m z hx hy k1 k2 w
    · exact sum_fin x y op m z hx hy hm k1 k2 w hT
end Go.Proofs.YtfbdgecanfmgiaaDoor
