import Derived.Test.YtcjihaafohnbeaaDoorPD
import Derived.Test.YtcjihaafohnbeaaDoorSC4
namespace Go.Proofs.YtcjihaafohnbeaaDoor
open Go.RowKit

theorem results_fused {tmps : Array Value} {U : World} {g : Nat} {a b c : Value} (h2 : tmps.getD 2 undef = .pointer (some ⟨g, 0, none⟩)) (h : Blk U g [a, b, c]) :
    (results Tryd.f25 tmps).run Tryd.prog U = .ok (.agg #[a, b, c]) U := by
  have c0 := h.cells 0 _ rfl
  have c1 := h.cells 1 _ rfl
  have c2 := h.cells 2 _ rfl
  have h2' : tmps[2]?.getD undef = .pointer (some ⟨g, 0, none⟩) := by simpa using h2
  simp [results, Tryd.results25, go_sem, h2', c0, c1, c2]
theorem bl_prod (x y : Nat) : Go.bitLen (mant x * mant y) + 2 ≤ 256 := by
  have h1 := mant_lt x
  have h2 := mant_lt y
  have hlt : mant x * mant y < 9007199254740992 * 9007199254740992 := Nat.mul_lt_mul'' h1 h2
  have := bitLen_le (D := mant x * mant y) (n := 106) (by omega)
  omega
theorem bl_mant4 (x : Nat) : Go.bitLen (mant x) + 2 ≤ 256 := by have := bl_mant x; omega
/-- Where the kinds lie, behind their region. -/
def Kinds (w W2 : World) (vs : List Value) (k : Value) (s3 s4 : Value) (wx : World) : Prop := ∃ g, s3 = .pointer (some ⟨g, 0, none⟩) ∧ s4 = k ∧ w.heap.size + 1 < g ∧ Below (w.heap.size + 2) W2 wx ∧ Blk wx g vs
theorem kinds_new {w W2 w' : World} (hs : W2.heap.size = w.heap.size + 2) (hb : Below W2.heap.size W2 w') (vs : List Value) (k : Value) (t : TypeId) (hn : 0 < vs.length) :
    Kinds w W2 vs k (.pointer (some ⟨w'.heap.size, 0, none⟩)) k (w'.alloc (.cells vs.toArray t)) := by
  have hz := hb.size
  exact ⟨_, rfl, rfl, by omega, (hb.mono (by omega)).alloc (by omega) _, Blk.new _ _ _ hn⟩
theorem kinds_old {w W2 w' : World} {g : Nat} (hg : g = w.heap.size + 2) (o : Obj) (c0 c1 k : Value) (t : TypeId) (ho : o = .cells #[c0, c1] t) (hs : W2.heap.size = w.heap.size + 2) (hb : Below (W2.alloc o).heap.size (W2.alloc o) w') (a b : Value) :
    Kinds w W2 [a, b] k (.pointer (some ⟨g, 0, none⟩)) k ((w'.setCell ⟨g, 0, none⟩ a).setCell ⟨g, 1, none⟩ b) := by
  subst hg ho
  have hz := hb.size
  have hk : Blk (W2.alloc (.cells #[c0, c1] t)) (w.heap.size + 2) [c0, c1] := by
    have := Blk.new W2 [c0, c1] t (by simp)
    rw [hs] at this
    exact this
  have hk2 := hk.later hb
  simp only [World.size_alloc] at hz hb
  have h2 : Below (w.heap.size + 2) W2 w' := ((Below.refl _ _).alloc (by omega) _).trans (hb.mono (by omega))
  exact ⟨_, rfl, rfl, by omega, (h2.setCell (by simp) _).setCell (by simp) _, (hk2.set 0 a (by simp)).set 1 b (by simp)⟩

set_option maxHeartbeats 8000000 in
set_option maxRecDepth 10000 in
theorem fused_walk (x y z : Nat) (op m : Int) (hx : x < 18446744073709551616) (hy : y < 18446744073709551616) (hz : z < 18446744073709551616) (hm : 0 ≤ m ∧ m ≤ 4) (w : World) (hT : Tab w) (B F : Int) (pb : Nat) (hpb : pb < 18446744073709551616)
    (h1 : zti (kind x) (kind y) = true → B = 9221120237041090560 ∧ F = 16)
    (h2 : zti (kind x) (kind y) = false → ((kind x == 3 || kind y == 3) || (kind x == 0 || kind y == 0)) = true → prodB x y m = pb ∧ B = psB pb z m ∧ F = psF pb z m)
    (h3 : zti (kind x) (kind y) = false → (kind x == 3 || kind y == 3) = false → (kind x == 0 || kind y == 0) = false → (kind z == 3) = true → B = z ∧ F = 0)
    (h4 : zti (kind x) (kind y) = false → (kind x == 3 || kind y == 3) = false → (kind x == 0 || kind y == 0) = false → (kind z == 3) = false → (kind z == 0) = true → B = prodB x y m ∧ F = prodF x y m)
    (h5 : zti (kind x) (kind y) = false → (kind x == 3 || kind y == 3) = false → (kind x == 0 || kind y == 0) = false → (kind z == 3) = false → (kind z == 0) = false → B = rsB 256 (xs x y) (mant x * mant y) (pow x + pow y) (sgn z) (mant z) (pow z) m ∧ F = rsF 256 (xs x y) (mant x * mant y) (pow x + pow y) (sgn z) (mant z) (pow z) m) :
    Calls Tryd.prog 25 #[.agg #[.int .u8 op, .int .u8 m, .int .u64 x, .int .u64 y, .int .u64 z]] w fun e w' => e = .returned (.agg #[.int .u64 B, .int .u8 F, .bool false]) ∧ Below w.heap.size w w' := by
  have HK : Hid (∀ w, Calls Tryd.prog 38 #[.agg #[.int .u8 op, .int .u8 m, .int .u64 x, .int .u64 y, .int .u64 z]] w fun e w' => e = .returned (.agg #[.int .i64 (kind x), .int .i64 (kind y)]) ∧ Below w.heap.size w w') := fun w => kindsOf_any x y op m z hx hy w
  have HC : Hid (∀ w, Calls Tryd.prog 33 #[.int .u64 z] w fun e w' => e = .returned (.int .i64 (kind z)) ∧ w' = w) := fun w => kindOf_any z (by omega) (by omega) w
  have HZ : Hid (∀ w, Calls Tryd.prog 26 #[.agg #[.int .u8 op, .int .u8 m, .int .u64 x, .int .u64 y, .int .u64 z]] w fun e w' => e = .returned (.bool (zti (kind x) (kind y))) ∧ Below w.heap.size w w') := fun w => zti_any x y op m z hx hy w
  have HH3 : Hid (∀ w, Calls Tryd.prog 39 #[.agg #[.int .i64 (kind x), .int .i64 (kind y)], .int .i64 3] w fun e w' => e = .returned (.bool (kind x == 3 || kind y == 3)) ∧ Below w.heap.size w w') := fun w => has_any _ _ _ w
  have HH0 : Hid (∀ w, Calls Tryd.prog 39 #[.agg #[.int .i64 (kind x), .int .i64 (kind y)], .int .i64 0] w fun e w' => e = .returned (.bool (kind x == 0 || kind y == 0)) ∧ Below w.heap.size w w') := fun w => has_any _ _ _ w
  have HP : Hid (∀ w1, Below w.heap.size w w1 → Calls Tryd.prog 23 #[.agg #[.int .u8 op, .int .u8 m, .int .u64 x, .int .u64 y, .int .u64 z]] w1 fun e w' => e = .returned (.agg #[.int .u64 (prodB x y m), .int .u8 (prodF x y m), .bool false]) ∧ Below w1.heap.size w1 w') := fun w1 hb => soft_product x y op m z hx hy hm w1 (hT.later hb)
  have HSM : Hid (∀ w1, Below w.heap.size w w1 → Calls Tryd.prog 21 #[.agg #[.int .u8 0, .int .u8 m, .int .u64 pb, .int .u64 z, .int .u64 0]] w1 fun e w' => e = .returned (.agg #[.int .u64 (psB pb z m), .int .u8 (psF pb z m), .bool false]) ∧ Below w1.heap.size w1 w') := fun w1 hb => soft_sum pb z 0 m 0 hpb hz hm w1 (hT.later hb)
  have HEP : Hid (∀ w, Calls Tryd.prog 42 #[.agg #[.int .u8 op, .int .u8 m, .int .u64 x, .int .u64 y, .int .u64 z]] w fun e w' => e = .returned (.agg #[.int .u64 (xs x y), .int .u64 (wd (mant x * mant y) 0), .int .u64 (wd (mant x * mant y) 1), .int .i64 (pow x + pow y)]) ∧ Below w.heap.size w w') := fun w => exactProduct_any x y op m z hx hy w
  have HEC : Hid (∀ w, Calls Tryd.prog 36 #[.int .u64 z] w fun e w' => e = .returned (.agg #[.int .u64 (sgn z), .int .u64 (wd (mant z) 0), .int .u64 (wd (mant z) 1), .int .i64 (pow z)]) ∧ Below w.heap.size w w') := fun w => exactly_any z hz w
  have q1 := mant_lt x
  have q2 := mant_lt y
  have q3 := pow_range x
  have q4 := pow_range y
  have q5 := mant_lt z
  have q6 := pow_range z
  have hlt : mant x * mant y < 9007199254740992 * 9007199254740992 := Nat.mul_lt_mul'' q1 q2
  have HWP : Hid (∀ w, Calls Tryd.prog 45 #[.agg #[.int .u64 (xs x y), .int .u64 (wd (mant x * mant y) 0), .int .u64 (wd (mant x * mant y) 1), .int .i64 (pow x + pow y)]] w fun e w' => e = .returned (.agg #[.int .u64 (xs x y), .int .u64 (wd (mant x * mant y) 0), .int .u64 (wd (mant x * mant y) 1), .int .u64 (wd (mant x * mant y) 2), .int .u64 (wd (mant x * mant y) 3), .int .i64 (pow x + pow y)]) ∧ Below w.heap.size w w') := fun w => wider_any _ _ _ (by omega) w
  have HWC : Hid (∀ w, Calls Tryd.prog 45 #[.agg #[.int .u64 (sgn z), .int .u64 (wd (mant z) 0), .int .u64 (wd (mant z) 1), .int .i64 (pow z)]] w fun e w' => e = .returned (.agg #[.int .u64 (sgn z), .int .u64 (wd (mant z) 0), .int .u64 (wd (mant z) 1), .int .u64 (wd (mant z) 2), .int .u64 (wd (mant z) 3), .int .i64 (pow z)]) ∧ Below w.heap.size w w') := fun w => wider_any _ _ _ (by omega) w
  have HRS : Hid (∀ w1, Below w.heap.size w w1 → Calls Tryd.prog 44 #[.agg #[.int .u64 (xs x y), .int .u64 (wd (mant x * mant y) 0), .int .u64 (wd (mant x * mant y) 1), .int .u64 (wd (mant x * mant y) 2), .int .u64 (wd (mant x * mant y) 3), .int .i64 (pow x + pow y)], .agg #[.int .u64 (sgn z), .int .u64 (wd (mant z) 0), .int .u64 (wd (mant z) 1), .int .u64 (wd (mant z) 2), .int .u64 (wd (mant z) 3), .int .i64 (pow z)], .int .u8 m] w1 fun e w' =>
      e = .returned (.agg #[.int .u64 (rsB 256 (xs x y) (mant x * mant y) (pow x + pow y) (sgn z) (mant z) (pow z) m), .int .u8 (rsF 256 (xs x y) (mant x * mant y) (pow x + pow y) (sgn z) (mant z) (pow z) m), .bool false]) ∧ Below w1.heap.size w1 w') := fun w1 hb => W4.roundedSum_any (xs x y) (sgn z) (mant x * mant y) (mant z) (pow x + pow y) (pow z) m (xs_lt x y) (sgn_lt hz) (bl_prod x y) (bl_mant4 z) (by omega) (by omega) hm w1 (hT.later hb)
  have H1 : Hid (zti (kind x) (kind y) = true → B = 9221120237041090560 ∧ F = 16) := h1
  have H2 : Hid (zti (kind x) (kind y) = false → ((kind x == 3 || kind y == 3) || (kind x == 0 || kind y == 0)) = true → prodB x y m = pb ∧ B = psB pb z m ∧ F = psF pb z m) := h2
  have H3 : Hid (zti (kind x) (kind y) = false → (kind x == 3 || kind y == 3) = false → (kind x == 0 || kind y == 0) = false → (kind z == 3) = true → B = z ∧ F = 0) := h3
  have H4 : Hid (zti (kind x) (kind y) = false → (kind x == 3 || kind y == 3) = false → (kind x == 0 || kind y == 0) = false → (kind z == 3) = false → (kind z == 0) = true → B = prodB x y m ∧ F = prodF x y m) := h4
  have H5 : Hid (zti (kind x) (kind y) = false → (kind x == 3 || kind y == 3) = false → (kind x == 0 || kind y == 0) = false → (kind z == 3) = false → (kind z == 0) = false → B = rsB 256 (xs x y) (mant x * mant y) (pow x + pow y) (sgn z) (mant z) (pow z) m ∧ F = rsF 256 (xs x y) (mant x * mant y) (pow x + pow y) (sgn z) (mant z) (pow z) m) := h5
  clear h1 h2 h3 h4 h5 q1 q2 q3 q4 q5 q6 hlt hx hy hz hm hT hpb
  generalize rsB 256 (xs x y) (mant x * mant y) (pow x + pow y) (sgn z) (mant z) (pow z) m = QB at *
  generalize rsF 256 (xs x y) (mant x * mant y) (pow x + pow y) (sgn z) (mant z) (pow z) m = QF at *
  generalize psB pb z m = SB at *
  generalize psF pb z m = SF at *
  generalize prodB x y m = MB at *
  generalize prodF x y m = MF at *
  generalize wd (mant x * mant y) 0 = a0 at *
  generalize wd (mant z) 0 = t0 at *
  generalize wd (mant x * mant y) 1 = a1 at *
  generalize wd (mant z) 1 = t1 at *
  generalize wd (mant x * mant y) 2 = a2 at *
  generalize wd (mant z) 2 = t2 at *
  generalize wd (mant x * mant y) 3 = a3 at *
  generalize wd (mant z) 3 = t3 at *
  generalize pow x + pow y = PP at *
  generalize pow z = pz at *
  generalize (xs x y : Int) = S at *
  generalize (sgn z : Int) = sz at *
  generalize zti (kind x) (kind y) = bz at *
  generalize (kind x == 3 || kind y == 3) = b3 at *
  generalize (kind x == 0 || kind y == 0) = bo at *
  generalize kind x = KX at *
  generalize kind y = KY at *
  generalize kind z = KZ at *
  have hfield : ∀ (a b c : Value) w, (Instr.field 33 (.agg #[a, b, c]) 0).run Tryd.prog w = .ok a w := fun a b c w => by kernel_rfl
  go_enter Tryd.func25, Tryd.ntmps25
  go_upto_region 1 with fail
  go_cut [3, 4] from 5 to 50 (Kinds w ((w.alloc (.cells #[.int .u8 op, .int .u8 m, .int .u64 x, .int .u64 y, .int .u64 z] 36)).alloc (.cells #[.int .u64 0, .int .u8 0, .bool false] 33)) [.int .i64 KX, .int .i64 KY] (.int .i64 KZ))
  case first =>
    have K0 : Hid (Rows2 w ((w.alloc (.cells #[.int .u8 op, .int .u8 m, .int .u64 x, .int .u64 y, .int .u64 z] 36)).alloc (.cells #[.int .u64 0, .int .u8 0, .bool false] 33)) [.int .u8 op, .int .u8 m, .int .u64 x, .int .u64 y, .int .u64 z] [.int .u64 0, .int .u8 0, .bool false]) := Rows2.start w _ _ _ _ (by simp) (by simp)
    go_region_held3 (fun w' => w'.cell? ⟨w.heap.size, 0, none⟩ = some (.int .u8 op) ∧ w'.cell? ⟨w.heap.size, 1, none⟩ = some (.int .u8 m) ∧ w'.cell? ⟨w.heap.size, 2, none⟩ = some (.int .u64 x) ∧ w'.cell? ⟨w.heap.size, 3, none⟩ = some (.int .u64 y) ∧ w'.cell? ⟨w.heap.size, 4, none⟩ = some (.int .u64 z))
      (first | (go_keep; done) | (rw [World.cell?_alloc_lt _ _ _ K1.out.x.lt, World.cell?_alloc_lt _ _ _ K1.out.x.lt, World.cell?_alloc_lt _ _ _ K1.out.x.lt, World.cell?_alloc_lt _ _ _ K1.out.x.lt, World.cell?_alloc_lt _ _ _ K1.out.x.lt]; exact ⟨K1.out.x.cells 0 _ rfl, K1.out.x.cells 1 _ rfl, K1.out.x.cells 2 _ rfl, K1.out.x.cells 3 _ rfl, K1.out.x.cells 4 _ rfl⟩) | (rw [cellSet _ _ _ _ (by simp; omega), cellSet _ _ _ _ (by simp; omega), cellSet _ _ _ _ (by simp; omega), cellSet _ _ _ _ (by simp; omega), cellSet _ _ _ _ (by simp; omega), cellSet _ _ _ _ (by simp; omega), cellSet _ _ _ _ (by simp; omega), cellSet _ _ _ _ (by simp; omega), cellSet _ _ _ _ (by simp; omega), cellSet _ _ _ _ (by simp; omega)]; exact ⟨K1.out.x.cells 0 _ rfl, K1.out.x.cells 1 _ rfl, K1.out.x.cells 2 _ rfl, K1.out.x.cells 3 _ rfl, K1.out.x.cells 4 _ rfl⟩) | exact ⟨K1.out.x.cells 0 _ rfl, K1.out.x.cells 1 _ rfl, K1.out.x.cells 2 _ rfl, K1.out.x.cells 3 _ rfl, K1.out.x.cells 4 _ rfl⟩)
      (first | (go_at_call 38; refine (HK.out _).mono ?_; rintro e w' ⟨rfl, hb⟩; obtain ⟨hc, hf⟩ := bcell hb; have K1 : Hid (Rows2 w w' [.int .u8 op, .int .u8 m, .int .u64 x, .int .u64 y, .int .u64 z] [.int .u64 0, .int .u8 0, .bool false]) := (by first | exact K0.out.later ⟨hb.os, hb.tape, hb.output, hb.size, hb.block⟩ | exact (K0.out.below' ((Below.refl _ _).alloc (Nat.le_refl _) _) (by simp)).later ⟨hb.os, hb.tape, hb.output, hb.size, hb.block⟩ : Rows2 w w' [.int .u8 op, .int .u8 m, .int .u64 x, .int .u64 y, .int .u64 z] [.int .u64 0, .int .u8 0, .bool false]); have hzz := K1.out.size) | (go_at_call 33; refine (HC.out _).mono ?_; rintro e w' ⟨rfl, rfl⟩))
    all_goals (try go_wp2_with fail)
    all_goals go_meet
    all_goals go_light
    all_goals clear hc hf
    all_goals first
      | (refine kinds_new ?_ ?_ _ _ _ (by simp)
         · simp
         · exact ⟨hb.os, hb.tape, hb.output, hb.size, hb.block⟩)
      | (refine kinds_old ?_ _ (.int .i64 0) (.int .i64 0) _ 62 rfl ?_ ?_ _ _
         · rfl
         · simp
         · exact ⟨hb.os, hb.tape, hb.output, hb.size, hb.block⟩)
  case rest =>
    obtain ⟨g, rfl, rfl, hg, hbel, hk⟩ := hcut
    have K0 : Hid (Rows2 w wc [.int .u8 op, .int .u8 m, .int .u64 x, .int .u64 y, .int .u64 z] [.int .u64 0, .int .u8 0, .bool false]) := (Rows2.start w _ _ _ _ (by simp) (by simp)).below' hbel (Nat.le_refl _)
    have G0 : Hid (Blk wc g [.int .i64 KX, .int .i64 KY]) := hk
    clear hbel hk HK HC
    have c0 := K0.out.x.cells 0 _ rfl
    have c1 := K0.out.x.cells 1 _ rfl
    have c2 := K0.out.x.cells 2 _ rfl
    have c3 := K0.out.x.cells 3 _ rfl
    have c4 := K0.out.x.cells 4 _ rfl
    have r0 := K0.out.r.cells 0 _ rfl
    have r1 := K0.out.r.cells 1 _ rfl
    have r2 := K0.out.r.cells 2 _ rfl
    have f0 := K0.out.r.live 0 _ rfl
    have f1 := K0.out.r.live 1 _ rfl
    have f2 := K0.out.r.live 2 _ rfl
    have z1 := K0.out.size
    have z0 := K0.out.x.lt
    go_wp2_with fail
    refine (HZ.out _).mono ?_
    rintro e w1 ⟨rfl, hb1⟩
    have K1 : Hid (Rows2 w w1 [.int .u8 op, .int .u8 m, .int .u64 x, .int .u64 y, .int .u64 z] [.int .u64 0, .int .u8 0, .bool false]) := K0.out.later hb1
    have G1 : Hid (Blk w1 g [.int .i64 KX, .int .i64 KY]) := G0.out.later hb1
    clear hb1 c0 c1 c2 c3 c4 r0 r1 r2 f0 f1 f2 z1 z0 K0 G0 HZ
    have c0 := K1.out.x.cells 0 _ rfl
    have c1 := K1.out.x.cells 1 _ rfl
    have c2 := K1.out.x.cells 2 _ rfl
    have c3 := K1.out.x.cells 3 _ rfl
    have c4 := K1.out.x.cells 4 _ rfl
    have r0 := K1.out.r.cells 0 _ rfl
    have r1 := K1.out.r.cells 1 _ rfl
    have r2 := K1.out.r.cells 2 _ rfl
    have f0 := K1.out.r.live 0 _ rfl
    have f1 := K1.out.r.live 1 _ rfl
    have f2 := K1.out.r.live 2 _ rfl
    have z1 := K1.out.size
    have z0 := K1.out.x.lt
    have p0 := G1.out.cells 0 _ rfl
    have p1 := G1.out.cells 1 _ rfl
    cases bz
    rotate_left
    · have HV : Hid (B = 9221120237041090560 ∧ F = 16) := (by have h := H1.out; simpa using h : B = 9221120237041090560 ∧ F = 16)
      clear H1 H2 H3 H4 H5
      go_wp2_with fail
      refine (wrong_any _).mono ?_
      rintro e w2 ⟨rfl, hb2⟩
      have K2 : Hid (Rows2 w w2 [.int .u8 op, .int .u8 m, .int .u64 x, .int .u64 y, .int .u64 z] [.int .u64 0, .int .u8 0, .bool false]) := K1.out.later hb2
      clear hb2 c0 c1 c2 c3 c4 r0 r1 r2 f0 f1 f2 z1 z0 p0 p1
      have c0 := K2.out.x.cells 0 _ rfl
      have c1 := K2.out.x.cells 1 _ rfl
      have c2 := K2.out.x.cells 2 _ rfl
      have c3 := K2.out.x.cells 3 _ rfl
      have c4 := K2.out.x.cells 4 _ rfl
      have r0 := K2.out.r.cells 0 _ rfl
      have r1 := K2.out.r.cells 1 _ rfl
      have r2 := K2.out.r.cells 2 _ rfl
      have f0 := K2.out.r.live 0 _ rfl
      have f1 := K2.out.r.live 1 _ rfl
      have f2 := K2.out.r.live 2 _ rfl
      have z1 := K2.out.size
      have z0 := K2.out.x.lt
      go_wp2_with fail
      go_light
      refine bodyPost_ret (v := .agg #[.int .u64 9221120237041090560, .int .u8 16, .bool false]) (results_fused rfl (((K2.out.r.set 0 _ (by simp)).set 1 _ (by simp)).set 2 _ (by simp))) rfl ⟨by rw [HV.out.1, HV.out.2], ?_⟩
      exact ((K2.out.below.setCell (by simp) _).setCell (by simp) _).setCell (by simp) _
    go_wp2_with fail
    refine (HH3.out _).mono ?_
    rintro e w2 ⟨rfl, hb2⟩
    have K2 : Hid (Rows2 w w2 [.int .u8 op, .int .u8 m, .int .u64 x, .int .u64 y, .int .u64 z] [.int .u64 0, .int .u8 0, .bool false]) := K1.out.later hb2
    have G2 : Hid (Blk w2 g [.int .i64 KX, .int .i64 KY]) := G1.out.later hb2
    clear hb2 c0 c1 c2 c3 c4 r0 r1 r2 f0 f1 f2 z1 z0 p0 p1 K1 G1 HH3
    have c0 := K2.out.x.cells 0 _ rfl
    have c1 := K2.out.x.cells 1 _ rfl
    have c2 := K2.out.x.cells 2 _ rfl
    have c3 := K2.out.x.cells 3 _ rfl
    have c4 := K2.out.x.cells 4 _ rfl
    have r0 := K2.out.r.cells 0 _ rfl
    have r1 := K2.out.r.cells 1 _ rfl
    have r2 := K2.out.r.cells 2 _ rfl
    have f0 := K2.out.r.live 0 _ rfl
    have f1 := K2.out.r.live 1 _ rfl
    have f2 := K2.out.r.live 2 _ rfl
    have z1 := K2.out.size
    have z0 := K2.out.x.lt
    have p0 := G2.out.cells 0 _ rfl
    have p1 := G2.out.cells 1 _ rfl
    cases b3
    rotate_left
    · have HV : Hid (MB = pb ∧ B = SB ∧ F = SF) := (by have h := H2.out; simpa using h : MB = pb ∧ B = SB ∧ F = SF)
      clear H1 H2 H3 H4 H5
      have K4 := K2
      have HPR : Hid (∀ w1, Below w.heap.size w w1 → Calls Tryd.prog 23 #[.agg #[.int .u8 op, .int .u8 m, .int .u64 x, .int .u64 y, .int .u64 z]] w1 fun e w' => e = .returned (.agg #[.int .u64 pb, .int .u8 MF, .bool false]) ∧ Below w1.heap.size w1 w') := (fun w1 hb => by have h := HP.out w1 hb; rw [HV.out.1] at h; exact h)
      clear HP
      go_wp2_with fail
      go_region_held3 (fun w' => w'.cell? ⟨w.heap.size, 0, none⟩ = some (.int .u8 op) ∧ w'.cell? ⟨w.heap.size, 1, none⟩ = some (.int .u8 m) ∧ w'.cell? ⟨w.heap.size, 2, none⟩ = some (.int .u64 x) ∧ w'.cell? ⟨w.heap.size, 3, none⟩ = some (.int .u64 y) ∧ w'.cell? ⟨w.heap.size, 4, none⟩ = some (.int .u64 z))
        (first | (go_keep; done) | (rw [cellSet3 _ _ _ _ _ _ (by simp), cellSet3 _ _ _ _ _ _ (by simp), cellSet3 _ _ _ _ _ _ (by simp), cellSet3 _ _ _ _ _ _ (by simp), cellSet3 _ _ _ _ _ _ (by simp)]; exact ⟨K4.out.x.cells 0 _ rfl, K4.out.x.cells 1 _ rfl, K4.out.x.cells 2 _ rfl, K4.out.x.cells 3 _ rfl, K4.out.x.cells 4 _ rfl⟩) | exact ⟨K4.out.x.cells 0 _ rfl, K4.out.x.cells 1 _ rfl, K4.out.x.cells 2 _ rfl, K4.out.x.cells 3 _ rfl, K4.out.x.cells 4 _ rfl⟩)
        (first | (go_at_call 23; refine (HPR.out _ (by first | exact K4.out.below | exact K4.out.below.drew | exact below_drewN K4.out.below _)).mono ?_; rintro e w' ⟨rfl, hb⟩; have K4 : Hid (Rows2 w w' [.int .u8 op, .int .u8 m, .int .u64 x, .int .u64 y, .int .u64 z] [.int .u64 0, .int .u8 0, .bool false]) := K4.out.later ⟨hb.os, hb.tape, hb.output, hb.size, hb.block⟩; clear hb) | (go_at_call 21; refine (HSM.out _ K4.out.below).mono ?_; rintro e w2 ⟨rfl, hb2⟩; have K4 : Hid (Rows2 w w2 [.int .u8 op, .int .u8 m, .int .u64 x, .int .u64 y, .int .u64 z] [.int .u64 0, .int .u8 0, .bool false]) := K4.out.later ⟨hb2.os, hb2.tape, hb2.output, hb2.size, hb2.block⟩; have s0 := K4.out.r.cells 0 _ rfl; have s1 := K4.out.r.cells 1 _ rfl; have s2 := K4.out.r.cells 2 _ rfl; have v0 := K4.out.r.live 0 _ rfl; have v1 := K4.out.r.live 1 _ rfl; have v2 := K4.out.r.live 2 _ rfl; clear hb2))
      all_goals (try go_wp2_with fail)
      all_goals
        refine bodyPost_ret (v := .agg #[.int .u64 SB, .int .u8 SF, .bool false]) (results_fused rfl ?_) rfl ⟨by rw [HV.out.2.1, HV.out.2.2], ?_⟩
        · exact ((K4.out.r.set 0 _ (by simp)).set 1 _ (by simp)).set 2 _ (by simp)
        · exact ((K4.out.below.setCell (by simp) _).setCell (by simp) _).setCell (by simp) _
    go_wp2_with fail
    refine (HH0.out _).mono ?_
    rintro e w3 ⟨rfl, hb3⟩
    have K3 : Hid (Rows2 w w3 [.int .u8 op, .int .u8 m, .int .u64 x, .int .u64 y, .int .u64 z] [.int .u64 0, .int .u8 0, .bool false]) := K2.out.later hb3
    clear hb3 c0 c1 c2 c3 c4 r0 r1 r2 f0 f1 f2 z1 z0 p0 p1 K2 G2 HH0
    have c0 := K3.out.x.cells 0 _ rfl
    have c1 := K3.out.x.cells 1 _ rfl
    have c2 := K3.out.x.cells 2 _ rfl
    have c3 := K3.out.x.cells 3 _ rfl
    have c4 := K3.out.x.cells 4 _ rfl
    have r0 := K3.out.r.cells 0 _ rfl
    have r1 := K3.out.r.cells 1 _ rfl
    have r2 := K3.out.r.cells 2 _ rfl
    have f0 := K3.out.r.live 0 _ rfl
    have f1 := K3.out.r.live 1 _ rfl
    have f2 := K3.out.r.live 2 _ rfl
    have z1 := K3.out.size
    have z0 := K3.out.x.lt
    cases bo
    rotate_left
    · have HV : Hid (MB = pb ∧ B = SB ∧ F = SF) := (by have h := H2.out; simpa using h : MB = pb ∧ B = SB ∧ F = SF)
      clear H1 H2 H3 H4 H5
      have K4 := K3
      have HPR : Hid (∀ w1, Below w.heap.size w w1 → Calls Tryd.prog 23 #[.agg #[.int .u8 op, .int .u8 m, .int .u64 x, .int .u64 y, .int .u64 z]] w1 fun e w' => e = .returned (.agg #[.int .u64 pb, .int .u8 MF, .bool false]) ∧ Below w1.heap.size w1 w') := (fun w1 hb => by have h := HP.out w1 hb; rw [HV.out.1] at h; exact h)
      clear HP
      go_wp2_with fail
      go_region_held3 (fun w' => w'.cell? ⟨w.heap.size, 0, none⟩ = some (.int .u8 op) ∧ w'.cell? ⟨w.heap.size, 1, none⟩ = some (.int .u8 m) ∧ w'.cell? ⟨w.heap.size, 2, none⟩ = some (.int .u64 x) ∧ w'.cell? ⟨w.heap.size, 3, none⟩ = some (.int .u64 y) ∧ w'.cell? ⟨w.heap.size, 4, none⟩ = some (.int .u64 z))
        (first | (go_keep; done) | (rw [cellSet3 _ _ _ _ _ _ (by simp), cellSet3 _ _ _ _ _ _ (by simp), cellSet3 _ _ _ _ _ _ (by simp), cellSet3 _ _ _ _ _ _ (by simp), cellSet3 _ _ _ _ _ _ (by simp)]; exact ⟨K4.out.x.cells 0 _ rfl, K4.out.x.cells 1 _ rfl, K4.out.x.cells 2 _ rfl, K4.out.x.cells 3 _ rfl, K4.out.x.cells 4 _ rfl⟩) | exact ⟨K4.out.x.cells 0 _ rfl, K4.out.x.cells 1 _ rfl, K4.out.x.cells 2 _ rfl, K4.out.x.cells 3 _ rfl, K4.out.x.cells 4 _ rfl⟩)
        (first | (go_at_call 23; refine (HPR.out _ (by first | exact K4.out.below | exact K4.out.below.drew | exact below_drewN K4.out.below _)).mono ?_; rintro e w' ⟨rfl, hb⟩; have K4 : Hid (Rows2 w w' [.int .u8 op, .int .u8 m, .int .u64 x, .int .u64 y, .int .u64 z] [.int .u64 0, .int .u8 0, .bool false]) := K4.out.later ⟨hb.os, hb.tape, hb.output, hb.size, hb.block⟩; clear hb) | (go_at_call 21; refine (HSM.out _ K4.out.below).mono ?_; rintro e w2 ⟨rfl, hb2⟩; have K4 : Hid (Rows2 w w2 [.int .u8 op, .int .u8 m, .int .u64 x, .int .u64 y, .int .u64 z] [.int .u64 0, .int .u8 0, .bool false]) := K4.out.later ⟨hb2.os, hb2.tape, hb2.output, hb2.size, hb2.block⟩; have s0 := K4.out.r.cells 0 _ rfl; have s1 := K4.out.r.cells 1 _ rfl; have s2 := K4.out.r.cells 2 _ rfl; have v0 := K4.out.r.live 0 _ rfl; have v1 := K4.out.r.live 1 _ rfl; have v2 := K4.out.r.live 2 _ rfl; clear hb2))
      all_goals (try go_wp2_with fail)
      all_goals
        refine bodyPost_ret (v := .agg #[.int .u64 SB, .int .u8 SF, .bool false]) (results_fused rfl ?_) rfl ⟨by rw [HV.out.2.1, HV.out.2.2], ?_⟩
        · exact ((K4.out.r.set 0 _ (by simp)).set 1 _ (by simp)).set 2 _ (by simp)
        · exact ((K4.out.below.setCell (by simp) _).setCell (by simp) _).setCell (by simp) _
    by_cases hc3 : KZ = 3
    · have bc3 : (KZ == 3) = true := by simp [hc3]
      have HV : Hid (B = z ∧ F = 0) := (by have h := H3.out; simpa [bc3] using h : B = z ∧ F = 0)
      clear H1 H2 H3 H4 H5 hc3
      go_wp2_with fail
      go_light
      refine bodyPost_ret (v := .agg #[.int .u64 z, .int .u8 0, .bool false]) (results_fused rfl (((K3.out.r.set 0 _ (by simp)).set 1 _ (by simp)).set 2 _ (by simp))) rfl ⟨by rw [HV.out.1, HV.out.2], ?_⟩
      exact ((K3.out.below.setCell (by simp) _).setCell (by simp) _).setCell (by simp) _
    have bc3 : (KZ == 3) = false := by simp [hc3]
    by_cases hc0 : KZ = 0
    · have bc0 : (KZ == 0) = true := by simp [hc0]
      have HV : Hid (B = MB ∧ F = MF) := (by have h := H4.out; simpa [bc3, bc0] using h : B = MB ∧ F = MF)
      clear H1 H2 H3 H4 H5 hc3 hc0
      go_wp2_with fail
      refine (HP.out _ K3.out.below).mono ?_
      rintro e w4 ⟨rfl, hb4⟩
      have K4 : Hid (Rows2 w w4 [.int .u8 op, .int .u8 m, .int .u64 x, .int .u64 y, .int .u64 z] [.int .u64 0, .int .u8 0, .bool false]) := K3.out.later hb4
      clear hb4 c0 c1 c2 c3 c4 r0 r1 r2 f0 f1 f2 z1 z0
      have c0 := K4.out.x.cells 0 _ rfl
      have c1 := K4.out.x.cells 1 _ rfl
      have c2 := K4.out.x.cells 2 _ rfl
      have c3 := K4.out.x.cells 3 _ rfl
      have c4 := K4.out.x.cells 4 _ rfl
      have r0 := K4.out.r.cells 0 _ rfl
      have r1 := K4.out.r.cells 1 _ rfl
      have r2 := K4.out.r.cells 2 _ rfl
      have f0 := K4.out.r.live 0 _ rfl
      have f1 := K4.out.r.live 1 _ rfl
      have f2 := K4.out.r.live 2 _ rfl
      have z1 := K4.out.size
      have z0 := K4.out.x.lt
      go_wp2_with fail
      go_light
      refine bodyPost_ret (v := .agg #[.int .u64 MB, .int .u8 MF, .bool false]) (results_fused rfl (((K4.out.r.set 0 _ (by simp)).set 1 _ (by simp)).set 2 _ (by simp))) rfl ⟨by rw [HV.out.1, HV.out.2], ?_⟩
      exact ((K4.out.below.setCell (by simp) _).setCell (by simp) _).setCell (by simp) _
    have bc0 : (KZ == 0) = false := by simp [hc0]
    have HV : Hid (B = QB ∧ F = QF) := (by have h := H5.out; simpa [bc3, bc0] using h : B = QB ∧ F = QF)
    clear H1 H2 H3 H4 H5 hc3 hc0 HP
    go_wp2_with fail
    go_region_held3 (fun w' => w'.cell? ⟨w.heap.size, 0, none⟩ = some (.int .u8 op) ∧ w'.cell? ⟨w.heap.size, 1, none⟩ = some (.int .u8 m) ∧ w'.cell? ⟨w.heap.size, 2, none⟩ = some (.int .u64 x) ∧ w'.cell? ⟨w.heap.size, 3, none⟩ = some (.int .u64 y) ∧ w'.cell? ⟨w.heap.size, 4, none⟩ = some (.int .u64 z))
      (first | (go_keep; done) | (rw [cellSet3 _ _ _ _ _ _ (by simp), cellSet3 _ _ _ _ _ _ (by simp), cellSet3 _ _ _ _ _ _ (by simp), cellSet3 _ _ _ _ _ _ (by simp), cellSet3 _ _ _ _ _ _ (by simp)]; exact ⟨K3.out.x.cells 0 _ rfl, K3.out.x.cells 1 _ rfl, K3.out.x.cells 2 _ rfl, K3.out.x.cells 3 _ rfl, K3.out.x.cells 4 _ rfl⟩) | exact ⟨K3.out.x.cells 0 _ rfl, K3.out.x.cells 1 _ rfl, K3.out.x.cells 2 _ rfl, K3.out.x.cells 3 _ rfl, K3.out.x.cells 4 _ rfl⟩)
      (first | (go_at_call 42; refine (HEP.out _).mono ?_; rintro e w' ⟨rfl, hb⟩; have K3 : Hid (Rows2 w w' [.int .u8 op, .int .u8 m, .int .u64 x, .int .u64 y, .int .u64 z] [.int .u64 0, .int .u8 0, .bool false]) := K3.out.later ⟨hb.os, hb.tape, hb.output, hb.size, hb.block⟩; clear hb) | (go_at_call 36; refine (HEC.out _).mono ?_; rintro e w' ⟨rfl, hb⟩; have K3 : Hid (Rows2 w w' [.int .u8 op, .int .u8 m, .int .u64 x, .int .u64 y, .int .u64 z] [.int .u64 0, .int .u8 0, .bool false]) := K3.out.later ⟨hb.os, hb.tape, hb.output, hb.size, hb.block⟩; clear hb) | (go_at_call_of 45 (Value.agg #[.int .u64 S, .int .u64 a0, .int .u64 a1, .int .i64 PP]); refine (HWP.out _).mono ?_; rintro e w' ⟨rfl, hb⟩; have K3 : Hid (Rows2 w w' [.int .u8 op, .int .u8 m, .int .u64 x, .int .u64 y, .int .u64 z] [.int .u64 0, .int .u8 0, .bool false]) := K3.out.later ⟨hb.os, hb.tape, hb.output, hb.size, hb.block⟩; clear hb) | (go_at_call_of 45 (Value.agg #[.int .u64 sz, .int .u64 t0, .int .u64 t1, .int .i64 pz]); refine (HWC.out _).mono ?_; rintro e w' ⟨rfl, hb⟩; have K3 : Hid (Rows2 w w' [.int .u8 op, .int .u8 m, .int .u64 x, .int .u64 y, .int .u64 z] [.int .u64 0, .int .u8 0, .bool false]) := K3.out.later ⟨hb.os, hb.tape, hb.output, hb.size, hb.block⟩; clear hb) | (go_at_call 44; refine (HRS.out _ K3.out.below).mono ?_; rintro e w2 ⟨rfl, hb2⟩; have K3 : Hid (Rows2 w w2 [.int .u8 op, .int .u8 m, .int .u64 x, .int .u64 y, .int .u64 z] [.int .u64 0, .int .u8 0, .bool false]) := K3.out.later ⟨hb2.os, hb2.tape, hb2.output, hb2.size, hb2.block⟩; have s0 := K3.out.r.cells 0 _ rfl; have s1 := K3.out.r.cells 1 _ rfl; have s2 := K3.out.r.cells 2 _ rfl; have v0 := K3.out.r.live 0 _ rfl; have v1 := K3.out.r.live 1 _ rfl; have v2 := K3.out.r.live 2 _ rfl; clear hb2))
    all_goals (try go_wp2_with fail)
    all_goals
      refine bodyPost_ret (v := .agg #[.int .u64 QB, .int .u8 QF, .bool false]) (results_fused rfl ?_) rfl ⟨by rw [HV.out.1, HV.out.2], ?_⟩
      · exact ((K3.out.r.set 0 _ (by simp)).set 1 _ (by simp)).set 2 _ (by simp)
      · exact ((K3.out.below.setCell (by simp) _).setCell (by simp) _).setCell (by simp) _
end Go.Proofs.YtcjihaafohnbeaaDoor
