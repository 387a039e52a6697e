import Derived.Test.YtfbdgecanfmgiaaDoorBase
import Derived.Deep.RegionHeld3
import Derived.Deep.Light
import Derived.Deep.Cut
import Derived.Deep.CutRange
namespace Go.Proofs.YtfbdgecanfmgiaaDoor
open Go.RowKit

/-- Two cells of a block, as they lie. -/
structure Two (w : World) (b : Nat) (u v : Value) : Prop where
  c0 : w.cell? ⟨b, 0, none⟩ = some u
  c1 : w.cell? ⟨b, 1, none⟩ = some v
  f0 : w.frozen? ⟨b, 0, none⟩ = false
  f1 : w.frozen? ⟨b, 1, none⟩ = false
theorem Two.lt {w : World} {b : Nat} {u v : Value} (h : Two w b u v) : b < w.heap.size := block_lt_of_cell h.c0
theorem Two.alloc {w : World} {b : Nat} {u v : Value} (h : Two w b u v) (o : Obj) : Two (w.alloc o) b u v :=
  ⟨(World.cell?_alloc_lt _ _ _ h.lt).trans h.c0, (World.cell?_alloc_lt _ _ _ h.lt).trans h.c1, (World.frozen?_alloc_old _ _ _ (Nat.ne_of_lt h.lt)).trans h.f0, (World.frozen?_alloc_old _ _ _ (Nat.ne_of_lt h.lt)).trans h.f1⟩
theorem Two.new (w : World) (u v : Value) (t : TypeId) : Two (w.alloc (.cells #[u, v] t)) w.heap.size u v := ⟨by go_simp, by go_simp, by go_simp, by go_simp⟩
theorem Two.drew {w : World} {b : Nat} {u v : Value} (h : Two w b u v) : Two w.drew b u v := ⟨h.c0, h.c1, h.f0, h.f1⟩
theorem Two.below {w w' : World} {B b : Nat} {u v : Value} (h : Two w b u v) (hb : Below B w w') (hlt : b < B) : Two w' b u v :=
  ⟨(hb.cell (p := ⟨b, 0, none⟩) hlt).trans h.c0, (hb.cell (p := ⟨b, 1, none⟩) hlt).trans h.c1, (hb.frozen (p := ⟨b, 0, none⟩) hlt).trans h.f0, (hb.frozen (p := ⟨b, 1, none⟩) hlt).trans h.f1⟩
theorem frozenSet (w : World) (p a : Addr) (v : Value) : (w.setCell p v).frozen? a = w.frozen? a := by
  simp
theorem Two.other {w : World} {b : Nat} {u v : Value} (h : Two w b u v) (p : Addr) (x : Value) (hp : b ≠ p.block) : Two (w.setCell p x) b u v :=
  ⟨(World.cell?_of_block (w := w) (heap_setCell_other w p b x hp)).trans h.c0, (World.cell?_of_block (w := w) (heap_setCell_other w p b x hp)).trans h.c1, (frozenSet _ _ _ _).trans h.f0, (frozenSet _ _ _ _).trans h.f1⟩
theorem Two.set0 {w : World} {b : Nat} {u v : Value} (h : Two w b u v) (x : Value) : Two (w.setCell ⟨b, 0, none⟩ x) b x v :=
  ⟨World.cell?_setCell_same _ _ _ h.c0, (World.cell?_setCell_other _ _ _ _ (by simp)).trans h.c1, (frozenSet _ _ _ _).trans h.f0, (frozenSet _ _ _ _).trans h.f1⟩
theorem Two.set1 {w : World} {b : Nat} {u v : Value} (h : Two w b u v) (x : Value) : Two (w.setCell ⟨b, 1, none⟩ x) b u x :=
  ⟨(World.cell?_setCell_other _ _ _ _ (by simp)).trans h.c0, World.cell?_setCell_same _ _ _ h.c1, (frozenSet _ _ _ _).trans h.f0, (frozenSet _ _ _ _).trans h.f1⟩

theorem Two.keepX {wr : World} {N g i : Nat} {u v x : Value} {o1 o2 : Obj} (h : Two wr N u v) (hg : N ≠ g) :
    (((wr.setCell ⟨g, i, none⟩ x).alloc o1).alloc o2).drew.cell? ⟨N, 0, none⟩ = some u ∧ (((wr.setCell ⟨g, i, none⟩ x).alloc o1).alloc o2).drew.cell? ⟨N, 1, none⟩ = some v :=
  have t := (((h.other ⟨g, i, none⟩ x hg).alloc o1).alloc o2).drew
  ⟨t.c0, t.c1⟩

/-- Word i of two words. -/
def wordAt (lo hi i : Int) : Int := if i = 0 then lo else if i = 1 then hi else 0

set_option maxHeartbeats 400000 in
theorem word_any (lo hi i : Int) (w : World) :
    Calls Tryd.prog 85 #[.agg #[.int .u64 lo, .int .u64 hi], .int .i64 i] w fun e w' => e = .returned (.int .u64 (wordAt lo hi i)) ∧ w' = w.alloc (.cells #[.int .u64 lo, .int .u64 hi] 75) := by
  by_cases h0 : i = 0
  · subst h0
    go_enter Tryd.func85, Tryd.ntmps85
    go_wp2
    go_ret
    exact ⟨rfl, rfl⟩
  · by_cases h1 : i = 1
    · subst h1
      go_enter Tryd.func85, Tryd.ntmps85
      go_wp2
      go_ret
      exact ⟨rfl, rfl⟩
    · have HW : Hid (wordAt lo hi i = 0) := (by unfold wordAt; rw [if_neg h0, if_neg h1] : wordAt lo hi i = 0)
      by_cases h2 : i < 0
      · go_enter Tryd.func85, Tryd.ntmps85
        go_wp2
        go_ret
        exact ⟨by rw [HW.out]; rfl, rfl⟩
      · have h3 : 2 ≤ i := by omega
        go_enter Tryd.func85, Tryd.ntmps85
        go_wp2
        go_ret
        exact ⟨by rw [HW.out]; rfl, rfl⟩

/-- The words that a shift to the left lays. -/
def leftW (lo hi n : Int) (i : Int) : Int := bits .or .u64 (wordAt lo hi (i - n / 64) * 2 ^ (n % 64).toNat % 18446744073709551616) (wordAt lo hi (i - n / 64 - 1) / 2 ^ (64 - n % 64).toNat)

theorem wrapI (x : Int) (h0 : -9223372036854775808 ≤ x) (h1 : x ≤ 9223372036854775807) : IntKind.i64.wrap x = x := by rw [IntKind.wrap_i64]; omega
theorem wrapU (x : Int) (h0 : 0 ≤ x) (h1 : x < 18446744073709551616) : IntKind.u64.wrap x = x := by rw [IntKind.wrap_u64]; omega
theorem left_w0 (lo hi n : Int) : bits .or .u64 (IntKind.u64.wrap (wordAt lo hi (-(n / 64)) * 2 ^ (n % 64).toNat)) (wordAt lo hi (-(n / 64) - 1) / 2 ^ min (64 - n % 64).toNat 64) = leftW lo hi n 0 := by
  rw [IntKind.wrap_u64]
  unfold leftW
  rw [show (0 - n / 64 : Int) = -(n / 64) by omega, show min (64 - n % 64).toNat 64 = (64 - n % 64).toNat by omega]
theorem left_w1 (lo hi n : Int) : bits .or .u64 (IntKind.u64.wrap (wordAt lo hi (1 - n / 64) * 2 ^ (n % 64).toNat)) (wordAt lo hi (1 - n / 64 - 1) / 2 ^ min (64 - n % 64).toNat 64) = leftW lo hi n 1 := by
  rw [IntKind.wrap_u64]
  unfold leftW
  rw [show min (64 - n % 64).toNat 64 = (64 - n % 64).toNat by omega]

/-- What the loops that lay two words keep: what they read, the result's place, the words laid so far. -/
structure Laying (w : World) (x0 x1 r0 r1 o0 o1 : Value) (wr : World) : Prop where
  below : Below w.heap.size w wr
  size : w.heap.size + 2 < wr.heap.size
  x : Two wr w.heap.size x0 x1
  r : Two wr (w.heap.size + 1) r0 r1
  o : Two wr (w.heap.size + 2) o0 o1
theorem Laying.start (w : World) (x0 x1 r0 r1 o0 o1 : Value) (t t' t'' : TypeId) : Laying w x0 x1 r0 r1 o0 o1 (((w.alloc (.cells #[x0, x1] t)).alloc (.cells #[r0, r1] t')).alloc (.cells #[o0, o1] t'')) := by
  refine ⟨(((Below.refl _ _).alloc (Nat.le_refl _) _).alloc (by simp) _).alloc (by simp; omega) _, by simp, ((Two.new _ _ _ _).alloc _).alloc _, ?_, ?_⟩
  · have h := (Two.new (w.alloc (.cells #[x0, x1] t)) r0 r1 t')
    rw [World.size_alloc] at h
    exact h.alloc _
  · have h := (Two.new ((w.alloc (.cells #[x0, x1] t)).alloc (.cells #[r0, r1] t')) o0 o1 t'')
    rw [World.size_alloc, World.size_alloc] at h
    exact h
theorem Laying.set0 {w wr : World} {x0 x1 r0 r1 o0 o1 : Value} (h : Laying w x0 x1 r0 r1 o0 o1 wr) (v : Value) {g : Nat} (hg : g = w.heap.size + 2) : Laying w x0 x1 r0 r1 v o1 (wr.setCell ⟨g, 0, none⟩ v) := by
  subst hg
  exact ⟨h.below.setCell (by simp) _, by simpa using h.size, h.x.other _ _ (by simp), h.r.other _ _ (by simp), h.o.set0 v⟩
theorem Laying.set1 {w wr : World} {x0 x1 r0 r1 o0 o1 : Value} (h : Laying w x0 x1 r0 r1 o0 o1 wr) (v : Value) {g : Nat} (hg : g = w.heap.size + 2) : Laying w x0 x1 r0 r1 o0 v (wr.setCell ⟨g, 1, none⟩ v) := by
  subst hg
  exact ⟨h.below.setCell (by simp) _, by simpa using h.size, h.x.other _ _ (by simp), h.r.other _ _ (by simp), h.o.set1 v⟩
theorem Laying.alloc {w wr : World} {x0 x1 r0 r1 o0 o1 : Value} (h : Laying w x0 x1 r0 r1 o0 o1 wr) (o : Obj) : Laying w x0 x1 r0 r1 o0 o1 (wr.alloc o) :=
  ⟨h.below.alloc h.below.size _, by have := h.size; simp; omega, h.x.alloc _, h.r.alloc _, h.o.alloc _⟩
theorem Laying.drew {w wr : World} {x0 x1 r0 r1 o0 o1 : Value} (h : Laying w x0 x1 r0 r1 o0 o1 wr) : Laying w x0 x1 r0 r1 o0 o1 wr.drew :=
  ⟨h.below.drew, h.size, h.x.drew, h.r.drew, h.o.drew⟩

set_option maxHeartbeats 1000000 in
theorem left_any (lo hi n : Int) (h0 : 0 ≤ n) (h1 : n < 18446744073709551616) (w : World) :
    Calls Tryd.prog 80 #[.agg #[.int .u64 lo, .int .u64 hi], .int .u64 n] w fun e w' => e = .returned (.agg #[.int .u64 (leftW lo hi n 0), .int .u64 (leftW lo hi n 1)]) ∧ Below w.heap.size w w' := by
  have hw := wrap64_small (n / 64) (by omega) (by omega)
  go_enter Tryd.func80, Tryd.ntmps80
  go_wp2
  go_loopw [8] (fun i wr => ∃ k : Nat, k ≤ 2 ∧ i = .int .i64 k ∧ Laying w (.int .u64 lo) (.int .u64 hi) (.int .u64 0) (.int .u64 0) (.int .u64 (if 1 ≤ k then leftW lo hi n 0 else 0)) (.int .u64 (if 2 ≤ k then leftW lo hi n 1 else 0)) wr) (fun i _ => 2 - (intOf i).toNat)
  case atStart => exact ⟨0, by omega, rfl, Laying.start _ _ _ _ _ _ _ _ _ _⟩
  case round =>
    obtain ⟨k, hk, rfl, hl⟩ := hrel
    have x0 := hl.x.c0
    have x1 := hl.x.c1
    have z2 := hl.size
    have z0 : w.heap.size < wr.heap.size := by omega
    have z1 : w.heap.size + 1 < wr.heap.size := by omega
    match k, hk with
    | 0, _ =>
      have HL : Hid (Laying w (.int .u64 lo) (.int .u64 hi) (.int .u64 0) (.int .u64 0) (.int .u64 0) (.int .u64 0) wr) := hl
      have o0 := HL.out.o.c0
      have p0 := HL.out.o.f0
      clear hl
      go_wp2_with fail
      go_region_held3 (fun w' => w'.cell? ⟨w.heap.size, 0, none⟩ = some (.int .u64 lo) ∧ w'.cell? ⟨w.heap.size, 1, none⟩ = some (.int .u64 hi)) (first | (go_keep; done) | exact HL.out.x.keepX (by omega)) ((go_at_call 85; refine (word_any lo hi _ _).mono ?_; rintro e w' ⟨rfl, rfl⟩))
      all_goals (try go_wp2_with fail)
      all_goals
        go_roundw
        case rel =>
          go_light
          exact ⟨1, by omega, by go_num, (((by rw [left_w0]; exact HL.out.set0 _ rfl : Laying w _ _ _ _ _ _ _).alloc _).alloc _).drew⟩
        case measure => simp [intOf]
    | 1, _ =>
      have HL : Hid (Laying w (.int .u64 lo) (.int .u64 hi) (.int .u64 0) (.int .u64 0) (.int .u64 (leftW lo hi n 0)) (.int .u64 0) wr) := hl
      have o0 := HL.out.o.c1
      have p0 := HL.out.o.f1
      clear hl
      go_wp2_with fail
      go_region_held3 (fun w' => w'.cell? ⟨w.heap.size, 0, none⟩ = some (.int .u64 lo) ∧ w'.cell? ⟨w.heap.size, 1, none⟩ = some (.int .u64 hi)) (first | (go_keep; done) | exact HL.out.x.keepX (by omega)) ((go_at_call 85; refine (word_any lo hi _ _).mono ?_; rintro e w' ⟨rfl, rfl⟩))
      all_goals (try go_wp2_with fail)
      all_goals
        go_roundw
        case rel =>
          go_light
          exact ⟨2, by omega, by go_num, (((by rw [left_w1]; exact HL.out.set1 _ rfl : Laying w _ _ _ _ _ _ _).alloc _).alloc _).drew⟩
        case measure => simp [intOf]
    | 2, _ =>
      have HL : Hid (Laying w (.int .u64 lo) (.int .u64 hi) (.int .u64 0) (.int .u64 0) (.int .u64 (leftW lo hi n 0)) (.int .u64 (leftW lo hi n 1)) wr) := hl
      have e2 : ((2 : Nat) : Int) = 2 := rfl
      have o0 := HL.out.o.c0
      have o1 := HL.out.o.c1
      have r0 := HL.out.r.c0
      have r1 := HL.out.r.c1
      have q0 := HL.out.r.f0
      have q1 := HL.out.r.f1
      clear hl
      go_wp2_with fail
      refine bodyPost_ret (v := .agg #[.int .u64 (leftW lo hi n 0), .int .u64 (leftW lo hi n 1)]) (by simp [results, Tryd.results80, go_sem, *]) rfl ⟨rfl, ?_⟩
      exact (HL.out.below.setCell (by simp) _).setCell (by simp) _
end Go.Proofs.YtfbdgecanfmgiaaDoor
