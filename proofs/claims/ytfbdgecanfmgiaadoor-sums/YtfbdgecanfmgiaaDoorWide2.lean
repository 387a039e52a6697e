import Derived.Test.YtfbdgecanfmgiaaDoorWide1
import Derived.Deep.QuietTactic
import Derived.BigQuiet
import Derived.WalkSmall
namespace Go.Proofs.YtfbdgecanfmgiaaDoor
open Go.RowKit

def restB (m0 m1 : Int) : Int := if m0 = 0 ∧ m1 = 0 then 0 else if m0 = 0 ∧ m1 = 9223372036854775808 then 2 else if 9223372036854775808 ≤ m1 then 3 else 1
def restOf (lo hi n : Int) : Int := if 128 < n then (if lo = 0 ∧ hi = 0 then 0 else 1) else restB (leftW lo hi (128 - n) 0) (leftW lo hi (128 - n) 1)

theorem sizeU64 (w : World) : (Go.sizeOf 26).run Tryd.prog w = .ok 1 w := by kernel_rfl
/-- Arrays of two words, compared as a whole. -/
theorem eq_two (a b c d : Int) (w : World) : (Go.binOp .eql 75 (.agg #[.int .u64 a, .int .u64 b]) (.agg #[.int .u64 c, .int .u64 d])).run Tryd.prog w = .ok (.bool (a == c && b == d)) w := by
  have hu := Tryd.underlying75
  have hu2 := Tryd.underlying26
  simp only [Go.binOp, Op.equal, Op.maxDepth]
  have p0 : ∀ (x y : Value) w, (part 26 #[x, y] 0).run Tryd.prog w = .ok x w := fun x y w => by kernel_rfl
  have p1 : ∀ (x y : Value) w, (part 26 #[x, y] 1).run Tryd.prog w = .ok y w := fun x y w => by kernel_rfl
  have e : ∀ x y : Int, (Op.equalIn 9999 26 (.int .u64 x) (.int .u64 y)).run Tryd.prog w = .ok (x == y) w := fun x y => run_equalIn_int (P := Tryd.prog) w 9998 26 .u64 .u64 x y hu2
  rw [show (10000 : Nat) = 9999 + 1 from rfl]
  unfold Op.equalIn
  simp only [Sem.run_bind, run_underlying hu, Result.andThen_ok, sizeU64]
  rw [Std.Legacy.Range.forIn_eq_forIn_range']
  simp only [show List.range' 0 (Std.Legacy.Range.size [:2]) 1 = [0, 1] from rfl, List.forIn_cons, List.forIn_nil, Sem.run_bind, p0, e, Nat.zero_mul, Nat.one_mul, Result.andThen_ok]
  by_cases h1 : a = c
  · by_cases h2 : b = d
    · simp [h1, h2, p1, e]
    · simp [h1, h2, p1, e]
  · simp [h1]

set_option maxHeartbeats 1000000 in
theorem lowest_far (lo hi n : Int) (h0 : 128 < n) (w : World) :
    Calls Tryd.prog 86 #[.agg #[.int .u64 lo, .int .u64 hi], .int .u64 n] w fun e w' => e = .returned (.int .u8 (restOf lo hi n)) ∧ Below w.heap.size w w' := by
  have HR : Hid (restOf lo hi n = if lo = 0 ∧ hi = 0 then 0 else 1) := (by unfold restOf; rw [if_pos h0] : restOf lo hi n = _)
  have heq := eq_two lo hi 0 0
  by_cases hz : lo = 0 ∧ hi = 0
  · have hb : (lo == 0 && hi == 0) = true := by simp [hz]
    have HZ : Hid (lo = 0 ∧ hi = 0) := hz
    clear hz
    go_enter Tryd.func86, Tryd.ntmps86
    go_wp2
    go_ret
    exact ⟨by rw [HR.out, if_pos HZ.out]; rfl, (((Below.refl _ _).alloc (Nat.le_refl _) _).alloc (by simp) _).alloc (by simp; omega) _⟩
  · have hb : (lo == 0 && hi == 0) = false := by simp; omega
    have HZ : Hid (¬ (lo = 0 ∧ hi = 0)) := hz
    clear hz
    go_enter Tryd.func86, Tryd.ntmps86
    go_wp2
    go_ret
    exact ⟨by rw [HR.out, if_neg HZ.out]; rfl, (((Below.refl _ _).alloc (Nat.le_refl _) _).alloc (by simp) _).alloc (by simp; omega) _⟩

set_option maxHeartbeats 1000000 in
theorem lowest_near (lo hi n : Int) (h0 : 0 ≤ n) (h1 : n ≤ 128) (w : World) :
    Calls Tryd.prog 86 #[.agg #[.int .u64 lo, .int .u64 hi], .int .u64 n] w fun e w' => e = .returned (.int .u8 (restOf lo hi n)) ∧ Below w.heap.size w w' := by
  have HR : Hid (restOf lo hi n = restB (leftW lo hi (128 - n) 0) (leftW lo hi (128 - n) 1)) := (by unfold restOf; rw [if_neg (by omega)] : restOf lo hi n = _)
  go_enter Tryd.func86, Tryd.ntmps86
  go_wp2_with fail
  refine (left_any lo hi (128 - n) (by omega) (by omega) _).mono ?_
  rintro e w1 ⟨rfl, hb1⟩
  generalize leftW lo hi (128 - n) 0 = m0 at *
  generalize leftW lo hi (128 - n) 1 = m1 at *
  have t1 : Two w1 (w.heap.size + 1) (.int .u64 0) (.int .u64 0) := by
    have h := (Two.new (w.alloc (.cells #[.int .u64 lo, .int .u64 hi] 75)) (.int .u64 0) (.int .u64 0) 75)
    rw [World.size_alloc] at h
    exact (h.alloc _).below hb1 (by simp)
  have t2 : Two w1 (w.heap.size + 1 + 1) (.int .u64 0) (.int .u64 9223372036854775808) := by
    have h := (Two.new ((w.alloc (.cells #[.int .u64 lo, .int .u64 hi] 75)).alloc (.cells #[.int .u64 0, .int .u64 0] 75)) (.int .u64 0) (.int .u64 9223372036854775808) 75)
    rw [World.size_alloc, World.size_alloc] at h
    exact h.below hb1 (by simp)
  have a0 := t1.c0
  have a1 := t1.c1
  have b0 := t2.c0
  have b1 := t2.c1
  have z1 := t1.lt
  have z2 := t2.lt
  have z0 : w.heap.size < w1.heap.size := by omega
  have HB : Hid (Below w.heap.size w w1) := ((((Below.refl _ _).alloc (Nat.le_refl _) _).alloc (by simp) _).alloc (by simp; omega) _).trans (hb1.mono (by simp; omega))
  have heq := eq_two m0 m1 0 0
  have heq2 := eq_two m0 m1 0 9223372036854775808
  clear hb1 t1 t2
  by_cases hz : m0 = 0 ∧ m1 = 0
  · have hb : (m0 == 0 && m1 == 0) = true := by simp [hz]
    have HZ : Hid (m0 = 0 ∧ m1 = 0) := hz
    clear hz
    go_wp2_with fail
    go_ret
    exact ⟨by rw [HR.out]; unfold restB; rw [if_pos HZ.out]; rfl, HB.out.alloc (by omega) _⟩
  · have hb : (m0 == 0 && m1 == 0) = false := by simp; omega
    by_cases hy : m0 = 0 ∧ m1 = 9223372036854775808
    · have hb2 : (m0 == 0 && m1 == 9223372036854775808) = true := by simp [hy]
      have HZ : Hid (¬ (m0 = 0 ∧ m1 = 0) ∧ (m0 = 0 ∧ m1 = 9223372036854775808)) := ⟨hz, hy⟩
      clear hz hy
      go_wp2_with fail
      go_ret
      exact ⟨by rw [HR.out]; unfold restB; rw [if_neg HZ.out.1, if_pos HZ.out.2]; rfl, HB.out.alloc (by omega) _⟩
    · have hb2 : (m0 == 0 && m1 == 9223372036854775808) = false := by simp; omega
      have HZ : Hid (¬ (m0 = 0 ∧ m1 = 0) ∧ ¬ (m0 = 0 ∧ m1 = 9223372036854775808)) := ⟨hz, hy⟩
      clear hz hy
      by_cases hx : 9223372036854775808 ≤ m1
      · go_wp2_with fail
        go_quiet (fail)
        go_wp2_with fail
        go_ret
        exact ⟨by rw [HR.out]; unfold restB; rw [if_neg HZ.out.1, if_neg HZ.out.2, if_pos hx]; rfl, below_drewN (HB.out.alloc (by omega) _) _⟩
      · go_wp2_with fail
        go_quiet (fail)
        go_wp2_with fail
        go_ret
        exact ⟨by rw [HR.out]; unfold restB; rw [if_neg HZ.out.1, if_neg HZ.out.2, if_neg (by omega)]; rfl, below_drewN (HB.out.alloc (by omega) _) _⟩
theorem lowest_any (lo hi n : Int) (h0 : 0 ≤ n) (w : World) :
    Calls Tryd.prog 86 #[.agg #[.int .u64 lo, .int .u64 hi], .int .u64 n] w fun e w' => e = .returned (.int .u8 (restOf lo hi n)) ∧ Below w.heap.size w w' := by
  by_cases h : 128 < n
  · exact lowest_far lo hi n h w
  · exact lowest_near lo hi n h0 (by omega) w

/-- The words that a shift to the right leaves. -/
def cutW (lo hi n : Int) (i : Int) : Int := bits .or .u64 (wordAt lo hi (i + n / 64) / 2 ^ (n % 64).toNat) (wordAt lo hi (i + n / 64 + 1) * 2 ^ (64 - n % 64).toNat % 18446744073709551616)
theorem cut_w0 (lo hi n : Int) : bits .or .u64 (wordAt lo hi (n / 64) / 2 ^ (n % 64).toNat) (IntKind.u64.wrap (wordAt lo hi (n / 64 + 1) * 2 ^ min (64 - n % 64).toNat 64)) = cutW lo hi n 0 := by
  rw [IntKind.wrap_u64]
  unfold cutW
  rw [show (0 + n / 64 : Int) = n / 64 by omega, show min (64 - n % 64).toNat 64 = (64 - n % 64).toNat by omega]
theorem cut_w1 (lo hi n : Int) : bits .or .u64 (wordAt lo hi (1 + n / 64) / 2 ^ (n % 64).toNat) (IntKind.u64.wrap (wordAt lo hi (1 + n / 64 + 1) * 2 ^ min (64 - n % 64).toNat 64)) = cutW lo hi n 1 := by
  rw [IntKind.wrap_u64]
  unfold cutW
  rw [show min (64 - n % 64).toNat 64 = (64 - n % 64).toNat by omega]

theorem Laying.later {w wr w' : World} {x0 x1 r0 r1 o0 o1 : Value} (h : Laying w x0 x1 r0 r1 o0 o1 wr) (hb : Below wr.heap.size wr w') : Laying w x0 x1 r0 r1 o0 o1 w' :=
  ⟨h.below.trans (hb.mono h.below.size), Nat.lt_of_lt_of_le h.size hb.size, h.x.below hb h.x.lt, h.r.below hb h.r.lt, h.o.below hb h.o.lt⟩
theorem Laying.heldR {w wr : World} {x0 x1 r0 r1 o0 o1 u v : Value} (h : Laying w x0 x1 r0 r1 o0 o1 wr) {g g' : Nat} (hg : g = w.heap.size) (hg' : g' = w.heap.size + 2) :
    ((wr.setCell ⟨w.heap.size + 1, 0, none⟩ u).setCell ⟨w.heap.size + 1, 1, none⟩ v).cell? ⟨g, 0, none⟩ = some x0 ∧ ((wr.setCell ⟨w.heap.size + 1, 0, none⟩ u).setCell ⟨w.heap.size + 1, 1, none⟩ v).cell? ⟨g, 1, none⟩ = some x1 ∧
    ((wr.setCell ⟨w.heap.size + 1, 0, none⟩ u).setCell ⟨w.heap.size + 1, 1, none⟩ v).cell? ⟨g', 0, none⟩ = some o0 ∧ ((wr.setCell ⟨w.heap.size + 1, 0, none⟩ u).setCell ⟨w.heap.size + 1, 1, none⟩ v).cell? ⟨g', 1, none⟩ = some o1 := by
  subst hg hg'
  have t := (h.x.other ⟨w.heap.size + 1, 0, none⟩ u (by simp)).other ⟨w.heap.size + 1, 1, none⟩ v (by simp)
  have t' := (h.o.other ⟨w.heap.size + 1, 0, none⟩ u (by simp)).other ⟨w.heap.size + 1, 1, none⟩ v (by simp)
  exact ⟨t.c0, t.c1, t'.c0, t'.c1⟩

set_option maxHeartbeats 1000000 in
theorem cut_any (lo hi n : Int) (h0 : 0 ≤ n) (h1 : n < 18446744073709551616) (w : World) :
    Calls Tryd.prog 81 #[.agg #[.int .u64 lo, .int .u64 hi], .int .u64 n] w fun e w' => e = .returned (.tuple #[.agg #[.int .u64 (cutW lo hi n 0), .int .u64 (cutW lo hi n 1)], .int .u8 (restOf lo hi n)]) ∧ Below w.heap.size w w' := by
  have hw := wrap64_small (n / 64) (by omega) (by omega)
  go_enter Tryd.func81, Tryd.ntmps81
  go_wp2
  go_loopw [9] (fun i wr => ∃ k : Nat, k ≤ 2 ∧ i = .int .i64 k ∧ Laying w (.int .u64 lo) (.int .u64 hi) (.int .u64 0) (.int .u64 0) (.int .u64 (if 1 ≤ k then cutW lo hi n 0 else 0)) (.int .u64 (if 2 ≤ k then cutW lo hi n 1 else 0)) wr) (fun i _ => 2 - (intOf i).toNat)
  case atStart => exact ⟨0, by omega, rfl, Laying.start _ _ _ _ _ _ _ _ _ _⟩
  case round =>
    obtain ⟨k, hk, rfl, hl⟩ := hrel
    have x0 := hl.x.c0
    have x1 := hl.x.c1
    have z2 := hl.size
    have z0 : w.heap.size < wr.heap.size := by omega
    have z1 : w.heap.size + 1 < wr.heap.size := by omega
    match k, hk with
    | 0, _ =>
      have HL : Hid (Laying w (.int .u64 lo) (.int .u64 hi) (.int .u64 0) (.int .u64 0) (.int .u64 0) (.int .u64 0) wr) := hl
      have o0 := HL.out.o.c0
      have p0 := HL.out.o.f0
      clear hl
      go_wp2_with fail
      go_region_held3 (fun w' => w'.cell? ⟨w.heap.size, 0, none⟩ = some (.int .u64 lo) ∧ w'.cell? ⟨w.heap.size, 1, none⟩ = some (.int .u64 hi)) (first | (go_keep; done) | exact HL.out.x.keepX (by omega)) ((go_at_call 85; refine (word_any lo hi _ _).mono ?_; rintro e w' ⟨rfl, rfl⟩))
      all_goals (try go_wp2_with fail)
      all_goals
        go_roundw
        case rel =>
          go_light
          exact ⟨1, by omega, by go_num, (((by rw [cut_w0]; exact HL.out.set0 _ rfl : Laying w _ _ _ _ _ _ _).alloc _).alloc _).drew⟩
        case measure => simp [intOf]
    | 1, _ =>
      have HL : Hid (Laying w (.int .u64 lo) (.int .u64 hi) (.int .u64 0) (.int .u64 0) (.int .u64 (cutW lo hi n 0)) (.int .u64 0) wr) := hl
      have o0 := HL.out.o.c1
      have p0 := HL.out.o.f1
      clear hl
      go_wp2_with fail
      go_region_held3 (fun w' => w'.cell? ⟨w.heap.size, 0, none⟩ = some (.int .u64 lo) ∧ w'.cell? ⟨w.heap.size, 1, none⟩ = some (.int .u64 hi)) (first | (go_keep; done) | exact HL.out.x.keepX (by omega)) ((go_at_call 85; refine (word_any lo hi _ _).mono ?_; rintro e w' ⟨rfl, rfl⟩))
      all_goals (try go_wp2_with fail)
      all_goals
        go_roundw
        case rel =>
          go_light
          exact ⟨2, by omega, by go_num, (((by rw [cut_w1]; exact HL.out.set1 _ rfl : Laying w _ _ _ _ _ _ _).alloc _).alloc _).drew⟩
        case measure => simp [intOf]
    | 2, _ =>
      have HL : Hid (Laying w (.int .u64 lo) (.int .u64 hi) (.int .u64 0) (.int .u64 0) (.int .u64 (cutW lo hi n 0)) (.int .u64 (cutW lo hi n 1)) wr) := hl
      have e2 : ((2 : Nat) : Int) = 2 := rfl
      have o0 := HL.out.o.c0
      have o1 := HL.out.o.c1
      have r0 := HL.out.r.c0
      have r1 := HL.out.r.c1
      have q0 := HL.out.r.f0
      have q1 := HL.out.r.f1
      clear hl
      go_wp2_with fail
      go_region_held3 (fun w' => w'.cell? ⟨w.heap.size, 0, none⟩ = some (.int .u64 lo) ∧ w'.cell? ⟨w.heap.size, 1, none⟩ = some (.int .u64 hi) ∧ w'.cell? ⟨w.heap.size + 1 + 1, 0, none⟩ = some (.int .u64 (cutW lo hi n 0)) ∧ w'.cell? ⟨w.heap.size + 1 + 1, 1, none⟩ = some (.int .u64 (cutW lo hi n 1)))
        (first | (go_keep; done) | exact ⟨HL2.out.x.c0, HL2.out.x.c1, HL2.out.o.c0, HL2.out.o.c1⟩ | exact HL2.out.heldR rfl rfl)
        ((go_at_call 86; refine (lowest_any lo hi n h0 _).mono ?_; rintro e w' ⟨rfl, hb⟩; have HL2 : Hid (Laying w (.int .u64 lo) (.int .u64 hi) (.int .u64 0) (.int .u64 0) (.int .u64 (cutW lo hi n 0)) (.int .u64 (cutW lo hi n 1)) w') := HL.out.later ⟨hb.os, hb.tape, hb.output, hb.size, hb.block⟩; have g0 := HL2.out.r.c0; have g1 := HL2.out.r.c1; have k0 := HL2.out.r.f0; have k1 := HL2.out.r.f1))
      all_goals (try go_wp2_with fail)
      all_goals
        refine bodyPost_ret (v := .tuple #[.agg #[.int .u64 (cutW lo hi n 0), .int .u64 (cutW lo hi n 1)], .int .u8 (restOf lo hi n)]) (by simp [results, Tryd.results81, go_sem, *]) rfl ⟨rfl, ?_⟩
        exact (HL2.out.below.setCell (by simp) _).setCell (by simp) _
end Go.Proofs.YtfbdgecanfmgiaaDoor
