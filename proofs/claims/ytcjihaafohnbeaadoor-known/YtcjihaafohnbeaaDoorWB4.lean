import Derived.Test.YtcjihaafohnbeaaDoorWA4
import Derived.Deep.QuietTactic
import Derived.BigQuiet
import Derived.WalkSmall
namespace Go.Proofs.YtcjihaafohnbeaaDoor.W4
open Go.RowKit

theorem sizeU64 (w : World) : (Go.sizeOf 24).run Tryd.prog w = .ok 1 w := by kernel_rfl
/-- Arrays of words, compared as a whole. -/
theorem eq_words (a0 a1 a2 a3 b0 b1 b2 b3 : Int) (w : World) : (Go.binOp .eql 71 (.agg #[.int .u64 a0, .int .u64 a1, .int .u64 a2, .int .u64 a3]) (.agg #[.int .u64 b0, .int .u64 b1, .int .u64 b2, .int .u64 b3])).run Tryd.prog w = .ok (.bool (a0 == b0 && a1 == b1 && a2 == b2 && a3 == b3)) w := by
  have hu := Tryd.underlying71
  have hu2 := Tryd.underlying24
  simp only [Go.binOp, Op.equal, Op.maxDepth]
  have p0 : ∀ (x0 x1 x2 x3 : Value) w, (part 24 #[x0, x1, x2, x3] 0).run Tryd.prog w = .ok x0 w := fun x0 x1 x2 x3 w => by kernel_rfl
  have p1 : ∀ (x0 x1 x2 x3 : Value) w, (part 24 #[x0, x1, x2, x3] 1).run Tryd.prog w = .ok x1 w := fun x0 x1 x2 x3 w => by kernel_rfl
  have p2 : ∀ (x0 x1 x2 x3 : Value) w, (part 24 #[x0, x1, x2, x3] 2).run Tryd.prog w = .ok x2 w := fun x0 x1 x2 x3 w => by kernel_rfl
  have p3 : ∀ (x0 x1 x2 x3 : Value) w, (part 24 #[x0, x1, x2, x3] 3).run Tryd.prog w = .ok x3 w := fun x0 x1 x2 x3 w => by kernel_rfl
  have e : ∀ x y : Int, (Op.equalIn 9999 24 (.int .u64 x) (.int .u64 y)).run Tryd.prog w = .ok (x == y) w := fun x y => run_equalIn_int (P := Tryd.prog) w 9998 24 .u64 .u64 x y hu2
  rw [show (10000 : Nat) = 9999 + 1 from rfl]
  unfold Op.equalIn
  simp only [Sem.run_bind, run_underlying hu, Result.andThen_ok, sizeU64]
  rw [Std.Legacy.Range.forIn_eq_forIn_range']
  simp only [show List.range' 0 (Std.Legacy.Range.size [:4]) 1 = [0, 1, 2, 3] from rfl, List.forIn_cons, List.forIn_nil, Sem.run_bind, p0, e, Nat.mul_one, Result.andThen_ok]
  by_cases h0 : a0 = b0
  rotate_left
  · simp [h0]
  by_cases h1 : a1 = b1
  rotate_left
  · simp [h0, h1, p1, e]
  by_cases h2 : a2 = b2
  rotate_left
  · simp [h0, h1, h2, p1, p2, e]
  by_cases h3 : a3 = b3
  rotate_left
  · simp [h0, h1, h2, h3, p1, p2, p3, e]
  simp [h0, h1, h2, h3, p1, p2, p3, e]
/-- The same number, told by its words. -/
theorem words_eq {D E : Nat} (hD : D < 18446744073709551616 ^ 4) (hE : E < 18446744073709551616 ^ 4) : (((wd D 0 : Nat) : Int) == ((wd E 0 : Nat) : Int) && ((wd D 1 : Nat) : Int) == ((wd E 1 : Nat) : Int) && ((wd D 2 : Nat) : Int) == ((wd E 2 : Nat) : Int) && ((wd D 3 : Nat) : Int) == ((wd E 3 : Nat) : Int)) = decide (D = E) := by
  by_cases h : D = E
  · subst h; simp
  · have hd := wd4 (D := D) hD
    have he := wd4 (D := E) hE
    rw [decide_eq_false h]
    by_cases h0 : wd D 0 = wd E 0
    rotate_left
    · have : ¬ ((wd D 0 : Nat) : Int) = ((wd E 0 : Nat) : Int) := by omega
      simp [this]
    by_cases h1 : wd D 1 = wd E 1
    rotate_left
    · have : ¬ ((wd D 1 : Nat) : Int) = ((wd E 1 : Nat) : Int) := by omega
      simp [this]
    by_cases h2 : wd D 2 = wd E 2
    rotate_left
    · have : ¬ ((wd D 2 : Nat) : Int) = ((wd E 2 : Nat) : Int) := by omega
      simp [this]
    by_cases h3 : wd D 3 = wd E 3
    rotate_left
    · have : ¬ ((wd D 3 : Nat) : Int) = ((wd E 3 : Nat) : Int) := by omega
      simp [this]
    omega
theorem wd_mod (E i : Nat) (h : i < 4) : wd (E % 18446744073709551616 ^ 4) i = wd E i := by
  unfold wd
  match i, h with
  | 0, _ => omega
  | 1, _ => omega
  | 2, _ => omega
  | 3, _ => omega
theorem rest_words (D n m : Nat) (hn : n ≤ 256) (hm : m = 256 - n) : restN D n = if wd (D * 2 ^ m) 0 = 0 ∧ wd (D * 2 ^ m) 1 = 0 ∧ wd (D * 2 ^ m) 2 = 0 ∧ wd (D * 2 ^ m) 3 = 0 then 0 else if wd (D * 2 ^ m) 0 = 0 ∧ wd (D * 2 ^ m) 1 = 0 ∧ wd (D * 2 ^ m) 2 = 0 ∧ wd (D * 2 ^ m) 3 = 9223372036854775808 then 2 else if 9223372036854775808 ≤ wd (D * 2 ^ m) 3 then 3 else 1 := by
  have h := rest_near (D := D) (n := n) (K := 255) (M := D * 2 ^ m % 18446744073709551616 ^ 4) (by omega) (by rw [hm])
  rw [h]
  have hlt : D * 2 ^ m % 18446744073709551616 ^ 4 < 18446744073709551616 ^ 4 := Nat.mod_lt _ (by decide)
  have hs := wd4 (D := D * 2 ^ m % 18446744073709551616 ^ 4) hlt
  rw [wd_mod _ 0 (by decide), wd_mod _ 1 (by decide), wd_mod _ 2 (by decide), wd_mod _ 3 (by decide)] at hs
  have l0 := wd_lt (D * 2 ^ m) 0
  have l1 := wd_lt (D * 2 ^ m) 1
  have l2 := wd_lt (D * 2 ^ m) 2
  have l3 := wd_lt (D * 2 ^ m) 3
  generalize D * 2 ^ m % 18446744073709551616 ^ 4 = M at *
  generalize wd (D * 2 ^ m) 0 = m0 at *
  generalize wd (D * 2 ^ m) 1 = m1 at *
  generalize wd (D * 2 ^ m) 2 = m2 at *
  generalize wd (D * 2 ^ m) 3 = m3 at *
  clear h hlt
  rw [show (2 : Nat) ^ 255 = 57896044618658097711785492504343953926634992332820282019728792003956564819968 by decide]
  by_cases c0 : m0 = 0 ∧ m1 = 0 ∧ m2 = 0 ∧ m3 = 0
  · rw [if_pos c0, if_pos (by omega)]
  · rw [if_neg c0, if_neg (show ¬ M = 0 by omega)]
    by_cases c1 : m0 = 0 ∧ m1 = 0 ∧ m2 = 0 ∧ m3 = 9223372036854775808
    · rw [if_pos c1, if_pos (by omega)]
    · rw [if_neg c1, if_neg (show ¬ M = 57896044618658097711785492504343953926634992332820282019728792003956564819968 by omega)]
      by_cases c2 : 9223372036854775808 ≤ m3
      · rw [if_pos c2, if_pos (by omega)]
      · rw [if_neg c2, if_neg (by omega)]

set_option maxHeartbeats 1000000 in
theorem lowest_far (D : Nat) (hD : D < 18446744073709551616 ^ 4) (n : Int) (h0 : 256 < n) (w : World) :
    Calls Tryd.prog 89 #[.agg #[.int .u64 (wd D 0), .int .u64 (wd D 1), .int .u64 (wd D 2), .int .u64 (wd D 3)], .int .u64 n] w fun e w' => e = .returned (.int .u8 (restN D n.toNat)) ∧ Below w.heap.size w w' := by
  have HR : Hid (restN D n.toNat = if D = 0 then 0 else 1) := rest_far (k := 256) hD (by omega)
  have heq := eq_words (wd D 0 : Nat) (wd D 1 : Nat) (wd D 2 : Nat) (wd D 3 : Nat) 0 0 0 0
  have hw0 : (((wd D 0 : Nat) : Int) == 0 && ((wd D 1 : Nat) : Int) == 0 && ((wd D 2 : Nat) : Int) == 0 && ((wd D 3 : Nat) : Int) == 0) = decide (D = 0) := by
    have := words_eq (E := 0) hD (by decide)
    simpa [wd] using this
  rw [hw0] at heq
  clear hw0 hD
  by_cases hz : D = 0
  · have hb : decide (D = 0) = true := by simp [hz]
    rw [hb] at heq
    have HZ : Hid (D = 0) := hz
    clear hz hb
    go_enter Tryd.func89, Tryd.ntmps89
    go_wp2
    go_ret
    exact ⟨by rw [HR.out, if_pos HZ.out]; rfl, (((Below.refl _ _).alloc (Nat.le_refl _) _).alloc (by simp) _).alloc (by simp; omega) _⟩
  · have hb : decide (D = 0) = false := by simp [hz]
    rw [hb] at heq
    have HZ : Hid (¬ D = 0) := hz
    clear hz hb
    go_enter Tryd.func89, Tryd.ntmps89
    go_wp2
    go_ret
    exact ⟨by rw [HR.out, if_neg HZ.out]; rfl, (((Below.refl _ _).alloc (Nat.le_refl _) _).alloc (by simp) _).alloc (by simp; omega) _⟩

set_option maxHeartbeats 1000000 in
theorem lowest_near (D : Nat) (hD : D < 18446744073709551616 ^ 4) (n : Int) (h0 : 0 ≤ n) (h1 : n ≤ 256) (w : World) :
    Calls Tryd.prog 89 #[.agg #[.int .u64 (wd D 0), .int .u64 (wd D 1), .int .u64 (wd D 2), .int .u64 (wd D 3)], .int .u64 n] w fun e w' => e = .returned (.int .u8 (restN D n.toNat)) ∧ Below w.heap.size w w' := by
  have HR := rest_words D n.toNat (256 - n).toNat (by omega) (by omega)
  have HL : Hid (∀ w, Calls Tryd.prog 62 #[.agg #[.int .u64 (wd D 0), .int .u64 (wd D 1), .int .u64 (wd D 2), .int .u64 (wd D 3)], .int .u64 (256 - n)] w fun e w' => e = .returned (.agg #[.int .u64 (wd (D * 2 ^ (256 - n).toNat) 0), .int .u64 (wd (D * 2 ^ (256 - n).toNat) 1), .int .u64 (wd (D * 2 ^ (256 - n).toNat) 2), .int .u64 (wd (D * 2 ^ (256 - n).toNat) 3)]) ∧ Below w.heap.size w w') := fun w => left_any D hD (256 - n) (by omega) (by omega) w
  generalize restN D n.toNat = RR at *
  generalize wd (D * 2 ^ (256 - n).toNat) 0 = m0 at *
  generalize wd (D * 2 ^ (256 - n).toNat) 1 = m1 at *
  generalize wd (D * 2 ^ (256 - n).toNat) 2 = m2 at *
  generalize wd (D * 2 ^ (256 - n).toNat) 3 = m3 at *
  have HI : RR = if (m0 : Int) = 0 ∧ (m1 : Int) = 0 ∧ (m2 : Int) = 0 ∧ (m3 : Int) = 0 then 0 else if (m0 : Int) = 0 ∧ (m1 : Int) = 0 ∧ (m2 : Int) = 0 ∧ (m3 : Int) = 9223372036854775808 then 2 else if 9223372036854775808 ≤ (m3 : Int) then 3 else 1 := by
    rw [HR]
    (repeat' split) <;> first | rfl | omega
  clear HR
  generalize (m0 : Int) = M0 at *
  generalize (m1 : Int) = M1 at *
  generalize (m2 : Int) = M2 at *
  generalize (m3 : Int) = M3 at *
  have HR : Hid (RR = if M0 = 0 ∧ M1 = 0 ∧ M2 = 0 ∧ M3 = 0 then 0 else if M0 = 0 ∧ M1 = 0 ∧ M2 = 0 ∧ M3 = 9223372036854775808 then 2 else if 9223372036854775808 ≤ M3 then 3 else 1) := HI
  clear HI
  clear hD
  go_enter Tryd.func89, Tryd.ntmps89
  go_wp2_with fail
  refine (HL.out _).mono ?_
  rintro e w1 ⟨rfl, hb1⟩
  have t1 : Blk w1 (w.heap.size + 1) [.int .u64 0, .int .u64 0, .int .u64 0, .int .u64 0] := by
    have h := (Blk.new (w.alloc (.cells #[.int .u64 (wd D 0), .int .u64 (wd D 1), .int .u64 (wd D 2), .int .u64 (wd D 3)] 71)) [.int .u64 0, .int .u64 0, .int .u64 0, .int .u64 0] 71 (by simp))
    rw [World.size_alloc] at h
    exact (h.alloc _).below hb1 (by simp)
  have t2 : Blk w1 (w.heap.size + 1 + 1) [.int .u64 0, .int .u64 0, .int .u64 0, .int .u64 9223372036854775808] := by
    have h := (Blk.new ((w.alloc (.cells #[.int .u64 (wd D 0), .int .u64 (wd D 1), .int .u64 (wd D 2), .int .u64 (wd D 3)] 71)).alloc (.cells #[.int .u64 0, .int .u64 0, .int .u64 0, .int .u64 0] 71)) [.int .u64 0, .int .u64 0, .int .u64 0, .int .u64 9223372036854775808] 71 (by simp))
    rw [World.size_alloc, World.size_alloc] at h
    exact h.below hb1 (by simp)
  have a0 := t1.cells 0 _ rfl
  have a1 := t1.cells 1 _ rfl
  have a2 := t1.cells 2 _ rfl
  have a3 := t1.cells 3 _ rfl
  have b0 := t2.cells 0 _ rfl
  have b1 := t2.cells 1 _ rfl
  have b2 := t2.cells 2 _ rfl
  have b3 := t2.cells 3 _ rfl
  have z1 := t1.lt
  have z2 := t2.lt
  have z0 : w.heap.size < w1.heap.size := by omega
  have HB : Hid (Below w.heap.size w w1) := ((((Below.refl _ _).alloc (Nat.le_refl _) _).alloc (by simp) _).alloc (by simp; omega) _).trans (hb1.mono (by simp; omega))
  have heq := eq_words M0 M1 M2 M3 0 0 0 0
  have heq2 := eq_words M0 M1 M2 M3 0 0 0 9223372036854775808
  clear hb1 t1 t2 HL
  by_cases hz : M0 = 0 ∧ M1 = 0 ∧ M2 = 0 ∧ M3 = 0
  · have hb : (M0 == 0 && M1 == 0 && M2 == 0 && M3 == 0) = true := by simp [hz]
    have HZ : Hid (M0 = 0 ∧ M1 = 0 ∧ M2 = 0 ∧ M3 = 0) := hz
    rw [hb] at heq
    clear hz hb heq2
    go_wp2_with fail
    go_ret
    exact ⟨by rw [HR.out, if_pos HZ.out]; rfl, HB.out.alloc (by omega) _⟩
  · have hb : (M0 == 0 && M1 == 0 && M2 == 0 && M3 == 0) = false := by
      rw [Bool.eq_false_iff]; intro hh; apply hz; simp only [Bool.and_eq_true, beq_iff_eq] at hh; omega
    rw [hb] at heq
    by_cases hy : M0 = 0 ∧ M1 = 0 ∧ M2 = 0 ∧ M3 = 9223372036854775808
    · have hb2 : (M0 == 0 && M1 == 0 && M2 == 0 && M3 == 9223372036854775808) = true := by simp [hy]
      have HZ : Hid (¬ (M0 = 0 ∧ M1 = 0 ∧ M2 = 0 ∧ M3 = 0) ∧ (M0 = 0 ∧ M1 = 0 ∧ M2 = 0 ∧ M3 = 9223372036854775808)) := ⟨hz, hy⟩
      rw [hb2] at heq2
      clear hz hy hb hb2
      go_wp2_with fail
      go_ret
      exact ⟨by rw [HR.out, if_neg HZ.out.1, if_pos HZ.out.2]; rfl, HB.out.alloc (by omega) _⟩
    · have hb2 : (M0 == 0 && M1 == 0 && M2 == 0 && M3 == 9223372036854775808) = false := by
        rw [Bool.eq_false_iff]; intro hh; apply hy; simp only [Bool.and_eq_true, beq_iff_eq] at hh; omega
      have HZ : Hid (¬ (M0 = 0 ∧ M1 = 0 ∧ M2 = 0 ∧ M3 = 0) ∧ ¬ (M0 = 0 ∧ M1 = 0 ∧ M2 = 0 ∧ M3 = 9223372036854775808)) := ⟨hz, hy⟩
      rw [hb2] at heq2
      clear hz hy hb hb2
      by_cases hx : 9223372036854775808 ≤ M3
      · have HX : Hid (9223372036854775808 ≤ M3) := hx
        go_wp2_with fail
        go_quiet (fail)
        go_wp2_with fail
        go_ret
        exact ⟨by rw [HR.out, if_neg HZ.out.1, if_neg HZ.out.2, if_pos HX.out]; rfl, below_drewN (HB.out.alloc (by omega) _) _⟩
      · have HX : Hid (¬ 9223372036854775808 ≤ M3) := hx
        go_wp2_with fail
        go_quiet (fail)
        go_wp2_with fail
        go_ret
        exact ⟨by rw [HR.out, if_neg HZ.out.1, if_neg HZ.out.2, if_neg (by have := HX.out; omega)]; rfl, below_drewN (HB.out.alloc (by omega) _) _⟩
theorem lowest_any (D : Nat) (hD : D < 18446744073709551616 ^ 4) (n : Int) (h0 : 0 ≤ n) (w : World) :
    Calls Tryd.prog 89 #[.agg #[.int .u64 (wd D 0), .int .u64 (wd D 1), .int .u64 (wd D 2), .int .u64 (wd D 3)], .int .u64 n] w fun e w' => e = .returned (.int .u8 (restN D n.toNat)) ∧ Below w.heap.size w w' := by
  by_cases h : 256 < n
  · exact lowest_far D hD n h w
  · exact lowest_near D hD n h0 (by omega) w

theorem heldR {w wr : World} {xs rs os : List Value} (u0 u1 u2 u3 : Value) (h : Laying w xs rs os wr) {g g' : Nat} (hg : g = w.heap.size) (hg' : g' = w.heap.size + 2) :
    Blk (((((wr.setCell ⟨w.heap.size + 1, 0, none⟩ u0).setCell ⟨w.heap.size + 1, 1, none⟩ u1).setCell ⟨w.heap.size + 1, 2, none⟩ u2).setCell ⟨w.heap.size + 1, 3, none⟩ u3)) g xs ∧ Blk (((((wr.setCell ⟨w.heap.size + 1, 0, none⟩ u0).setCell ⟨w.heap.size + 1, 1, none⟩ u1).setCell ⟨w.heap.size + 1, 2, none⟩ u2).setCell ⟨w.heap.size + 1, 3, none⟩ u3)) g' os := by
  subst hg hg'
  exact ⟨((((h.x.other _ _ (by simp)).other _ _ (by simp)).other _ _ (by simp)).other _ _ (by simp)), ((((h.o.other _ _ (by simp)).other _ _ (by simp)).other _ _ (by simp)).other _ _ (by simp))⟩

set_option maxHeartbeats 2000000 in
set_option maxRecDepth 10000 in
theorem cut_any (D : Nat) (hD : D < 18446744073709551616 ^ 4) (n : Int) (h0 : 0 ≤ n) (h1 : n < 18446744073709551616) (w : World) :
    Calls Tryd.prog 84 #[.agg #[.int .u64 (wd D 0), .int .u64 (wd D 1), .int .u64 (wd D 2), .int .u64 (wd D 3)], .int .u64 n] w fun e w' => e = .returned (.tuple #[.agg #[.int .u64 (wd (D / 2 ^ n.toNat) 0), .int .u64 (wd (D / 2 ^ n.toNat) 1), .int .u64 (wd (D / 2 ^ n.toNat) 2), .int .u64 (wd (D / 2 ^ n.toNat) 3)], .int .u8 (restN D n.toNat)]) ∧ Below w.heap.size w w' := by
  have HD : Hid (D < 18446744073709551616 ^ 4) := hD
  have HLo : Hid (∀ w, Calls Tryd.prog 89 #[.agg #[.int .u64 (wd D 0), .int .u64 (wd D 1), .int .u64 (wd D 2), .int .u64 (wd D 3)], .int .u64 n] w fun e w' => e = .returned (.int .u8 (restN D n.toNat)) ∧ Below w.heap.size w w') := fun w => lowest_any D hD n h0 w
  clear hD
  have hw := wrap64_small (n / 64) (by omega) (by omega)
  have E0 : Hid (bits .or .u64 (wdI D (n / 64) / 2 ^ (n % 64).toNat) (IntKind.u64.wrap (wdI D (n / 64 + 1) * 2 ^ min (64 - n % 64).toNat 64)) = (wd (D / 2 ^ n.toNat) 0 : Int)) := cut_w0 D n h0
  have E1 : Hid (bits .or .u64 (wdI D (1 + n / 64) / 2 ^ (n % 64).toNat) (IntKind.u64.wrap (wdI D (1 + n / 64 + 1) * 2 ^ min (64 - n % 64).toNat 64)) = (wd (D / 2 ^ n.toNat) 1 : Int)) := cut_w D 1 n h0
  have E2 : Hid (bits .or .u64 (wdI D (2 + n / 64) / 2 ^ (n % 64).toNat) (IntKind.u64.wrap (wdI D (2 + n / 64 + 1) * 2 ^ min (64 - n % 64).toNat 64)) = (wd (D / 2 ^ n.toNat) 2 : Int)) := cut_w D 2 n h0
  have E3 : Hid (bits .or .u64 (wdI D (3 + n / 64) / 2 ^ (n % 64).toNat) (IntKind.u64.wrap (wdI D (3 + n / 64 + 1) * 2 ^ min (64 - n % 64).toNat 64)) = (wd (D / 2 ^ n.toNat) 3 : Int)) := cut_w D 3 n h0
  generalize wd (D / 2 ^ n.toNat) 0 = R0 at *
  generalize wd (D / 2 ^ n.toNat) 1 = R1 at *
  generalize wd (D / 2 ^ n.toNat) 2 = R2 at *
  generalize wd (D / 2 ^ n.toNat) 3 = R3 at *
  generalize restN D n.toNat = RR at *
  go_enter Tryd.func84, Tryd.ntmps84
  go_wp2
  go_loopw [9] (fun i wr => ∃ k : Nat, k ≤ 4 ∧ i = .int .i64 k ∧ Laying w [.int .u64 (wd D 0), .int .u64 (wd D 1), .int .u64 (wd D 2), .int .u64 (wd D 3)] [.int .u64 0, .int .u64 0, .int .u64 0, .int .u64 0] [.int .u64 (if 1 ≤ k then (R0 : Int) else 0), .int .u64 (if 2 ≤ k then (R1 : Int) else 0), .int .u64 (if 3 ≤ k then (R2 : Int) else 0), .int .u64 (if 4 ≤ k then (R3 : Int) else 0)] wr) (fun i _ => 4 - (intOf i).toNat)
  case atStart => exact ⟨0, by omega, rfl, Laying.start _ _ _ _ _ _ _ (by simp) (by simp) (by simp)⟩
  case round =>
    obtain ⟨k, hk, rfl, hl⟩ := hrel
    have x0 := hl.x.cells 0 _ rfl
    have x1 := hl.x.cells 1 _ rfl
    have x2 := hl.x.cells 2 _ rfl
    have x3 := hl.x.cells 3 _ rfl
    have z2 := hl.size
    have z0 : w.heap.size < wr.heap.size := by omega
    have z1 : w.heap.size + 1 < wr.heap.size := by omega
    match k, hk with
    | 0, _ =>
      have HL : Hid (Laying w [.int .u64 (wd D 0), .int .u64 (wd D 1), .int .u64 (wd D 2), .int .u64 (wd D 3)] [.int .u64 0, .int .u64 0, .int .u64 0, .int .u64 0] [.int .u64 0, .int .u64 0, .int .u64 0, .int .u64 0] wr) := hl
      have o0 := HL.out.o.cells 0 _ rfl
      have p0 := HL.out.o.live 0 _ rfl
      clear hl
      go_wp2_with fail
      go_region_held3 (fun w' => w'.cell? ⟨w.heap.size, 0, none⟩ = some (.int .u64 (wd D 0)) ∧ w'.cell? ⟨w.heap.size, 1, none⟩ = some (.int .u64 (wd D 1)) ∧ w'.cell? ⟨w.heap.size, 2, none⟩ = some (.int .u64 (wd D 2)) ∧ w'.cell? ⟨w.heap.size, 3, none⟩ = some (.int .u64 (wd D 3))) (first | (go_keep; done) | (exact ⟨(HL.out.x.keepX (by omega)).cells 0 _ rfl, (HL.out.x.keepX (by omega)).cells 1 _ rfl, (HL.out.x.keepX (by omega)).cells 2 _ rfl, (HL.out.x.keepX (by omega)).cells 3 _ rfl⟩)) ((go_at_call 82; refine (word_any D HD.out _ _).mono ?_; rintro e w' ⟨rfl, rfl⟩))
      all_goals (try go_wp2_with fail)
      all_goals
        go_roundw
        case rel =>
          go_light
          exact ⟨1, by omega, by go_num, (((by rw [E0.out]; exact HL.out.setO 0 _ rfl (by simp) : Laying w _ _ _ _).alloc _).alloc _).drew⟩
        case measure => simp [intOf]
    | 1, _ =>
      have HL : Hid (Laying w [.int .u64 (wd D 0), .int .u64 (wd D 1), .int .u64 (wd D 2), .int .u64 (wd D 3)] [.int .u64 0, .int .u64 0, .int .u64 0, .int .u64 0] [.int .u64 R0, .int .u64 0, .int .u64 0, .int .u64 0] wr) := hl
      have o0 := HL.out.o.cells 1 _ rfl
      have p0 := HL.out.o.live 1 _ rfl
      clear hl
      go_wp2_with fail
      go_region_held3 (fun w' => w'.cell? ⟨w.heap.size, 0, none⟩ = some (.int .u64 (wd D 0)) ∧ w'.cell? ⟨w.heap.size, 1, none⟩ = some (.int .u64 (wd D 1)) ∧ w'.cell? ⟨w.heap.size, 2, none⟩ = some (.int .u64 (wd D 2)) ∧ w'.cell? ⟨w.heap.size, 3, none⟩ = some (.int .u64 (wd D 3))) (first | (go_keep; done) | (exact ⟨(HL.out.x.keepX (by omega)).cells 0 _ rfl, (HL.out.x.keepX (by omega)).cells 1 _ rfl, (HL.out.x.keepX (by omega)).cells 2 _ rfl, (HL.out.x.keepX (by omega)).cells 3 _ rfl⟩)) ((go_at_call 82; refine (word_any D HD.out _ _).mono ?_; rintro e w' ⟨rfl, rfl⟩))
      all_goals (try go_wp2_with fail)
      all_goals
        go_roundw
        case rel =>
          go_light
          exact ⟨2, by omega, by go_num, (((by rw [E1.out]; exact HL.out.setO 1 _ rfl (by simp) : Laying w _ _ _ _).alloc _).alloc _).drew⟩
        case measure => simp [intOf]
    | 2, _ =>
      have HL : Hid (Laying w [.int .u64 (wd D 0), .int .u64 (wd D 1), .int .u64 (wd D 2), .int .u64 (wd D 3)] [.int .u64 0, .int .u64 0, .int .u64 0, .int .u64 0] [.int .u64 R0, .int .u64 R1, .int .u64 0, .int .u64 0] wr) := hl
      have o0 := HL.out.o.cells 2 _ rfl
      have p0 := HL.out.o.live 2 _ rfl
      clear hl
      go_wp2_with fail
      go_region_held3 (fun w' => w'.cell? ⟨w.heap.size, 0, none⟩ = some (.int .u64 (wd D 0)) ∧ w'.cell? ⟨w.heap.size, 1, none⟩ = some (.int .u64 (wd D 1)) ∧ w'.cell? ⟨w.heap.size, 2, none⟩ = some (.int .u64 (wd D 2)) ∧ w'.cell? ⟨w.heap.size, 3, none⟩ = some (.int .u64 (wd D 3))) (first | (go_keep; done) | (exact ⟨(HL.out.x.keepX (by omega)).cells 0 _ rfl, (HL.out.x.keepX (by omega)).cells 1 _ rfl, (HL.out.x.keepX (by omega)).cells 2 _ rfl, (HL.out.x.keepX (by omega)).cells 3 _ rfl⟩)) ((go_at_call 82; refine (word_any D HD.out _ _).mono ?_; rintro e w' ⟨rfl, rfl⟩))
      all_goals (try go_wp2_with fail)
      all_goals
        go_roundw
        case rel =>
          go_light
          exact ⟨3, by omega, by go_num, (((by rw [E2.out]; exact HL.out.setO 2 _ rfl (by simp) : Laying w _ _ _ _).alloc _).alloc _).drew⟩
        case measure => simp [intOf]
    | 3, _ =>
      have HL : Hid (Laying w [.int .u64 (wd D 0), .int .u64 (wd D 1), .int .u64 (wd D 2), .int .u64 (wd D 3)] [.int .u64 0, .int .u64 0, .int .u64 0, .int .u64 0] [.int .u64 R0, .int .u64 R1, .int .u64 R2, .int .u64 0] wr) := hl
      have o0 := HL.out.o.cells 3 _ rfl
      have p0 := HL.out.o.live 3 _ rfl
      clear hl
      go_wp2_with fail
      go_region_held3 (fun w' => w'.cell? ⟨w.heap.size, 0, none⟩ = some (.int .u64 (wd D 0)) ∧ w'.cell? ⟨w.heap.size, 1, none⟩ = some (.int .u64 (wd D 1)) ∧ w'.cell? ⟨w.heap.size, 2, none⟩ = some (.int .u64 (wd D 2)) ∧ w'.cell? ⟨w.heap.size, 3, none⟩ = some (.int .u64 (wd D 3))) (first | (go_keep; done) | (exact ⟨(HL.out.x.keepX (by omega)).cells 0 _ rfl, (HL.out.x.keepX (by omega)).cells 1 _ rfl, (HL.out.x.keepX (by omega)).cells 2 _ rfl, (HL.out.x.keepX (by omega)).cells 3 _ rfl⟩)) ((go_at_call 82; refine (word_any D HD.out _ _).mono ?_; rintro e w' ⟨rfl, rfl⟩))
      all_goals (try go_wp2_with fail)
      all_goals
        go_roundw
        case rel =>
          go_light
          exact ⟨4, by omega, by go_num, (((by rw [E3.out]; exact HL.out.setO 3 _ rfl (by simp) : Laying w _ _ _ _).alloc _).alloc _).drew⟩
        case measure => simp [intOf]
    | 4, _ =>
      have HL : Hid (Laying w [.int .u64 (wd D 0), .int .u64 (wd D 1), .int .u64 (wd D 2), .int .u64 (wd D 3)] [.int .u64 0, .int .u64 0, .int .u64 0, .int .u64 0] [.int .u64 R0, .int .u64 R1, .int .u64 R2, .int .u64 R3] wr) := hl
      have e2 : ((4 : Nat) : Int) = 4 := rfl
      have o0 := HL.out.o.cells 0 _ rfl
      have o1 := HL.out.o.cells 1 _ rfl
      have o2 := HL.out.o.cells 2 _ rfl
      have o3 := HL.out.o.cells 3 _ rfl
      have r0 := HL.out.r.cells 0 _ rfl
      have r1 := HL.out.r.cells 1 _ rfl
      have r2 := HL.out.r.cells 2 _ rfl
      have r3 := HL.out.r.cells 3 _ rfl
      have q0 := HL.out.r.live 0 _ rfl
      have q1 := HL.out.r.live 1 _ rfl
      have q2 := HL.out.r.live 2 _ rfl
      have q3 := HL.out.r.live 3 _ rfl
      clear hl
      go_wp2_with fail
      go_region_held3 (fun w' => w'.cell? ⟨w.heap.size, 0, none⟩ = some (.int .u64 (wd D 0)) ∧ w'.cell? ⟨w.heap.size, 1, none⟩ = some (.int .u64 (wd D 1)) ∧ w'.cell? ⟨w.heap.size, 2, none⟩ = some (.int .u64 (wd D 2)) ∧ w'.cell? ⟨w.heap.size, 3, none⟩ = some (.int .u64 (wd D 3)) ∧ w'.cell? ⟨w.heap.size + 1 + 1, 0, none⟩ = some (.int .u64 R0) ∧ w'.cell? ⟨w.heap.size + 1 + 1, 1, none⟩ = some (.int .u64 R1) ∧ w'.cell? ⟨w.heap.size + 1 + 1, 2, none⟩ = some (.int .u64 R2) ∧ w'.cell? ⟨w.heap.size + 1 + 1, 3, none⟩ = some (.int .u64 R3))
        (first | (go_keep; done) | exact ⟨HL2.out.x.cells 0 _ rfl, HL2.out.x.cells 1 _ rfl, HL2.out.x.cells 2 _ rfl, HL2.out.x.cells 3 _ rfl, HL2.out.o.cells 0 _ rfl, HL2.out.o.cells 1 _ rfl, HL2.out.o.cells 2 _ rfl, HL2.out.o.cells 3 _ rfl⟩ | exact ⟨(heldR _ _ _ _ HL2.out rfl rfl).1.cells 0 _ rfl, (heldR _ _ _ _ HL2.out rfl rfl).1.cells 1 _ rfl, (heldR _ _ _ _ HL2.out rfl rfl).1.cells 2 _ rfl, (heldR _ _ _ _ HL2.out rfl rfl).1.cells 3 _ rfl, (heldR _ _ _ _ HL2.out rfl rfl).2.cells 0 _ rfl, (heldR _ _ _ _ HL2.out rfl rfl).2.cells 1 _ rfl, (heldR _ _ _ _ HL2.out rfl rfl).2.cells 2 _ rfl, (heldR _ _ _ _ HL2.out rfl rfl).2.cells 3 _ rfl⟩)
        ((go_at_call 89; refine (HLo.out _).mono ?_; rintro e w' ⟨rfl, hb⟩; have HL2 : Hid (Laying w [.int .u64 (wd D 0), .int .u64 (wd D 1), .int .u64 (wd D 2), .int .u64 (wd D 3)] [.int .u64 0, .int .u64 0, .int .u64 0, .int .u64 0] [.int .u64 R0, .int .u64 R1, .int .u64 R2, .int .u64 R3] w') := HL.out.later ⟨hb.os, hb.tape, hb.output, hb.size, hb.block⟩; have g0 := HL2.out.r.cells 0 _ rfl; have g1 := HL2.out.r.cells 1 _ rfl; have g2 := HL2.out.r.cells 2 _ rfl; have g3 := HL2.out.r.cells 3 _ rfl; have k0 := HL2.out.r.live 0 _ rfl; have k1 := HL2.out.r.live 1 _ rfl; have k2 := HL2.out.r.live 2 _ rfl; have k3 := HL2.out.r.live 3 _ rfl))
      all_goals (try go_wp2_with fail)
      all_goals
        refine bodyPost_ret (v := .tuple #[.agg #[.int .u64 R0, .int .u64 R1, .int .u64 R2, .int .u64 R3], .int .u8 RR]) (by simp [results, Tryd.results84, go_sem, *]) rfl ⟨rfl, ?_⟩
        exact ((((HL2.out.below.setCell (by simp) _).setCell (by simp) _).setCell (by simp) _).setCell (by simp) _)
end Go.Proofs.YtcjihaafohnbeaaDoor.W4
