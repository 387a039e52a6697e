import Derived.Test.YtfbdgecanfmgiaaDoorRound1
import Derived.Deep.RegionHeld3
namespace Go.Proofs.YtfbdgecanfmgiaaDoor
open Go.RowKit

theorem incr_le (g : Int) (q : Nat) : incr g q ≤ 1 := by unfold incr; (repeat' split) <;> omega
theorem cut_up {D : Nat} {k : Int} (hk : (Go.bitLen D : Int) - 53 ≤ k) (h : k ≤ 0) : D * 2 ^ (-k).toNat < 9007199254740992 := by
  have h1 := (Go.bitLen_spec D).1
  have h2 : 2 ^ Go.bitLen D * 2 ^ (-k).toNat ≤ 2 ^ 53 := by rw [← Nat.pow_add]; exact Nat.pow_le_pow_right (by decide) (by omega)
  have h3 : D * 2 ^ (-k).toNat < 2 ^ Go.bitLen D * 2 ^ (-k).toNat := Nat.mul_lt_mul_of_pos_right h1 (Nat.two_pow_pos _)
  omega
theorem cut_down {D : Nat} {k : Int} (hk : (Go.bitLen D : Int) - 53 ≤ k) (h : 0 < k) : D / 2 ^ k.toNat < 9007199254740992 := by
  have h1 := (Go.bitLen_spec D).1
  rw [Nat.div_lt_iff_lt_mul (Nat.two_pow_pos _)]
  have h2 : 2 ^ Go.bitLen D ≤ 2 ^ 53 * 2 ^ k.toNat := by rw [← Nat.pow_add]; exact Nat.pow_le_pow_right (by decide) (by omega)
  omega
theorem cutQ_le (s m : Int) {D : Nat} {k : Int} (hk : (Go.bitLen D : Int) - 53 ≤ k) : cutQ s m D k ≤ 9007199254740992 := by
  unfold cutQ
  by_cases h : k ≤ 0
  · rw [if_pos h]; have := cut_up hk h; omega
  · rw [if_neg h]
    have := cut_down hk (by omega)
    have := incr_le (grow m s (restN D k.toNat)) (D / 2 ^ k.toNat)
    omega

/-- A number that is not 0, (-1)^s * D * 2^p, rounded: its bits, its flags. -/
def roundB (s : Int) (D : Nat) (p m : Int) : Int :=
  let u := if cutQ s m D (Go.bitLen D - 53) = 9007199254740992 then p + Go.bitLen D - 52 else p + Go.bitLen D - 53
  let y : Int := if cutQ s m D (Go.bitLen D - 53) = 9007199254740992 then 4503599627370496 else cutQ s m D (Go.bitLen D - 53)
  if 971 < u then overB s m
  else if u < -1074 then s * 9223372036854775808 + cutQ s m D (-1074 - p)
  else s * 9223372036854775808 + ((u + 1074) * 4503599627370496 + y)
def roundF (s : Int) (D : Nat) (p m : Int) : Int :=
  let u := if cutQ s m D (Go.bitLen D - 53) = 9007199254740992 then p + Go.bitLen D - 52 else p + Go.bitLen D - 53
  if 971 < u then 5
  else if u < -1074 then (if cutCh D (-1074 - p) then 3 else 0)
  else (if cutCh D (Go.bitLen D - 53) then 1 else 0)

theorem round_carry_over {s : Int} {D : Nat} {p m : Int} (hy : cutQ s m D (Go.bitLen D - 53) = 9007199254740992) (h : 971 < p + Go.bitLen D - 53 + 1) : roundB s D p m = overB s m ∧ roundF s D p m = 5 := by
  unfold roundB roundF; simp only [if_pos hy]; rw [if_pos (by omega), if_pos (by omega)]; exact ⟨rfl, rfl⟩
theorem round_carry_tiny {s : Int} {D : Nat} {p m : Int} (hy : cutQ s m D (Go.bitLen D - 53) = 9007199254740992) (h : p + Go.bitLen D - 53 + 1 < -1074) : roundB s D p m = s * 9223372036854775808 + cutQ s m D (-1074 - p) ∧ roundF s D p m = (if cutCh D (-1074 - p) then 3 else 0) := by
  unfold roundB roundF; simp only [if_pos hy]; rw [if_neg (by omega), if_pos (by omega), if_neg (by omega), if_pos (by omega)]; exact ⟨rfl, rfl⟩
theorem round_carry {s : Int} {D : Nat} {p m : Int} (hy : cutQ s m D (Go.bitLen D - 53) = 9007199254740992) (h : -1074 ≤ p + Go.bitLen D - 53 + 1) (h' : p + Go.bitLen D - 53 + 1 ≤ 971) :
    roundB s D p m = s * 9223372036854775808 + ((p + Go.bitLen D - 53 + 1 + 1074) * 4503599627370496 + 4503599627370496) ∧ roundF s D p m = (if cutCh D (Go.bitLen D - 53) then 1 else 0) := by
  unfold roundB roundF; simp only [if_pos hy]; rw [if_neg (by omega), if_neg (by omega), if_neg (by omega), if_neg (by omega)]; exact ⟨by omega, rfl⟩
theorem round_over {s : Int} {D : Nat} {p m : Int} (hy : ¬ cutQ s m D (Go.bitLen D - 53) = 9007199254740992) (h : 971 < p + Go.bitLen D - 53) : roundB s D p m = overB s m ∧ roundF s D p m = 5 := by
  unfold roundB roundF; simp only [if_neg hy]; rw [if_pos h, if_pos h]; exact ⟨rfl, rfl⟩
theorem round_tiny {s : Int} {D : Nat} {p m : Int} (hy : ¬ cutQ s m D (Go.bitLen D - 53) = 9007199254740992) (h : p + Go.bitLen D - 53 < -1074) : roundB s D p m = s * 9223372036854775808 + cutQ s m D (-1074 - p) ∧ roundF s D p m = (if cutCh D (-1074 - p) then 3 else 0) := by
  unfold roundB roundF; simp only [if_neg hy]; rw [if_neg (by omega), if_pos h, if_neg (by omega), if_pos h]; exact ⟨rfl, rfl⟩
theorem round_plain {s : Int} {D : Nat} {p m : Int} (hy : ¬ cutQ s m D (Go.bitLen D - 53) = 9007199254740992) (h : -1074 ≤ p + Go.bitLen D - 53) (h' : p + Go.bitLen D - 53 ≤ 971) :
    roundB s D p m = s * 9223372036854775808 + ((p + Go.bitLen D - 53 + 1074) * 4503599627370496 + cutQ s m D (Go.bitLen D - 53)) ∧ roundF s D p m = (if cutCh D (Go.bitLen D - 53) then 1 else 0) := by
  unfold roundB roundF; simp only [if_neg hy]; rw [if_neg (by omega), if_neg (by omega), if_neg (by omega), if_neg (by omega)]; exact ⟨rfl, rfl⟩

/-- A number's four words as they lie, and the result's place. -/
structure Boxed (w w1 : World) (s lo hi p : Value) : Prop where
  below : Below w.heap.size w w1
  size : w.heap.size + 1 < w1.heap.size
  c0 : w1.cell? ⟨w.heap.size, 0, none⟩ = some s
  c1 : w1.cell? ⟨w.heap.size, 1, none⟩ = some lo
  c2 : w1.cell? ⟨w.heap.size, 2, none⟩ = some hi
  c3 : w1.cell? ⟨w.heap.size, 3, none⟩ = some p
  r0 : w1.cell? ⟨w.heap.size + 1, 0, none⟩ = some (.int .u64 0)
  r1 : w1.cell? ⟨w.heap.size + 1, 1, none⟩ = some (.int .u8 0)
  r2 : w1.cell? ⟨w.heap.size + 1, 2, none⟩ = some (.bool false)
  f0 : w1.frozen? ⟨w.heap.size + 1, 0, none⟩ = false
  f1 : w1.frozen? ⟨w.heap.size + 1, 1, none⟩ = false
  f2 : w1.frozen? ⟨w.heap.size + 1, 2, none⟩ = false
theorem Boxed.start (w : World) (s lo hi p : Value) (t t' : TypeId) : Boxed w ((w.alloc (.cells #[s, lo, hi, p] t)).alloc (.cells #[.int .u64 0, .int .u8 0, .bool false] t')) s lo hi p :=
  ⟨((Below.refl _ _).alloc (Nat.le_refl _) _).alloc (by simp) _, by simp, by go_simp, by go_simp, by go_simp, by go_simp, by go_simp, by go_simp, by go_simp, by go_simp, by go_simp, by go_simp⟩
theorem Boxed.later {w w1 w2 : World} {s lo hi p : Value} (h : Boxed w w1 s lo hi p) (hb : Below w1.heap.size w1 w2) : Boxed w w2 s lo hi p := by
  have z := h.size
  have z0 : w.heap.size < w1.heap.size := by omega
  exact ⟨h.below.trans (hb.mono (by omega)), Nat.lt_of_lt_of_le z hb.size, (hb.cell (p := ⟨w.heap.size, 0, none⟩) z0).trans h.c0, (hb.cell (p := ⟨w.heap.size, 1, none⟩) z0).trans h.c1, (hb.cell (p := ⟨w.heap.size, 2, none⟩) z0).trans h.c2, (hb.cell (p := ⟨w.heap.size, 3, none⟩) z0).trans h.c3,
    (hb.cell (p := ⟨w.heap.size + 1, 0, none⟩) z).trans h.r0, (hb.cell (p := ⟨w.heap.size + 1, 1, none⟩) z).trans h.r1, (hb.cell (p := ⟨w.heap.size + 1, 2, none⟩) z).trans h.r2,
    (hb.frozen (p := ⟨w.heap.size + 1, 0, none⟩) z).trans h.f0, (hb.frozen (p := ⟨w.heap.size + 1, 1, none⟩) z).trans h.f1, (hb.frozen (p := ⟨w.heap.size + 1, 2, none⟩) z).trans h.f2⟩

set_option maxHeartbeats 4000000 in
theorem round_any (s lo hi : Nat) (p m : Int) (hs : s < 2) (hl : lo < 18446744073709551616) (hh : hi < 18446744073709551616) (hm : 0 ≤ m ∧ m ≤ 4) (hp : -5000 ≤ p ∧ p ≤ 5000) (w : World) (hT : Tab w) :
    Calls Tryd.prog 51 #[.agg #[.int .u64 s, .int .u64 lo, .int .u64 hi, .int .i64 p], .int .u8 m] w fun e w' =>
      e = .returned (.agg #[.int .u64 (roundB s (lo + hi * 18446744073709551616) p m), .int .u8 (roundF s (lo + hi * 18446744073709551616) p m), .bool false]) ∧ Below w.heap.size w w' := by
  have hL : Go.bitLen (lo + hi * 18446744073709551616) ≤ 128 := by
    unfold Go.bitLen
    split
    · omega
    · rename_i h0
      have := (Nat.log2_lt h0).2 (show lo + hi * 18446744073709551616 < 2 ^ 128 by omega)
      omega
  have HRT : Hid (∀ k : Int, (Go.bitLen (lo + hi * 18446744073709551616) : Int) - 53 ≤ k → -6000 ≤ p + k → p + k ≤ 8000 → ∀ w1, Below w.heap.size w w1 → Calls Tryd.prog 73 #[.agg #[.int .u64 s, .int .u64 lo, .int .u64 hi, .int .i64 p], .int .i64 (p + k), .int .u8 m] w1 fun e w' =>
      e = .returned (.tuple #[.int .u64 (cutQ s m (lo + hi * 18446744073709551616) k), .bool (cutCh (lo + hi * 18446744073709551616) k)]) ∧ Below w1.heap.size w1 w') := by
    intro k hk k1 k2 w1 hb
    have := roundTo_any s lo hi p (p + k) m hs hl hh hm (by omega) (by omega) (fun h => ?_) (fun h => ?_) w1 (hT.later hb)
    · rw [show p + k - p = k by omega] at this
      exact this
    · have := cut_up hk (by omega)
      rw [show (p - (p + k)) = -k by omega]; omega
    · have := cut_down hk (by omega)
      rw [show (p + k - p) = k by omega]; omega
  have HQ : Hid (cutQ s m (lo + hi * 18446744073709551616) (Go.bitLen (lo + hi * 18446744073709551616) - 53) ≤ 9007199254740992) := cutQ_le s m (Int.le_refl _)
  have HQ2 : Hid ((Go.bitLen (lo + hi * 18446744073709551616) : Int) - 53 ≤ -1074 - p → cutQ s m (lo + hi * 18446744073709551616) (-1074 - p) ≤ 9007199254740992) := fun h => cutQ_le s m h
  have HLen : Hid (∀ w, Calls Tryd.prog 72 #[.agg #[.int .u64 lo, .int .u64 hi]] w fun e w' => e = .returned (.int .i64 (Go.bitLen (lo + hi * 18446744073709551616))) ∧ w' = w.alloc (.cells #[.int .u64 lo, .int .u64 hi] 75)) := fun w => length_any lo hi hl hh w
  generalize hD : lo + hi * 18446744073709551616 = D at *
  clear hD hl hh
  obtain ⟨p1, p2⟩ := hp
  go_enter Tryd.func51, Tryd.ntmps51
  go_wp2_with fail
  go_region_held3 (fun w' => w'.cell? ⟨w.heap.size, 0, none⟩ = some (.int .u64 s) ∧ w'.cell? ⟨w.heap.size, 1, none⟩ = some (.int .u64 lo) ∧ w'.cell? ⟨w.heap.size, 2, none⟩ = some (.int .u64 hi) ∧ w'.cell? ⟨w.heap.size, 3, none⟩ = some (.int .i64 p)) (go_keep) ((go_at_call 72; refine (HLen.out _).mono ?_; rintro e w' ⟨rfl, rfl⟩))
  go_wp2_with fail
  rw [show p + (Go.bitLen D : Int) - 53 = p + ((Go.bitLen D : Int) - 53) by omega]
  refine (HRT.out _ (Int.le_refl _) (by omega) (by omega) _ ?_).mono ?_
  · exact (((((Below.refl _ _).alloc (Nat.le_refl _) _).alloc (by simp) _).alloc (by simp; omega) _).drew)
  rintro e w1 ⟨rfl, hb1⟩
  have HX1 : Hid (Boxed w w1 (.int .u64 s) (.int .u64 lo) (.int .u64 hi) (.int .i64 p)) := ((Boxed.start w _ _ _ _ _ _).later ((((Below.refl _ _).alloc (Nat.le_refl _) _).drew).trans ⟨hb1.os, hb1.tape, hb1.output, hb1.size, fun k hk => hb1.block k (by simp at hk ⊢; omega)⟩))
  have w5 : IntKind.i64.wrap (IntKind.i64.wrap (p + (Go.bitLen D : Int)) - 53) = p + (Go.bitLen D : Int) - 53 := by rw [wrapI (p + (Go.bitLen D : Int)) (by omega) (by omega), wrapI _ (by omega) (by omega)]
  clear hb1
  have HS : Hid ((s : Int) = 0 ∨ (s : Int) = 1) := (by omega : (s : Int) = 0 ∨ (s : Int) = 1)
  have HTG : Hid (∀ w1, Below w.heap.size w w1 → Calls Tryd.prog 74 #[.int .u64 s, .int .u8 m] w1 fun e w' => e = .returned (.agg #[.int .u64 (overB s m), .int .u8 5, .bool false]) ∧ Below w1.heap.size w1 w') := fun w1 hb => tooGreat_any s m hs hm w1 (hT.later hb)
  have hq := HQ.out
  have hu1 : -6000 ≤ p + (Go.bitLen D : Int) - 53 := by omega
  have hu2 : p + (Go.bitLen D : Int) - 53 ≤ 5080 := by omega
  have c0 := HX1.out.c0
  have c1 := HX1.out.c1
  have c2 := HX1.out.c2
  have c3 := HX1.out.c3
  have r0 := HX1.out.r0
  have r1 := HX1.out.r1
  have r2 := HX1.out.r2
  have f0 := HX1.out.f0
  have f1 := HX1.out.f1
  have f2 := HX1.out.f2
  have z1 := HX1.out.size
  have z0 : w.heap.size < w1.heap.size := by omega
  clear hT hm HLen
  by_cases hy : cutQ s m D (Go.bitLen D - 53) = 9007199254740992
  · have hyb : ((cutQ s m D (Go.bitLen D - 53) : Int) == 9007199254740992) = true := by simp [hy]
    by_cases ho : 971 < p + (Go.bitLen D : Int) - 53 + 1
    · have HRB := round_carry_over hy ho
      have HRB : Hid (roundB s D p m = overB s m ∧ roundF s D p m = 5) := HRB
      go_wp2_with fail
      refine (HTG.out _ HX1.out.below).mono ?_
      rintro e w2 ⟨rfl, hb2⟩
      have HX2 : Hid (Boxed w w2 (.int .u64 s) (.int .u64 lo) (.int .u64 hi) (.int .i64 p)) := HX1.out.later hb2
      clear hb2 c0 c1 c2 c3 r0 r1 r2 f0 f1 f2 z1 z0
      have c0 := HX2.out.c0
      have c1 := HX2.out.c1
      have c2 := HX2.out.c2
      have c3 := HX2.out.c3
      have r0 := HX2.out.r0
      have r1 := HX2.out.r1
      have r2 := HX2.out.r2
      have f0 := HX2.out.f0
      have f1 := HX2.out.f1
      have f2 := HX2.out.f2
      have z1 := HX2.out.size
      have z0 : w.heap.size < w2.heap.size := by omega
      go_wp2_with fail
      refine bodyPost_ret (v := .agg #[.int .u64 (overB s m), .int .u8 5, .bool false]) (by simp [results, Tryd.results51, go_sem, *]) rfl ⟨by rw [HRB.out.1, HRB.out.2], ?_⟩
      exact ((HX2.out.below.setCell (by simp) _).setCell (by simp) _).setCell (by simp) _
    · by_cases ht : p + (Go.bitLen D : Int) - 53 + 1 < -1074
      · have HR0 : Hid (roundB s D p m = s * 9223372036854775808 + cutQ s m D (-1074 - p) ∧ roundF s D p m = (if cutCh D (-1074 - p) then 3 else 0)) := round_carry_tiny hy ht
        have hq2 := HQ2.out (by omega)
        go_wp2_with fail
        have hrt := HRT.out (-1074 - p) (by omega) (by omega) (by omega) _ HX1.out.below
        rw [show p + (-1074 - p) = -1074 by omega] at hrt
        refine hrt.mono ?_
        rintro e w2 ⟨rfl, hb2⟩
        have HX2 : Hid (Boxed w w2 (.int .u64 s) (.int .u64 lo) (.int .u64 hi) (.int .i64 p)) := HX1.out.later hb2
        clear hrt hb2 c0 c1 c2 c3 r0 r1 r2 f0 f1 f2 z1 z0
        have c0 := HX2.out.c0
        have c1 := HX2.out.c1
        have c2 := HX2.out.c2
        have c3 := HX2.out.c3
        have r0 := HX2.out.r0
        have r1 := HX2.out.r1
        have r2 := HX2.out.r2
        have f0 := HX2.out.f0
        have f1 := HX2.out.f1
        have f2 := HX2.out.f2
        have z1 := HX2.out.size
        have z0 : w.heap.size < w2.heap.size := by omega
        rcases Bool.eq_false_or_eq_true (cutCh D (-1074 - p)) with hch | hch
        · have HRB : Hid (roundB s D p m = s * 9223372036854775808 + cutQ s m D (-1074 - p) ∧ roundF s D p m = 3) := ⟨HR0.out.1, by rw [HR0.out.2, hch]; rfl⟩
          generalize cutCh D (-1074 - p) = ch at *
          subst hch
          go_wp2_with (go_at_call 50; refine (signed_any _ _ HS.out (by omega) _).mono ?_; rintro e w' ⟨rfl, rfl⟩)
          refine bodyPost_ret (v := .agg #[.int .u64 (s * 9223372036854775808 + cutQ s m D (-1074 - p)), .int .u8 3, .bool false]) (by simp [results, Tryd.results51, go_sem, *]) rfl ⟨by rw [HRB.out.1, HRB.out.2], ?_⟩
          exact (((HX2.out.below.setCell (by simp) _).setCell (by simp) _).setCell (by simp) _).alloc (by simp; omega) _
        · have HRB : Hid (roundB s D p m = s * 9223372036854775808 + cutQ s m D (-1074 - p) ∧ roundF s D p m = 0) := ⟨HR0.out.1, by rw [HR0.out.2, hch]; rfl⟩
          generalize cutCh D (-1074 - p) = ch at *
          subst hch
          go_wp2_with (go_at_call 50; refine (signed_any _ _ HS.out (by omega) _).mono ?_; rintro e w' ⟨rfl, rfl⟩)
          refine bodyPost_ret (v := .agg #[.int .u64 (s * 9223372036854775808 + cutQ s m D (-1074 - p)), .int .u8 0, .bool false]) (by simp [results, Tryd.results51, go_sem, *]) rfl ⟨by rw [HRB.out.1, HRB.out.2], ?_⟩
          exact (((HX2.out.below.setCell (by simp) _).setCell (by simp) _).setCell (by simp) _).alloc (by simp; omega) _
      · have HR0 : Hid (roundB s D p m = s * 9223372036854775808 + ((p + Go.bitLen D - 53 + 1 + 1074) * 4503599627370496 + 4503599627370496) ∧ roundF s D p m = (if cutCh D (Go.bitLen D - 53) then 1 else 0)) := round_carry hy (by omega) (by omega)
        rcases Bool.eq_false_or_eq_true (cutCh D (Go.bitLen D - 53)) with hch | hch
        · have HRB : Hid (roundB s D p m = s * 9223372036854775808 + ((p + Go.bitLen D - 53 + 1 + 1074) * 4503599627370496 + 4503599627370496) ∧ roundF s D p m = 1) := ⟨HR0.out.1, by rw [HR0.out.2, hch]; rfl⟩
          generalize cutCh D (Go.bitLen D - 53) = ch at *
          subst hch
          go_wp2_with (go_at_call 50; refine (signed_any _ _ HS.out (by omega) _).mono ?_; rintro e w' ⟨rfl, rfl⟩)
          refine bodyPost_ret (v := .agg #[.int .u64 (s * 9223372036854775808 + ((p + Go.bitLen D - 53 + 1 + 1074) * 4503599627370496 + 4503599627370496)), .int .u8 1, .bool false]) (by simp [results, Tryd.results51, go_sem, *]) rfl ⟨by rw [HRB.out.1, HRB.out.2], ?_⟩
          exact (((HX1.out.below.setCell (by simp) _).setCell (by simp) _).setCell (by simp) _).alloc (by simp; omega) _
        · have HRB : Hid (roundB s D p m = s * 9223372036854775808 + ((p + Go.bitLen D - 53 + 1 + 1074) * 4503599627370496 + 4503599627370496) ∧ roundF s D p m = 0) := ⟨HR0.out.1, by rw [HR0.out.2, hch]; rfl⟩
          generalize cutCh D (Go.bitLen D - 53) = ch at *
          subst hch
          go_wp2_with (go_at_call 50; refine (signed_any _ _ HS.out (by omega) _).mono ?_; rintro e w' ⟨rfl, rfl⟩)
          refine bodyPost_ret (v := .agg #[.int .u64 (s * 9223372036854775808 + ((p + Go.bitLen D - 53 + 1 + 1074) * 4503599627370496 + 4503599627370496)), .int .u8 0, .bool false]) (by simp [results, Tryd.results51, go_sem, *]) rfl ⟨by rw [HRB.out.1, HRB.out.2], ?_⟩
          exact (((HX1.out.below.setCell (by simp) _).setCell (by simp) _).setCell (by simp) _).alloc (by simp; omega) _
  · have hyb : ((cutQ s m D (Go.bitLen D - 53) : Int) == 9007199254740992) = false := by simp; omega
    by_cases ho : 971 < p + (Go.bitLen D : Int) - 53
    · have HRB := round_over hy ho
      have HRB : Hid (roundB s D p m = overB s m ∧ roundF s D p m = 5) := HRB
      go_wp2_with fail
      refine (HTG.out _ HX1.out.below).mono ?_
      rintro e w2 ⟨rfl, hb2⟩
      have HX2 : Hid (Boxed w w2 (.int .u64 s) (.int .u64 lo) (.int .u64 hi) (.int .i64 p)) := HX1.out.later hb2
      clear hb2 c0 c1 c2 c3 r0 r1 r2 f0 f1 f2 z1 z0
      have c0 := HX2.out.c0
      have c1 := HX2.out.c1
      have c2 := HX2.out.c2
      have c3 := HX2.out.c3
      have r0 := HX2.out.r0
      have r1 := HX2.out.r1
      have r2 := HX2.out.r2
      have f0 := HX2.out.f0
      have f1 := HX2.out.f1
      have f2 := HX2.out.f2
      have z1 := HX2.out.size
      have z0 : w.heap.size < w2.heap.size := by omega
      go_wp2_with fail
      refine bodyPost_ret (v := .agg #[.int .u64 (overB s m), .int .u8 5, .bool false]) (by simp [results, Tryd.results51, go_sem, *]) rfl ⟨by rw [HRB.out.1, HRB.out.2], ?_⟩
      exact ((HX2.out.below.setCell (by simp) _).setCell (by simp) _).setCell (by simp) _
    · by_cases ht : p + (Go.bitLen D : Int) - 53 < -1074
      · have HR0 : Hid (roundB s D p m = s * 9223372036854775808 + cutQ s m D (-1074 - p) ∧ roundF s D p m = (if cutCh D (-1074 - p) then 3 else 0)) := round_tiny hy ht
        have hq2 := HQ2.out (by omega)
        go_wp2_with fail
        have hrt := HRT.out (-1074 - p) (by omega) (by omega) (by omega) _ HX1.out.below
        rw [show p + (-1074 - p) = -1074 by omega] at hrt
        refine hrt.mono ?_
        rintro e w2 ⟨rfl, hb2⟩
        have HX2 : Hid (Boxed w w2 (.int .u64 s) (.int .u64 lo) (.int .u64 hi) (.int .i64 p)) := HX1.out.later hb2
        clear hrt hb2 c0 c1 c2 c3 r0 r1 r2 f0 f1 f2 z1 z0
        have c0 := HX2.out.c0
        have c1 := HX2.out.c1
        have c2 := HX2.out.c2
        have c3 := HX2.out.c3
        have r0 := HX2.out.r0
        have r1 := HX2.out.r1
        have r2 := HX2.out.r2
        have f0 := HX2.out.f0
        have f1 := HX2.out.f1
        have f2 := HX2.out.f2
        have z1 := HX2.out.size
        have z0 : w.heap.size < w2.heap.size := by omega
        rcases Bool.eq_false_or_eq_true (cutCh D (-1074 - p)) with hch | hch
        · have HRB : Hid (roundB s D p m = s * 9223372036854775808 + cutQ s m D (-1074 - p) ∧ roundF s D p m = 3) := ⟨HR0.out.1, by rw [HR0.out.2, hch]; rfl⟩
          generalize cutCh D (-1074 - p) = ch at *
          subst hch
          go_wp2_with (go_at_call 50; refine (signed_any _ _ HS.out (by omega) _).mono ?_; rintro e w' ⟨rfl, rfl⟩)
          refine bodyPost_ret (v := .agg #[.int .u64 (s * 9223372036854775808 + cutQ s m D (-1074 - p)), .int .u8 3, .bool false]) (by simp [results, Tryd.results51, go_sem, *]) rfl ⟨by rw [HRB.out.1, HRB.out.2], ?_⟩
          exact (((HX2.out.below.setCell (by simp) _).setCell (by simp) _).setCell (by simp) _).alloc (by simp; omega) _
        · have HRB : Hid (roundB s D p m = s * 9223372036854775808 + cutQ s m D (-1074 - p) ∧ roundF s D p m = 0) := ⟨HR0.out.1, by rw [HR0.out.2, hch]; rfl⟩
          generalize cutCh D (-1074 - p) = ch at *
          subst hch
          go_wp2_with (go_at_call 50; refine (signed_any _ _ HS.out (by omega) _).mono ?_; rintro e w' ⟨rfl, rfl⟩)
          refine bodyPost_ret (v := .agg #[.int .u64 (s * 9223372036854775808 + cutQ s m D (-1074 - p)), .int .u8 0, .bool false]) (by simp [results, Tryd.results51, go_sem, *]) rfl ⟨by rw [HRB.out.1, HRB.out.2], ?_⟩
          exact (((HX2.out.below.setCell (by simp) _).setCell (by simp) _).setCell (by simp) _).alloc (by simp; omega) _
      · have HR0 : Hid (roundB s D p m = s * 9223372036854775808 + ((p + Go.bitLen D - 53 + 1074) * 4503599627370496 + cutQ s m D (Go.bitLen D - 53)) ∧ roundF s D p m = (if cutCh D (Go.bitLen D - 53) then 1 else 0)) := round_plain hy (by omega) (by omega)
        rcases Bool.eq_false_or_eq_true (cutCh D (Go.bitLen D - 53)) with hch | hch
        · have HRB : Hid (roundB s D p m = s * 9223372036854775808 + ((p + Go.bitLen D - 53 + 1074) * 4503599627370496 + cutQ s m D (Go.bitLen D - 53)) ∧ roundF s D p m = 1) := ⟨HR0.out.1, by rw [HR0.out.2, hch]; rfl⟩
          generalize cutCh D (Go.bitLen D - 53) = ch at *
          subst hch
          go_wp2_with (go_at_call 50; refine (signed_any _ _ HS.out (by omega) _).mono ?_; rintro e w' ⟨rfl, rfl⟩)
          refine bodyPost_ret (v := .agg #[.int .u64 (s * 9223372036854775808 + ((p + Go.bitLen D - 53 + 1074) * 4503599627370496 + cutQ s m D (Go.bitLen D - 53))), .int .u8 1, .bool false]) (by simp [results, Tryd.results51, go_sem, *]) rfl ⟨by rw [HRB.out.1, HRB.out.2], ?_⟩
          exact (((HX1.out.below.setCell (by simp) _).setCell (by simp) _).setCell (by simp) _).alloc (by simp; omega) _
        · have HRB : Hid (roundB s D p m = s * 9223372036854775808 + ((p + Go.bitLen D - 53 + 1074) * 4503599627370496 + cutQ s m D (Go.bitLen D - 53)) ∧ roundF s D p m = 0) := ⟨HR0.out.1, by rw [HR0.out.2, hch]; rfl⟩
          generalize cutCh D (Go.bitLen D - 53) = ch at *
          subst hch
          go_wp2_with (go_at_call 50; refine (signed_any _ _ HS.out (by omega) _).mono ?_; rintro e w' ⟨rfl, rfl⟩)
          refine bodyPost_ret (v := .agg #[.int .u64 (s * 9223372036854775808 + ((p + Go.bitLen D - 53 + 1074) * 4503599627370496 + cutQ s m D (Go.bitLen D - 53))), .int .u8 0, .bool false]) (by simp [results, Tryd.results51, go_sem, *]) rfl ⟨by rw [HRB.out.1, HRB.out.2], ?_⟩
          exact (((HX1.out.below.setCell (by simp) _).setCell (by simp) _).setCell (by simp) _).alloc (by simp; omega) _
end Go.Proofs.YtfbdgecanfmgiaaDoor
