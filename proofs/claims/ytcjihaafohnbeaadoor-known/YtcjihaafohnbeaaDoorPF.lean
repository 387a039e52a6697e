import Derived.Test.YtcjihaafohnbeaaDoorPA
import Derived.Deep.CutBlock
namespace Go.Proofs.YtcjihaafohnbeaaDoor
open Go.RowKit

set_option maxHeartbeats 400000 in
theorem lz64_any (x : Nat) (hx : x < 18446744073709551616) (w : World) :
    Calls Tryd.prog 55 #[.int .u64 x] w fun e w' => e = .returned (.int .i64 (64 - Go.bitLen x)) ∧ w' = w := by
  have hb := bitLen_le (D := x) (n := 64) hx
  have HL : Hid (∀ w, Calls Tryd.prog 76 #[.int .u64 x] w fun e w' => e = .returned (.int .i64 (Go.bitLen x)) ∧ w' = w) := fun w => by
    have h := len64_any (x : Int) (by omega) (by omega) w
    rw [Int.toNat_natCast, libLen x hx] at h
    exact h
  clear hx
  go_enter Tryd.func55, Tryd.ntmps55
  go_wp2_with (go_at_call 76; refine (HL.out _).mono ?_; rintro e w' ⟨rfl, rfl⟩)
  go_ret
  exact ⟨rfl, rfl⟩

/-- A digit of a division, guessed too great, goes down. -/
theorem kn_less {u y Y1 Y0 q r Q : Nat} (hy : y = Y1 * 4294967296 + Y0) (hu : u < y) (hQ : Q = u * 4294967296 / y) (hi : q * Y1 + r = u) (hc : 4294967296 ≤ q ∨ 4294967296 * r < q * Y0) : Q + 1 ≤ q := by
  have hpos : 0 < y := by omega
  rw [hQ]
  apply Nat.succ_le_of_lt
  rw [Nat.div_lt_iff_lt_mul hpos]
  rcases hc with hc | hc
  · have h1 : u * 4294967296 < y * 4294967296 := Nat.mul_lt_mul_of_pos_right hu (by decide)
    have h2 : 4294967296 * y ≤ q * y := Nat.mul_le_mul_right _ hc
    rw [Nat.mul_comm y] at h1
    omega
  · have h1 : q * y = q * Y1 * 4294967296 + q * Y0 := by rw [hy, Nat.mul_add, Nat.mul_assoc]
    have h2 : u * 4294967296 = q * Y1 * 4294967296 + r * 4294967296 := by rw [← hi, Nat.add_mul]
    omega
/-- .. and is right, where it fits. -/
theorem kn_fits {u y Y1 Y0 q r Q : Nat} (hy : y = Y1 * 4294967296 + Y0) (hpos : 0 < y) (hQ : Q = u * 4294967296 / y) (hi : q * Y1 + r = u) (hle : Q ≤ q) (hc : q * Y0 ≤ 4294967296 * r) : q = Q := by
  have h1 : q * y = q * Y1 * 4294967296 + q * Y0 := by rw [hy, Nat.mul_add, Nat.mul_assoc]
  have h2 : u * 4294967296 = q * Y1 * 4294967296 + r * 4294967296 := by rw [← hi, Nat.add_mul]
  have h3 : q ≤ u * 4294967296 / y := by rw [Nat.le_div_iff_mul_le hpos]; omega
  omega
theorem kn_start {u y Y1 Y0 : Nat} (hy : y = Y1 * 4294967296 + Y0) (hY1 : 2147483648 ≤ Y1) (hY0 : Y0 < 4294967296) (hu : u < y) :
    u / Y1 * Y1 + u % Y1 = u ∧ u * 4294967296 / y ≤ u / Y1 ∧ u / Y1 ≤ 4294967297 ∧ u % Y1 < Y1 := by
  have hpos : 0 < y := Nat.lt_of_le_of_lt (Nat.zero_le _) hu
  have hle : Y1 * 4294967296 ≤ y := by rw [hy]; exact Nat.le_add_right _ _
  have hm := Nat.mod_lt u (show 0 < Y1 by omega)
  have hd := Nat.div_add_mod u Y1
  rw [Nat.mul_comm] at hd
  refine ⟨hd, ?_, ?_, hm⟩
  · apply Nat.le_of_lt_succ
    rw [Nat.div_lt_iff_lt_mul hpos]
    have h1 : u + 1 ≤ (u / Y1 + 1) * Y1 := by rw [Nat.add_mul, Nat.one_mul]; omega
    have h2 : (u + 1) * 4294967296 ≤ (u / Y1 + 1) * Y1 * 4294967296 := Nat.mul_le_mul_right _ h1
    have h3 : (u / Y1 + 1) * Y1 * 4294967296 ≤ (u / Y1 + 1) * y := by rw [Nat.mul_assoc]; exact Nat.mul_le_mul (Nat.le_refl _) hle
    show u * 4294967296 < (u / Y1 + 1) * y
    omega
  · have : u / Y1 < 4294967298 := by rw [Nat.div_lt_iff_lt_mul (by omega)]; omega
    omega
theorem kn_wrap {a Q R Y1 : Nat} (ha : a < 18446744073709551616) (h : Q * Y1 + R = a) (hQ : Q ≤ a) : IntKind.u64.wrap (Q : Int) = (Q : Int) ∧ IntKind.u64.wrap ((a : Int) - IntKind.u64.wrap ((Q : Int) * (Y1 : Int))) = (R : Int) := by
  rw [show (Q : Int) * (Y1 : Int) = ((Q * Y1 : Nat) : Int) by simp]
  generalize Q * Y1 = P at *
  rw [wrapU (Q : Int) (by omega) (by omega), wrapU (P : Int) (by omega) (by omega), wrapU _ (by omega) (by omega)]
  exact ⟨rfl, by omega⟩

theorem kn_end {q Y0 r : Nat} (hq : q ≤ 4294967296) (hY : Y0 < 4294967296) (hr : 4294967296 ≤ r) : q * Y0 ≤ 4294967296 * r := by
  have h1 : q * Y0 ≤ 4294967296 * Y0 := Nat.mul_le_mul_right _ hq
  omega
theorem kn_small {q Y0 : Nat} (hq : q < 4294967296) (hY : Y0 < 4294967296) : q * Y0 < 18446744073709551616 := by
  have h1 : q * Y0 ≤ 4294967295 * 4294967295 := Nat.mul_le_mul (by omega) (by omega)
  omega
/-- A digit's loop keeps: the guess, what it leaves. -/
structure Digit (u Y1 Q q r : Nat) : Prop where
  eq : q * Y1 + r = u
  ge : Q ≤ q
  le : q ≤ 4294967297
  lt : r < 4294967296

/-- A division's numbers: the divisor's halves. -/
structure Halves (u y Y1 Y0 : Nat) (A1 A0 : Int) : Prop where
  eq : y = Y1 * 4294967296 + Y0
  lt : u < y
  g1 : 2147483648 ≤ Y1
  g2 : Y1 < 4294967296
  g3 : Y0 < 4294967296
  a1 : A1 = Y1
  a0 : A0 = Y0
def DigI (u Y1 Q : Nat) (q r : Int) : Prop := ∃ a b : Nat, q = a ∧ r = b ∧ Digit u Y1 Q a b
theorem DigI.range {u Y1 Q : Nat} {q r : Int} (h : DigI u Y1 Q q r) : 0 ≤ q ∧ q ≤ 4294967297 ∧ 0 ≤ r ∧ r < 4294967296 := by
  obtain ⟨a, b, rfl, rfl, hd⟩ := h
  have := hd.le
  have := hd.lt
  omega
theorem cast_mul (a b : Nat) : (a : Int) * (b : Int) = ((a * b : Nat) : Int) := by simp
theorem DigI.less {u y Y1 Y0 Q : Nat} {A1 A0 q r : Int} (H : Halves u y Y1 Y0 A1 A0) (hQ : Q = u * 4294967296 / y) (h : DigI u Y1 Q q r) (hc : 4294967296 ≤ q ∨ 4294967296 * r < q * A0) : Q + 1 ≤ q := by
  obtain ⟨a, b, rfl, rfl, hd⟩ := h
  rw [H.a0, cast_mul] at hc
  have := kn_less H.eq H.lt hQ hd.eq (by omega)
  omega
theorem DigI.step {u y Y1 Y0 Q : Nat} {A1 A0 q r : Int} (H : Halves u y Y1 Y0 A1 A0) (h : DigI u Y1 Q q r) (hq : Q + 1 ≤ q) : ∃ a b : Nat, q - 1 = a ∧ r + A1 = b ∧ a * Y1 + b = u ∧ Q ≤ a ∧ a ≤ 4294967296 := by
  obtain ⟨a, b, rfl, rfl, hd⟩ := h
  obtain ⟨k, rfl⟩ : ∃ k, a = k + 1 := ⟨a - 1, by omega⟩
  refine ⟨k, b + Y1, by omega, by rw [H.a1]; omega, ?_, by omega, by have := hd.le; omega⟩
  have := hd.eq
  rw [Nat.add_mul, Nat.one_mul] at this
  omega
theorem DigI.next {u y Y1 Y0 Q : Nat} {A1 A0 q r : Int} (H : Halves u y Y1 Y0 A1 A0) (h : DigI u Y1 Q q r) (hq : Q + 1 ≤ q) (hr : r + A1 < 4294967296) : DigI u Y1 Q (q - 1) (r + A1) := by
  obtain ⟨a, b, e1, e2, e3, e4, e5⟩ := h.step H hq
  exact ⟨a, b, e1, e2, e3, e4, by omega, by omega⟩
theorem DigI.broke {u y Y1 Y0 Q : Nat} {A1 A0 q r : Int} (H : Halves u y Y1 Y0 A1 A0) (hQ : Q = u * 4294967296 / y) (h : DigI u Y1 Q q r) (hq : Q + 1 ≤ q) (hr : 4294967296 ≤ r + A1) : q - 1 = Q := by
  obtain ⟨a, b, e1, e2, e3, e4, e5⟩ := h.step H hq
  have := kn_fits H.eq (by have := H.lt; omega) hQ e3 e4 (kn_end e5 H.g3 (by omega))
  omega
theorem DigI.stop {u y Y1 Y0 Q : Nat} {A1 A0 q r : Int} (H : Halves u y Y1 Y0 A1 A0) (hQ : Q = u * 4294967296 / y) (h : DigI u Y1 Q q r) (hc : q * A0 ≤ 4294967296 * r) : q = Q := by
  obtain ⟨a, b, rfl, rfl, hd⟩ := h
  rw [H.a0, cast_mul] at hc
  have := kn_fits H.eq (by have := H.lt; omega) hQ hd.eq hd.ge (by omega)
  omega
theorem DigI.wrap {u y Y1 Y0 Q : Nat} {A1 A0 q r : Int} (H : Halves u y Y1 Y0 A1 A0) (h : DigI u Y1 Q q r) (hq : q < 4294967296) : IntKind.u64.wrap (q * A0) = q * A0 := by
  obtain ⟨a, b, rfl, rfl, hd⟩ := h
  rw [H.a0, cast_mul]
  have := kn_small (q := a) (by omega) H.g3
  exact wrapU _ (by omega) (by omega)
theorem digit_first {u y Y1 Y0 : Nat} {A1 A0 : Int} (H : Halves u y Y1 Y0 A1 A0) : DigI u Y1 (u * 4294967296 / y) ((u : Int) / A1) ((u : Int) % A1) := by
  have S := kn_start H.eq H.g1 H.g3 H.lt
  refine ⟨u / Y1, u % Y1, by rw [H.a1]; simp, by rw [H.a1]; simp, S.1, S.2.1, S.2.2.1, ?_⟩
  have := H.g2
  omega
theorem wrap_first {u y Y1 Y0 : Nat} {A1 A0 : Int} (H : Halves u y Y1 Y0 A1 A0) (hy : y < 18446744073709551616) : IntKind.u64.wrap ((u : Int) / A1) = (u : Int) / A1 ∧ IntKind.u64.wrap ((u : Int) - IntKind.u64.wrap ((u : Int) / A1 * A1)) = (u : Int) % A1 := by
  have h2 := Nat.div_add_mod u Y1
  rw [Nat.mul_comm] at h2
  have := kn_wrap (show u < 18446744073709551616 by have := H.lt; omega) h2 (Nat.div_le_self u Y1)
  rw [H.a1, show (u : Int) / (Y1 : Int) = ((u / Y1 : Nat) : Int) by simp, show (u : Int) % (Y1 : Int) = ((u % Y1 : Nat) : Int) by simp]
  exact this
/-- What the first digit leaves. -/
theorem wrap_rest {u y : Nat} (hy : y < 18446744073709551616) (hpos : 0 < y) : IntKind.u64.wrap (IntKind.u64.wrap ((u : Int) * 4294967296) - IntKind.u64.wrap (((u * 4294967296 / y : Nat) : Int) * (y : Int))) = ((u * 4294967296 % y : Nat) : Int) := by
  have h := Nat.div_add_mod (u * 4294967296) y
  have hm := Nat.mod_lt (u * 4294967296) hpos
  rw [Nat.mul_comm y] at h
  rw [cast_mul, show (u : Int) * 4294967296 = ((u * 4294967296 : Nat) : Int) by simp]
  generalize u * 4294967296 / y * y = P at *
  generalize u * 4294967296 % y = R at *
  generalize u * 4294967296 = V at *
  rw [IntKind.wrap_u64, IntKind.wrap_u64, IntKind.wrap_u64]
  omega
theorem two_digits {u y : Nat} (hpos : 0 < y) : u * 18446744073709551616 / y = u * 4294967296 / y * 4294967296 + u * 4294967296 % y * 4294967296 / y ∧ u * 18446744073709551616 % y = u * 4294967296 % y * 4294967296 % y := by
  have h := Nat.div_add_mod (u * 4294967296) y
  have e : u * 18446744073709551616 = u * 4294967296 % y * 4294967296 + y * (u * 4294967296 / y * 4294967296) := by
    have : u * 18446744073709551616 = u * 4294967296 * 4294967296 := by omega
    rw [this]
    conv => lhs; rw [← h]
    rw [Nat.add_mul, Nat.mul_assoc, Nat.add_comm]
  rw [e, Nat.add_mul_div_left _ _ hpos, Nat.add_mul_mod_self_left]
  exact ⟨by omega, rfl⟩

theorem nat_lt {a : Nat} (h : a < 4294967296) : (a : Int) < 4294967296 := by omega
theorem nat_lt' {a b : Nat} (h : a < b) : (a : Int) < (b : Int) := by omega
theorem nat_nn (a : Nat) : 0 ≤ (a : Int) := by omega
/-- What a digit's loop keeps, and what it comes to. -/
structure Loops (A1 A0 P : Int) (D : Int → Int → Prop) : Prop where
  range : ∀ q r, D q r → 0 ≤ q ∧ q ≤ 4294967297 ∧ 0 ≤ r ∧ r < 4294967296
  pos : ∀ q r, D q r → (4294967296 ≤ q ∨ 4294967296 * r < q * A0) → 1 ≤ q
  next : ∀ q r, D q r → (4294967296 ≤ q ∨ 4294967296 * r < q * A0) → r + A1 < 4294967296 → D (q - 1) (r + A1)
  broke : ∀ q r, D q r → (4294967296 ≤ q ∨ 4294967296 * r < q * A0) → 4294967296 ≤ r + A1 → q - 1 = P
  stop : ∀ q r, D q r → q * A0 ≤ 4294967296 * r → q = P
  wrap : ∀ q r, D q r → q < 4294967296 → IntKind.u64.wrap (q * A0) = q * A0
theorem loops_of {u y Y1 Y0 : Nat} {A1 A0 : Int} (H : Halves u y Y1 Y0 A1 A0) : Loops A1 A0 ((u * 4294967296 / y : Nat) : Int) (DigI u Y1 (u * 4294967296 / y)) :=
  ⟨fun _ _ h => h.range, fun _ _ h hc => by have := h.less H rfl hc; have := nat_nn (u * 4294967296 / y); omega, fun _ _ h hc hr => h.next H (h.less H rfl hc) hr, fun _ _ h hc hr => h.broke H rfl (h.less H rfl hc) hr, fun _ _ h hc => h.stop H rfl hc, fun _ _ h hq => h.wrap H hq⟩

set_option maxHeartbeats 4000000 in
set_option maxRecDepth 10000 in
theorem div64_walk (U YY A1 A0 P1 P0 V V0 r1 r0 : Int) (D1 D0 : Int → Int → Prop) (L1 : Loops A1 A0 P1 D1) (L0 : Loops A1 A0 P0 D0) (s1 : D1 (U / A1) r1) (s0 : D0 (V / A1) r0)
    (hL : ∀ w, Calls Tryd.prog 55 #[.int .u64 YY] w fun e w' => e = .returned (.int .i64 0) ∧ w' = w)
    (ho : bits .or .u64 U 0 = U) (ha : bits .and .u64 YY 4294967295 = A0) (hA1 : YY / 4294967296 = A1)
    (v2 : IntKind.u64.wrap (U - IntKind.u64.wrap (U / A1 * A1)) = r1) (v4 : IntKind.u64.wrap (V - IntKind.u64.wrap (V / A1 * A1)) = r0)
    (v5 : IntKind.u64.wrap (IntKind.u64.wrap (IntKind.u64.wrap (U * 4294967296)) - IntKind.u64.wrap (P1 * YY)) = V) (v6 : IntKind.u64.wrap (IntKind.u64.wrap (IntKind.u64.wrap (V * 4294967296)) - IntKind.u64.wrap (P0 * YY)) = V0)
    (hU : 0 < U) (hUY : U < YY) (hV : 0 ≤ V) (hVY : V < YY) (hy0 : 9223372036854775808 ≤ YY) (hy1 : YY < 18446744073709551616) (g1 : 2147483648 ≤ A1) (g2 : A1 < 4294967296) (_g3 : 0 ≤ A0) (_g4 : A0 < 4294967296)
    (p1 : 0 ≤ P1) (p2 : P1 < 4294967296) (p3 : 0 ≤ P0) (p4 : P0 < 4294967296) (p5 : 0 ≤ V0) (p6 : V0 < YY) (w : World) :
    Calls Tryd.prog 56 #[.int .u64 U, .int .u64 0, .int .u64 YY] w fun e w' => e = .returned (.tuple #[.int .u64 (P1 * 4294967296 + P0), .int .u64 V0]) ∧ w' = w := by
  have HL : Hid (∀ w, Calls Tryd.prog 55 #[.int .u64 YY] w fun e w' => e = .returned (.int .i64 0) ∧ w' = w) := hL
  have K1 : Hid (Loops A1 A0 P1 D1) := L1
  have K0 : Hid (Loops A1 A0 P0 D0) := L0
  have S1 : Hid (D1 (U / A1) r1) := s1
  have S0 : Hid (D0 (V / A1) r0) := s0
  have b0 : (YY == 0) = false := by rw [beq_eq_false_iff_ne]; omega
  have b1 : (U == 0) = false := by rw [beq_eq_false_iff_ne]; omega
  have b2 : (A1 == 0) = false := by rw [beq_eq_false_iff_ne]; omega
  have hand0 : bits .and .u64 0 4294967295 = 0 := by decide
  clear hL L1 L0 s1 s0
  go_enter Tryd.func56, Tryd.ntmps56
  go_wp2_with fail
  refine (HL.out _).mono ?_
  rintro e w1 ⟨rfl, hw1⟩
  subst hw1
  go_upto_block 0 with fail
  go_cut [15, 16] from 67 to 85 (fun sq sr wx => sq = .int .u64 P1 ∧ wx = w1)
  case first =>
    go_wp2_with fail
    go_loop [15, 16] (fun sq sr => ∃ q r : Int, sq = .int .u64 q ∧ sr = .int .u64 r ∧ D1 q r) (fun _ sr => (4294967296 - intOf sr).toNat)
    case atStart => exact ⟨(U / A1), r1, rfl, rfl, S1.out⟩
    case round =>
      obtain ⟨q, r, rfl, rfl, hd⟩ := hrel
      have HD : Hid (D1 q r) := hd
      obtain ⟨l0, l1, l2, l3⟩ := K1.out.range q r hd
      clear hd v2
      by_cases c1 : 4294967296 ≤ q
      · have HC : Hid (4294967296 ≤ q ∨ 4294967296 * r < q * A0) := (.inl c1 : 4294967296 ≤ q ∨ 4294967296 * r < q * A0)
        have hp := K1.out.pos q r HD.out HC.out
        by_cases c2 : 4294967296 ≤ r + A1
        · have HQ : Hid (q - 1 = P1) := K1.out.broke q r HD.out HC.out c2
          go_wp2_with fail
          go_meet
          go_light
          exact ⟨by rw [HQ.out], rfl⟩
        · have c2' : r + A1 < 4294967296 := by omega
          have HN : Hid (D1 (q - 1) (r + A1)) := K1.out.next q r HD.out HC.out c2'
          go_wp2_with fail
          go_round
          case rel =>
            go_light
            exact ⟨q - 1, r + A1, rfl, rfl, HN.out⟩
          case measure => simp [intOf]; omega
      have c1' : q < 4294967296 := by omega
      have hw := K1.out.wrap q r HD.out c1'
      by_cases c3 : 4294967296 * r < q * A0
      · have HC : Hid (4294967296 ≤ q ∨ 4294967296 * r < q * A0) := (.inr c3 : 4294967296 ≤ q ∨ 4294967296 * r < q * A0)
        have hp := K1.out.pos q r HD.out HC.out
        by_cases c2 : 4294967296 ≤ r + A1
        · have HQ : Hid (q - 1 = P1) := K1.out.broke q r HD.out HC.out c2
          go_wp2_with fail
          go_meet
          go_light
          exact ⟨by rw [HQ.out], rfl⟩
        · have c2' : r + A1 < 4294967296 := by omega
          have HN : Hid (D1 (q - 1) (r + A1)) := K1.out.next q r HD.out HC.out c2'
          go_wp2_with fail
          go_round
          case rel =>
            go_light
            exact ⟨q - 1, r + A1, rfl, rfl, HN.out⟩
          case measure => simp [intOf]; omega
      · have c3' : q * A0 ≤ 4294967296 * r := by omega
        have HQ : Hid (q = P1) := K1.out.stop q r HD.out c3'
        go_wp2_with fail
        go_meet
        go_light
        exact ⟨by rw [HQ.out], rfl⟩
  case rest =>
    obtain ⟨rfl, rfl⟩ := hcut
    go_upto_block 2 with fail
    go_cut [18, 16] from 102 to 120 (fun sq sr wx => sq = .int .u64 P0 ∧ wx = wc)
    case first =>
      go_wp2_with fail
      go_loop [18, 16] (fun sq sr => ∃ q r : Int, sq = .int .u64 q ∧ sr = .int .u64 r ∧ D0 q r) (fun _ sr => (4294967296 - intOf sr).toNat)
      case atStart => exact ⟨(V / A1), r0, rfl, rfl, S0.out⟩
      case round =>
        obtain ⟨q, r, rfl, rfl, hd⟩ := hrel
        have HD : Hid (D0 q r) := hd
        obtain ⟨l0, l1, l2, l3⟩ := K0.out.range q r hd
        clear hd v4
        by_cases c1 : 4294967296 ≤ q
        · have HC : Hid (4294967296 ≤ q ∨ 4294967296 * r < q * A0) := (.inl c1 : 4294967296 ≤ q ∨ 4294967296 * r < q * A0)
          have hp := K0.out.pos q r HD.out HC.out
          by_cases c2 : 4294967296 ≤ r + A1
          · have HQ : Hid (q - 1 = P0) := K0.out.broke q r HD.out HC.out c2
            go_wp2_with fail
            go_meet
            go_light
            exact ⟨by rw [HQ.out], rfl⟩
          · have c2' : r + A1 < 4294967296 := by omega
            have HN : Hid (D0 (q - 1) (r + A1)) := K0.out.next q r HD.out HC.out c2'
            go_wp2_with fail
            go_round
            case rel =>
              go_light
              exact ⟨q - 1, r + A1, rfl, rfl, HN.out⟩
            case measure => simp [intOf]; omega
        have c1' : q < 4294967296 := by omega
        have hw := K0.out.wrap q r HD.out c1'
        by_cases c3 : 4294967296 * r < q * A0
        · have HC : Hid (4294967296 ≤ q ∨ 4294967296 * r < q * A0) := (.inr c3 : 4294967296 ≤ q ∨ 4294967296 * r < q * A0)
          have hp := K0.out.pos q r HD.out HC.out
          by_cases c2 : 4294967296 ≤ r + A1
          · have HQ : Hid (q - 1 = P0) := K0.out.broke q r HD.out HC.out c2
            go_wp2_with fail
            go_meet
            go_light
            exact ⟨by rw [HQ.out], rfl⟩
          · have c2' : r + A1 < 4294967296 := by omega
            have HN : Hid (D0 (q - 1) (r + A1)) := K0.out.next q r HD.out HC.out c2'
            go_wp2_with fail
            go_round
            case rel =>
              go_light
              exact ⟨q - 1, r + A1, rfl, rfl, HN.out⟩
            case measure => simp [intOf]; omega
        · have c3' : q * A0 ≤ 4294967296 * r := by omega
          have HQ : Hid (q = P0) := K0.out.stop q r HD.out c3'
          go_wp2_with fail
          go_meet
          go_light
          exact ⟨by rw [HQ.out], rfl⟩
    case rest =>
      obtain ⟨rfl, rfl⟩ := hcut
      have hs : 0 ≤ P1 * 4294967296 + P0 := by omega
      have hs2 : P1 * 4294967296 + P0 < 18446744073709551616 := by omega
      go_wp2_with fail
      go_ret2
      exact ⟨rfl, rfl⟩

theorem wrap_first' {u y Y1 Y0 : Nat} {A1 A0 : Int} (H : Halves u y Y1 Y0 A1 A0) (hy : y < 18446744073709551616) : IntKind.u64.wrap ((u : Int) - IntKind.u64.wrap ((u : Int) / A1 * A1)) = (u : Int) % A1 := (wrap_first H hy).2
theorem wrap_rest' {u y : Nat} (hy : y < 18446744073709551616) (hpos : 0 < y) : IntKind.u64.wrap (IntKind.u64.wrap (IntKind.u64.wrap ((u : Int) * 4294967296)) - IntKind.u64.wrap (((u * 4294967296 / y : Nat) : Int) * (y : Int))) = ((u * 4294967296 % y : Nat) : Int) := by
  rw [wrapU (IntKind.u64.wrap ((u : Int) * 4294967296)) (by rw [IntKind.wrap_u64]; omega) (by rw [IntKind.wrap_u64]; omega)]
  exact wrap_rest hy hpos
theorem digit_lt {u y : Nat} (h : u < y) : u * 4294967296 / y < 4294967296 := by
  rw [Nat.div_lt_iff_lt_mul (Nat.lt_of_le_of_lt (Nat.zero_le _) h), Nat.mul_comm]
  exact Nat.mul_lt_mul_of_pos_left h (by decide)
theorem halves_of {u y : Nat} (hy0 : 9223372036854775808 ≤ y) (hy1 : y < 18446744073709551616) (hu : u < y) : Halves u y (y / 4294967296) (y % 4294967296) ((y : Int) / 4294967296) ((y : Int) % 4294967296) := ⟨by omega, hu, by omega, by omega, by omega, by omega, by omega⟩
theorem div64_any (u y : Nat) (hy0 : 9223372036854775808 ≤ y) (hy1 : y < 18446744073709551616) (hu0 : u ≠ 0) (hu : u < y) (w : World) :
    Calls Tryd.prog 56 #[.int .u64 u, .int .u64 0, .int .u64 y] w fun e w' => e = .returned (.tuple #[.int .u64 (u * 18446744073709551616 / y : Nat), .int .u64 (u * 18446744073709551616 % y : Nat)]) ∧ w' = w := by
  have hpos : 0 < y := Nat.lt_of_le_of_lt (Nat.zero_le _) hu
  have td := two_digits (u := u) hpos
  have hR : u * 4294967296 % y < y := Nat.mod_lt _ hpos
  have hL : ∀ w, Calls Tryd.prog 55 #[.int .u64 y] w fun e w' => e = .returned (.int .i64 0) ∧ w' = w := fun w => by
    have h := lz64_any y hy1 w
    have hb : Go.bitLen y = 64 := by
      have h1 := bitLen_le (D := y) (n := 64) hy1
      have h2 := (Go.bitLen_spec y).1
      have h3 : 2 ^ 63 < 2 ^ Go.bitLen y := Nat.lt_of_le_of_lt hy0 h2
      have h4 := (Nat.pow_lt_pow_iff_right (by decide : 1 < 2)).1 h3
      omega
    rw [hb] at h
    exact h
  have H1 := halves_of hy0 hy1 hu
  have H0 := halves_of hy0 hy1 hR
  have q1 := digit_lt hu
  have q0 := digit_lt hR
  have hV0 : u * 4294967296 % y * 4294967296 % y < y := Nat.mod_lt _ hpos
  have := div64_walk (u : Int) (y : Int) ((y : Int) / 4294967296) ((y : Int) % 4294967296) ((u * 4294967296 / y : Nat) : Int) ((u * 4294967296 % y * 4294967296 / y : Nat) : Int) ((u * 4294967296 % y : Nat) : Int) ((u * 4294967296 % y * 4294967296 % y : Nat) : Int) _ _ _ _
    (loops_of H1) (loops_of H0) (digit_first H1) (digit_first H0) hL (or_zero_r u (by omega)) (and_low32 (y : Int) (by omega) (by omega)) rfl (wrap_first' H1 hy1) (wrap_first' H0 hy1) (wrap_rest' hy1 hpos) (wrap_rest' hy1 hpos)
    (by omega) (nat_lt' hu) (nat_nn _) (nat_lt' hR) (by omega) (by omega) (by omega) (by omega) (by omega) (by omega) (nat_nn _) (nat_lt q1) (nat_nn _) (nat_lt q0) (nat_nn _) (nat_lt' hV0) w
  rw [td.1, td.2]
  refine this.mono ?_
  rintro e w' ⟨rfl, rfl⟩
  refine ⟨?_, rfl⟩
  congr 3
end Go.Proofs.YtcjihaafohnbeaaDoor
