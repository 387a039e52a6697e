import Derived.Test.YtcjihaafohnbeaaDoorCells
import Derived.Lib.BitFns
import Derived.Lib.Walk
import Derived.Lib.Small
namespace Go.Proofs.YtcjihaafohnbeaaDoor
open Go.RowKit

theorem add64_run (x y c : Int) (hx : 0 ≤ x) (hy : 0 ≤ y) (hc0 : 0 ≤ c) (hc : c ≤ 1) (w : World) :
    (callFunc 83 #[.int .u64 x, .int .u64 y, .int .u64 c]).run Tryd.prog w = .ok (.value (.tuple #[.int .u64 ((x + y + c) % 18446744073709551616), .int .u64 ((x + y + c) / 18446744073709551616)])) w := by
  rw [run_callFunc_extern (e := add64Entry) Tryd.func83 (by kernel_rfl) rfl (by kernel_rfl) (by kernel_rfl)]
  rw [run_add64 x y c hx hy hc0 hc w]
  rfl
def borrow (x y b : Int) : Int := if x < y + b then 1 else 0
theorem borrow_range (x y b : Int) : 0 ≤ borrow x y b ∧ borrow x y b ≤ 1 := by unfold borrow; split <;> omega
theorem sub64_0 (x y : Int) (w : World) : (callFunc 85 #[.int .u64 x, .int .u64 y, .int .u64 0]).run Tryd.prog w =
    .ok (.value (Extern.MathBitsCarry.pair ((x.toNat + Extern.MathBitsCarry.m64 - y.toNat - 0) % Extern.MathBitsCarry.m64) (if x.toNat < y.toNat + 0 then 1 else 0))) w := by kernel_rfl
theorem sub64_1 (x y : Int) (w : World) : (callFunc 85 #[.int .u64 x, .int .u64 y, .int .u64 1]).run Tryd.prog w =
    .ok (.value (Extern.MathBitsCarry.pair ((x.toNat + Extern.MathBitsCarry.m64 - y.toNat - 1) % Extern.MathBitsCarry.m64) (if x.toNat < y.toNat + 1 then 1 else 0))) w := by kernel_rfl
theorem pair_eq (a b : Nat) (c d : Int) (h1 : (a : Int) = c) (h2 : (b : Int) = d) : Extern.MathBitsCarry.pair a b = .tuple #[.int .u64 c, .int .u64 d] := by subst h1 h2; rfl
theorem sub64_run (x y b : Int) (hx : 0 ≤ x) (hx1 : x < 18446744073709551616) (hy : 0 ≤ y) (hy1 : y < 18446744073709551616) (hb0 : 0 ≤ b) (hb : b ≤ 1) (w : World) :
    (callFunc 85 #[.int .u64 x, .int .u64 y, .int .u64 b]).run Tryd.prog w = .ok (.value (.tuple #[.int .u64 ((x - y - b) % 18446744073709551616), .int .u64 (borrow x y b)])) w := by
  have h : b = 0 ∨ b = 1 := by omega
  unfold borrow
  rcases h with rfl | rfl
  · rw [sub64_0, pair_eq]
    · simp only [Extern.MathBitsCarry.m64]; omega
    · split <;> split <;> omega
  · rw [sub64_1, pair_eq]
    · simp only [Extern.MathBitsCarry.m64]; omega
    · split <;> split <;> omega

theorem ret_pair {k k' : IntKind} {a b c d : Int} (h : a = c) (h' : b = d) : Ending.returned (.tuple #[.int k a, .int k' b]) = .returned (.tuple #[.int k c, .int k' d]) := by rw [h, h']
theorem mul_hi (x y : Int) (hx : 0 ≤ x ∧ x < 18446744073709551616) (hy : 0 ≤ y ∧ y < 18446744073709551616) :
    IntKind.u64.wrap (IntKind.u64.wrap (IntKind.u64.wrap (x / 4294967296 * (y / 4294967296)) + IntKind.u64.wrap (IntKind.u64.wrap (x / 4294967296 * (y % 4294967296)) + IntKind.u64.wrap (x % 4294967296 * (y % 4294967296)) / 4294967296) / 4294967296) +
      IntKind.u64.wrap (bits .and .u64 (IntKind.u64.wrap (IntKind.u64.wrap (x / 4294967296 * (y % 4294967296)) + IntKind.u64.wrap (x % 4294967296 * (y % 4294967296)) / 4294967296)) 4294967295 + IntKind.u64.wrap (x % 4294967296 * (y / 4294967296))) / 4294967296) = x * y / 18446744073709551616 := by
  simp only [IntKind.wrap_u64]
  rw [and_low32 _ (by omega) (by omega)]
  exact mul64_arith x y hx.1 hx.2 hy.1 hy.2

set_option maxHeartbeats 1000000 in
theorem mul64_any (x y : Int) (hx : 0 ≤ x ∧ x < 18446744073709551616) (hy : 0 ≤ y ∧ y < 18446744073709551616) (w : World) :
    Calls Tryd.prog 79 #[.int .u64 x, .int .u64 y] w fun e w' => e = .returned (.tuple #[.int .u64 (x * y / 18446744073709551616), .int .u64 (x * y % 18446744073709551616)]) ∧ w' = w := by
  obtain ⟨hx0, hx1⟩ := hx
  obtain ⟨hy0, hy1⟩ := hy
  have a1 := and_low32 x hx0 hx1
  have a2 := and_low32 y hy0 hy1
  go_enter Tryd.func79, Tryd.ntmps79
  go_wp2
  go_ret2
  exact ⟨ret_pair (mul_hi x y ⟨hx0, hx1⟩ ⟨hy0, hy1⟩) (IntKind.wrap_u64 _), rfl⟩

set_option maxHeartbeats 1000000 in
theorem product_any (x y : Nat) (hx : x < 18446744073709551616) (hy : y < 18446744073709551616) (w : World) :
    Calls Tryd.prog 54 #[.int .u64 x, .int .u64 y] w fun e w' => e = .returned (.agg #[.int .u64 (wd (x * y) 0), .int .u64 (wd (x * y) 1)]) ∧ Below w.heap.size w w' := by
  have HM : Hid (∀ w, Calls Tryd.prog 79 #[.int .u64 x, .int .u64 y] w fun e w' => e = .returned (.tuple #[.int .u64 (wd (x * y) 1), .int .u64 (wd (x * y) 0)]) ∧ w' = w) := fun w => by
    have h := mul64_any x y (by omega) (by omega) w
    have hlt : x * y < 18446744073709551616 * 18446744073709551616 := Nat.mul_lt_mul'' hx hy
    rw [show ((x : Int) * (y : Int)) = ((x * y : Nat) : Int) by simp] at h
    rw [show ((x * y : Nat) : Int) / 18446744073709551616 = ((wd (x * y) 1 : Nat) : Int) by unfold wd; omega, show ((x * y : Nat) : Int) % 18446744073709551616 = ((wd (x * y) 0 : Nat) : Int) by unfold wd; omega] at h
    exact h
  generalize wd (x * y) 0 = R0 at *
  generalize wd (x * y) 1 = R1 at *
  clear hx hy
  go_enter Tryd.func54, Tryd.ntmps54
  go_wp2_with (go_at_call 79; refine (HM.out _).mono ?_; rintro e w' ⟨rfl, rfl⟩)
  exact bodyPost_ret (v := .agg #[.int .u64 R0, .int .u64 R1]) (by simp [results, Tryd.results54, go_sem]) rfl ⟨rfl, (Below.refl _ _).alloc (Nat.le_refl _) _⟩

theorem libLen : ∀ x : Nat, x < 2 ^ 64 → Lib.bitLen x = Go.bitLen x := by
  intro x
  induction x using Nat.strongRecOn with
  | ind x ih =>
    intro hx
    by_cases h0 : x = 0
    · subst h0; rfl
    · rw [Lib.bitLen_half x h0 hx, ih (x / 2) (by omega) (by omega)]
      by_cases h1 : x / 2 = 0
      · have : x = 1 := by omega
        subst this; rfl
      · have := Go.bitLen_shift x 1 (by simpa using h1)
        simpa using this.symm

theorem tabSize : (Lib.len8tab.size : Int) = 256 := by
  have : Lib.len8tab.size = 256 := by decide +kernel
  omega
theorem tabSize' : Lib.len8tab.size = 256 := by decide +kernel
theorem tabAll : ∀ n : Fin 256, ((Lib.len8tab[n.val]'(by rw [tabSize']; exact n.isLt)).toNat) = Lib.bitLen n.val := by decide +kernel
theorem tabAt (y : Int) (h0 : 0 ≤ y) (h1 : y < 256) (h : y.toNat < Lib.len8tab.size) : ((Lib.len8tab[y.toNat]'h).toNat : Int) = Lib.bitLen y.toNat := by
  have := tabAll ⟨y.toNat, by omega⟩
  simp only at this
  rw [this]
theorem wrapLen (k a b : Nat) (hk : k ≤ 56) (ha : a ≤ 8) (hb : b = k + a) : wrap64 ((k : Int) + wrap64 (a : Int)) = (b : Int) := by
  unfold wrap64
  omega
theorem wrapLen0 (a : Nat) (ha : a ≤ 8) : wrap64 (wrap64 (a : Int)) = (a : Int) := by
  unfold wrap64
  omega
theorem wrapLen1 (a : Nat) (ha : a ≤ 8) : wrap64 (a : Int) = (a : Int) := by
  unfold wrap64
  omega

set_option maxHeartbeats 4000000 in
set_option maxRecDepth 100000 in
theorem len64_any (x : Int) (h0 : 0 ≤ x) (h1 : x < 18446744073709551616) (w : World) :
    Calls Tryd.prog 76 #[.int .u64 x] w fun e w' => e = .returned (.int .i64 (Lib.bitLen x.toNat)) ∧ w' = w := by
  have hsz := tabSize
  by_cases a1 : 4294967296 ≤ x
  · by_cases a2 : 65536 ≤ x / 4294967296
    · by_cases a3 : 256 ≤ x / 4294967296 / 65536
      · have y0 : 0 ≤ x / 4294967296 / 65536 / 256 := by omega
        have y1 : x / 4294967296 / 65536 / 256 < 256 := by omega
        have HL : Hid (Lib.bitLen x.toNat = 56 + Lib.bitLen (x / 4294967296 / 65536 / 256).toNat) := (by rw [show (x / 4294967296 / 65536 / 256).toNat = x.toNat / 2 ^ 56 by omega]; exact Lib.bitLen_shift 56 x.toNat (by omega) (by omega) : Lib.bitLen x.toNat = _)
        have H8 : Hid (Lib.bitLen (x / 4294967296 / 65536 / 256).toNat ≤ 8) := Lib.bitLen_le8' (x / 4294967296 / 65536 / 256) (by omega) (by omega)
        go_enter Tryd.func76, Tryd.ntmps76
        go_wp2
        go_ret
        exact ⟨ret_int (by rw [tabAt _ y0 y1]; exact wrapLen 56 _ _ (by decide) H8.out HL.out), rfl⟩
      · have y0 : 0 ≤ x / 4294967296 / 65536 := by omega
        have y1 : x / 4294967296 / 65536 < 256 := by omega
        have HL : Hid (Lib.bitLen x.toNat = 48 + Lib.bitLen (x / 4294967296 / 65536).toNat) := (by rw [show (x / 4294967296 / 65536).toNat = x.toNat / 2 ^ 48 by omega]; exact Lib.bitLen_shift 48 x.toNat (by omega) (by omega) : Lib.bitLen x.toNat = _)
        have H8 : Hid (Lib.bitLen (x / 4294967296 / 65536).toNat ≤ 8) := Lib.bitLen_le8' (x / 4294967296 / 65536) (by omega) (by omega)
        go_enter Tryd.func76, Tryd.ntmps76
        go_wp2
        go_ret
        exact ⟨ret_int (by rw [tabAt _ y0 y1]; exact wrapLen 48 _ _ (by decide) H8.out HL.out), rfl⟩
    · by_cases a3 : 256 ≤ x / 4294967296
      · have y0 : 0 ≤ x / 4294967296 / 256 := by omega
        have y1 : x / 4294967296 / 256 < 256 := by omega
        have HL : Hid (Lib.bitLen x.toNat = 40 + Lib.bitLen (x / 4294967296 / 256).toNat) := (by rw [show (x / 4294967296 / 256).toNat = x.toNat / 2 ^ 40 by omega]; exact Lib.bitLen_shift 40 x.toNat (by omega) (by omega) : Lib.bitLen x.toNat = _)
        have H8 : Hid (Lib.bitLen (x / 4294967296 / 256).toNat ≤ 8) := Lib.bitLen_le8' (x / 4294967296 / 256) (by omega) (by omega)
        go_enter Tryd.func76, Tryd.ntmps76
        go_wp2
        go_ret
        exact ⟨ret_int (by rw [tabAt _ y0 y1]; exact wrapLen 40 _ _ (by decide) H8.out HL.out), rfl⟩
      · have y0 : 0 ≤ x / 4294967296 := by omega
        have y1 : x / 4294967296 < 256 := by omega
        have HL : Hid (Lib.bitLen x.toNat = 32 + Lib.bitLen (x / 4294967296).toNat) := (by rw [show (x / 4294967296).toNat = x.toNat / 2 ^ 32 by omega]; exact Lib.bitLen_shift 32 x.toNat (by omega) (by omega) : Lib.bitLen x.toNat = _)
        have H8 : Hid (Lib.bitLen (x / 4294967296).toNat ≤ 8) := Lib.bitLen_le8' (x / 4294967296) (by omega) (by omega)
        go_enter Tryd.func76, Tryd.ntmps76
        go_wp2
        go_ret
        exact ⟨ret_int (by rw [tabAt _ y0 y1]; exact wrapLen 32 _ _ (by decide) H8.out HL.out), rfl⟩
  · by_cases a2 : 65536 ≤ x
    · by_cases a3 : 256 ≤ x / 65536
      · have y0 : 0 ≤ x / 65536 / 256 := by omega
        have y1 : x / 65536 / 256 < 256 := by omega
        have HL : Hid (Lib.bitLen x.toNat = 24 + Lib.bitLen (x / 65536 / 256).toNat) := (by rw [show (x / 65536 / 256).toNat = x.toNat / 2 ^ 24 by omega]; exact Lib.bitLen_shift 24 x.toNat (by omega) (by omega) : Lib.bitLen x.toNat = _)
        have H8 : Hid (Lib.bitLen (x / 65536 / 256).toNat ≤ 8) := Lib.bitLen_le8' (x / 65536 / 256) (by omega) (by omega)
        go_enter Tryd.func76, Tryd.ntmps76
        go_wp2
        go_ret
        exact ⟨ret_int (by rw [tabAt _ y0 y1]; exact wrapLen 24 _ _ (by decide) H8.out HL.out), rfl⟩
      · have y0 : 0 ≤ x / 65536 := by omega
        have y1 : x / 65536 < 256 := by omega
        have HL : Hid (Lib.bitLen x.toNat = 16 + Lib.bitLen (x / 65536).toNat) := (by rw [show (x / 65536).toNat = x.toNat / 2 ^ 16 by omega]; exact Lib.bitLen_shift 16 x.toNat (by omega) (by omega) : Lib.bitLen x.toNat = _)
        have H8 : Hid (Lib.bitLen (x / 65536).toNat ≤ 8) := Lib.bitLen_le8' (x / 65536) (by omega) (by omega)
        go_enter Tryd.func76, Tryd.ntmps76
        go_wp2
        go_ret
        exact ⟨ret_int (by rw [tabAt _ y0 y1]; exact wrapLen 16 _ _ (by decide) H8.out HL.out), rfl⟩
    · by_cases a3 : 256 ≤ x
      · have y0 : 0 ≤ x / 256 := by omega
        have y1 : x / 256 < 256 := by omega
        have HL : Hid (Lib.bitLen x.toNat = 8 + Lib.bitLen (x / 256).toNat) := (by rw [show (x / 256).toNat = x.toNat / 2 ^ 8 by omega]; exact Lib.bitLen_shift 8 x.toNat (by omega) (by omega) : Lib.bitLen x.toNat = _)
        have H8 : Hid (Lib.bitLen (x / 256).toNat ≤ 8) := Lib.bitLen_le8' (x / 256) (by omega) (by omega)
        go_enter Tryd.func76, Tryd.ntmps76
        go_wp2
        go_ret
        exact ⟨ret_int (by rw [tabAt _ y0 y1]; exact wrapLen 8 _ _ (by decide) H8.out HL.out), rfl⟩
      · have y0 : 0 ≤ x := by omega
        have y1 : x < 256 := by omega
        have H8 : Hid (Lib.bitLen (x).toNat ≤ 8) := Lib.bitLen_le8' (x) (by omega) (by omega)
        go_enter Tryd.func76, Tryd.ntmps76
        go_wp2
        go_ret
        exact ⟨ret_int (by rw [tabAt _ y0 y1]; first | exact wrapLen0 _ H8.out | exact wrapLen1 _ H8.out), rfl⟩
end Go.Proofs.YtcjihaafohnbeaaDoor
