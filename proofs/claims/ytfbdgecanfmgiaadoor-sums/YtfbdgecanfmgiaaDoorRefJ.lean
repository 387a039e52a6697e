import Derived.Test.YtfbdgecanfmgiaaDoorRefI
import Derived.Deep.RegionHeld3
namespace Go.Proofs.YtfbdgecanfmgiaaDoor
open Go.RowKit

theorem cutQ_ge (s m : Int) {D : Nat} (hD : D ≠ 0) : 4503599627370496 ≤ cutQ s m D (Go.bitLen D - 53) := by
  have h1 := (Go.bitLen_spec D).2 hD
  have h2 := bitLen_pos hD
  unfold cutQ
  by_cases h : (Go.bitLen D : Int) - 53 ≤ 0
  · rw [if_pos h]
    have h3 : 2 ^ (Go.bitLen D - 1) * 2 ^ (-((Go.bitLen D : Int) - 53)).toNat ≤ D * 2 ^ (-((Go.bitLen D : Int) - 53)).toNat := Nat.mul_le_mul_right _ h1
    rw [← Nat.pow_add, show Go.bitLen D - 1 + (-((Go.bitLen D : Int) - 53)).toNat = 52 by omega] at h3
    omega
  · rw [if_neg h]
    have h3 : 2 ^ 52 ≤ D / 2 ^ ((Go.bitLen D : Int) - 53).toNat := by
      rw [Nat.le_div_iff_mul_le (Nat.two_pow_pos _), ← Nat.pow_add, show 52 + ((Go.bitLen D : Int) - 53).toNat = Go.bitLen D - 1 by omega]
      exact h1
    omega
theorem bl_53 {n : Nat} (h1 : 4503599627370496 ≤ n) (h2 : n < 9007199254740992) : Go.bitLen n = 53 := by
  have a := pow_le_of_lt ((Go.bitLen_spec n).2 (by omega)) (show n < 2 ^ 53 from h2)
  have b := pow_le_of_lt (show 2 ^ 52 ≤ n from h1) (Go.bitLen_spec n).1
  omega
theorem bl_54 : Go.bitLen 9007199254740992 = 54 := by decide

/-- What Round makes of a number, by cases. -/
theorem round_cases (s m : Int) {D : Nat} (p : Int) (hD : D ≠ 0) :
    ∃ (Y : Nat) (T : Int), cutQ s m D (Go.bitLen D - 53) = Y ∧ T = Go.bitLen Y + p + Go.bitLen D - 54 ∧ 4503599627370496 ≤ Y ∧ Y ≤ 9007199254740992 ∧ (Go.bitLen Y = 53 ∨ Go.bitLen Y = 54) ∧ (Go.bitLen Y = 54 → Y = 9007199254740992) ∧
      (1024 ≤ T → roundB s D p m = overB s m ∧ roundF s D p m = 5) ∧
      (T < -1022 → roundB s D p m = s * 9223372036854775808 + cutQ s m D (-1074 - p) ∧ roundF s D p m = (if cutCh D (-1074 - p) then 3 else 0)) ∧
      (¬ 1024 ≤ T → ¬ T < -1022 → roundB s D p m = s * 9223372036854775808 + ((T + 1022) * 4503599627370496 + (if Go.bitLen Y = 54 then 4503599627370496 else (Y : Int))) ∧ roundF s D p m = (if cutCh D (Go.bitLen D - 53) then 1 else 0)) := by
  have hge := cutQ_ge s m hD
  have hle := cutQ_le s m (D := D) (k := (Go.bitLen D : Int) - 53) (Int.le_refl _)
  refine ⟨_, _, rfl, rfl, hge, hle, ?_, ?_, ?_, ?_, ?_⟩
  all_goals by_cases hy : cutQ s m D (Go.bitLen D - 53) = 9007199254740992
  all_goals first
    | rw [hy, bl_54]
    | rw [bl_53 hge (by omega)]
  · exact .inr rfl
  · exact .inl rfl
  · exact fun _ => rfl
  · intro h; omega
  · intro h; exact round_carry_over hy (by omega)
  · intro h; exact round_over hy (by omega)
  · intro h; exact round_carry_tiny hy (by omega)
  · intro h; exact round_tiny hy (by omega)
  · intro h h'
    have := round_carry (p := p) hy (by omega) (by omega)
    refine ⟨by rw [this.1, if_pos rfl]; omega, this.2⟩
  · intro h h'
    have := round_plain (p := p) hy (by omega) (by omega)
    refine ⟨by rw [this.1, if_neg (by omega)]; omega, this.2⟩

set_option maxHeartbeats 400000 in
theorem sign_any (neg : Bool) (w : World) : Calls Tryd.prog 56 #[.bool neg] w fun e w' => e = .returned (.int .u64 (sOf neg * 9223372036854775808)) ∧ w' = w := by
  cases neg
  all_goals
    go_enter Tryd.func56, Tryd.ntmps56
    go_wp2
    go_ret
    exact ⟨rfl, rfl⟩

/-- A number of the document's, as it lies in its block. -/
structure NumAt (w : World) (g : Nat) (neg : Bool) (va : Value) (D : Nat) (p : Int) : Prop where
  lt : g < w.heap.size
  c0 : w.cell? ⟨g, 0, none⟩ = some (.bool neg)
  c1 : w.cell? ⟨g, 1, none⟩ = some va
  c2 : w.cell? ⟨g, 2, none⟩ = some (.int .i64 p)
  nat : IsNat w va D
theorem NumAt.later {w w' : World} {g : Nat} {neg : Bool} {va : Value} {D : Nat} {p : Int} (h : NumAt w g neg va D p) (hb : Below w.heap.size w w') : NumAt w' g neg va D p :=
  ⟨Nat.lt_of_lt_of_le h.lt hb.size, (hb.cell (p := ⟨g, 0, none⟩) h.lt).trans h.c0, (hb.cell (p := ⟨g, 1, none⟩) h.lt).trans h.c1, (hb.cell (p := ⟨g, 2, none⟩) h.lt).trans h.c2, h.nat.later hb⟩
end Go.Proofs.YtfbdgecanfmgiaaDoor
