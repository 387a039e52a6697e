import Derived.Test.YtcjihaafohnbeaaDoorWideB
import Derived.Test.YtcjihaafohnbeaaDoorRtA
import Derived.Deep.QuietTactic
import Derived.BigQuiet
import Derived.WalkSmall
namespace Go.Proofs.YtcjihaafohnbeaaDoor
open Go.RowKit

/-- When the digits that are kept grow by one: 0 never, 1 if odd, 2 always. -/
def grow (m s rest : Int) : Int :=
  if m = 0 then (if rest = 2 then 1 else if rest = 3 then 2 else 0)
  else if m = 1 then (if 2 ≤ rest then 2 else 0)
  else if m = 2 then 0
  else if m = 3 then (if s = 0 ∧ 1 ≤ rest then 2 else 0)
  else (if s = 1 ∧ 1 ≤ rest then 2 else 0)
/-- The table that the program keeps of it. -/
def Tab (w : World) : Prop := ∀ m s r : Nat, m < 5 → s < 2 → r < 4 → w.cell? ⟨0, m * 8 + s * 4 + r, none⟩ = some (.int .u8 (grow m s r))
theorem Tab.pos {w : World} (h : Tab w) : 0 < w.heap.size := block_lt_of_cell (h 0 0 0 (by omega) (by omega) (by omega))
theorem Tab.later {w w' : World} (h : Tab w) (hb : Below w.heap.size w w') : Tab w' := fun m s r hm hs hr => (hb.cell (p := ⟨0, m * 8 + s * 4 + r, none⟩) h.pos).trans (h m s r hm hs hr)

set_option maxHeartbeats 400000 in
theorem signed_any (s b : Int) (hs : s = 0 ∨ s = 1) (hb : 0 ≤ b ∧ b < 9223372036854775808) (w : World) :
    Calls Tryd.prog 40 #[.int .u64 s, .int .u64 b] w fun e w' => e = .returned (.int .u64 (s * 9223372036854775808 + b)) ∧ w' = w := by
  have ho : bits .or .u64 (s * 9223372036854775808) b = s * 9223372036854775808 + b := by
    obtain ⟨n, rfl⟩ := Int.eq_ofNat_of_zero_le hb.1
    obtain ⟨k, rfl⟩ : ∃ k : Nat, s = k := ⟨s.toNat, by omega⟩
    have := or_apart k n 63 (by omega) (by omega) (by omega)
    simpa using this
  have h1 : 0 ≤ s := by omega
  have h2 : s ≤ 1 := by omega
  clear hs
  go_enter Tryd.func40, Tryd.ntmps40
  go_wp2
  go_ret
  exact ⟨rfl, rfl⟩
/-- So much the digits that are kept grow. -/
def incr (g : Int) (q : Nat) : Nat := if g = 1 then q % 2 else if g = 2 then 1 else 0
/-- A number without its last k digits, rounded; was anything cut off? -/
def cutQ (s m : Int) (D : Nat) (k : Int) : Nat := if k ≤ 0 then D * 2 ^ (-k).toNat else D / 2 ^ k.toNat + incr (grow m s (restN D k.toNat)) (D / 2 ^ k.toNat)
def cutCh (D : Nat) (k : Int) : Bool := if k ≤ 0 then false else decide (restN D k.toNat ≠ 0)

theorem grow_range (m s r : Int) : 0 ≤ grow m s r ∧ grow m s r ≤ 2 := by unfold grow; (repeat' split) <;> omega
theorem bne_dec (R : Int) : (R != 0) = decide (R ≠ 0) := by by_cases h : R = 0 <;> simp [h]
theorem ret_kept {k : IntKind} {a b : Int} {c d : Bool} (h : a = b) (h' : c = d) : Ending.returned (.tuple #[.int k a, .bool c]) = .returned (.tuple #[.int k b, .bool d]) := by rw [h, h']

/-- The result of an overflow. -/
def overB (s m : Int) : Int := s * 9223372036854775808 + (if grow m s 3 = 2 then 9218868437227405312 else 9218868437227405311)

set_option maxHeartbeats 1000000 in
theorem tooGreat_any (s : Nat) (m : Int) (hs : s < 2) (hm : 0 ≤ m ∧ m ≤ 4) (w : World) (hT : Tab w) :
    Calls Tryd.prog 53 #[.int .u64 s, .int .u8 m] w fun e w' => e = .returned (.agg #[.int .u64 (overB s m), .int .u8 5, .bool false]) ∧ Below w.heap.size w w' := by
  have z0 := hT.pos
  have g0 : w.cell? ⟨0, m.toNat * 8 + s * 4 + 3, none⟩ = some (.int .u8 (grow m s 3)) := by
    have h := hT m.toNat s 3 (by omega) hs (by omega)
    rwa [show ((m.toNat : Nat) : Int) = m by omega] at h
  have HO : Hid (overB s m = s * 9223372036854775808 + (if grow m s 3 = 2 then 9218868437227405312 else 9218868437227405311)) := rfl
  obtain ⟨m1, m2⟩ := hm
  have i1 : (s : Int) < 2 := by omega
  have i2 : m < 5 := by omega
  have hs' : (s : Int) = 0 ∨ (s : Int) = 1 := by omega
  have HS : Hid ((s : Int) = 0 ∨ (s : Int) = 1) := hs'
  clear hT hs'
  by_cases hg : grow m s 3 = 2
  · have hgb : (grow m s 3 == 2) = true := by simp [hg]
    have HG : Hid (grow m s 3 = 2) := hg
    clear hg
    go_enter Tryd.func53, Tryd.ntmps53
    go_wp2_with (go_at_call 40; refine (signed_any _ _ HS.out (by omega) _).mono ?_; rintro e w' ⟨rfl, rfl⟩)
    exact bodyPost_ret (v := .agg #[.int .u64 (s * 9223372036854775808 + 9218868437227405312), .int .u8 5, .bool false]) (by simp [results, Tryd.results53, go_sem]) rfl ⟨by rw [HO.out, if_pos HG.out], ((Below.refl _ _).alloc (Nat.le_refl _) _).alloc (by simp) _⟩
  · have hgb : (grow m s 3 == 2) = false := by simp [hg]
    have HG : Hid (¬ grow m s 3 = 2) := hg
    clear hg
    go_enter Tryd.func53, Tryd.ntmps53
    go_wp2_with (go_at_call 40; refine (signed_any _ _ HS.out (by omega) _).mono ?_; rintro e w' ⟨rfl, rfl⟩)
    exact bodyPost_ret (v := .agg #[.int .u64 (s * 9223372036854775808 + 9218868437227405311), .int .u8 5, .bool false]) (by simp [results, Tryd.results53, go_sem]) rfl ⟨by rw [HO.out, if_neg HG.out], ((Below.refl _ _).alloc (Nat.le_refl _) _).alloc (by simp) _⟩
theorem incr_le (g : Int) (q : Nat) : incr g q ≤ 1 := by unfold incr; (repeat' split) <;> omega
theorem cut_up {D : Nat} {k : Int} (hk : (Go.bitLen D : Int) - 53 ≤ k) (h : k ≤ 0) : D * 2 ^ (-k).toNat < 9007199254740992 := by
  have h1 := (Go.bitLen_spec D).1
  have h2 : 2 ^ Go.bitLen D * 2 ^ (-k).toNat ≤ 2 ^ 53 := by rw [← Nat.pow_add]; exact Nat.pow_le_pow_right (by decide) (by omega)
  have h3 : D * 2 ^ (-k).toNat < 2 ^ Go.bitLen D * 2 ^ (-k).toNat := Nat.mul_lt_mul_of_pos_right h1 (Nat.two_pow_pos _)
  omega
theorem cut_down {D : Nat} {k : Int} (hk : (Go.bitLen D : Int) - 53 ≤ k) (h : 0 < k) : D / 2 ^ k.toNat < 9007199254740992 := by
  have h1 := (Go.bitLen_spec D).1
  rw [Nat.div_lt_iff_lt_mul (Nat.two_pow_pos _)]
  have h2 : 2 ^ Go.bitLen D ≤ 2 ^ 53 * 2 ^ k.toNat := by rw [← Nat.pow_add]; exact Nat.pow_le_pow_right (by decide) (by omega)
  omega
theorem cutQ_le (s m : Int) {D : Nat} {k : Int} (hk : (Go.bitLen D : Int) - 53 ≤ k) : cutQ s m D k ≤ 9007199254740992 := by
  unfold cutQ
  by_cases h : k ≤ 0
  · rw [if_pos h]; have := cut_up hk h; omega
  · rw [if_neg h]
    have := cut_down hk (by omega)
    have := incr_le (grow m s (restN D k.toNat)) (D / 2 ^ k.toNat)
    omega

/-- A number that is not 0, (-1)^s * D * 2^p, rounded: its bits, its flags. -/
def roundB (s : Int) (D : Nat) (p m : Int) : Int :=
  let u := if cutQ s m D (Go.bitLen D - 53) = 9007199254740992 then p + Go.bitLen D - 52 else p + Go.bitLen D - 53
  let y : Int := if cutQ s m D (Go.bitLen D - 53) = 9007199254740992 then 4503599627370496 else cutQ s m D (Go.bitLen D - 53)
  if 971 < u then overB s m
  else if u < -1074 then s * 9223372036854775808 + cutQ s m D (-1074 - p)
  else s * 9223372036854775808 + ((u + 1074) * 4503599627370496 + y)
def roundF (s : Int) (D : Nat) (p m : Int) : Int :=
  let u := if cutQ s m D (Go.bitLen D - 53) = 9007199254740992 then p + Go.bitLen D - 52 else p + Go.bitLen D - 53
  if 971 < u then 5
  else if u < -1074 then (if cutCh D (-1074 - p) then 3 else 0)
  else (if cutCh D (Go.bitLen D - 53) then 1 else 0)

theorem round_carry_over {s : Int} {D : Nat} {p m : Int} (hy : cutQ s m D (Go.bitLen D - 53) = 9007199254740992) (h : 971 < p + Go.bitLen D - 53 + 1) : roundB s D p m = overB s m ∧ roundF s D p m = 5 := by
  unfold roundB roundF; simp only [if_pos hy]; rw [if_pos (by omega), if_pos (by omega)]; exact ⟨rfl, rfl⟩
theorem round_carry_tiny {s : Int} {D : Nat} {p m : Int} (hy : cutQ s m D (Go.bitLen D - 53) = 9007199254740992) (h : p + Go.bitLen D - 53 + 1 < -1074) : roundB s D p m = s * 9223372036854775808 + cutQ s m D (-1074 - p) ∧ roundF s D p m = (if cutCh D (-1074 - p) then 3 else 0) := by
  unfold roundB roundF; simp only [if_pos hy]; rw [if_neg (by omega), if_pos (by omega), if_neg (by omega), if_pos (by omega)]; exact ⟨rfl, rfl⟩
theorem round_carry {s : Int} {D : Nat} {p m : Int} (hy : cutQ s m D (Go.bitLen D - 53) = 9007199254740992) (h : -1074 ≤ p + Go.bitLen D - 53 + 1) (h' : p + Go.bitLen D - 53 + 1 ≤ 971) :
    roundB s D p m = s * 9223372036854775808 + ((p + Go.bitLen D - 53 + 1 + 1074) * 4503599627370496 + 4503599627370496) ∧ roundF s D p m = (if cutCh D (Go.bitLen D - 53) then 1 else 0) := by
  unfold roundB roundF; simp only [if_pos hy]; rw [if_neg (by omega), if_neg (by omega), if_neg (by omega), if_neg (by omega)]; exact ⟨by omega, rfl⟩
theorem round_over {s : Int} {D : Nat} {p m : Int} (hy : ¬ cutQ s m D (Go.bitLen D - 53) = 9007199254740992) (h : 971 < p + Go.bitLen D - 53) : roundB s D p m = overB s m ∧ roundF s D p m = 5 := by
  unfold roundB roundF; simp only [if_neg hy]; rw [if_pos h, if_pos h]; exact ⟨rfl, rfl⟩
theorem round_tiny {s : Int} {D : Nat} {p m : Int} (hy : ¬ cutQ s m D (Go.bitLen D - 53) = 9007199254740992) (h : p + Go.bitLen D - 53 < -1074) : roundB s D p m = s * 9223372036854775808 + cutQ s m D (-1074 - p) ∧ roundF s D p m = (if cutCh D (-1074 - p) then 3 else 0) := by
  unfold roundB roundF; simp only [if_neg hy]; rw [if_neg (by omega), if_pos h, if_neg (by omega), if_pos h]; exact ⟨rfl, rfl⟩
theorem round_plain {s : Int} {D : Nat} {p m : Int} (hy : ¬ cutQ s m D (Go.bitLen D - 53) = 9007199254740992) (h : -1074 ≤ p + Go.bitLen D - 53) (h' : p + Go.bitLen D - 53 ≤ 971) :
    roundB s D p m = s * 9223372036854775808 + ((p + Go.bitLen D - 53 + 1074) * 4503599627370496 + cutQ s m D (Go.bitLen D - 53)) ∧ roundF s D p m = (if cutCh D (Go.bitLen D - 53) then 1 else 0) := by
  unfold roundB roundF; simp only [if_neg hy]; rw [if_neg (by omega), if_neg (by omega), if_neg (by omega), if_neg (by omega)]; exact ⟨rfl, rfl⟩

/-- A number's words as they lie, and the result's place. -/
structure Boxed (w w1 : World) (vs : List Value) : Prop where
  below : Below w.heap.size w w1
  size : w.heap.size + 1 < w1.heap.size
  c : Blk w1 w.heap.size vs
  r : Blk w1 (w.heap.size + 1) [.int .u64 0, .int .u8 0, .bool false]
theorem Boxed.start (w : World) (vs : List Value) (t t' : TypeId) (h : 0 < vs.length) : Boxed w ((w.alloc (.cells vs.toArray t)).alloc (.cells #[.int .u64 0, .int .u8 0, .bool false] t')) vs := by
  refine ⟨((Below.refl _ _).alloc (Nat.le_refl _) _).alloc (by simp) _, by simp, (Blk.new _ _ _ h).alloc _, ?_⟩
  have h := Blk.new (w.alloc (.cells vs.toArray t)) [.int .u64 0, .int .u8 0, .bool false] t' (by simp)
  rw [World.size_alloc] at h
  exact h
theorem Boxed.later {w w1 w2 : World} {vs : List Value} (h : Boxed w w1 vs) (hb : Below w1.heap.size w1 w2) : Boxed w w2 vs :=
  ⟨h.below.trans (hb.mono h.below.size), Nat.lt_of_lt_of_le h.size hb.size, h.c.later hb, h.r.later hb⟩
end Go.Proofs.YtcjihaafohnbeaaDoor
