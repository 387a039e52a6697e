import Derived.Test.YtfbdgecanfmgiaaDoorMath1
import Derived.Test.YtfbdgecanfmgiaaDoorLaw1
import Derived.Deep.QuietTactic
import Derived.BigQuiet
import Derived.WalkSmall
namespace Go.Proofs.YtfbdgecanfmgiaaDoor
open Go.RowKit

/-- When the digits that are kept grow by one: 0 never, 1 if odd, 2 always. -/
def grow (m s rest : Int) : Int :=
  if m = 0 then (if rest = 2 then 1 else if rest = 3 then 2 else 0)
  else if m = 1 then (if 2 ≤ rest then 2 else 0)
  else if m = 2 then 0
  else if m = 3 then (if s = 0 ∧ 1 ≤ rest then 2 else 0)
  else (if s = 1 ∧ 1 ≤ rest then 2 else 0)
/-- The table that the program keeps of it. -/
def Tab (w : World) : Prop := ∀ m s r : Nat, m < 5 → s < 2 → r < 4 → w.cell? ⟨0, m * 8 + s * 4 + r, none⟩ = some (.int .u8 (grow m s r))
theorem Tab.pos {w : World} (h : Tab w) : 0 < w.heap.size := block_lt_of_cell (h 0 0 0 (by omega) (by omega) (by omega))
theorem Tab.later {w w' : World} (h : Tab w) (hb : Below w.heap.size w w') : Tab w' := fun m s r hm hs hr => (hb.cell (p := ⟨0, m * 8 + s * 4 + r, none⟩) h.pos).trans (h m s r hm hs hr)

set_option maxHeartbeats 400000 in
theorem length_any (lo hi : Nat) (hl : lo < 18446744073709551616) (hh : hi < 18446744073709551616) (w : World) :
    Calls Tryd.prog 72 #[.agg #[.int .u64 lo, .int .u64 hi]] w fun e w' => e = .returned (.int .i64 (Go.bitLen (lo + hi * 18446744073709551616))) ∧ w' = w.alloc (.cells #[.int .u64 lo, .int .u64 hi] 75) := by
  have b1 := Lib.bitLen_le hi 64 (by omega) hh
  have b0 := Lib.bitLen_le lo 64 (by omega) hl
  go_enter Tryd.func72, Tryd.ntmps72
  go_wp2
  go_loop [3] (fun i => (i = .int .i64 1) ∨ (i = .int .i64 0 ∧ hi = 0) ∨ (i = .int .i64 (-1) ∧ hi = 0 ∧ lo = 0)) (fun i => (intOf i + 1).toNat)
  case atStart => exact Or.inl rfl
  case round =>
    rcases hrel with rfl | ⟨rfl, hz⟩ | ⟨rfl, hz, hz'⟩
    · by_cases h : hi = 0
      · have hne : ((hi : Int) != 0) = false := by simp [h]
        have HZ : Hid (hi = 0) := h
        clear h
        go_wp2_with fail
        go_round
        case rel => exact Or.inr (Or.inl ⟨rfl, HZ.out⟩)
        case measure => simp [intOf]
      · have hne : ((hi : Int) != 0) = true := by simp [h]
        have HL : Hid (Go.bitLen (lo + hi * 18446744073709551616) = 64 + Lib.bitLen hi) := (by
          rw [libLen hi hh, Go.bitLen_shift _ 64 (by simp; omega)]
          congr 2; simp; omega : Go.bitLen (lo + hi * 18446744073709551616) = 64 + Lib.bitLen hi)
        go_wp2_with (go_at_call 84; refine (len64_any hi (by omega) (by omega) _).mono ?_; rintro e w' ⟨rfl, rfl⟩)
        go_ret
        exact ⟨ret_int (by rw [HL.out]; simp), rfl⟩
    · have HY : Hid (hi = 0) := hz
      clear hz
      by_cases h : lo = 0
      · have hne : ((lo : Int) != 0) = false := by simp [h]
        have HZ : Hid (lo = 0) := h
        clear h
        go_wp2_with fail
        go_round
        case rel => exact Or.inr (Or.inr ⟨rfl, HY.out, HZ.out⟩)
        case measure => simp [intOf]
      · have hne : ((lo : Int) != 0) = true := by simp [h]
        have HL : Hid (Go.bitLen (lo + hi * 18446744073709551616) = Lib.bitLen lo) := (by rw [libLen lo hl, HY.out]; simp : Go.bitLen (lo + hi * 18446744073709551616) = Lib.bitLen lo)
        go_wp2_with (go_at_call 84; refine (len64_any lo (by omega) (by omega) _).mono ?_; rintro e w' ⟨rfl, rfl⟩)
        go_ret
        exact ⟨ret_int (by rw [HL.out]), rfl⟩
    · have HZ : Hid (Go.bitLen (lo + hi * 18446744073709551616) = 0) := (by rw [hz, hz']; rfl : Go.bitLen (lo + hi * 18446744073709551616) = 0)
      clear hz hz'
      go_wp2_with fail
      go_ret
      exact ⟨ret_int (by rw [HZ.out]; rfl), rfl⟩

set_option maxHeartbeats 400000 in
theorem signed_any (s b : Int) (hs : s = 0 ∨ s = 1) (hb : 0 ≤ b ∧ b < 9223372036854775808) (w : World) :
    Calls Tryd.prog 50 #[.int .u64 s, .int .u64 b] w fun e w' => e = .returned (.int .u64 (s * 9223372036854775808 + b)) ∧ w' = w := by
  have ho : bits .or .u64 (s * 9223372036854775808) b = s * 9223372036854775808 + b := by
    obtain ⟨n, rfl⟩ := Int.eq_ofNat_of_zero_le hb.1
    obtain ⟨k, rfl⟩ : ∃ k : Nat, s = k := ⟨s.toNat, by omega⟩
    have := or_apart k n 63 (by omega) (by omega) (by omega)
    simpa using this
  have h1 : 0 ≤ s := by omega
  have h2 : s ≤ 1 := by omega
  clear hs
  go_enter Tryd.func50, Tryd.ntmps50
  go_wp2
  go_ret
  exact ⟨rfl, rfl⟩
/-- So much the digits that are kept grow. -/
def incr (g : Int) (q : Nat) : Nat := if g = 1 then q % 2 else if g = 2 then 1 else 0
/-- A number without its last k digits, rounded; was anything cut off? -/
def cutQ (s m : Int) (D : Nat) (k : Int) : Nat := if k ≤ 0 then D * 2 ^ (-k).toNat else D / 2 ^ k.toNat + incr (grow m s (restN D k.toNat)) (D / 2 ^ k.toNat)
def cutCh (D : Nat) (k : Int) : Bool := if k ≤ 0 then false else decide (restN D k.toNat ≠ 0)
theorem restN_range (D n : Nat) : 0 ≤ restN D n ∧ restN D n ≤ 3 := by unfold restN; (repeat' split) <;> omega

theorem grow_range (m s r : Int) : 0 ≤ grow m s r ∧ grow m s r ≤ 2 := by unfold grow; (repeat' split) <;> omega
theorem bne_dec (R : Int) : (R != 0) = decide (R ≠ 0) := by by_cases h : R = 0 <;> simp [h]
theorem ret_kept {k : IntKind} {a b : Int} {c d : Bool} (h : a = b) (h' : c = d) : Ending.returned (.tuple #[.int k a, .bool c]) = .returned (.tuple #[.int k b, .bool d]) := by rw [h, h']

set_option maxHeartbeats 1000000 in
theorem roundTo_up (s lo hi : Nat) (p u m : Int) (_hs : s < 2) (hl : lo < 18446744073709551616) (hp : -10000 ≤ p ∧ p ≤ 10000) (hu : -10000 ≤ u ∧ u ≤ 10000) (hk : u ≤ p)
    (hq : (lo + hi * 18446744073709551616) * 2 ^ (p - u).toNat < 18446744073709551616) (w : World) :
    Calls Tryd.prog 73 #[.agg #[.int .u64 s, .int .u64 lo, .int .u64 hi, .int .i64 p], .int .i64 u, .int .u8 m] w fun e w' =>
      e = .returned (.tuple #[.int .u64 (cutQ s m (lo + hi * 18446744073709551616) (u - p)), .bool (cutCh (lo + hi * 18446744073709551616) (u - p))]) ∧ Below w.heap.size w w' := by
  have HC : Hid (((cutQ s m (lo + hi * 18446744073709551616) (u - p) : Nat) : Int) = leftW lo hi (p - u) 0 ∧ cutCh (lo + hi * 18446744073709551616) (u - p) = false) := by
    constructor
    · have := left0 lo hi (p - u).toNat hl
      rw [show (((p - u).toNat : Nat) : Int) = p - u by omega] at this
      rw [this, Nat.mod_eq_of_lt hq]
      unfold cutQ
      rw [if_pos (by omega), show -(u - p) = p - u by omega]
    · unfold cutCh; rw [if_pos (by omega)]
  obtain ⟨p1, p2⟩ := hp
  obtain ⟨u1, u2⟩ := hu
  clear hq
  have hix : ∀ (a b : Value) w, (Instr.index 75 (.agg #[a, b]) (.int .i64 0)).run Tryd.prog w = .ok a w := fun a b w => by kernel_rfl
  go_enter Tryd.func73, Tryd.ntmps73
  go_wp2_with fail
  refine (left_any lo hi (p - u) (by omega) (by omega) _).mono ?_
  rintro e w1 ⟨rfl, hb1⟩
  have HB : Hid (Below w.heap.size w w1) := ((Below.refl _ _).alloc (Nat.le_refl _) _).trans (hb1.mono (by simp))
  clear hb1
  go_wp2_with fail
  go_ret2
  exact ⟨by rw [HC.out.1, HC.out.2]; rfl, HB.out⟩

set_option maxHeartbeats 1000000 in
theorem roundTo_down (s lo hi : Nat) (p u m : Int) (hs : s < 2) (hl : lo < 18446744073709551616) (hh : hi < 18446744073709551616) (hm : 0 ≤ m ∧ m ≤ 4) (hp : -10000 ≤ p ∧ p ≤ 10000) (hu : -10000 ≤ u ∧ u ≤ 10000) (hk : p < u)
    (hq : (lo + hi * 18446744073709551616) / 2 ^ (u - p).toNat < 4611686018427387904) (w : World) (hT : Tab w) :
    Calls Tryd.prog 73 #[.agg #[.int .u64 s, .int .u64 lo, .int .u64 hi, .int .i64 p], .int .i64 u, .int .u8 m] w fun e w' =>
      e = .returned (.tuple #[.int .u64 (cutQ s m (lo + hi * 18446744073709551616) (u - p)), .bool (cutCh (lo + hi * 18446744073709551616) (u - p))]) ∧ Below w.heap.size w w' := by
  have HC : Hid (cutQ s m (lo + hi * 18446744073709551616) (u - p) = (lo + hi * 18446744073709551616) / 2 ^ (u - p).toNat + incr (grow m s (restN (lo + hi * 18446744073709551616) (u - p).toNat)) ((lo + hi * 18446744073709551616) / 2 ^ (u - p).toNat) ∧ cutCh (lo + hi * 18446744073709551616) (u - p) = decide (restN (lo + hi * 18446744073709551616) (u - p).toNat ≠ 0)) := by
    constructor
    · unfold cutQ; rw [if_neg (by omega)]
    · unfold cutCh; rw [if_neg (by omega)]
  have c0 := cut0 lo hi (u - p).toNat hl hh
  have c1 := rest_eq lo hi (u - p).toNat hl hh
  rw [show (((u - p).toNat : Nat) : Int) = u - p by omega] at c0 c1
  rw [Nat.mod_eq_of_lt (by omega)] at c0
  have hr := restN_range (lo + hi * 18446744073709551616) (u - p).toNat
  generalize restN (lo + hi * 18446744073709551616) (u - p).toNat = R at *
  generalize (lo + hi * 18446744073709551616) / 2 ^ (u - p).toNat = Q at *
  obtain ⟨p1, p2⟩ := hp
  obtain ⟨u1, u2⟩ := hu
  obtain ⟨m1, m2⟩ := hm
  obtain ⟨r1, r2⟩ := hr
  have HX : Hid (cutW lo hi (u - p) 0 = Q ∧ restOf lo hi (u - p) = R) := ⟨c0, c1⟩
  clear c0 c1
  go_enter Tryd.func73, Tryd.ntmps73
  go_wp2_with fail
  refine (cut_any lo hi (u - p) (by omega) (by omega) _).mono ?_
  rintro e w1 ⟨rfl, hb1⟩
  rw [HX.out.1, HX.out.2]
  have HB : Hid (Below w.heap.size w w1) := ((Below.refl _ _).alloc (Nat.le_refl _) _).trans (hb1.mono (by simp))
  have s1 := hb1.size
  simp only [World.size_alloc] at s1
  have z1 : w.heap.size < w1.heap.size := by omega
  have x0 : w1.cell? ⟨w.heap.size, 0, none⟩ = some (.int .u64 s) := (hb1.cell (p := ⟨w.heap.size, 0, none⟩) (by simp)).trans (by go_simp)
  have hT1 := hT.later HB.out
  have z2 : 0 < w1.heap.size := by omega
  have g0 : w1.cell? ⟨0, m.toNat * 8 + s * 4 + R.toNat, none⟩ = some (.int .u8 (grow m s R)) := by
    have h := hT1 m.toNat s R.toNat (by omega) hs (by omega)
    rwa [show ((m.toNat : Nat) : Int) = m by omega, show ((R.toNat : Nat) : Int) = R by omega] at h
  have i1 : (s : Int) < 2 := by omega
  have i2 : m < 5 := by omega
  have i3 : R < 4 := by omega
  have hand : bits .and .u64 (Q : Int) 1 = (Q : Int) % 2 := and_low Q 1 (by omega) (by omega) (by omega)
  have q1 : (Q : Int) < 4611686018427387904 := by omega
  have q0 : 0 ≤ (Q : Int) % 2 := by omega
  have q2 : (Q : Int) % 2 ≤ 1 := by omega
  have hg := grow_range m s R
  generalize grow m s R = G at *
  clear hb1 hT hT1 hq hl hh
  have hcs : G = 0 ∨ G = 1 ∨ G = 2 := by omega
  clear hg
  rcases hcs with rfl | rfl | rfl
  · go_wp2_with fail
    go_quiet (fail)
    go_wp2_with fail
    go_ret2
    exact ⟨by rw [HC.out.1, HC.out.2]; exact ret_kept (by simp [incr]) (bne_dec R), below_drewN (HB.out.alloc (by omega) _) _⟩
  · go_wp2_with fail
    go_quiet (fail)
    go_wp2_with fail
    go_ret2
    exact ⟨by rw [HC.out.1, HC.out.2]; exact ret_kept (by simp [incr]) (bne_dec R), below_drewN (HB.out.alloc (by omega) _) _⟩
  · go_wp2_with fail
    go_quiet (fail)
    go_wp2_with fail
    go_ret2
    exact ⟨by rw [HC.out.1, HC.out.2]; exact ret_kept (by simp [incr]) (bne_dec R), below_drewN (HB.out.alloc (by omega) _) _⟩
theorem roundTo_any (s lo hi : Nat) (p u m : Int) (hs : s < 2) (hl : lo < 18446744073709551616) (hh : hi < 18446744073709551616) (hm : 0 ≤ m ∧ m ≤ 4) (hp : -10000 ≤ p ∧ p ≤ 10000) (hu : -10000 ≤ u ∧ u ≤ 10000)
    (hq1 : u ≤ p → (lo + hi * 18446744073709551616) * 2 ^ (p - u).toNat < 18446744073709551616) (hq2 : p < u → (lo + hi * 18446744073709551616) / 2 ^ (u - p).toNat < 4611686018427387904) (w : World) (hT : Tab w) :
    Calls Tryd.prog 73 #[.agg #[.int .u64 s, .int .u64 lo, .int .u64 hi, .int .i64 p], .int .i64 u, .int .u8 m] w fun e w' =>
      e = .returned (.tuple #[.int .u64 (cutQ s m (lo + hi * 18446744073709551616) (u - p)), .bool (cutCh (lo + hi * 18446744073709551616) (u - p))]) ∧ Below w.heap.size w w' := by
  by_cases h : u ≤ p
  · exact roundTo_up s lo hi p u m hs hl hp hu h (hq1 h) w
  · exact roundTo_down s lo hi p u m hs hl hh hm hp hu (by omega) (hq2 (by omega)) w hT

/-- The result of an overflow. -/
def overB (s m : Int) : Int := s * 9223372036854775808 + (if grow m s 3 = 2 then 9218868437227405312 else 9218868437227405311)

set_option maxHeartbeats 1000000 in
theorem tooGreat_any (s : Nat) (m : Int) (hs : s < 2) (hm : 0 ≤ m ∧ m ≤ 4) (w : World) (hT : Tab w) :
    Calls Tryd.prog 74 #[.int .u64 s, .int .u8 m] w fun e w' => e = .returned (.agg #[.int .u64 (overB s m), .int .u8 5, .bool false]) ∧ Below w.heap.size w w' := by
  have z0 := hT.pos
  have g0 : w.cell? ⟨0, m.toNat * 8 + s * 4 + 3, none⟩ = some (.int .u8 (grow m s 3)) := by
    have h := hT m.toNat s 3 (by omega) hs (by omega)
    rwa [show ((m.toNat : Nat) : Int) = m by omega] at h
  have HO : Hid (overB s m = s * 9223372036854775808 + (if grow m s 3 = 2 then 9218868437227405312 else 9218868437227405311)) := rfl
  obtain ⟨m1, m2⟩ := hm
  have i1 : (s : Int) < 2 := by omega
  have i2 : m < 5 := by omega
  have hs' : (s : Int) = 0 ∨ (s : Int) = 1 := by omega
  have HS : Hid ((s : Int) = 0 ∨ (s : Int) = 1) := hs'
  clear hT hs'
  by_cases hg : grow m s 3 = 2
  · have hgb : (grow m s 3 == 2) = true := by simp [hg]
    have HG : Hid (grow m s 3 = 2) := hg
    clear hg
    go_enter Tryd.func74, Tryd.ntmps74
    go_wp2_with (go_at_call 50; refine (signed_any _ _ HS.out (by omega) _).mono ?_; rintro e w' ⟨rfl, rfl⟩)
    exact bodyPost_ret (v := .agg #[.int .u64 (s * 9223372036854775808 + 9218868437227405312), .int .u8 5, .bool false]) (by simp [results, Tryd.results74, go_sem]) rfl ⟨by rw [HO.out, if_pos HG.out], ((Below.refl _ _).alloc (Nat.le_refl _) _).alloc (by simp) _⟩
  · have hgb : (grow m s 3 == 2) = false := by simp [hg]
    have HG : Hid (¬ grow m s 3 = 2) := hg
    clear hg
    go_enter Tryd.func74, Tryd.ntmps74
    go_wp2_with (go_at_call 50; refine (signed_any _ _ HS.out (by omega) _).mono ?_; rintro e w' ⟨rfl, rfl⟩)
    exact bodyPost_ret (v := .agg #[.int .u64 (s * 9223372036854775808 + 9218868437227405311), .int .u8 5, .bool false]) (by simp [results, Tryd.results74, go_sem]) rfl ⟨by rw [HO.out, if_neg HG.out], ((Below.refl _ _).alloc (Nat.le_refl _) _).alloc (by simp) _⟩
end Go.Proofs.YtfbdgecanfmgiaaDoor
