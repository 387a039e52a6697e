import Derived.Test.YtcjihaafohnbeaaDoorAr3
import Derived.Test.YtcjihaafohnbeaaDoorRefRt
import Derived.Test.YtcjihaafohnbeaaDoorDo9
import Derived.Test.YtcjihaafohnbeaaDoorRefX
namespace Go.Proofs.YtcjihaafohnbeaaDoor
open Go.RowKit

theorem five_const {B F : Int → Int} (b f : Int) (hf : f % 2 = 0) (h : ∀ m, B m = b ∧ F m = f) : Five5 B F := by
  have e1 : B = fun _ => b := funext fun m => (h m).1
  have e2 : F = fun _ => f := funext fun m => (h m).2
  rw [e1, e2]
  exact same_five hf
theorem five_round {B F : Int → Int} {s : Int} (hs : s = 0 ∨ s = 1) (D : Nat) (p : Int) (h : ∀ m, B m = roundB s D p m ∧ F m = roundF s D p m) : Five5 B F := by
  have e1 : B = roundB s D p := funext fun m => (h m).1
  have e2 : F = roundF s D p := funext fun m => (h m).2
  rw [e1, e2]
  obtain ⟨t, R, hn⟩ := near_round s D p
  exact .inr ⟨near_num hs hn (by decide), fair_near hs hn⟩
theorem round_lt {s : Int} (hs : s = 0 ∨ s = 1) (D : Nat) (p m : Int) : 0 ≤ roundB s D p m ∧ roundB s D p m < 18446744073709551616 := by
  have := roundB_range (m := m) hs D p
  omega
theorem div_five {x y : Nat} : Five5 (divB x y) (divF x y) := by
  have hs := xs_lt x y
  by_cases h1 : (kind x = 3 ∧ kind y = 3) ∨ (kind x = 0 ∧ kind y = 0)
  · exact five_const 9221120237041090560 16 (by decide) fun m => by unfold divB divF; rw [if_pos h1, if_pos h1]; exact ⟨rfl, rfl⟩
  by_cases h2 : kind x = 3
  · exact five_const _ 0 (by decide) fun m => by unfold divB divF; rw [if_neg h1, if_neg h1, if_pos h2, if_pos h2]; exact ⟨rfl, rfl⟩
  by_cases h3 : kind y = 3 ∨ kind x = 0
  · exact five_const _ 0 (by decide) fun m => by unfold divB divF; rw [if_neg h1, if_neg h1, if_neg h2, if_neg h2, if_pos h3, if_pos h3]; exact ⟨rfl, rfl⟩
  by_cases h4 : kind y = 0
  · exact five_const _ 8 (by decide) fun m => by unfold divB divF; rw [if_neg h1, if_neg h1, if_neg h2, if_neg h2, if_neg h3, if_neg h3, if_pos h4, if_pos h4]; exact ⟨rfl, rfl⟩
  · exact five_round (s := (xs x y : Nat)) (by omega) _ _ fun m => by unfold divB divF; rw [if_neg h1, if_neg h1, if_neg h2, if_neg h2, if_neg h3, if_neg h3, if_neg h4, if_neg h4]; exact ⟨rfl, rfl⟩
theorem div_lt {x y : Nat} (m : Int) : (0 ≤ divB x y m ∧ divB x y m < 18446744073709551616) ∧ 0 ≤ divF x y m ∧ divF x y m < 256 := by
  have hs := xs_lt x y
  have h1 := round_lt (s := (xs x y : Nat)) (by omega) (quD (mant x) (mant y)) (pow x - 120 - pow y - 1) m
  have h2 := roundF_lt (xs x y) (quD (mant x) (mant y)) (pow x - 120 - pow y - 1) m
  unfold divB divF
  constructor
  · (repeat' split) <;> omega
  · (repeat' split) <;> omega
theorem sq_five {x : Nat} : Five5 (sqB x) (sqF x) := by
  by_cases h1 : kind x = 0
  · exact five_const ((x : Int)) 0 (by decide) fun m => by unfold sqB sqF; rw [if_pos h1, if_pos h1]; exact ⟨rfl, rfl⟩
  by_cases h2 : sgn x = 1
  · exact five_const 9221120237041090560 16 (by decide) fun m => by unfold sqB sqF; rw [if_neg h1, if_neg h1, if_pos h2, if_pos h2]; exact ⟨rfl, rfl⟩
  by_cases h3 : kind x = 3
  · exact five_const ((x : Int)) 0 (by decide) fun m => by unfold sqB sqF; rw [if_neg h1, if_neg h1, if_neg h2, if_neg h2, if_pos h3, if_pos h3]; exact ⟨rfl, rfl⟩
  · exact five_round (s := 0) (.inl rfl) _ _ fun m => by unfold sqB sqF; rw [if_neg h1, if_neg h1, if_neg h2, if_neg h2, if_neg h3, if_neg h3]; exact ⟨rfl, rfl⟩
theorem sq_lt {x : Nat} (hx : x < 18446744073709551616) (m : Int) : (0 ≤ sqB x m ∧ sqB x m < 18446744073709551616) ∧ 0 ≤ sqF x m ∧ sqF x m < 256 := by
  have h1 := round_lt (s := 0) (.inl rfl) (sqD (mant x) (pow x)) (sqP (pow x)) m
  have h2 := roundF_lt 0 (sqD (mant x) (pow x)) (sqP (pow x)) m
  have hk : kind x = 0 → (x : Int) = (sgn x : Nat) * 9223372036854775808 := kind0_bits hx
  have hs := sgn_lt hx
  unfold sqB sqF
  constructor
  · (repeat' split) <;> omega
  · (repeat' split) <;> omega
theorem rq_five {x : Nat} : Five5 (rqB x) (rqF x) := by
  by_cases h1 : kind x = 0
  · exact five_const ((x : Int) + 9218868437227405312) 8 (by decide) fun m => by unfold rqB rqF; rw [if_pos h1, if_pos h1]; exact ⟨rfl, rfl⟩
  by_cases h2 : sgn x = 1
  · exact five_const 9221120237041090560 16 (by decide) fun m => by unfold rqB rqF; rw [if_neg h1, if_neg h1, if_pos h2, if_pos h2]; exact ⟨rfl, rfl⟩
  by_cases h3 : kind x = 3
  · exact five_const (0) 0 (by decide) fun m => by unfold rqB rqF; rw [if_neg h1, if_neg h1, if_neg h2, if_neg h2, if_pos h3, if_pos h3]; exact ⟨rfl, rfl⟩
  · exact five_round (s := 0) (.inl rfl) _ _ fun m => by unfold rqB rqF; rw [if_neg h1, if_neg h1, if_neg h2, if_neg h2, if_neg h3, if_neg h3]; exact ⟨rfl, rfl⟩
theorem rq_lt {x : Nat} (hx : x < 18446744073709551616) (m : Int) : (0 ≤ rqB x m ∧ rqB x m < 18446744073709551616) ∧ 0 ≤ rqF x m ∧ rqF x m < 256 := by
  have h1 := round_lt (s := 0) (.inl rfl) (rqD (mant x) (pow x)) (rqP (mant x) (pow x)) m
  have h2 := roundF_lt 0 (rqD (mant x) (pow x)) (rqP (mant x) (pow x)) m
  have hk : kind x = 0 → (x : Int) = (sgn x : Nat) * 9223372036854775808 := kind0_bits hx
  have hs := sgn_lt hx
  unfold rqB rqF
  constructor
  · (repeat' split) <;> omega
  · (repeat' split) <;> omega
theorem cb_five {x : Nat} (hx : x < 18446744073709551616) : Five5 (cbB x) (cbF x) := by
  have hs := sgn_lt hx
  by_cases h1 : kind x = 3 ∨ kind x = 0
  · exact five_const (x : Int) 0 (by decide) fun m => by unfold cbB cbF; rw [if_pos h1, if_pos h1]; exact ⟨rfl, rfl⟩
  · exact five_round (s := (sgn x : Nat)) (by omega) _ _ fun m => by unfold cbB cbF; rw [if_neg h1, if_neg h1]; exact ⟨rfl, rfl⟩
theorem cb_lt {x : Nat} (hx : x < 18446744073709551616) (m : Int) : (0 ≤ cbB x m ∧ cbB x m < 18446744073709551616) ∧ 0 ≤ cbF x m ∧ cbF x m < 256 := by
  have hs := sgn_lt hx
  have h1 := round_lt (s := (sgn x : Nat)) (by omega) (cbD (mant x) (pow x)) (cbP (pow x)) m
  have h2 := roundF_lt (sgn x) (cbD (mant x) (pow x)) (cbP (pow x)) m
  unfold cbB cbF
  constructor
  · (repeat' split) <;> omega
  · (repeat' split) <;> omega
theorem sd_five {x y : Nat} : Five5 (sdB x y) (sdF x y) := by
  by_cases h1 : kind x = 3 ∨ kind y = 3
  · exact five_const 9218868437227405312 0 (by decide) fun m => by unfold sdB sdF; rw [if_pos h1, if_pos h1]; exact ⟨rfl, rfl⟩
  by_cases h2 : kind x = 0 ∧ kind y = 0
  · exact five_const 0 0 (by decide) fun m => by unfold sdB sdF; rw [if_neg h1, if_neg h1, if_pos h2, if_pos h2]; exact ⟨rfl, rfl⟩
  · exact five_round (s := 0) (.inl rfl) _ _ fun m => by unfold sdB sdF; rw [if_neg h1, if_neg h1, if_neg h2, if_neg h2]; exact ⟨rfl, rfl⟩
theorem sd_lt {x y : Nat} (m : Int) : (0 ≤ sdB x y m ∧ sdB x y m < 18446744073709551616) ∧ 0 ≤ sdF x y m ∧ sdF x y m < 256 := by
  have h1 := round_lt (s := 0) (.inl rfl) (sqD (ssD x y) (ssP x y)) (sqP (ssP x y)) m
  have h2 := roundF_lt 0 (sqD (ssD x y) (ssP x y)) (sqP (ssP x y)) m
  unfold sdB sdF
  constructor
  · (repeat' split) <;> omega
  · (repeat' split) <;> omega
theorem rs_five {n s1 d1 s2 d2 : Nat} {p1 p2 : Int} (g1 : s1 < 2) (g2 : s2 < 2) : Five5 (rsB n s1 d1 p1 s2 d2 p2) (rsF n s1 d1 p1 s2 d2 p2) := by
  by_cases h : gsD n s1 d1 p1 s2 d2 p2 = 0
  · have hB : ∀ m, rsB n s1 d1 p1 s2 d2 p2 m = (gsS n s1 d1 p1 s2 d2 p2 m : Nat) * 9223372036854775808 ∧ rsF n s1 d1 p1 s2 d2 p2 m = 0 := fun m => by unfold rsB rsF; rw [if_pos h, if_pos h]; exact ⟨rfl, rfl⟩
    have hs : ∀ m, gsS n s1 d1 p1 s2 d2 p2 m < 2 := fun m => gsS_lt g1 g2
    refine .inr ⟨?_, fair_one 0 (fun m _ _ => ?_) (fun m _ _ => (hB m).2)⟩
    · rw [(hB 0).1]
      have := nan_mag (s := (gsS n s1 d1 p1 s2 d2 p2 0 : Nat)) (t := 0) (by have := hs 0; omega) (by decide) (by decide)
      rw [Int.add_zero] at this
      exact this
    · rw [(hB m).1]
      have := hs m
      unfold ordI
      split <;> omega
  · refine five_round (s := (gsS n s1 d1 p1 s2 d2 p2 0 : Nat)) (by have := gsS_lt (n := n) (d1 := d1) (d2 := d2) (p1 := p1) (p2 := p2) (m := 0) g1 g2; omega) (gsD n s1 d1 p1 s2 d2 p2) (gsP n s1 d1 p1 s2 d2 p2) fun m => ?_
    unfold rsB rsF
    rw [if_neg h, if_neg h, gsS_mode h m 0]
    exact ⟨rfl, rfl⟩
theorem rs_lt {n s1 d1 s2 d2 : Nat} {p1 p2 : Int} (g1 : s1 < 2) (g2 : s2 < 2) (m : Int) : (0 ≤ rsB n s1 d1 p1 s2 d2 p2 m ∧ rsB n s1 d1 p1 s2 d2 p2 m < 18446744073709551616) ∧ 0 ≤ rsF n s1 d1 p1 s2 d2 p2 m ∧ rsF n s1 d1 p1 s2 d2 p2 m < 256 := by
  have hs := gsS_lt (n := n) (d1 := d1) (d2 := d2) (p1 := p1) (p2 := p2) (m := m) g1 g2
  have h1 := round_lt (s := (gsS n s1 d1 p1 s2 d2 p2 m : Nat)) (by omega) (gsD n s1 d1 p1 s2 d2 p2) (gsP n s1 d1 p1 s2 d2 p2) m
  have h2 := roundF_lt (gsS n s1 d1 p1 s2 d2 p2 m) (gsD n s1 d1 p1 s2 d2 p2) (gsP n s1 d1 p1 s2 d2 p2) m
  unfold rsB rsF
  constructor
  · split <;> omega
  · split <;> omega

/-- The program's fma, where it is no NaN. -/
def fmP (x y : Nat) : Nat := if kind x = 3 ∨ kind y = 3 then xs x y * 9223372036854775808 + 9218868437227405312 else xs x y * 9223372036854775808
theorem fmP_lt (x y : Nat) : fmP x y < 18446744073709551616 := by have := xs_lt x y; unfold fmP; split <;> omega
def fmB (x y z : Nat) (m : Int) : Int :=
  if zti (kind x) (kind y) = true then 9221120237041090560
  else if (kind x = 3 ∨ kind y = 3) ∨ (kind x = 0 ∨ kind y = 0) then psB (fmP x y) z m
  else if kind z = 3 then z else if kind z = 0 then prodB x y m
  else rsB 256 (xs x y) (mant x * mant y) (pow x + pow y) (sgn z) (mant z) (pow z) m
def fmF (x y z : Nat) (m : Int) : Int :=
  if zti (kind x) (kind y) = true then 16
  else if (kind x = 3 ∨ kind y = 3) ∨ (kind x = 0 ∨ kind y = 0) then psF (fmP x y) z m
  else if kind z = 3 then 0 else if kind z = 0 then prodF x y m
  else rsF 256 (xs x y) (mant x * mant y) (pow x + pow y) (sgn z) (mant z) (pow z) m
theorem fm_cases (x y z : Nat) (hz : z < 18446744073709551616) :
    (∀ m, fmB x y z m = 9221120237041090560 ∧ fmF x y z m = 16) ∨ (∀ m, fmB x y z m = sumB (fmP x y) z m ∧ fmF x y z m = sumF (fmP x y) z m) ∨ (∀ m, fmB x y z m = z ∧ fmF x y z m = 0) ∨ (∀ m, fmB x y z m = prodB x y m ∧ fmF x y z m = prodF x y m) ∨
    (∀ m, fmB x y z m = rsB 256 (xs x y) (mant x * mant y) (pow x + pow y) (sgn z) (mant z) (pow z) m ∧ fmF x y z m = rsF 256 (xs x y) (mant x * mant y) (pow x + pow y) (sgn z) (mant z) (pow z) m) := by
  have _ := hz
  by_cases h1 : zti (kind x) (kind y) = true
  · exact .inl fun m => by unfold fmB fmF; rw [if_pos h1, if_pos h1]; exact ⟨rfl, rfl⟩
  by_cases h2 : (kind x = 3 ∨ kind y = 3) ∨ (kind x = 0 ∨ kind y = 0)
  · exact .inr (.inl fun m => by unfold fmB fmF; rw [if_neg h1, if_neg h1, if_pos h2, if_pos h2]; exact ps_sum _ _ _)
  by_cases h3 : kind z = 3
  · exact .inr (.inr (.inl fun m => by unfold fmB fmF; rw [if_neg h1, if_neg h1, if_neg h2, if_neg h2, if_pos h3, if_pos h3]; exact ⟨rfl, rfl⟩))
  by_cases h4 : kind z = 0
  · exact .inr (.inr (.inr (.inl fun m => by unfold fmB fmF; rw [if_neg h1, if_neg h1, if_neg h2, if_neg h2, if_neg h3, if_neg h3, if_pos h4, if_pos h4]; exact ⟨rfl, rfl⟩)))
  · exact .inr (.inr (.inr (.inr fun m => by unfold fmB fmF; rw [if_neg h1, if_neg h1, if_neg h2, if_neg h2, if_neg h3, if_neg h3, if_neg h4, if_neg h4]; exact ⟨rfl, rfl⟩)))
theorem five_eq {B F B' F' : Int → Int} (h5 : Five5 B' F') (h : ∀ m, B m = B' m ∧ F m = F' m) : Five5 B F := by
  have e1 : B = B' := funext fun m => (h m).1
  have e2 : F = F' := funext fun m => (h m).2
  rw [e1, e2]
  exact h5
theorem fm_five {x y z : Nat} (hz : z < 18446744073709551616) : Five5 (fmB x y z) (fmF x y z) := by
  rcases fm_cases x y z hz with h | h | h | h | h
  · exact plain_five h
  · exact five_eq (sum_five (fmP_lt x y) hz) h
  · exact five_const z 0 (by decide) h
  · exact five_eq prod_five h
  · exact five_eq (rs_five (xs_lt x y) (sgn_lt hz)) h
theorem fm_lt {x y z : Nat} (hz : z < 18446744073709551616) (m : Int) : (0 ≤ fmB x y z m ∧ fmB x y z m < 18446744073709551616) ∧ 0 ≤ fmF x y z m ∧ fmF x y z m < 256 := by
  rcases fm_cases x y z hz with h | h | h | h | h
  · rw [(h m).1, (h m).2]; decide
  · rw [(h m).1, (h m).2]; exact ⟨sumB_lt (fmP_lt x y) hz, sumF_lt _ _ m⟩
  · rw [(h m).1, (h m).2]; omega
  · rw [(h m).1, (h m).2]; exact ⟨prodB_lt, prodF_lt _ _ m⟩
  · rw [(h m).1, (h m).2]; exact rs_lt (xs_lt x y) (sgn_lt hz) m
theorem zti_of {a b : Int} (h : zti a b = false) : ¬ ((a = 3 ∨ b = 3) ∧ (a = 0 ∨ b = 0)) := fun g => by
  simp only [zti, Bool.or_eq_false_iff, Bool.and_eq_false_iff, beq_eq_false_iff_ne, ne_eq] at h
  omega
end Go.Proofs.YtcjihaafohnbeaaDoor
