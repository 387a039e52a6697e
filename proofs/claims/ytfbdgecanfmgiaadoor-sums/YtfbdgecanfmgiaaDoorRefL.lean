import Derived.Test.YtfbdgecanfmgiaaDoorRefJ
import Derived.Test.YtfbdgecanfmgiaaDoorSoft1
namespace Go.Proofs.YtfbdgecanfmgiaaDoor
open Go.RowKit

def negOf (x : Nat) : Bool := decide (sgn x = 1)
theorem sOf_neg {x : Nat} (h : x < 18446744073709551616) : sOf (negOf x) = sgn x := by
  have := sgn_lt h
  unfold sOf negOf
  by_cases h1 : sgn x = 1
  · rw [decide_eq_true h1, h1]; rfl
  · rw [decide_eq_false h1]
    have : sgn x = 0 := by omega
    rw [this]; rfl

theorem parts_facts {x : Nat} (hx : x < 18446744073709551616) : ∃ (S : Int) (E F : Nat), (∀ w, Calls Tryd.prog 55 #[.int .u64 (x : Int)] w fun e w' => e = .returned (.tuple #[.int .i64 S, .int .i64 (E : Nat), .int .i64 (F : Nat)]) ∧ w' = w) ∧ (S == 1) = negOf x ∧ E < 2048 ∧ F < 4503599627370496 ∧ (E = 0 → mant x = F ∧ pow x = -1074) ∧ (E ≠ 0 → mant x = F + 4503599627370496 ∧ pow x = (E : Int) - 1075) := by
  refine ⟨(x : Int) / 9223372036854775808, x / 4503599627370496 % 2048, x % 4503599627370496, fun w => ?_, ?_, by omega, by omega, fun h => ?_, fun h => ?_⟩
  · have := parts_any (x : Int) (by omega) (by omega) w
    rw [show ((x / 4503599627370496 % 2048 : Nat) : Int) = (x : Int) / 4503599627370496 % 2048 by omega, show ((x % 4503599627370496 : Nat) : Int) = (x : Int) % 4503599627370496 by omega]
    exact this
  · unfold negOf sgn
    by_cases h1 : x / 9223372036854775808 = 1
    · rw [decide_eq_true h1, beq_iff_eq]; omega
    · rw [decide_eq_false h1, beq_eq_false_iff_ne]; omega
  · exact ⟨by unfold mant; rw [if_pos h], by unfold pow; rw [if_pos h]⟩
  · exact ⟨by unfold mant; rw [if_neg h], by unfold pow; rw [if_neg h]⟩
/-- Stores into a block whose head is a Bool leave a row of ints as it is. -/
theorem IsRow.set {w : World} {v : Value} {l : List Nat} {g : Nat} {b : Bool} (h : IsRow w v l) (hg : w.cell? ⟨g, 0, none⟩ = some (.bool b)) (j : Nat) (u : Value) : IsRow (w.setCell ⟨g, j, none⟩ u) v l := by
  refine ⟨h.1, ?_⟩
  rcases h.2 with h' | ⟨g', cap, rfl, h2, h3, hl, hc⟩
  · exact .inl h'
  · refine .inr ⟨g', cap, rfl, h2, h3, by simpa using hl, fun k hk => ?_⟩
    have hne : g' ≠ g := by
      intro e
      subst e
      have := hc 0 (by omega)
      rw [hg] at this
      cases this
    rw [World.cell?_of_block (w := w) (heap_setCell_other w ⟨g, j, none⟩ g' u hne)]
    exact hc k hk
theorem IsNat.set {w : World} {v : Value} {n g : Nat} {b : Bool} (h : IsNat w v n) (hg : w.cell? ⟨g, 0, none⟩ = some (.bool b)) (j : Nat) (u : Value) : IsNat (w.setCell ⟨g, j, none⟩ u) v n := by
  obtain ⟨l, h1, h2⟩ := h
  exact ⟨l, h1.set hg j u, h2⟩
theorem set_num {w : World} {v : Value} {n g : Nat} {b b' : Bool} {u u' : Value} (h : IsNat w v n) (hg : w.cell? ⟨g, 0, none⟩ = some (.bool b)) : IsNat (((w.setCell ⟨g, 0, none⟩ (.bool b')).setCell ⟨g, 1, none⟩ u).setCell ⟨g, 2, none⟩ u') v n := by
  have e1 : (w.setCell ⟨g, 0, none⟩ (.bool b')).cell? ⟨g, 0, none⟩ = some (.bool b') := World.cell?_setCell_same _ _ _ hg
  have e2 : ((w.setCell ⟨g, 0, none⟩ (.bool b')).setCell ⟨g, 1, none⟩ u).cell? ⟨g, 0, none⟩ = some (.bool b') := by rw [World.cell?_setCell_other _ _ _ _ (by simp)]; exact e1
  exact ((h.set hg 0 _).set e1 1 _).set e2 2 _
set_option maxHeartbeats 1000000 in
theorem exact_ref (x : Nat) (hx : x < 18446744073709551616) (w : World) :
    Calls Tryd.prog 39 #[.int .u64 (x : Nat)] w fun e w' => ∃ v, e = .returned (.agg #[.bool (negOf x), v, .int .i64 (pow x)]) ∧ IsNat w' v (mant x) ∧ Below w.heap.size w w' := by
  obtain ⟨S, E, F, hP, hS, hE, hF, h0, h1⟩ := parts_facts hx
  have HP : Hid (∀ w, Calls Tryd.prog 55 #[.int .u64 (x : Int)] w fun e w' => e = .returned (.tuple #[.int .i64 S, .int .i64 (E : Nat), .int .i64 (F : Nat)]) ∧ w' = w) := hP
  have HS : Hid ((S == 1) = negOf x) := hS
  have H0 : Hid (E = 0 → mant x = F ∧ pow x = -1074) := h0
  have H1 : Hid (E ≠ 0 → mant x = F + 4503599627370496 ∧ pow x = (E : Int) - 1075) := h1
  clear hP hS h0 h1
  by_cases h : E = 0
  · subst h
    go_enter Tryd.func39, Tryd.ntmps39
    go_wp2_with fail
    refine (HP.out _).mono ?_
    rintro e w1 ⟨rfl, rfl⟩
    go_wp2_with fail
    refine (nat_any F (by omega) _).mono ?_
    rintro e w2 ⟨v, rfl, hn, hb⟩
    have d0 : w2.cell? ⟨w.heap.size, 0, none⟩ = some (.bool false) := (hb.cell (p := ⟨w.heap.size, 0, none⟩) (by simp)).trans (by go_simp)
    have d1 : w2.cell? ⟨w.heap.size, 1, none⟩ = some (.slice none 0 0) := (hb.cell (p := ⟨w.heap.size, 1, none⟩) (by simp)).trans (by go_simp)
    have d2 : w2.cell? ⟨w.heap.size, 2, none⟩ = some (.int .i64 0) := (hb.cell (p := ⟨w.heap.size, 2, none⟩) (by simp)).trans (by go_simp)
    have f0 : w2.frozen? ⟨w.heap.size, 0, none⟩ = false := (hb.frozen (p := ⟨w.heap.size, 0, none⟩) (by simp)).trans (by go_simp)
    have f1 : w2.frozen? ⟨w.heap.size, 1, none⟩ = false := (hb.frozen (p := ⟨w.heap.size, 1, none⟩) (by simp)).trans (by go_simp)
    have f2 : w2.frozen? ⟨w.heap.size, 2, none⟩ = false := (hb.frozen (p := ⟨w.heap.size, 2, none⟩) (by simp)).trans (by go_simp)
    have HB : Hid (Below w.heap.size w w2) := ((Below.refl _ _).alloc (Nat.le_refl _) _).trans (hb.mono (by simp))
    obtain ⟨a, len, cap, gv, rfl, -, -, -⟩ := hn.slice
    have HN : Hid (IsNat w2 (.slice a len cap) F) := hn
    have HD0 : Hid (w2.cell? ⟨w.heap.size, 0, none⟩ = some (.bool false)) := d0
    clear hn hb
    go_wp2_with fail
    refine bodyPost_ret (v := .agg #[.bool (S == 1), .slice a len cap, .int .i64 (-1074)]) (by simp [results, Tryd.results39, go_sem, d0, d1, d2]) rfl ⟨_, by rw [HS.out, (H0.out (by trivial)).2], ?_, ((HB.out.setCell (Nat.le_refl _) _).setCell (Nat.le_refl _) _).setCell (Nat.le_refl _) _⟩
    rw [(H0.out (by trivial)).1]
    exact set_num HN.out HD0.out
  · have hEb : ((E : Int) == 0) = false := by rw [beq_eq_false_iff_ne]; omega
    have hw1 : wrap64 ((F : Int) + 4503599627370496) = ((F + 4503599627370496 : Nat) : Int) := by rw [show (F : Int) + 4503599627370496 = ((F + 4503599627370496 : Nat) : Int) by omega]; exact wrap64_small _ (by omega) (by omega)
    have hw2 : wrap64 ((E : Int) - 1075) = (E : Int) - 1075 := by unfold wrap64; omega
    go_enter Tryd.func39, Tryd.ntmps39
    go_wp2_with fail
    refine (HP.out _).mono ?_
    rintro e w1 ⟨rfl, rfl⟩
    go_wp2_with fail
    refine (nat_any (F + 4503599627370496) (by omega) _).mono ?_
    rintro e w2 ⟨v, rfl, hn, hb⟩
    have d0 : w2.cell? ⟨w.heap.size, 0, none⟩ = some (.bool false) := (hb.cell (p := ⟨w.heap.size, 0, none⟩) (by simp)).trans (by go_simp)
    have d1 : w2.cell? ⟨w.heap.size, 1, none⟩ = some (.slice none 0 0) := (hb.cell (p := ⟨w.heap.size, 1, none⟩) (by simp)).trans (by go_simp)
    have d2 : w2.cell? ⟨w.heap.size, 2, none⟩ = some (.int .i64 0) := (hb.cell (p := ⟨w.heap.size, 2, none⟩) (by simp)).trans (by go_simp)
    have f0 : w2.frozen? ⟨w.heap.size, 0, none⟩ = false := (hb.frozen (p := ⟨w.heap.size, 0, none⟩) (by simp)).trans (by go_simp)
    have f1 : w2.frozen? ⟨w.heap.size, 1, none⟩ = false := (hb.frozen (p := ⟨w.heap.size, 1, none⟩) (by simp)).trans (by go_simp)
    have f2 : w2.frozen? ⟨w.heap.size, 2, none⟩ = false := (hb.frozen (p := ⟨w.heap.size, 2, none⟩) (by simp)).trans (by go_simp)
    have HB : Hid (Below w.heap.size w w2) := ((Below.refl _ _).alloc (Nat.le_refl _) _).trans (hb.mono (by simp))
    obtain ⟨a, len, cap, gv, rfl, -, -, -⟩ := hn.slice
    have HN : Hid (IsNat w2 (.slice a len cap) (F + 4503599627370496)) := hn
    have HD0 : Hid (w2.cell? ⟨w.heap.size, 0, none⟩ = some (.bool false)) := d0
    clear hn hb
    go_wp2_with fail
    refine bodyPost_ret (v := .agg #[.bool (S == 1), .slice a len cap, .int .i64 ((E : Int) - 1075)]) (by simp [results, Tryd.results39, go_sem, d0, d1, d2]) rfl ⟨_, by rw [HS.out, (H1.out h).2], ?_, ((HB.out.setCell (Nat.le_refl _) _).setCell (Nat.le_refl _) _).setCell (Nat.le_refl _) _⟩
    rw [(H1.out h).1]
    exact set_num HN.out HD0.out
end Go.Proofs.YtfbdgecanfmgiaaDoor
