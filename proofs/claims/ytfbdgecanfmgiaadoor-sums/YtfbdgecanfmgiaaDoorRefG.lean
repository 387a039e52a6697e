import Derived.Test.YtfbdgecanfmgiaaDoorRefF
namespace Go.Proofs.YtfbdgecanfmgiaaDoor
open Go.RowKit

theorem owns_later {w w' : World} {base : Nat} {e : TypeId} {size : Nat} {v : Value} {n : Nat} {xs : List Value} (h : w.ownsRow base e size v n xs) (hb : Below w.heap.size w w') : w'.ownsRow base e size v n xs := by
  refine ⟨h.1, ?_⟩
  rcases h.2 with hn | ⟨g, cap, cur, hv, hbg, hg, rest⟩
  · exact .inl hn
  · have hl : g < w.heap.size := (h.lt g (by rw [hv]; rfl)).2
    exact .inr ⟨g, cap, cur, hv, hbg, (hb.block g hl).trans hg, rest⟩

/-- A power of two below the base, as the walk has it. -/
theorem shl_fact (s : Nat) (h : s < 25) : ∃ P : Nat, wrap64 ((2 : Int) ^ s) = (P : Int) ∧ Hid (P = 2 ^ s) ∧ 0 < P ∧ P ≤ 16777216 := by
  have h1 : 2 ^ s ≤ 2 ^ 24 := Nat.pow_le_pow_right (by decide) (by omega)
  have h2 := Nat.two_pow_pos s
  refine ⟨2 ^ s, ?_, rfl, h2, h1⟩
  have e : (2 : Int) ^ s = ((2 ^ s : Nat) : Int) := by rw [Int.natCast_pow]; rfl
  rw [e]
  exact wrap64_small _ (by omega) (by omega)
theorem nd_mul_le (a b : Nat) : nd (a * b) ≤ nd a + nd b := by
  apply nd_of_lt
  rw [Nat.mul_add, Nat.pow_add]
  exact Nat.mul_lt_mul'' (nd_lt a) (nd_lt b)
theorem nd_shift {m n : Nat} (h : m ≠ 0) : nd (2 ^ (24 * n) * m) = n + nd m := by
  have h1 := nd_lt m
  have h2 := nd_le h
  have h3 := nd_pos h
  apply nd_eq
  · rw [Nat.mul_add, Nat.pow_add]
    exact Nat.mul_lt_mul_of_pos_left h1 (Nat.two_pow_pos _)
  · intro _
    rw [show 24 * (n + nd m - 1) = 24 * n + 24 * (nd m - 1) by omega, Nat.pow_add]
    exact Nat.mul_le_mul_left _ h2
theorem split24 (k : Nat) : 2 ^ (k % 24) * 2 ^ (24 * (k / 24)) = 2 ^ k := by rw [← Nat.pow_add]; congr 1; omega
theorem ints_app (l m : List Nat) : ints (l ++ m) = ints l ++ ints m := by simp [ints]
theorem ints_cells {l : List Nat} {w : World} {g : Nat} (h : ∀ j, j < l.length → w.cell? ⟨g, j, none⟩ = some (.int .i64 (dig l j : Nat))) : ∀ j u, (ints l)[j]? = some u → w.cell? ((⟨g, 0, none⟩ : Addr).add j) = some u := by
  intro j u hj
  have hl : j < l.length := by
    have := (List.getElem?_eq_some_iff.1 hj).1
    rw [ints_length] at this
    exact this
  rw [ints_at hl] at hj
  cases hj
  have := h j hl
  rw [Addr.add_lit, Nat.zero_add]
  exact this
theorem ints_one (l : List Nat) : ∀ u ∈ ints l, u.oneCell' = true := by
  intro u hu
  unfold ints at hu
  obtain ⟨d, _, rfl⟩ := List.mem_map.1 hu
  rfl

set_option maxHeartbeats 1000000 in
theorem up_any (a k : Nat) (va : Value) (w : World) (ha : IsNat w va a) (sa : nd a ≤ 10000) (hk : k ≤ 100000) :
    Calls Tryd.prog 60 #[va, .int .i64 (k : Nat)] w fun e w' => ∃ v, e = .returned v ∧ IsNat w' v (a * 2 ^ k) ∧ Below w.heap.size w w' := by
  have ha' := ha
  obtain ⟨la, ra, ea, na⟩ := ha
  obtain ⟨A, capa, ga, rfl, _, _, hA, hgA, cA⟩ := ra.open
  by_cases h0 : la.length = 0
  · have hz : a * 2 ^ k = 0 := by
      have := List.eq_nil_of_length_eq_zero h0
      subst this
      rw [← ea]
      simp [val]
    rw [h0, hz]
    clear ra ea na hA hgA cA sa hk ha'
    go_enter Tryd.func60, Tryd.ntmps60
    go_wp2
    go_ret
    exact ⟨_, rfl, IsNat.nil _, Below.refl _ _⟩
  · have h0b : ((la.length : Int) == 0) = false := by rw [beq_eq_false_iff_ne]; omega
    have HA : Hid (IsNat w (.slice A la.length capa) a) := ha'
    have HNE : Hid (a ≠ 0) := fun h => by rw [h, nd_zero] at na; omega
    obtain ⟨i0, hi, hz0, hz1, hz2⟩ := info_parts infoInt
    clear ra ea na hA hgA cA ha'
    go_enter Tryd.func60, Tryd.ntmps60
    go_wp2_with (at_make; refine wpList_make_full _ rfl _ _ 66 rfl w.heap.size 3 i0 (.int .i64 0) 1 Tryd.underlying66 hi hz0 hz1 _ _ _ _ (k / 24) rfl rfl ?m1 ?m2 ?m3 ?m4 ?m5 ?_)
    case m1 => omega
    case m2 => omega
    case m3 => rw [hz2]; omega
    case m4 => unfold maxLen; omega
    case m5 => exact Nat.le_refl _
    intro w1 hown1 hg1
    have HF : Hid (Filled w w1 w.heap.size (k / 24) (List.replicate (k / 24) 0)) := Filled.made hown1 hg1
    clear hown1 hg1
    obtain ⟨P, hP, HPe, hP0, hP1⟩ := shl_fact (k % 24) (by omega)
    go_wp2_with fail
    refine (nat_any P (by omega) _).mono ?_
    rintro e w2 ⟨vp, rfl, hnp, hb2⟩
    have HP : Hid (IsNat w2 vp P) := hnp
    have HB2 : Hid (Below w1.heap.size w1 w2) := hb2
    have HW2 : Hid (Below w.heap.size w w2) := HF.out.below.trans (hb2.mono HF.out.below.size)
    clear hnp hb2
    go_wp2_with fail
    refine (times_any a P _ _ _ (HA.out.later HW2.out) HP.out (by omega) (by have := nd_of_lt (n := P) (k := 2) (by omega); omega)).mono ?_
    rintro e w3 ⟨vd, rfl, hnd, hb3⟩
    have HD : Hid (IsNat w3 vd (a * P)) := hnd
    have HW3 : Hid (Below w.heap.size w w3) := HW2.out.trans (hb3.mono HW2.out.size)
    have HO : Hid (w3.ownsRow w.heap.size 3 1 (.slice (some ⟨w.heap.size, 0, none⟩) (k / 24) (k / 24)) (k / 24) (ints (List.replicate (k / 24) 0))) := owns_later (owns_later HF.out.own HB2.out) hb3
    have hsz := HF.out.below.size
    have hsz2 := HB2.out.size
    have hsz3 := hb3.size
    have hlow := (HF.out.own.lt _ rfl).2
    clear hnd hb3
    obtain ⟨ld, rd, ed, ndd⟩ := HD.out
    have hap : a * P ≠ 0 := Nat.mul_ne_zero HNE.out (by omega)
    have hlp := nd_pos hap
    have hdb : ld.length ≤ 20000 := by
      rw [ndd]
      have h1 := nd_mul_le a P
      have h2 := nd_of_lt (n := P) (k := 2) (by omega)
      omega
    obtain ⟨Ad, capd, gd, rfl, _, _, hAd, hgd, cd⟩ := rd.open
    obtain rfl := hAd (by omega)
    have HC : Hid (∀ j, j < ld.length → w3.cell? ⟨gd, j, none⟩ = some (.int .i64 (dig ld j : Nat))) := cd
    have HR : Hid (Digits ld ∧ val ld = a * P ∧ ld.length = nd (a * P)) := ⟨rd.1, ed, ndd⟩
    clear rd ed ndd hAd hgd cd hlp hap
    go_wp2_with (at_builtin; refine wpList_append_own _ rfl _ _ 66 rfl w.heap.size 3 i0 (.int .i64 0) 1 8 Tryd.underlying66 hi hz0 hz1 hz2 rfl (by decide) _ _ _ rfl HO.out ⟨gd, 0, none⟩ ld.length capd (ints ld) rfl (by rw [ints_length, Nat.mul_one]) (ints_cells HC.out) (ints_one ld) ?d3 ?d4 ?d5 ?_)
    case d3 => unfold maxLen; omega
    case d4 => omega
    case d5 => omega
    intro v' w4 hown4 hg4 _
    have HE : Hid (IsNat w4 v' (a * 2 ^ k) ∧ Below w.heap.size w w4) := by
      have h1 := HR.out.2.1
      have hle : (List.replicate (k / 24) 0 ++ ld).length = k / 24 + ld.length := by rw [List.length_append, List.length_replicate]
      have hv : val (List.replicate (k / 24) 0 ++ ld) = a * 2 ^ k := by
        rw [val_app, val_zeros, List.length_replicate, h1, HPe.out, Nat.zero_add, Nat.mul_comm, Nat.mul_assoc, split24]
      refine ⟨⟨List.replicate (k / 24) 0 ++ ld, IsRow.own (base := w.heap.size) (e := 3) ((zeros_digits _).app HR.out.1) ?_, hv, ?_⟩, HW3.out.grown hg4 (by omega) (fun j hj => (HO.out.lt j hj).1)⟩
      · rw [hle, ints_app]; exact hown4
      · rw [hle, ← hv, val_app, val_zeros, List.length_replicate, Nat.zero_add, nd_shift (by rw [h1]; exact Nat.mul_ne_zero HNE.out (by omega)), h1, HR.out.2.2]
    clear hown4 hg4
    go_wp2_with fail
    go_ret
    exact ⟨_, rfl, HE.out.1, HE.out.2⟩
end Go.Proofs.YtfbdgecanfmgiaaDoor
