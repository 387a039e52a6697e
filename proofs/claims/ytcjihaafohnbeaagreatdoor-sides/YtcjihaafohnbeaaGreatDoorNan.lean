import Derived.Test.YtcjihaafohnbeaaGreatDoorLaw1
import Derived.Deep.Light
namespace Go.Proofs.YtcjihaafohnbeaaGreatDoor
open Go.RowKit

def isN (x : Int) : Bool := decide (4 ≤ kind x)
def isS (x : Int) : Bool := decide (kind x = 5)
def nanFlag (l : List Int) : Int := if l.any isS then 16 else 0
def nanBits (l : List Int) : Int := match l.find? isN with | some x => bits .or .u64 x 2251799813685248 | none => 0
theorem nanFlag_snoc (l : List Int) (x : Int) : nanFlag (l ++ [x]) = if kind x = 5 then 16 else nanFlag l := by
  unfold nanFlag; rw [List.any_append]; by_cases h : kind x = 5 <;> simp [isS, h]
theorem nanBits_snoc (l : List Int) (x : Int) : nanBits (l ++ [x]) = if l.any isN = false ∧ 4 ≤ kind x then bits .or .u64 x 2251799813685248 else nanBits l := by
  unfold nanBits; rw [List.find?_append]
  by_cases h : l.any isN = false
  · have : l.find? isN = none := by rw [List.find?_eq_none]; intro y hy; have := List.any_eq_false.1 h y hy; simpa using this
    by_cases h2 : 4 ≤ kind x <;> simp [this, h, isN, h2]
  · cases hf : l.find? isN with
    | none => exfalso; apply h; rw [List.find?_eq_none] at hf; rw [List.any_eq_false]; exact hf
    | some y => simp [h]
theorem anyN_snoc (l : List Int) (x : Int) : (l ++ [x]).any isN = (l.any isN || decide (4 ≤ kind x)) := by
  rw [List.any_append]; simp [isN]
theorem nanFlag_range (l : List Int) : 0 ≤ nanFlag l ∧ nanFlag l ≤ 16 := by unfold nanFlag; split <;> omega

theorem take_snoc (l : List Int) (k : Nat) (h : k < l.length) : l.take (k + 1) = l.take k ++ [l.getD k 0] := by
  rw [List.take_succ_eq_append_getElem h]; simp [List.getD_eq_getElem?_getD, h]

set_option maxHeartbeats 1000000 in
theorem firstNaN_any (b o len cap : Nat) (l : List Int) (hl : l.length = len) (hcap : len ≤ cap) (hm : cap ≤ 1000) (w : World) (hb : b < w.heap.size)
    (hc : ∀ i, i < len → w.cell? ⟨b, o + i, none⟩ = some (.int .u64 (l.getD i 0)) ∧ 0 ≤ l.getD i 0 ∧ l.getD i 0 < 18446744073709551616) :
    Calls Tryz.prog 18 #[.slice (some ⟨b, o, none⟩) len cap] w fun e w' =>
      e = .returned (.tuple #[.agg #[.int .u64 (nanBits l), .int .u8 (nanFlag l), .bool false], .bool (l.any isN)]) ∧ Below w.heap.size w w' := by
  go_enter Tryz.func18, Tryz.ntmps18
  go_wp2
  go_loopw [5, 7, 8, 11] (fun fd _ _ i wr => ∃ k : Nat, k ≤ len ∧ i = .int .i64 k ∧ fd = .bool ((l.take k).any isN) ∧
      wr = (w.alloc (.cells #[.int .u64 0, .int .u8 0, .bool false] 36)).alloc (.cells #[.int .u64 (nanBits (l.take k)), .int .u8 (nanFlag (l.take k)), .bool false] 36)) (fun _ _ _ i _ => len - (intOf i).toNat)
  case atStart => exact ⟨0, Nat.zero_le _, rfl, rfl, rfl⟩
  case round =>
    obtain ⟨k, hk, rfl, rfl, rfl⟩ := hrel
    by_cases hlt : k < len
    · obtain ⟨hx, hx1, hx2⟩ := hc k hlt
      have HA : Hid (l.take (k + 1) = l.take k ++ [l.getD k 0]) := take_snoc l k (by omega)
      generalize l.getD k 0 = X at *
      have hx' : ∀ A B : Obj, ((w.alloc A).alloc B).cell? ⟨b, o + k, none⟩ = some (.int .u64 X) := fun A B => by
        rw [World.cell?_alloc_lt _ _ _ (by simp; omega), World.cell?_alloc_lt _ _ _ hb]; exact hx
      have HS : Hid (nanFlag (l.take (k + 1)) = (if kind X = 5 then 16 else nanFlag (l.take k)) ∧ nanBits (l.take (k + 1)) = (if (l.take k).any isN = false ∧ 4 ≤ kind X then bits .or .u64 X 2251799813685248 else nanBits (l.take k)) ∧ (l.take (k + 1)).any isN = ((l.take k).any isN || decide (4 ≤ kind X))) := by
        rw [HA.out]; exact ⟨nanFlag_snoc _ _, nanBits_snoc _ _, anyN_snoc _ _⟩
      clear hc hx HA
      obtain ⟨hk0, hk5⟩ := kind_range X
      generalize hG : (l.take k).any isN = G at *
      clear hG
      cases G
      all_goals
        go_wp2_with (go_at_call 38; refine (kindOf_any X hx1 hx2 _).mono ?_; rintro e w' ⟨rfl, rfl⟩)
        all_goals
          go_roundw
          case rel =>
            go_light
            simp only [beq_iff_eq, beq_eq_false_iff_ne, ne_eq] at *
            refine ⟨k + 1, by omega, by go_num, ?_, ?_⟩
            · rw [HS.out.2.2]; first | rfl | (congr 1; simp; done) | (congr 1; simp; omega)
            · rw [HS.out.2.1, HS.out.1]
              clear HS hx'
              first | rfl | ((repeat' split) <;> first | rfl | (exfalso; omega) | (exfalso; simp only [true_and, Bool.true_eq_false, false_and] at *; done) | (exfalso; simp only [true_and] at *; omega))
          case measure => simp [intOf]; omega
    · have HA : Hid (l.take k = l) := List.take_of_length_le (by omega)
      clear hc
      go_wp2
      refine bodyPost_ret (v := .tuple #[.agg #[.int .u64 (nanBits (l.take k)), .int .u8 (nanFlag (l.take k)), .bool false], .bool ((l.take k).any isN)]) (by simp [results, Tryz.results18, go_sem]) rfl ⟨by rw [HA.out], ?_⟩
      exact ((Below.refl _ _).alloc (Nat.le_refl _) _).alloc (by simp) _
end Go.Proofs.YtcjihaafohnbeaaGreatDoor
