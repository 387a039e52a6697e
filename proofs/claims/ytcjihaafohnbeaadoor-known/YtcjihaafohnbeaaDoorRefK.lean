import Derived.Test.YtcjihaafohnbeaaDoorPA
import Derived.Test.YtcjihaafohnbeaaDoorRtA
import Derived.Deep.Light
import Derived.Test.YtcjihaafohnbeaaDoorScript
import Derived.Laws.EntriesVeiled
import Derived.Deep.Cut
import Derived.Deep.CutRange
import Derived.Test.YtcjihaafohnbeaaDoorRefI
namespace Go.Proofs.YtcjihaafohnbeaaDoor
open Go.RowKit

/-- A product's bits and flags, where neither is a NaN. -/
def prodB (x y : Nat) (m : Int) : Int :=
  if (kind x = 3 ∨ kind y = 3) ∧ (kind x = 0 ∨ kind y = 0) then 9221120237041090560
  else if kind x = 3 ∨ kind y = 3 then xs x y * 9223372036854775808 + 9218868437227405312
  else if kind x = 0 ∨ kind y = 0 then xs x y * 9223372036854775808
  else roundB (xs x y) (mant x * mant y) (pow x + pow y) m
def prodF (x y : Nat) (m : Int) : Int :=
  if (kind x = 3 ∨ kind y = 3) ∧ (kind x = 0 ∨ kind y = 0) then 16
  else if kind x = 3 ∨ kind y = 3 then 0
  else if kind x = 0 ∨ kind y = 0 then 0
  else roundF (xs x y) (mant x * mant y) (pow x + pow y) m

theorem cellSet3 (w : World) (g : Nat) (a b c : Value) (p : Addr) (h : p.block ≠ g) : (((w.setCell ⟨g, 0, none⟩ a).setCell ⟨g, 1, none⟩ b).setCell ⟨g, 2, none⟩ c).cell? p = w.cell? p :=
  (cellSet _ _ _ _ h).trans ((cellSet _ _ _ _ h).trans (cellSet _ _ _ _ h))
theorem cellSet4 (w : World) (g : Nat) (a b c d : Value) (p : Addr) (h : p.block ≠ g) : ((((w.setCell ⟨g, 0, none⟩ a).setCell ⟨g, 1, none⟩ b).setCell ⟨g, 2, none⟩ c).setCell ⟨g, 3, none⟩ d).cell? p = w.cell? p :=
  (cellSet _ _ _ _ h).trans (cellSet3 _ _ _ _ _ _ h)
theorem xor_small (a b : Nat) (ha : a < 2) (hb : b < 2) : bits .xor .u64 (a : Int) (b : Int) = (((a + b) % 2 : Nat) : Int) := by
  rw [bits_xor_u64_nat _ _ (by omega) (by omega)]
  match a, b, ha, hb with
  | 0, 0, _, _ => rfl
  | 0, 1, _, _ => rfl
  | 1, 0, _, _ => rfl
  | 1, 1, _, _ => rfl

set_option maxHeartbeats 4000000 in
set_option maxRecDepth 10000 in
theorem exactProduct_any (x y : Nat) (op m z : Int) (hx : x < 18446744073709551616) (hy : y < 18446744073709551616) (w : World) :
    Calls Tryd.prog 42 #[.agg #[.int .u8 op, .int .u8 m, .int .u64 x, .int .u64 y, .int .u64 z]] w fun e w' =>
      e = .returned (.agg #[.int .u64 (xs x y), .int .u64 (wd (mant x * mant y) 0), .int .u64 (wd (mant x * mant y) 1), .int .i64 (pow x + pow y)]) ∧ Below w.heap.size w w' := by
  have hxor : bits .xor .u64 ((sgn x : Nat) : Int) ((sgn y : Nat) : Int) = (xs x y : Int) := xor_small _ _ (sgn_lt hx) (sgn_lt hy)
  have q1 := mant_lt x
  have q2 := mant_lt y
  have q3 := pow_range x
  have q4 := pow_range y
  have w9 : IntKind.i64.wrap (pow x + pow y) = pow x + pow y := wrapI _ (by omega) (by omega)
  have HP : Hid (∀ w1, Calls Tryd.prog 54 #[.int .u64 (mant x), .int .u64 (mant y)] w1 fun e w' => e = .returned (.agg #[.int .u64 (wd (mant x * mant y) 0), .int .u64 (wd (mant x * mant y) 1)]) ∧ Below w1.heap.size w1 w') := fun w1 => product_any _ _ (by omega) (by omega) w1
  have HX : Hid (∀ w, Calls Tryd.prog 36 #[.int .u64 x] w fun e w' => e = .returned (.agg #[.int .u64 (sgn x), .int .u64 (mant x), .int .u64 0, .int .i64 (pow x)]) ∧ w' = w.alloc (.cells #[.int .u64 (sgn x), .int .u64 (mant x), .int .u64 0, .int .i64 (pow x)] 59)) := fun w => exactly_ex x hx w
  have HY : Hid (∀ w, Calls Tryd.prog 36 #[.int .u64 y] w fun e w' => e = .returned (.agg #[.int .u64 (sgn y), .int .u64 (mant y), .int .u64 0, .int .i64 (pow y)]) ∧ w' = w.alloc (.cells #[.int .u64 (sgn y), .int .u64 (mant y), .int .u64 0, .int .i64 (pow y)] 59)) := fun w => exactly_ex y hy w
  clear hx hy q1 q2 q3 q4
  generalize wd (mant x * mant y) 0 = R0 at *
  generalize wd (mant x * mant y) 1 = R1 at *
  generalize xs x y = S at *
  generalize sgn x = sx at *
  generalize sgn y = sy at *
  generalize mant x = mx at *
  generalize mant y = my at *
  generalize pow x = px at *
  generalize pow y = py at *
  go_enter Tryd.func42, Tryd.ntmps42
  go_upto_region 1 with fail
  go_cut [3, 4] from 5 to 28 (fun s3 s4 wx => ∃ g3 g4, s3 = .pointer (some ⟨g3, 0, none⟩) ∧ s4 = .pointer (some ⟨g4, 0, none⟩) ∧ w.heap.size + 1 < g3 ∧ w.heap.size + 1 < g4 ∧ Below (w.heap.size + 2) ((w.alloc (.cells #[.int .u8 op, .int .u8 m, .int .u64 x, .int .u64 y, .int .u64 z] 36)).alloc (.cells #[.int .u64 0, .int .u64 0, .int .u64 0, .int .i64 0] 59)) wx ∧
    Blk wx g3 [.int .u64 sx, .int .u64 mx, .int .u64 0, .int .i64 px] ∧ Blk wx g4 [.int .u64 sy, .int .u64 my, .int .u64 0, .int .i64 py])
  case first =>
    go_region_held3 (fun w' => w'.cell? ⟨w.heap.size, 2, none⟩ = some (.int .u64 x) ∧ w'.cell? ⟨w.heap.size, 3, none⟩ = some (.int .u64 y)) (first | (go_keep; done) | (refine ⟨?_, ?_⟩ <;> go_simp)) (first | (go_at_call_of 36 (Value.int .u64 (x : Int)); refine (HX.out _).mono ?_; rintro e w' ⟨rfl, rfl⟩) | (go_at_call_of 36 (Value.int .u64 (y : Int)); refine (HY.out _).mono ?_; rintro e w' ⟨rfl, rfl⟩))
    all_goals (try go_wp2_with fail)
    all_goals go_meet
    all_goals go_light
    all_goals
      refine ⟨_, _, rfl, rfl, by omega, by omega, ?_, ⟨by simp, ?_, ?_⟩, ⟨by simp, ?_, ?_⟩⟩
      · exact (((((below_drewN (Below.refl _ _) _).alloc (by simp <;> omega) _).alloc (by simp <;> omega) _).alloc (by simp <;> omega) _).alloc (by simp <;> omega) _)
      all_goals
        intro i v h
        match i with
        | 0 => simp only [List.getElem?_cons_zero, Option.some.injEq] at h; subst h; go_simp
        | 1 => simp only [List.getElem?_cons_zero, List.getElem?_cons_succ, Option.some.injEq] at h; subst h; go_simp
        | 2 => simp only [List.getElem?_cons_zero, List.getElem?_cons_succ, Option.some.injEq] at h; subst h; go_simp
        | 3 => simp only [List.getElem?_cons_zero, List.getElem?_cons_succ, Option.some.injEq] at h; subst h; go_simp
        | (n + 4) => simp at h
  case rest =>
    obtain ⟨g3, g4, rfl, rfl, l3, l4, hbel, h3, h4⟩ := hcut
    have HR : Hid (Rows2 w wc [.int .u8 op, .int .u8 m, .int .u64 x, .int .u64 y, .int .u64 z] [.int .u64 0, .int .u64 0, .int .u64 0, .int .i64 0]) := (Rows2.start w _ _ _ _ (by simp) (by simp)).below' hbel (Nat.le_refl _)
    have H3 : Hid (Blk wc g3 [.int .u64 sx, .int .u64 mx, .int .u64 0, .int .i64 px]) := h3
    have H4 : Hid (Blk wc g4 [.int .u64 sy, .int .u64 my, .int .u64 0, .int .i64 py]) := h4
    have e0 := h3.cells 0 _ rfl
    have e1 := h3.cells 1 _ rfl
    have e3 := h3.cells 3 _ rfl
    have d0 := h4.cells 0 _ rfl
    have d1 := h4.cells 1 _ rfl
    have d3 := h4.cells 3 _ rfl
    have k0 := HR.out.r.live 0 _ rfl
    have k1 := HR.out.r.live 1 _ rfl
    have k2 := HR.out.r.live 2 _ rfl
    have k3 := HR.out.r.live 3 _ rfl
    have j0 := HR.out.r.cells 0 _ rfl
    have j1 := HR.out.r.cells 1 _ rfl
    have j2 := HR.out.r.cells 2 _ rfl
    have j3 := HR.out.r.cells 3 _ rfl
    clear hbel h3 h4 HX HY
    go_wp2_with fail
    go_region_held3 (fun w' => w'.cell? ⟨g3, 0, none⟩ = some (.int .u64 sx) ∧ w'.cell? ⟨g3, 1, none⟩ = some (.int .u64 mx) ∧ w'.cell? ⟨g3, 3, none⟩ = some (.int .i64 px) ∧ w'.cell? ⟨g4, 0, none⟩ = some (.int .u64 sy) ∧ w'.cell? ⟨g4, 1, none⟩ = some (.int .u64 my) ∧ w'.cell? ⟨g4, 3, none⟩ = some (.int .i64 py))
      (first | (go_keep; done) | (rw [cellSet4 _ _ _ _ _ _ _ (by simp; omega), cellSet4 _ _ _ _ _ _ _ (by simp; omega), cellSet4 _ _ _ _ _ _ _ (by simp; omega), cellSet4 _ _ _ _ _ _ _ (by simp; omega), cellSet4 _ _ _ _ _ _ _ (by simp; omega), cellSet4 _ _ _ _ _ _ _ (by simp; omega)]; exact ⟨K3.out.cells 0 _ rfl, K3.out.cells 1 _ rfl, K3.out.cells 3 _ rfl, K4.out.cells 0 _ rfl, K4.out.cells 1 _ rfl, K4.out.cells 3 _ rfl⟩) | exact ⟨K3.out.cells 0 _ rfl, K3.out.cells 1 _ rfl, K3.out.cells 3 _ rfl, K4.out.cells 0 _ rfl, K4.out.cells 1 _ rfl, K4.out.cells 3 _ rfl⟩)
      ((go_at_call 54; refine (HP.out _).mono ?_; rintro e w' ⟨rfl, hb⟩; have K3 : Hid (Blk w' g3 [.int .u64 sx, .int .u64 mx, .int .u64 0, .int .i64 px]) := H3.out.later ⟨hb.os, hb.tape, hb.output, hb.size, hb.block⟩; have K4 : Hid (Blk w' g4 [.int .u64 sy, .int .u64 my, .int .u64 0, .int .i64 py]) := H4.out.later ⟨hb.os, hb.tape, hb.output, hb.size, hb.block⟩; have KR : Hid (Rows2 w w' [.int .u8 op, .int .u8 m, .int .u64 x, .int .u64 y, .int .u64 z] [.int .u64 0, .int .u64 0, .int .u64 0, .int .i64 0]) := HR.out.later ⟨hb.os, hb.tape, hb.output, hb.size, hb.block⟩; have k0 := KR.out.r.live 0 _ rfl; have k1 := KR.out.r.live 1 _ rfl; have k2 := KR.out.r.live 2 _ rfl; have k3 := KR.out.r.live 3 _ rfl; have j0 := KR.out.r.cells 0 _ rfl; have j1 := KR.out.r.cells 1 _ rfl; have j2 := KR.out.r.cells 2 _ rfl; have j3 := KR.out.r.cells 3 _ rfl))
    all_goals (try go_wp2_with fail)
    all_goals
      refine bodyPost_ret (v := .agg #[.int .u64 S, .int .u64 R0, .int .u64 R1, .int .i64 (px + py)]) (by simp [results, Tryd.results42, go_sem, *]) rfl ⟨rfl, ?_⟩
      exact (((KR.out.below.setCell (by simp) _).setCell (by simp) _).setCell (by simp) _).setCell (by simp) _


def isN (x : Int) : Bool := decide (4 ≤ kind x)
def isS (x : Int) : Bool := decide (kind x = 5)
def nanFlag (l : List Int) : Int := if l.any isS then 16 else 0
def nanBits (l : List Int) : Int := match l.find? isN with | some x => bits .or .u64 x 2251799813685248 | none => 0
theorem nanFlag_snoc (l : List Int) (x : Int) : nanFlag (l ++ [x]) = if kind x = 5 then 16 else nanFlag l := by
  unfold nanFlag; rw [List.any_append]; by_cases h : kind x = 5 <;> simp [isS, h]
theorem nanBits_snoc (l : List Int) (x : Int) : nanBits (l ++ [x]) = if l.any isN = false ∧ 4 ≤ kind x then bits .or .u64 x 2251799813685248 else nanBits l := by
  unfold nanBits; rw [List.find?_append]
  by_cases h : l.any isN = false
  · have : l.find? isN = none := by rw [List.find?_eq_none]; intro y hy; have := List.any_eq_false.1 h y hy; simpa using this
    by_cases h2 : 4 ≤ kind x <;> simp [this, h, isN, h2]
  · cases hf : l.find? isN with
    | none => exfalso; apply h; rw [List.find?_eq_none] at hf; rw [List.any_eq_false]; exact hf
    | some y => simp [h]
theorem anyN_snoc (l : List Int) (x : Int) : (l ++ [x]).any isN = (l.any isN || decide (4 ≤ kind x)) := by
  rw [List.any_append]; simp [isN]
theorem nanFlag_range (l : List Int) : 0 ≤ nanFlag l ∧ nanFlag l ≤ 16 := by unfold nanFlag; split <;> omega

theorem take_snoc (l : List Int) (k : Nat) (h : k < l.length) : l.take (k + 1) = l.take k ++ [l.getD k 0] := by
  rw [List.take_succ_eq_append_getElem h]; simp [List.getD_eq_getElem?_getD, h]

set_option maxHeartbeats 1000000 in
theorem firstNaN_any (b o len cap : Nat) (l : List Int) (hl : l.length = len) (hcap : len ≤ cap) (hm : cap ≤ 1000) (w : World) (hb : b < w.heap.size)
    (hc : ∀ i, i < len → w.cell? ⟨b, o + i, none⟩ = some (.int .u64 (l.getD i 0)) ∧ 0 ≤ l.getD i 0 ∧ l.getD i 0 < 18446744073709551616) :
    Calls Tryd.prog 20 #[.slice (some ⟨b, o, none⟩) len cap] w fun e w' =>
      e = .returned (.tuple #[.agg #[.int .u64 (nanBits l), .int .u8 (nanFlag l), .bool false], .bool (l.any isN)]) ∧ Below w.heap.size w w' := by
  go_enter Tryd.func20, Tryd.ntmps20
  go_wp2
  go_loopw [5, 7, 8, 11] (fun fd _ _ i wr => ∃ k : Nat, k ≤ len ∧ i = .int .i64 k ∧ fd = .bool ((l.take k).any isN) ∧
      wr = (w.alloc (.cells #[.int .u64 0, .int .u8 0, .bool false] 33)).alloc (.cells #[.int .u64 (nanBits (l.take k)), .int .u8 (nanFlag (l.take k)), .bool false] 33)) (fun _ _ _ i _ => len - (intOf i).toNat)
  case atStart => exact ⟨0, Nat.zero_le _, rfl, rfl, rfl⟩
  case round =>
    obtain ⟨k, hk, rfl, rfl, rfl⟩ := hrel
    by_cases hlt : k < len
    · obtain ⟨hx, hx1, hx2⟩ := hc k hlt
      have HA : Hid (l.take (k + 1) = l.take k ++ [l.getD k 0]) := take_snoc l k (by omega)
      generalize l.getD k 0 = X at *
      have hx' : ∀ A B : Obj, ((w.alloc A).alloc B).cell? ⟨b, o + k, none⟩ = some (.int .u64 X) := fun A B => by
        rw [World.cell?_alloc_lt _ _ _ (by simp; omega), World.cell?_alloc_lt _ _ _ hb]; exact hx
      have HS : Hid (nanFlag (l.take (k + 1)) = (if kind X = 5 then 16 else nanFlag (l.take k)) ∧ nanBits (l.take (k + 1)) = (if (l.take k).any isN = false ∧ 4 ≤ kind X then bits .or .u64 X 2251799813685248 else nanBits (l.take k)) ∧ (l.take (k + 1)).any isN = ((l.take k).any isN || decide (4 ≤ kind X))) := by
        rw [HA.out]; exact ⟨nanFlag_snoc _ _, nanBits_snoc _ _, anyN_snoc _ _⟩
      clear hc hx HA
      obtain ⟨hk0, hk5⟩ := kind_range X
      generalize hG : (l.take k).any isN = G at *
      clear hG
      cases G
      all_goals
        go_wp2_with (go_at_call 33; refine (kindOf_any X hx1 hx2 _).mono ?_; rintro e w' ⟨rfl, rfl⟩)
        all_goals
          go_roundw
          case rel =>
            go_light
            simp only [beq_iff_eq, beq_eq_false_iff_ne, ne_eq] at *
            refine ⟨k + 1, by omega, by go_num, ?_, ?_⟩
            · rw [HS.out.2.2]; first | rfl | (congr 1; simp; done) | (congr 1; simp; omega)
            · rw [HS.out.2.1, HS.out.1]
              clear HS hx'
              first | rfl | ((repeat' split) <;> first | rfl | (exfalso; omega) | (exfalso; simp only [true_and, Bool.true_eq_false, false_and] at *; done) | (exfalso; simp only [true_and] at *; omega))
          case measure => simp [intOf]; omega
    · have HA : Hid (l.take k = l) := List.take_of_length_le (by omega)
      clear hc
      go_wp2
      refine bodyPost_ret (v := .tuple #[.agg #[.int .u64 (nanBits (l.take k)), .int .u8 (nanFlag (l.take k)), .bool false], .bool ((l.take k).any isN)]) (by simp [results, Tryd.results20, go_sem]) rfl ⟨by rw [HA.out], ?_⟩
      exact ((Below.refl _ _).alloc (Nat.le_refl _) _).alloc (by simp) _


theorem belowSetRow {B g : Nat} {w0 w : World} (hb : Below B w0 w) (hBg : B ≤ g) (cs : Array Value) : Below B w0 (w.setRow g cs) :=
  ⟨hb.os, hb.tape, hb.output, by simpa using hb.size, fun k hk => by rw [setRow_other _ _ _ _ (by omega)]; exact hb.block k hk⟩
def fnv (n : Nat) : Value := .func (.func n) #[] #[]
def opsCells : Array Value := #[.int .i64 0, .nilFunc, .nilFunc, .int .i64 2, fnv 21, .nilFunc, .int .i64 2, fnv 22, .nilFunc, .int .i64 2, fnv 23, .nilFunc, .int .i64 2, fnv 24, .nilFunc, .int .i64 3, fnv 25, fnv 26, .int .i64 1, fnv 27, .nilFunc, .int .i64 1, fnv 28, .nilFunc, .int .i64 1, fnv 29, .nilFunc, .int .i64 2, fnv 30, fnv 31, .int .i64 0, fnv 32, .nilFunc]
theorem infoOps : (Tryd.prog.info? 48).map (·.size) = some 33 := by kernel_rfl

set_option maxHeartbeats 400000 in
theorem operations_any (w : World) :
    Calls Tryd.prog 19 #[] w fun e w' => e = .returned (.agg opsCells) ∧ Below w.heap.size w w' := by
  go_enter Tryd.func19, Tryd.ntmps19
  go_wp2_with (refine wpList_store_row rfl 48 (.tmp 0) (.tmp 11) rfl w.heap.size opsCells rfl (by kernel_rfl) 48 _ (heap_alloc_new _ _) infoOps (by kernel_rfl) (by kernel_rfl) ?_)
  refine bodyPost_ret (v := .agg opsCells) (results_cell_row rfl _ _ w.heap.size 48 opsCells (0, 0) _ rfl (setRow_heap _ _ _ _ _ _ (heap_alloc_new _ _)) Tryd.underlying48 rfl infoOps) rfl ⟨rfl, ?_⟩
  exact belowSetRow ((Below.refl _ _).alloc (Nat.le_refl _) _) (Nat.le_refl _) _


def anyN (l : List Int) : Bool := l.any isN
theorem nanFlag_none {l : List Int} (h : anyN l = false) : nanFlag l = 0 := by
  unfold nanFlag
  rw [if_neg]
  intro hs
  obtain ⟨a, ha, h5⟩ := List.any_eq_true.1 hs
  have := List.any_eq_false.1 h a ha
  simp [isS, isN] at this h5
  omega
def fi (x : Int) (l : List Int) : Int := if l.any isN then (if isN x then 0 else 1) else -1



/-- The result's own block, yet empty. -/
structure Empty3 (w : World) (g : Nat) : Prop where
  lt : g < w.heap.size
  c0 : w.cell? ⟨g, 0, none⟩ = some (.bool false)
  c1 : w.cell? ⟨g, 1, none⟩ = some (.slice none 0 0)
  c2 : w.cell? ⟨g, 2, none⟩ = some (.int .i64 0)
  f0 : w.frozen? ⟨g, 0, none⟩ = false
  f1 : w.frozen? ⟨g, 1, none⟩ = false
  f2 : w.frozen? ⟨g, 2, none⟩ = false
theorem Empty3.later {w w' : World} {g : Nat} (h : Empty3 w g) (hb : Below w.heap.size w w') : Empty3 w' g :=
  ⟨Nat.lt_of_lt_of_le h.lt hb.size, (hb.cell (p := ⟨g, 0, none⟩) h.lt).trans h.c0, (hb.cell (p := ⟨g, 1, none⟩) h.lt).trans h.c1, (hb.cell (p := ⟨g, 2, none⟩) h.lt).trans h.c2, (hb.frozen (p := ⟨g, 0, none⟩) h.lt).trans h.f0, (hb.frozen (p := ⟨g, 1, none⟩) h.lt).trans h.f1, (hb.frozen (p := ⟨g, 2, none⟩) h.lt).trans h.f2⟩



theorem ret_two {a b c d : Int} (h1 : c = a) (h2 : d = b) : Ending.returned (.tuple #[.int .u64 a, .int .i64 b]) = .returned (.tuple #[.int .u64 c, .int .i64 d]) := by rw [h1, h2]
theorem bl_le {D n : Nat} (h : nd D ≤ n) : Go.bitLen D ≤ 24 * n := by unfold nd at h; omega


end Go.Proofs.YtcjihaafohnbeaaDoor
