import Derived.Test.YtcjihaafohnbeaaDoorRefRt
import Derived.Test.YtcjihaafohnbeaaDoorTurn4
import Derived.BigQuiet
namespace Go.Proofs.YtcjihaafohnbeaaDoor
open Go.RowKit

theorem infoRes : (Tryd.prog.info? 33).map (fun i => (i.zero, i.size, i.bytes)) = some (some (.agg #[.int .u64 0, .int .u8 0, .bool false]), 3, 16) := by kernel_rfl

/-- Five results in a row. -/
structure Five (w : World) (g : Nat) (B F : Int → Int) : Prop where
  b0 : w.cell? ⟨g, 0, none⟩ = some (.int .u64 (B 0))
  f0 : w.cell? ⟨g, 1, none⟩ = some (.int .u8 (F 0))
  x0 : w.cell? ⟨g, 2, none⟩ = some (.bool false)
  b1 : w.cell? ⟨g, 3, none⟩ = some (.int .u64 (B 1))
  f1 : w.cell? ⟨g, 4, none⟩ = some (.int .u8 (F 1))
  x1 : w.cell? ⟨g, 5, none⟩ = some (.bool false)
  b2 : w.cell? ⟨g, 6, none⟩ = some (.int .u64 (B 2))
  f2 : w.cell? ⟨g, 7, none⟩ = some (.int .u8 (F 2))
  x2 : w.cell? ⟨g, 8, none⟩ = some (.bool false)
  b3 : w.cell? ⟨g, 9, none⟩ = some (.int .u64 (B 3))
  f3 : w.cell? ⟨g, 10, none⟩ = some (.int .u8 (F 3))
  x3 : w.cell? ⟨g, 11, none⟩ = some (.bool false)
  b4 : w.cell? ⟨g, 12, none⟩ = some (.int .u64 (B 4))
  f4 : w.cell? ⟨g, 13, none⟩ = some (.int .u8 (F 4))
  x4 : w.cell? ⟨g, 14, none⟩ = some (.bool false)
theorem Five.drawn {w : World} {g : Nat} {B F : Int → Int} (h : Five w g B F) (n : Nat) : Five (w.drewN n) g B F := ⟨h.b0, h.f0, h.x0, h.b1, h.f1, h.x1, h.b2, h.f2, h.x2, h.b3, h.f3, h.x3, h.b4, h.f4, h.x4⟩

set_option maxRecDepth 10000 in
set_option maxHeartbeats 4000000 in
theorem around_any (op mo x y z : Int) (B F : Int → Int) (hc : 1 ≤ op % 256 ∧ op % 256 ≤ 9) (w : World)
    (HD : Hid (∀ m : Int, 0 ≤ m → m ≤ 4 → ∀ w1, Below w.heap.size w w1 → Calls Tryd.prog 12 #[.agg #[.int .u8 (op % 256), .int .u8 m, .int .u64 x, .int .u64 y, .int .u64 z]] w1 fun e w' => e = .returned (.agg #[.int .u64 (B m), .int .u8 (F m), .bool false]) ∧ Below w1.heap.size w1 w'))
    (HB : Hid (∀ m, 0 ≤ m → m ≤ 4 → 0 ≤ B m ∧ B m < 18446744073709551616)) (HF : Hid (∀ m, 0 ≤ m → m ≤ 4 → 0 ≤ F m ∧ F m < 256))
    (HO : Hid ((nanI (B 0) = true ∧ ∀ m, 0 ≤ m → m ≤ 4 → B m = B 0 ∧ F m = F 0) ∨ (nanI (B 0) = false ∧ Fair B F))) :
    Calls Tryd.prog 8 #[.agg #[.int .i64 op, .int .i64 mo, .int .u64 x, .int .u64 y, .int .u64 z]] w fun e w' => e = .returned (.bool true) ∧ Below w.heap.size w w' := by
  have hw := wrap64_small (op % 256) (by omega) (by omega)
  have n1 : ¬ op % 256 < 1 := by omega
  have n9 : ¬ 9 < op % 256 := by omega
  have R0 : Hid (ARec (w.alloc (.cells #[.int .i64 op, .int .i64 mo, .int .u64 x, .int .u64 y, .int .u64 z] 26)) w.heap.size op mo x y z) := ⟨by simp, by go_simp, by go_simp, by go_simp, by go_simp, by go_simp⟩
  have B0 : Hid (Below w.heap.size w (w.alloc (.cells #[.int .i64 op, .int .i64 mo, .int .u64 x, .int .u64 y, .int .u64 z] 26))) := (Below.refl _ _).alloc (Nat.le_refl _) _
  clear hc
  go_enter Tryd.func8, Tryd.ntmps8
  go_wp2_with fail
  go_loopw [4, 5, 6, 7] (fun l i _ _ wr => ∃ k : Nat, k ≤ 5 ∧ i = .int .i64 k ∧ wr.ownsRow (w.heap.size + 1) 33 3 l k (resRow B F k) ∧ Below w.heap.size w wr ∧ ARec wr w.heap.size op mo x y z) (fun _ i _ _ _ => 5 - (intOf i).toNat)
  case atStart => exact ⟨0, by omega, rfl, World.ownsRow_nil _ _ _ _, B0.out, R0.out⟩
  case round =>
    obtain ⟨k, hk, rfl, hown, hbel, hrec⟩ := hrel
    have HK : Hid (wr.ownsRow (w.heap.size + 1) 33 3 u4 k (resRow B F k) ∧ Below w.heap.size w wr ∧ ARec wr w.heap.size op mo x y z) := ⟨hown, hbel, hrec⟩
    by_cases hlt : k < 5
    · have c0 := hrec.c0
      have c1 := hrec.c1
      have c2 := hrec.c2
      have c3 := hrec.c3
      have c4 := hrec.c4
      have h5 : (k : Int) < 5 := by omega
      have h256 : (k : Int) % 256 = k := by omega
      clear hown hbel hrec
      go_wp2_with fail
      refine (given_any op mo x y z _).mono ?_
      rintro e w1 ⟨rfl, hb1⟩
      have s1 := hb1.size
      have K1 : Hid (w1.ownsRow (w.heap.size + 1) 33 3 u4 k (resRow B F k) ∧ Below w.heap.size w w1 ∧ ARec w1 w.heap.size op mo x y z) := ⟨own_later HK.out.1 hb1, HK.out.2.1.trans (hb1.mono HK.out.2.1.size), HK.out.2.2.later hb1⟩
      clear hb1 c0 c1 c2 c3 c4
      go_wp2_with fail
      refine (HD.out k (by omega) (by omega) _ (K1.out.2.1.alloc K1.out.2.1.size _)).mono ?_
      rintro e w2 ⟨rfl, hb2⟩
      have s2 := hb2.size
      have K2 : Hid (w2.ownsRow (w.heap.size + 1) 33 3 u4 k (resRow B F k) ∧ Below w.heap.size w w2 ∧ ARec w2 w.heap.size op mo x y z) := ⟨own_later (K1.out.1.alloc _) hb2, (K1.out.2.1.alloc K1.out.2.1.size _).trans (hb2.mono (K1.out.2.1.alloc K1.out.2.1.size _).size), (K1.out.2.2.later ((Below.refl _ _).alloc (Nat.le_refl _) _)).later hb2⟩
      clear hb2 K1 HK
      obtain ⟨i0, hi, hz0, hz1, hz2⟩ := info_parts infoRes
      go_wp2_with (at_builtin; refine wpList_append_lies _ rfl (.tmp 38) (.tmp 40) 37 rfl (w.heap.size + 1) 33 i0 (.agg #[.int .u64 0, .int .u8 0, .bool false]) 3 16 Tryd.underlying37 hi hz0 hz1 hz2 rfl (by decide) u4 k (resRow B F k) rfl ((K2.out.1.alloc _).alloc _) ⟨w2.heap.size + 1, 0, none⟩ 1 1 [.int .u64 (B k), .int .u8 (F k), .bool false] ?hx rfl ?hnews ?h1 (by decide) ?h63 ?hbytes ?hbase _ rfl ?_)
      case hx => first | rfl | (simp; done)
      case hnews =>
        intro j u hj
        have h3 : j = 0 ∨ j = 1 ∨ j = 2 := by
          have := (List.getElem?_eq_some_iff.1 hj).1
          simp at this
          omega
        rcases h3 with rfl | rfl | rfl
        all_goals (simp at hj; subst hj; go_simp)
      case h1 => intro u hu; simp at hu; rcases hu with rfl | rfl | rfl <;> rfl
      case h63 => unfold maxLen; omega
      case hbytes => omega
      case hbase => have := K2.out.2.2.lt; simp; omega
      intro g cap w3 hown3 hgrow hg3 hlt3
      have hrow : ∀ j, u4.ownBlock = some j → w.heap.size + 1 ≤ j := fun j hj => (K2.out.1.lt j hj).1
      have b2 : Below w.heap.size w2 ((w2.alloc (.cells #[.int .u64 (B k), .int .u8 (F k), .bool false] 33)).alloc (.cells #[.int .u64 (B k), .int .u8 (F k), .bool false] 33)) := ((Below.refl _ _).alloc (Nat.le_of_lt K2.out.2.2.lt) _).alloc (by have := K2.out.2.2.lt; simp; omega) _
      have K3 : Hid (w3.ownsRow (w.heap.size + 1) 33 3 (.slice (some ⟨g, 0, none⟩) (k + 1) cap) (k + 1) (resRow B F (k + 1)) ∧ Below w.heap.size w w3 ∧ ARec w3 w.heap.size op mo x y z) := by
        refine ⟨hown3, ?_, ?_⟩
        · exact (K2.out.2.1.trans b2).grown hgrow (by have := K2.out.2.2.lt; simp; omega) (fun j hj => by have := hrow j hj; omega)
        · refine ((K2.out.2.2.later ((Below.refl _ _).alloc (Nat.le_refl _) _)).later ((Below.refl _ _).alloc (Nat.le_refl _) _)).grown hgrow (fun hj => ?_)
          have := hrow _ hj.symm
          omega
      clear hown3 hgrow hg3 hlt3 hrow b2 K2 hi hz0 hz1 hz2 s1 s2
      go_wp2_with fail
      go_roundw
      case rel => exact ⟨k + 1, by omega, by go_num, K3.out⟩
      case measure => simp [intOf]; omega
    · obtain rfl : k = 5 := by omega
      obtain ⟨g, cap, hu, _⟩ := hown.form (by decide)
      subst hu
      have hcell : ∀ j, j < 15 → wr.cell? ⟨g, j, none⟩ = (resRow B F 5)[j]? := fun j hj => hown.cellAt j hj
      rw [resRow_five] at hcell
      have b0 := hcell 0 (by decide)
      have f0 := hcell 1 (by decide)
      have x0 := hcell 2 (by decide)
      have b1 := hcell 3 (by decide)
      have f1 := hcell 4 (by decide)
      have x1 := hcell 5 (by decide)
      have b2 := hcell 6 (by decide)
      have f2 := hcell 7 (by decide)
      have x2 := hcell 8 (by decide)
      have b3 := hcell 9 (by decide)
      have f3 := hcell 10 (by decide)
      have x3 := hcell 11 (by decide)
      have b4 := hcell 12 (by decide)
      have f4 := hcell 13 (by decide)
      have x4 := hcell 14 (by decide)
      simp only [List.getElem?_cons_zero, List.getElem?_cons_succ] at b0 f0 x0 b1 f1 x1 b2 f2 x2 b3 f3 x3 b4 f4 x4
      have HW : Hid (Below w.heap.size w wr) := hbel
      have HV : Hid (Five wr g B F) := ⟨b0, f0, x0, b1, f1, x1, b2, f2, x2, b3, f3, x3, b4, f4, x4⟩
      clear hcell hown hbel hrec HK HD R0 B0 hw n1 n9 f0 x0 b1 f1 x1 b2 f2 x2 b3 f3 x3 b4 f4 x4
      rcases HO.out with ⟨hn, hsame⟩ | ⟨hn, hfair⟩
      · have HS : Hid (∀ m, 0 ≤ m → m ≤ 4 → B m = B 0 ∧ F m = F 0) := hsame
        clear hsame HO
        go_wp2_with (go_at_call 14; refine (nan_is hn _).mono ?_; rintro e w' ⟨rfl, rfl⟩)
        clear b0
        go_loopw [8, 9] (fun s i wv => ∃ k : Nat, 1 ≤ k ∧ k ≤ 5 ∧ s = .bool true ∧ i = .int .i64 k ∧ Five wv g B F ∧ Below w.heap.size w wv) (fun _ i _ => 5 - (intOf i).toNat)
        case atStart => exact ⟨1, by omega, by omega, rfl, rfl, HV.out, HW.out⟩
        case round =>
          obtain ⟨k, hk1, hk5, rfl, rfl, hv, hb5⟩ := hrel
          have HV5 : Hid (Five _ g B F) := hv
          have HB5 : Hid (Below w.heap.size w _) := hb5
          obtain rfl | rfl | rfl | rfl | rfl : k = 1 ∨ k = 2 ∨ k = 3 ∨ k = 4 ∨ k = 5 := by omega
          · have b0 := hv.b0
            have f0 := hv.f0
            have x0 := hv.x0
            have b1 := hv.b1
            have f1 := hv.f1
            have x1 := hv.x1
            rw [(HS.out 1 (by decide) (by decide)).1] at b1
            rw [(HS.out 1 (by decide) (by decide)).2] at f1
            have q := eq_res (B 0) (F 0) false (B 0) (F 0) false
            rw [eqR_self] at q
            clear hv hb5
            go_wp2_with fail
            go_quiet (fail)
            go_wp2_with fail
            go_roundw
            case rel => exact ⟨2, by omega, by omega, rfl, by go_num, HV5.out.drawn _, below_drewN HB5.out _⟩
            case measure => simp [intOf]
          · have b0 := hv.b0
            have f0 := hv.f0
            have x0 := hv.x0
            have b2 := hv.b2
            have f2 := hv.f2
            have x2 := hv.x2
            rw [(HS.out 2 (by decide) (by decide)).1] at b2
            rw [(HS.out 2 (by decide) (by decide)).2] at f2
            have q := eq_res (B 0) (F 0) false (B 0) (F 0) false
            rw [eqR_self] at q
            clear hv hb5
            go_wp2_with fail
            go_quiet (fail)
            go_wp2_with fail
            go_roundw
            case rel => exact ⟨3, by omega, by omega, rfl, by go_num, HV5.out.drawn _, below_drewN HB5.out _⟩
            case measure => simp [intOf]
          · have b0 := hv.b0
            have f0 := hv.f0
            have x0 := hv.x0
            have b3 := hv.b3
            have f3 := hv.f3
            have x3 := hv.x3
            rw [(HS.out 3 (by decide) (by decide)).1] at b3
            rw [(HS.out 3 (by decide) (by decide)).2] at f3
            have q := eq_res (B 0) (F 0) false (B 0) (F 0) false
            rw [eqR_self] at q
            clear hv hb5
            go_wp2_with fail
            go_quiet (fail)
            go_wp2_with fail
            go_roundw
            case rel => exact ⟨4, by omega, by omega, rfl, by go_num, HV5.out.drawn _, below_drewN HB5.out _⟩
            case measure => simp [intOf]
          · have b0 := hv.b0
            have f0 := hv.f0
            have x0 := hv.x0
            have b4 := hv.b4
            have f4 := hv.f4
            have x4 := hv.x4
            rw [(HS.out 4 (by decide) (by decide)).1] at b4
            rw [(HS.out 4 (by decide) (by decide)).2] at f4
            have q := eq_res (B 0) (F 0) false (B 0) (F 0) false
            rw [eqR_self] at q
            clear hv hb5
            go_wp2_with fail
            go_quiet (fail)
            go_wp2_with fail
            go_roundw
            case rel => exact ⟨5, by omega, by omega, rfl, by go_num, HV5.out.drawn _, below_drewN HB5.out _⟩
            case measure => simp [intOf]
          · clear hv hb5
            go_wp2
            go_ret
            exact ⟨rfl, HB5.out⟩
      · have HFair : Hid (Fair B F) := hfair
        clear HO
        have o3 := order_any (B 3) (HB.out 3 (by decide) (by decide))
        have o4 := order_any (B 4) (HB.out 4 (by decide) (by decide))
        obtain ⟨U, hU⟩ : ∃ U, ordI (B 3) = U := ⟨_, rfl⟩
        obtain ⟨L, hL⟩ : ∃ L, ordI (B 4) = L := ⟨_, rfl⟩
        rw [hU] at o3
        rw [hL] at o4
        have O3 : Hid (∀ w1, Calls Tryd.prog 15 #[.int .u64 (B 3)] w1 fun e w' => e = .returned (.int .i64 U) ∧ w' = w1) := o3
        have O4 : Hid (∀ w1, Calls Tryd.prog 15 #[.int .u64 (B 4)] w1 fun e w' => e = .returned (.int .i64 L) ∧ w' = w1) := o4
        have hle := hfair.le
        have hnear := hfair.near
        rw [hU, hL] at hle hnear
        have hsub := wrap64_small (U - L) (by omega) (by omega)
        have g1 : ¬ 1 < U - L := by omega
        have g2 : ¬ U < L := by omega
        have HUL : Hid (L ≤ U ∧ U - L ≤ 1) := ⟨hle, hnear⟩
        have b3 := HV.out.b3
        have b4 := HV.out.b4
        clear hfair o3 o4 hle hnear
        go_wp2_with fail
        refine (nan_is hn _).mono ?_
        rintro e w' ⟨rfl, rfl⟩
        go_wp2_with fail
        refine (O3.out _).mono ?_
        rintro e w' ⟨rfl, rfl⟩
        go_wp2_with fail
        refine (O4.out _).mono ?_
        rintro e w' ⟨rfl, rfl⟩
        go_wp2_with fail
        clear b0 b3 b4 hn hsub g1 g2
        go_loopw [12, 13] (fun i _ wv => ∃ k : Nat, k ≤ 3 ∧ i = .int .i64 k ∧ Five wv g B F ∧ Below w.heap.size w wv) (fun i _ _ => 3 - (intOf i).toNat)
        case atStart => exact ⟨0, by omega, rfl, HV.out, HW.out⟩
        case round =>
          obtain ⟨k, hk3, rfl, hv, hb5⟩ := hrel
          have HV5 : Hid (Five _ g B F) := hv
          have HB5 : Hid (Below w.heap.size w _) := hb5
          obtain rfl | rfl | rfl | rfl : k = 0 ∨ k = 1 ∨ k = 2 ∨ k = 3 := by omega
          · have b0 := hv.b0
            have f0 := hv.f0
            have f3 := hv.f3
            have e1 := and_one (F 0) (HF.out 0 (by decide) (by decide)).1 (HF.out 0 (by decide) (by decide)).2
            have e2 := and_one (F 3) (HF.out 3 (by decide) (by decide)).1 (HF.out 3 (by decide) (by decide)).2
            have e3 : (F 0 % 2 != F 3 % 2) = false := by rw [HFair.out.flag 0 (by decide) (by decide)]; simp
            have HOrd : Hid (∀ w1, Calls Tryd.prog 15 #[.int .u64 (B 0)] w1 fun e w' => e = .returned (.int .i64 (ordI (B 0))) ∧ w' = w1) := fun w1 => order_any _ (HB.out 0 (by decide) (by decide)) w1
            have hone := HFair.out.one 0 (by decide) (by decide)
            rw [hU, hL] at hone
            generalize ordI (B 0) = V at *
            by_cases hVU : V = U
            · have hVb : (V != U) = false := by simp [hVU]
              clear hv hb5 hone hVU
              go_wp2_with (go_at_call 15; refine (HOrd.out _).mono ?_; rintro e w' ⟨rfl, rfl⟩)
              go_quiet (fail)
              go_wp2_with fail
              go_roundw
              case rel => exact ⟨1, by omega, by go_num, HV5.out.drawn _, below_drewN HB5.out _⟩
              case measure => simp [intOf]
            · have hVb : (V != U) = true := by simp [hVU]
              have hVL : (V != L) = false := by rw [hone.resolve_left hVU]; exact bne_self_eq_false _
              clear hv hb5 hone hVU
              go_wp2_with (go_at_call 15; refine (HOrd.out _).mono ?_; rintro e w' ⟨rfl, rfl⟩)
              go_quiet (fail)
              go_wp2_with fail
              go_roundw
              case rel => exact ⟨1, by omega, by go_num, HV5.out.drawn _, below_drewN HB5.out _⟩
              case measure => simp [intOf]
          · have b1 := hv.b1
            have f1 := hv.f1
            have f3 := hv.f3
            have e1 := and_one (F 1) (HF.out 1 (by decide) (by decide)).1 (HF.out 1 (by decide) (by decide)).2
            have e2 := and_one (F 3) (HF.out 3 (by decide) (by decide)).1 (HF.out 3 (by decide) (by decide)).2
            have e3 : (F 1 % 2 != F 3 % 2) = false := by rw [HFair.out.flag 1 (by decide) (by decide)]; simp
            have HOrd : Hid (∀ w1, Calls Tryd.prog 15 #[.int .u64 (B 1)] w1 fun e w' => e = .returned (.int .i64 (ordI (B 1))) ∧ w' = w1) := fun w1 => order_any _ (HB.out 1 (by decide) (by decide)) w1
            have hone := HFair.out.one 1 (by decide) (by decide)
            rw [hU, hL] at hone
            generalize ordI (B 1) = V at *
            by_cases hVU : V = U
            · have hVb : (V != U) = false := by simp [hVU]
              clear hv hb5 hone hVU
              go_wp2_with (go_at_call 15; refine (HOrd.out _).mono ?_; rintro e w' ⟨rfl, rfl⟩)
              go_quiet (fail)
              go_wp2_with fail
              go_roundw
              case rel => exact ⟨2, by omega, by go_num, HV5.out.drawn _, below_drewN HB5.out _⟩
              case measure => simp [intOf]
            · have hVb : (V != U) = true := by simp [hVU]
              have hVL : (V != L) = false := by rw [hone.resolve_left hVU]; exact bne_self_eq_false _
              clear hv hb5 hone hVU
              go_wp2_with (go_at_call 15; refine (HOrd.out _).mono ?_; rintro e w' ⟨rfl, rfl⟩)
              go_quiet (fail)
              go_wp2_with fail
              go_roundw
              case rel => exact ⟨2, by omega, by go_num, HV5.out.drawn _, below_drewN HB5.out _⟩
              case measure => simp [intOf]
          · have b2 := hv.b2
            have f2 := hv.f2
            have f3 := hv.f3
            have e1 := and_one (F 2) (HF.out 2 (by decide) (by decide)).1 (HF.out 2 (by decide) (by decide)).2
            have e2 := and_one (F 3) (HF.out 3 (by decide) (by decide)).1 (HF.out 3 (by decide) (by decide)).2
            have e3 : (F 2 % 2 != F 3 % 2) = false := by rw [HFair.out.flag 2 (by decide) (by decide)]; simp
            have HOrd : Hid (∀ w1, Calls Tryd.prog 15 #[.int .u64 (B 2)] w1 fun e w' => e = .returned (.int .i64 (ordI (B 2))) ∧ w' = w1) := fun w1 => order_any _ (HB.out 2 (by decide) (by decide)) w1
            have hone := HFair.out.one 2 (by decide) (by decide)
            rw [hU, hL] at hone
            generalize ordI (B 2) = V at *
            by_cases hVU : V = U
            · have hVb : (V != U) = false := by simp [hVU]
              clear hv hb5 hone hVU
              go_wp2_with (go_at_call 15; refine (HOrd.out _).mono ?_; rintro e w' ⟨rfl, rfl⟩)
              go_quiet (fail)
              go_wp2_with fail
              go_roundw
              case rel => exact ⟨3, by omega, by go_num, HV5.out.drawn _, below_drewN HB5.out _⟩
              case measure => simp [intOf]
            · have hVb : (V != U) = true := by simp [hVU]
              have hVL : (V != L) = false := by rw [hone.resolve_left hVU]; exact bne_self_eq_false _
              clear hv hb5 hone hVU
              go_wp2_with (go_at_call 15; refine (HOrd.out _).mono ?_; rintro e w' ⟨rfl, rfl⟩)
              go_quiet (fail)
              go_wp2_with fail
              go_roundw
              case rel => exact ⟨3, by omega, by go_num, HV5.out.drawn _, below_drewN HB5.out _⟩
              case measure => simp [intOf]
          · have b2 := hv.b2
            have f3 := hv.f3
            have e2 := and_one (F 3) (HF.out 3 (by decide) (by decide)).1 (HF.out 3 (by decide) (by decide)).2
            have HOrd : Hid (∀ w1, Calls Tryd.prog 15 #[.int .u64 (B 2)] w1 fun e w' => e = .returned (.int .i64 (ordI (B 2))) ∧ w' = w1) := fun w1 => order_any _ (HB.out 2 (by decide) (by decide)) w1
            have hone := HFair.out.one 2 (by decide) (by decide)
            have htow := HFair.out.toward
            have hex := HFair.out.exact
            rw [hU, hL] at hone htow hex
            generalize ordI (B 2) = V at *
            obtain ⟨hul, hnear⟩ := HUL.out
            clear hv hb5
            by_cases hE : U = L
            · subst hE
              have hV : V = U := by omega
              subst hV
              have q1 : (V == V) = true := by simp
              have q2 : (F 3 % 2 == 0) = true := by simp [hex.2 rfl]
              have q3 : (true == true) = true := rfl
              clear hone htow hex hul hnear
              by_cases hp : 0 < V
              · go_wp2_with (go_at_call 15; refine (HOrd.out _).mono ?_; rintro e w' ⟨rfl, rfl⟩)
                go_ret
                exact ⟨rfl, HB5.out⟩
              · by_cases hn : V < 0
                · go_wp2_with (go_at_call 15; refine (HOrd.out _).mono ?_; rintro e w' ⟨rfl, rfl⟩)
                  go_ret
                  exact ⟨rfl, HB5.out⟩
                · go_wp2_with (go_at_call 15; refine (HOrd.out _).mono ?_; rintro e w' ⟨rfl, rfl⟩)
                  go_ret
                  exact ⟨rfl, HB5.out⟩
            · have q1 : (U == L) = false := by simp [hE]
              have q2 : (F 3 % 2 == 0) = false := by simp [mt hex.1 hE]
              have q3 : (false == false) = true := rfl
              by_cases hp : 0 < U
              · have hV : V = L := by omega
                subst hV
                have q4 : (V == V) = true := by simp
                clear hone htow hex hul hnear hE
                go_wp2_with (go_at_call 15; refine (HOrd.out _).mono ?_; rintro e w' ⟨rfl, rfl⟩)
                go_ret
                exact ⟨rfl, HB5.out⟩
              · have hn : L < 0 := by omega
                have hV : V = U := by omega
                subst hV
                have q4 : (V == V) = true := by simp
                clear hone htow hex hul hnear hE
                go_wp2_with (go_at_call 15; refine (HOrd.out _).mono ?_; rintro e w' ⟨rfl, rfl⟩)
                go_ret
                exact ⟨rfl, HB5.out⟩
end Go.Proofs.YtcjihaafohnbeaaDoor
