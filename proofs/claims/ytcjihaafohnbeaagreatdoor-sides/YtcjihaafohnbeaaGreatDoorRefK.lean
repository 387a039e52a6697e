import Derived.Test.YtcjihaafohnbeaaGreatDoorRefI
namespace Go.Proofs.YtcjihaafohnbeaaGreatDoor
open Go.RowKit

theorem ret_two {a b c d : Int} (h1 : c = a) (h2 : d = b) : Ending.returned (.tuple #[.int .u64 a, .int .i64 b]) = .returned (.tuple #[.int .u64 c, .int .i64 d]) := by rw [h1, h2]
theorem bl_le {D n : Nat} (h : nd D ≤ n) : Go.bitLen D ≤ 24 * n := by unfold nd at h; omega

set_option maxRecDepth 10000 in
set_option maxHeartbeats 4000000 in
theorem round_ref (neg : Bool) (D : Nat) (p m : Int) (a : Option Addr) (len cap : Nat) (w : World) (ha : IsNat w (.slice a len cap) D) (hD : D ≠ 0) (sa : nd D ≤ 1000) (hp : -10000 ≤ p ∧ p ≤ 10000) (hm : 0 ≤ m ∧ m ≤ 4) :
    Calls Tryz.prog 69 #[.agg #[.bool neg, (Value.slice a len cap), .int .i64 p], .int .i64 m] w fun e w' =>
      e = .returned (.tuple #[.int .u64 (roundB (sOf neg) D p m), .int .i64 (roundF (sOf neg) D p m)]) ∧ Below w.heap.size w w' := by
  have hb1 := bl_le sa
  obtain ⟨Y, T, hY, hT, y1, y2, y3, y4, r1, r2, r3⟩ := round_cases (sOf neg) m p hD
  have HR : Hid (_ ∧ _ ∧ _) := ⟨r1, r2, r3⟩
  have HM : Hid (0 ≤ m ∧ m ≤ 4) := hm
  have HYs : Hid (4503599627370496 ≤ Y ∧ Y ≤ 9007199254740992 ∧ (Go.bitLen Y = 53 ∨ Go.bitLen Y = 54) ∧ (Go.bitLen Y = 54 → Y = 9007199254740992)) := ⟨y1, y2, y3, y4⟩
  clear y1 y2 y3 y4
  have HSA : Hid (nd D ≤ 1000) := sa
  obtain ⟨p1, p2⟩ := hp
  have N0 : Hid (NumAt (w.alloc (.cells #[.bool neg, (Value.slice a len cap), .int .i64 p] 63)) w.heap.size neg (Value.slice a len cap) D p) := ⟨by simp, by go_simp, by go_simp, by go_simp, ha.later ((Below.refl _ _).alloc (Nat.le_refl _) _)⟩
  have B0 : Hid (Below w.heap.size w (w.alloc (.cells #[.bool neg, (Value.slice a len cap), .int .i64 p] 63))) := (Below.refl _ _).alloc (Nat.le_refl _) _
  have HC : Hid (∀ w1, IsNat w1 (Value.slice a len cap) D → Calls Tryz.prog 101 #[(Value.slice a len cap), .int .i64 (IntKind.i64.wrap ((Go.bitLen D : Int) - 53)), .bool neg, .int .i64 m] w1 fun e w' => ∃ v, e = .returned (.tuple #[v, .bool (cutCh D ((Go.bitLen D : Int) - 53))]) ∧ IsNat w' v Y ∧ Below w1.heap.size w1 w') := fun w1 h1 => by
    have ew : IntKind.i64.wrap ((Go.bitLen D : Int) - 53) = (Go.bitLen D : Int) - 53 := Go.IntWalk.i64_in _ (by omega)
    rw [← hY, ew]
    exact rcut_any D _ neg m (Value.slice a len cap) w1 h1 (by omega) (by omega) hm
  have HC2 : Hid (∀ w1, IsNat w1 (Value.slice a len cap) D → Calls Tryz.prog 101 #[(Value.slice a len cap), .int .i64 (-1074 - p), .bool neg, .int .i64 m] w1 fun e w' => ∃ v, e = .returned (.tuple #[v, .bool (cutCh D (-1074 - p))]) ∧ IsNat w' v (cutQ (sOf neg) m D (-1074 - p)) ∧ Below w1.heap.size w1 w') := fun w1 h1 => rcut_any D _ neg m _ w1 h1 (by omega) (by omega) hm
  have HLE : Hid (T < -1022 → cutQ (sOf neg) m D (-1074 - p) ≤ 9007199254740992) := fun h => cutQ_le _ _ (by have := hT; have := HYs.out.2.2.1; omega)
  have HSN : Hid (sOf neg = 0 ∨ sOf neg = 1) := by cases neg; exact .inl rfl; exact .inr rfl
  have HSZ : Hid (∀ w1, IsNat w1 (Value.slice a len cap) D → Calls Tryz.prog 78 #[(Value.slice a len cap)] w1 fun e w' => e = .returned (.int .i64 (Go.bitLen D : Nat)) ∧ w' = w1) := fun w1 h1 => size_any D (Value.slice a len cap) w1 h1 (by omega)
  have HT : Hid (T = Go.bitLen Y + p + Go.bitLen D - 54) := hT
  have HY : Hid (cutQ (sOf neg) m D (Go.bitLen D - 53) = Y) := hY
  clear ha hD sa hm r1 r2 r3 hY hT
  have hwb : wrap64 ((Go.bitLen D : Int) - 53) = (Go.bitLen D : Int) - 53 := by unfold wrap64; omega
  generalize hC8 : cutCh D ((Go.bitLen D : Int) - 53) = C8 at *
  have HC8 : Hid (cutCh D ((Go.bitLen D : Int) - 53) = C8) := hC8
  clear hC8
  generalize hbl : Go.bitLen D = bl at *
  have HBL : Hid (Go.bitLen D = bl) := hbl
  have HBB : Hid (bl ≤ 24000 ∧ -10000 ≤ p ∧ p ≤ 10000) := ⟨hb1, p1, p2⟩
  clear hbl hb1 p1 p2
  go_enter Tryz.func69, Tryz.ntmps69
  go_wp2_with fail
  refine (sign_any neg _).mono ?_
  rintro e w' ⟨rfl, rfl⟩
  go_wp2_with fail
  generalize w.alloc (.cells #[.bool neg, (Value.slice a len cap), .int .i64 p] 63) = w0 at *
  have t0 := N0.out.c0
  have t1 := N0.out.c1
  have t2 := N0.out.c2
  have tl := N0.out.lt
  go_cut [7, 8] from 14 to 112 (fun s7 s8 wx => s8 = .bool C8 ∧ IsNat wx s7 Y ∧ NumAt wx w.heap.size neg (Value.slice a len cap) D p ∧ Below w.heap.size w wx)
  case first =>
    go_region_held3 (fun w' => w'.cell? ⟨w.heap.size, 0, none⟩ = some (.bool neg) ∧ w'.cell? ⟨w.heap.size, 1, none⟩ = some (Value.slice a len cap) ∧ w'.cell? ⟨w.heap.size, 2, none⟩ = some (.int .i64 p))
      (first | (go_keep; done) | (refine ⟨?_, ?_, ?_⟩ <;> go_simp; done) | (refine ⟨?_, ?_, ?_⟩ <;> (rw [hb.cell (by first | omega | (simp; done) | (simp; omega))]; go_simp); done))
      (first | (go_at_call 78; refine (HSZ.out _ (N0.out.nat.later (by repeat (first | exact Below.refl _ _ | refine below_drewN ?_ _)))).mono ?_; rintro e w' ⟨rfl, rfl⟩) | (go_at_call 101; refine (HC.out _ (N0.out.nat.later (by repeat (first | exact Below.refl _ _ | refine below_drewN ?_ _)))).mono ?_; rintro e w' ⟨v, rfl, hv, hb⟩))
    all_goals (try go_wp2_with fail)
    all_goals go_meet
    have hbb : Below w0.heap.size w0 w' := (below_drewN (Below.refl w0.heap.size w0) 1).trans hb
    exact ⟨rfl, hv, N0.out.later hbb, B0.out.trans (hbb.mono B0.out.size)⟩
  case rest =>
    obtain ⟨rfl, hy, hn, hb⟩ := hcut
    obtain ⟨ay, ly, cy, gy, rfl, -, -, -⟩ := hy.slice
    have NY : Hid (IsNat wc (Value.slice ay ly cy) Y) := hy
    have N1 : Hid (NumAt wc w.heap.size neg (Value.slice a len cap) D p) := hn
    have B1 : Hid (Below w.heap.size w wc) := hb
    have HNDY : Hid (nd Y ≤ 3) := nd_of_lt (Nat.lt_of_le_of_lt HYs.out.2.1 (by decide))
    have HSY : Hid (∀ w1 (v : Value), IsNat w1 v Y → Calls Tryz.prog 78 #[v] w1 fun e w' => e = .returned (.int .i64 (Go.bitLen Y : Nat)) ∧ w' = w1) := fun w1 v h1 => size_any Y v w1 h1 (by have := HNDY.out; omega)
    clear hy hn hb t0 t1 t2 tl N0 B0 HC
    generalize hbY : Go.bitLen Y = bY at *
    have HbY : Hid (Go.bitLen Y = bY) := hbY
    have hb53 : bY = 53 ∨ bY = 54 := HYs.out.2.2.1
    have hbl24 := HBB.out.1
    have hp1 := HBB.out.2.1
    have hp2 := HBB.out.2.2
    clear hbY
    have t0 := N1.out.c0
    have t1 := N1.out.c1
    have t2 := N1.out.c2
    have tl := N1.out.lt
    have hTT := HT.out
    have hT3 : ((bY : Int) + p + bl - 54) = T := by omega
    clear hTT
    go_wp2_with fail
    go_quiet (first | (go_at_call_of 78 (Value.slice ay ly cy); exact Calls.quiet_of_same (HSY.out _ _ (NY.out.later (by repeat (first | exact Below.refl _ _ | refine below_drewN ?_ _))))) | (go_at_call_of 78 (Value.slice a len cap); exact Calls.quiet_of_same (HSZ.out _ (N1.out.nat.later (by repeat (first | exact Below.refl _ _ | refine below_drewN ?_ _))))))
    go_upto_region 4 with fail
    generalize hwq : wc.drewN nq = wq at *
    have B2 : Hid (Below w.heap.size w wq) := by rw [← hwq]; exact below_drewN B1.out _
    have N2 : Hid (NumAt wq w.heap.size neg (Value.slice a len cap) D p) := by rw [← hwq]; exact N1.out.later (below_drewN (Below.refl _ _) _)
    have NY2 : Hid (IsNat wq (Value.slice ay ly cy) Y) := by rw [← hwq]; exact NY.out.later (below_drewN (Below.refl _ _) _)
    clear hwq B1 N1 NY t0 t1 t2 tl hT3
    have t0 := N2.out.c0
    have t1 := N2.out.c1
    have t2 := N2.out.c2
    have tl := N2.out.lt
    by_cases hT1 : 1024 ≤ T
    · have HO : Hid (roundB (sOf neg) D p m = overB (sOf neg) m ∧ roundF (sOf neg) D p m = 5) := HR.out.1 hT1
      obtain rfl | rfl | rfl | rfl | rfl : m = 0 ∨ m = 1 ∨ m = 2 ∨ m = 3 ∨ m = 4 := by have := HM.out; omega
      · cases neg
        · go_wp2_with fail
          refine bodyPost_ret (v := .tuple #[.int .u64 9218868437227405312, .int .i64 5]) (by simp [results, Tryz.results69, go_sem, sOf] <;> rfl) rfl ⟨by rw [HO.out.1, HO.out.2]; rfl, B2.out⟩
        · go_wp2_with fail
          refine bodyPost_ret (v := .tuple #[.int .u64 18442240474082181120, .int .i64 5]) (by simp [results, Tryz.results69, go_sem, sOf] <;> rfl) rfl ⟨by rw [HO.out.1, HO.out.2]; rfl, B2.out⟩
      · cases neg
        · go_wp2_with fail
          refine bodyPost_ret (v := .tuple #[.int .u64 9218868437227405312, .int .i64 5]) (by simp [results, Tryz.results69, go_sem, sOf] <;> rfl) rfl ⟨by rw [HO.out.1, HO.out.2]; rfl, B2.out⟩
        · go_wp2_with fail
          refine bodyPost_ret (v := .tuple #[.int .u64 18442240474082181120, .int .i64 5]) (by simp [results, Tryz.results69, go_sem, sOf] <;> rfl) rfl ⟨by rw [HO.out.1, HO.out.2]; rfl, B2.out⟩
      · cases neg
        · go_wp2_with fail
          refine bodyPost_ret (v := .tuple #[.int .u64 9218868437227405311, .int .i64 5]) (by simp [results, Tryz.results69, go_sem, sOf] <;> rfl) rfl ⟨by rw [HO.out.1, HO.out.2]; rfl, B2.out⟩
        · go_wp2_with fail
          refine bodyPost_ret (v := .tuple #[.int .u64 18442240474082181119, .int .i64 5]) (by simp [results, Tryz.results69, go_sem, sOf] <;> rfl) rfl ⟨by rw [HO.out.1, HO.out.2]; rfl, B2.out⟩
      · cases neg
        · go_wp2_with fail
          refine bodyPost_ret (v := .tuple #[.int .u64 9218868437227405312, .int .i64 5]) (by simp [results, Tryz.results69, go_sem, sOf] <;> rfl) rfl ⟨by rw [HO.out.1, HO.out.2]; rfl, B2.out⟩
        · go_wp2_with fail
          refine bodyPost_ret (v := .tuple #[.int .u64 18442240474082181119, .int .i64 5]) (by simp [results, Tryz.results69, go_sem, sOf] <;> rfl) rfl ⟨by rw [HO.out.1, HO.out.2]; rfl, B2.out⟩
      · cases neg
        · go_wp2_with fail
          refine bodyPost_ret (v := .tuple #[.int .u64 9218868437227405311, .int .i64 5]) (by simp [results, Tryz.results69, go_sem, sOf] <;> rfl) rfl ⟨by rw [HO.out.1, HO.out.2]; rfl, B2.out⟩
        · go_wp2_with fail
          refine bodyPost_ret (v := .tuple #[.int .u64 18442240474082181120, .int .i64 5]) (by simp [results, Tryz.results69, go_sem, sOf] <;> rfl) rfl ⟨by rw [HO.out.1, HO.out.2]; rfl, B2.out⟩
    · by_cases hT2 : T < -1022
      · have HO : Hid (roundB (sOf neg) D p m = sOf neg * 9223372036854775808 + cutQ (sOf neg) m D (-1074 - p) ∧ roundF (sOf neg) D p m = (if cutCh D (-1074 - p) then 3 else 0)) := HR.out.2.1 hT2
        have hq := HLE.out hT2
        generalize cutQ (sOf neg) m D (-1074 - p) = q at *
        generalize cutCh D (-1074 - p) = ch at *
        have hsg := HSN.out
        go_wp2_with fail
        refine (HC2.out _ N2.out.nat).mono ?_
        rintro e w5 ⟨v5, rfl, hv5, hb5⟩
        obtain ⟨a5, l5, c5, g5, rfl, -, -, -⟩ := hv5.slice
        have HV5 : Hid (IsNat w5 (Value.slice a5 l5 c5) q ∧ Below w.heap.size w w5) := ⟨hv5, B2.out.trans (hb5.mono B2.out.size)⟩
        clear hv5 hb5 t0 t1 t2 tl
        have hu : IntKind.u64.wrap (q : Int) = q := Go.IntWalk.u64_in _ (by omega)
        have hu2 : IntKind.u64.wrap (sOf neg * 9223372036854775808 + q) = sOf neg * 9223372036854775808 + q := Go.IntWalk.u64_in _ (by omega)
        cases ch
        · go_wp2_with (go_at_call 102; refine (small_any q _ _ HV5.out.1 (by omega)).mono ?_; rintro e w' ⟨rfl, rfl⟩)
          refine bodyPost_ret (v := .tuple #[.int .u64 (sOf neg * 9223372036854775808 + q), .int .i64 0]) (by simp [results, Tryz.results69, go_sem]) rfl ⟨by rw [HO.out.1, HO.out.2]; rfl, HV5.out.2⟩
        · go_wp2_with (go_at_call 102; refine (small_any q _ _ HV5.out.1 (by omega)).mono ?_; rintro e w' ⟨rfl, rfl⟩)
          refine bodyPost_ret (v := .tuple #[.int .u64 (sOf neg * 9223372036854775808 + q), .int .i64 3]) (by simp [results, Tryz.results69, go_sem]) rfl ⟨by rw [HO.out.1, HO.out.2]; rfl, HV5.out.2⟩
      · have ho := HR.out.2.2 (by omega) (by omega)
        have hsg := HSN.out
        have hYs := HYs.out
        by_cases h54 : bY = 54
        · rw [if_pos h54] at ho
          have hY54 := hYs.2.2.2 h54
          have HO : Hid (roundB (sOf neg) D p m = sOf neg * 9223372036854775808 + (T + 1023) * 4503599627370496 + ((4503599627370496 : Nat) - 4503599627370496 : Int) ∧ roundF (sOf neg) D p m = (if C8 then 1 else 0)) := ⟨by rw [ho.1]; omega, ho.2⟩
          have HDN : Hid (∀ w1, IsNat w1 (Value.slice ay ly cy) Y → Calls Tryz.prog 103 #[Value.slice ay ly cy, .int .i64 1] w1 fun e w' => ∃ v W, e = .returned (.tuple #[v, .bool W]) ∧ IsNat w' v 4503599627370496 ∧ Below w1.heap.size w1 w') := fun w1 h1 => by
            refine (down_any Y 1 _ w1 h1 (by have := HNDY.out; omega) (by decide)).mono ?_
            rintro e w' ⟨v, rfl, hv, hb⟩
            rw [hY54] at hv
            exact ⟨v, _, rfl, hv, hb⟩
          subst h54
          clear ho hYs hb53 hY54
          go_wp2_with (go_at_call 78; refine (HSY.out _ _ NY2.out).mono ?_; rintro e w' ⟨rfl, rfl⟩)
          refine (HDN.out _ NY2.out).mono ?_
          rintro e w5 ⟨v5, W5, rfl, hv5, hb5⟩
          obtain ⟨a5, l5, c5, g5, rfl, -, -, -⟩ := hv5.slice
          have HV5 : Hid (IsNat w5 (Value.slice a5 l5 c5) 4503599627370496 ∧ Below w.heap.size w w5) := ⟨hv5, B2.out.trans (hb5.mono B2.out.size)⟩
          clear hv5 hb5 t0 t1 t2 tl
          have hu1 : IntKind.u64.wrap (T + 1023) = T + 1023 := Go.IntWalk.u64_in _ (by omega)
          have hu2 : IntKind.u64.wrap ((T + 1023) * 4503599627370496) = (T + 1023) * 4503599627370496 := Go.IntWalk.u64_in _ (by omega)
          have hu3 : IntKind.u64.wrap (sOf neg * 9223372036854775808 + (T + 1023) * 4503599627370496) = sOf neg * 9223372036854775808 + (T + 1023) * 4503599627370496 := Go.IntWalk.u64_in _ (by omega)
          have hu4 : IntKind.u64.wrap (((4503599627370496 : Nat) : Int) - 4503599627370496) = ((4503599627370496 : Nat) : Int) - 4503599627370496 := Go.IntWalk.u64_in _ (by omega)
          have hu5 : IntKind.u64.wrap (sOf neg * 9223372036854775808 + (T + 1023) * 4503599627370496 + (((4503599627370496 : Nat) : Int) - 4503599627370496)) = sOf neg * 9223372036854775808 + (T + 1023) * 4503599627370496 + (((4503599627370496 : Nat) : Int) - 4503599627370496) := Go.IntWalk.u64_in _ (by omega)
          cases C8
          · go_wp2_with (go_at_call 102; refine (small_any (4503599627370496 : Nat) _ _ HV5.out.1 (by omega)).mono ?_; rintro e w' ⟨rfl, rfl⟩)
            refine bodyPost_ret (v := .tuple #[.int .u64 (sOf neg * 9223372036854775808 + (T + 1023) * 4503599627370496 + (((4503599627370496 : Nat) : Int) - 4503599627370496)), .int .i64 0]) (by simp [results, Tryz.results69, go_sem]) rfl ⟨ret_two HO.out.1 HO.out.2, HV5.out.2⟩
          · go_wp2_with (go_at_call 102; refine (small_any (4503599627370496 : Nat) _ _ HV5.out.1 (by omega)).mono ?_; rintro e w' ⟨rfl, rfl⟩)
            refine bodyPost_ret (v := .tuple #[.int .u64 (sOf neg * 9223372036854775808 + (T + 1023) * 4503599627370496 + (((4503599627370496 : Nat) : Int) - 4503599627370496)), .int .i64 1]) (by simp [results, Tryz.results69, go_sem]) rfl ⟨ret_two HO.out.1 HO.out.2, HV5.out.2⟩
        · rw [if_neg h54] at ho
          have HO : Hid (roundB (sOf neg) D p m = sOf neg * 9223372036854775808 + (T + 1023) * 4503599627370496 + ((Y : Int) - 4503599627370496) ∧ roundF (sOf neg) D p m = (if C8 then 1 else 0)) := ⟨by rw [ho.1]; omega, ho.2⟩
          have h53 : bY = 53 := by omega
          have hY1 := hYs.1
          have hY2 := hYs.2.1
          subst h53
          clear ho hYs hb53 h54
          go_upto_region 14 with fail
          have hu1 : IntKind.u64.wrap (T + 1023) = T + 1023 := Go.IntWalk.u64_in _ (by omega)
          have hu2 : IntKind.u64.wrap ((T + 1023) * 4503599627370496) = (T + 1023) * 4503599627370496 := Go.IntWalk.u64_in _ (by omega)
          have hu3 : IntKind.u64.wrap (sOf neg * 9223372036854775808 + (T + 1023) * 4503599627370496) = sOf neg * 9223372036854775808 + (T + 1023) * 4503599627370496 := Go.IntWalk.u64_in _ (by omega)
          have hu4 : IntKind.u64.wrap ((Y : Int) - 4503599627370496) = (Y : Int) - 4503599627370496 := Go.IntWalk.u64_in _ (by omega)
          have hu5 : IntKind.u64.wrap (sOf neg * 9223372036854775808 + (T + 1023) * 4503599627370496 + ((Y : Int) - 4503599627370496)) = sOf neg * 9223372036854775808 + (T + 1023) * 4503599627370496 + ((Y : Int) - 4503599627370496) := Go.IntWalk.u64_in _ (by omega)
          cases C8
          · go_wp2_with (first | (go_at_call 78; refine (HSY.out _ _ NY2.out).mono ?_; rintro e w' ⟨rfl, rfl⟩) | (go_at_call 102; refine (small_any Y _ _ NY2.out (by omega)).mono ?_; rintro e w' ⟨rfl, rfl⟩))
            refine bodyPost_ret (v := .tuple #[.int .u64 (sOf neg * 9223372036854775808 + (T + 1023) * 4503599627370496 + ((Y : Int) - 4503599627370496)), .int .i64 0]) (by simp [results, Tryz.results69, go_sem]) rfl ⟨ret_two HO.out.1 HO.out.2, B2.out⟩
          · go_wp2_with (first | (go_at_call 78; refine (HSY.out _ _ NY2.out).mono ?_; rintro e w' ⟨rfl, rfl⟩) | (go_at_call 102; refine (small_any Y _ _ NY2.out (by omega)).mono ?_; rintro e w' ⟨rfl, rfl⟩))
            refine bodyPost_ret (v := .tuple #[.int .u64 (sOf neg * 9223372036854775808 + (T + 1023) * 4503599627370496 + ((Y : Int) - 4503599627370496)), .int .i64 1]) (by simp [results, Tryz.results69, go_sem]) rfl ⟨ret_two HO.out.1 HO.out.2, B2.out⟩
end Go.Proofs.YtcjihaafohnbeaaGreatDoor
