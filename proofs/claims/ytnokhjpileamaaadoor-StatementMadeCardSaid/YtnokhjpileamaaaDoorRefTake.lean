/- The walks of trustflowref02: TakeInt, TakeText, TakeInts. -/
import Derived.Test.YtnokhjpileamaaaDoorTakes
import Derived.Test.YtnokhjpileamaaaDoorRefWrite
namespace Go.Proofs.YtnokhjpileamaaaDoor
open Go.RowKit
set_option maxHeartbeats 400000 in
theorem refTakeInt_no (A : Option Addr) (n c : Nat) (w : World) (hn : n < 8) :
    Calls Tryd.prog 79 #[.slice A n c] w fun e w' => e = noneI ∧ w = w' := by
  go_enter Tryd.func79, Tryd.ntmps79
  go_wp2
  go_ret3
  exact ⟨rfl, rfl⟩
/-- The number that was taken and a copy of the bytes behind it. -/
def RTookI (w : World) (us : List UInt8) (e : Ending) (w' : World) : Prop := ∃ A m c, e = .returned (.tuple #[.int .i64 (cnt us), .slice A m c, .bool true]) ∧ m = us.length - 8 ∧ BRow w' A m c (us.drop 8) ∧ New w w' A ∧ Below w.heap.size w w'
def RTookS (w : World) (us : List UInt8) (k : Nat) (e : Ending) (w' : World) : Prop := ∃ A m c, e = .returned (.tuple #[.string (strOf ((us.drop 8).take k)), .slice A m c, .bool true]) ∧ m = us.length - (8 + k) ∧ BRow w' A m c (us.drop (8 + k)) ∧ Below w.heap.size w w'
def RTookL (w : World) (us : List UInt8) (k : Nat) (e : Ending) (w' : World) : Prop :=
  ∃ B b A m c, e = .returned (.tuple #[.slice B k b, .slice A m c, .bool true]) ∧ IRow w' B k b (intsAt us k) ∧ New w w' B ∧ m = us.length - (8 + 8 * k) ∧ BRow w' A m c (us.drop (8 + 8 * k)) ∧ Below w.heap.size w w'
set_option maxHeartbeats 1000000 in
theorem refTakeInt_yes (A : Option Addr) (n c : Nat) (us : List UInt8) (w : World) (hr : BRow w A n c us) (hn : 8 ≤ n) (hnm : n ≤ 900000000) :
    Calls Tryd.prog 79 #[.slice A n c] w (RTookI w us) := by
  have hsl := fun w => run_slice_from (P := Tryd.prog) (t := 28) Tryd.underlying28 u8_size (A := A) (n := n) (c := c) (k := 8) (i := 8) rfl hn .i64 w
  have hd := hr.drop 8 hn
  obtain ⟨b, off, rfl, hcell⟩ := Row.form hr (by omega)
  generalize dropA (some ⟨b, off, none⟩) c 8 1 = A' at hsl hd
  have HL := Lib.hid hr.len; have HC := Lib.hid hcell; have HD := Lib.hid hd; clear hr hcell hd
  go_enter Tryd.func79, Tryd.ntmps79
  go_wp2
  go_loop [5, 6] (fun v i => ∃ k : Nat, k ≤ 8 ∧ i = .int .i64 k ∧ v = .int .u64 (numB (us.take k) : Nat)) (fun _ i => 8 - (intOf i).toNat)
  case atStart => exact ⟨0, by omega, rfl, rfl⟩
  case round =>
    obtain ⟨k, hk, rfl, rfl⟩ := hrel
    by_cases hlt : k < 8
    · have hc := HC.out k (by omega)
      rw [bytesV_get _ _ (by rw [HL.out]; omega)] at hc
      unfold bv at hc
      have hsn : Hid (numB (us.take (k + 1)) = numB (us.take k) * 256 + (us.getD k 0).toNat) := by
        unfold Hid; rw [take_snoc' us k 0 (by rw [HL.out]; omega), numB_snoc]
      have hm : numB (us.take k) < 72057594037927936 := by
        have h1 := numB_lt k (us.take k) (by rw [List.length_take, HL.out]; omega)
        have h2 : 256 ^ k ≤ 256 ^ 7 := Nat.pow_le_pow_right (by omega) (by omega)
        have h3 : (256 : Nat) ^ 7 = 72057594037927936 := by decide
        omega
      generalize hM : numB (us.take k) = m at hm hsn ⊢
      clear hM
      generalize us.getD k 0 = x at hc hsn
      have hor := or_low m x hm
      have hwx : IntKind.u64.wrap (w8 x) = w8 x := by have := w8_bd x; rw [IntKind.wrap_u64]; omega
      go_wp2
      go_round
      case rel => exact ⟨k + 1, by omega, by go_num, by rw [hsn.out]; go_num⟩
      case measure => simp [intOf]; omega
    · have HK : Hid (k = 8) := by unfold Hid; omega
      have hV : Hid (wrap64 (numB (us.take k) : Nat) = cnt us) := by unfold Hid; rw [HK.out]; rfl
      generalize numB (us.take k) = m at hV ⊢
      go_wp2_with fail
      refine (rest_any A' (n - 8) (c - 8) _ w HD.out (by omega)).mono ?_
      rintro e w2 ⟨A2, m2, c2, rfl, hm2, hr2, hn2, hb2⟩
      have HN2 := Lib.hid hn2; have HM2 := Lib.hid hm2; have HR2 := Lib.hid hr2; have HB2 := Lib.hid hb2; clear hm2 hr2 hb2 hn2
      go_wp2
      go_ret3
      exact ⟨A2, m2, c2, by rw [← hV.out]; rfl, by rw [HM2.out, List.length_drop], HR2.out, HN2.out, HB2.out⟩
set_option maxHeartbeats 1000000 in
theorem refTakeText_no (A : Option Addr) (n c : Nat) (us : List UInt8) (most : Int) (w : World) (hr : BRow w A n c us) (hnm : n ≤ 900000000) (hno : ¬ CountOk us most 1) :
    Calls Tryd.prog 80 #[.slice A n c, .int .i64 most] w fun e w' => e = noneS ∧ Below w.heap.size w w' := by
  have HR := Lib.hid hr; have HL := Lib.hid hr.len; have HNO := Lib.hid hno; clear hr hno
  by_cases hn : n < 8
  · go_enter Tryd.func80, Tryd.ntmps80
    go_wp2_with fail
    refine (refTakeInt_no A n c w hn).mono ?_
    rintro e w1 ⟨rfl, rfl⟩
    unfold noneI
    go_wp2
    go_ret3
    exact ⟨rfl, Below.refl _ _⟩
  · have hn8 : 8 ≤ n := by omega
    have h4 := Lib.hid (countNot HL.out hn8 HNO.out)
    go_enter Tryd.func80, Tryd.ntmps80
    go_wp2_with fail
    refine (refTakeInt_yes A n c us w HR.out hn8 hnm).mono ?_
    rintro e w1 ⟨A1, m, c1, rfl, hm, hr1, hn1, hb1⟩
    have HB1 := Lib.hid hb1; rw [HL.out] at hm; have HM := Lib.hid hm; clear hb1 hr1 hn1
    have hm9 : m ≤ 900000000 := by omega
    clear hm
    generalize cnt us = v at h4 ⊢
    rcases h4.out with h | ⟨h, h1⟩ | ⟨h, h1, h2⟩
    · have g : (decide (v < 0)) = true := decide_eq_true h
      clear h
      go_wp2
      go_ret3
      exact ⟨rfl, HB1.out⟩
    · have g : (decide (v < 0)) = false := decide_eq_false (by omega)
      have g1 : (decide (most < v)) = true := decide_eq_true h1
      clear h h1
      go_wp2
      go_ret3
      exact ⟨rfl, HB1.out⟩
    · rw [← HM.out] at h2
      have g : (decide (v < 0)) = false := decide_eq_false (by omega)
      have g1 : (decide (most < v)) = false := decide_eq_false (by omega)
      have g2 : (decide ((m : Int) < v)) = true := decide_eq_true (by omega)
      clear h h1 h2
      go_wp2
      go_ret3
      exact ⟨rfl, HB1.out⟩
set_option maxHeartbeats 1000000 in
theorem refTakeInts_no (A : Option Addr) (n c : Nat) (us : List UInt8) (most : Int) (w : World) (hr : BRow w A n c us) (hnm : n ≤ 900000000) (hno : ¬ CountOk us most 8) :
    Calls Tryd.prog 61 #[.slice A n c, .int .i64 most] w fun e w' => e = noneL ∧ Below w.heap.size w w' := by
  have HR := Lib.hid hr; have HL := Lib.hid hr.len; have HNO := Lib.hid hno; clear hr hno
  by_cases hn : n < 8
  · go_enter Tryd.func61, Tryd.ntmps61
    go_wp2_with fail
    refine (refTakeInt_no A n c w hn).mono ?_
    rintro e w1 ⟨rfl, rfl⟩
    unfold noneI
    go_wp2
    go_ret3
    exact ⟨rfl, Below.refl _ _⟩
  · have hn8 : 8 ≤ n := by omega
    have h4 := Lib.hid (countNot HL.out hn8 HNO.out)
    go_enter Tryd.func61, Tryd.ntmps61
    go_wp2_with fail
    refine (refTakeInt_yes A n c us w HR.out hn8 hnm).mono ?_
    rintro e w1 ⟨A1, m, c1, rfl, hm, hr1, hn1, hb1⟩
    have HB1 := Lib.hid hb1; rw [HL.out] at hm; have HM := Lib.hid hm; clear hb1 hr1 hn1
    have hm9 : m ≤ 900000000 := by omega
    clear hm
    generalize cnt us = v at h4 ⊢
    rcases h4.out with h | ⟨h, h1⟩ | ⟨h, h1, h2⟩
    · have g : (decide (v < 0)) = true := decide_eq_true h
      clear h
      go_wp2
      go_ret3
      exact ⟨rfl, HB1.out⟩
    · have g : (decide (v < 0)) = false := decide_eq_false (by omega)
      have g1 : (decide (most < v)) = true := decide_eq_true h1
      clear h h1
      go_wp2
      go_ret3
      exact ⟨rfl, HB1.out⟩
    · rw [← HM.out] at h2
      have g : (decide (v < 0)) = false := decide_eq_false (by omega)
      have g1 : (decide (most < v)) = false := decide_eq_false (by omega)
      have g2 : (decide ((m : Int) / 8 < v)) = true := decide_eq_true (by omega)
      clear h h1 h2
      go_wp2
      go_ret3
      exact ⟨rfl, HB1.out⟩
set_option maxHeartbeats 1000000 in
theorem refTakeText_yes (A : Option Addr) (n c : Nat) (us : List UInt8) (most : Int) (k : Nat) (w : World) (hr : BRow w A n c us) (hnm : n ≤ 900000000) (hok : CountOk us most 1) (hk : cnt us = (k : Int)) :
    Calls Tryd.prog 80 #[.slice A n c, .int .i64 most] w (RTookS w us k) := by
  have HR := Lib.hid hr; have HL := Lib.hid hr.len; have HOK := Lib.hid hok; have HK := Lib.hid hk
  have hkn : Hid (8 ≤ n ∧ k ≤ n - 8 ∧ (k : Int) ≤ most) := by
    have h1 := hok.len; have h2 := hok.fit; have h3 := hr.len; have h4 := hok.le
    rw [hk, h3, Nat.div_one] at h2; rw [h3] at h1; rw [hk] at h4; exact ⟨h1, by omega, h4⟩
  have hn8 : 8 ≤ n := hkn.out.1
  clear hr hok hk
  go_enter Tryd.func80, Tryd.ntmps80
  go_wp2_with fail
  refine (refTakeInt_yes A n c us w HR.out hn8 hnm).mono ?_
  rintro e w1 ⟨A1, m, c1, rfl, hm, hr1, -, hb1⟩
  rw [HL.out] at hm
  have hkm : k ≤ m := by have := hkn.out; omega
  rw [HK.out]
  have g1 : (decide (most < (k : Int))) = false := decide_eq_false (by have := hkn.out.2.2; omega)
  have g2 : (decide ((m : Int) < (k : Int))) = false := decide_eq_false (by omega)
  have g3 : (decide (m < k)) = false := decide_eq_false (by omega)
  have hs1 := fun w => run_slice_from (P := Tryd.prog) (t := 28) Tryd.underlying28 u8_size (A := A1) (n := m) (c := c1) (k := k) (i := (k : Int)) rfl hkm .i64 w
  have hs2 := fun w => run_slice_to (P := Tryd.prog) (t := 28) Tryd.underlying28 u8_size (k := k) hr1 (i := (k : Int)) rfl hkm .i64 w
  have hd := hr1.drop k hkm
  have hcv : ∀ x, (convert 28 9 (.slice A1 k c1)).run Tryd.prog (fut Later w1.drew x) = .ok (.string (strOf ((us.drop 8).take k))) (fut Later w1.drew x) := fun x =>
    run_conv_row (((hr1.take k hkm).later (Later.drew w1)).later (fut_ok Later.refl _ x)) Tryd.underlying28 Tryd.underlying5 Tryd.underlying9
  generalize dropA A1 c1 k 1 = A' at hs1 hd
  obtain ⟨t, ht⟩ : ∃ t, t = strOf ((us.drop 8).take k) := ⟨_, rfl⟩
  rw [← ht] at hcv
  have HT := Lib.hid ht; clear ht
  have hm9 : m - k ≤ 900000000 := by omega
  have HM := Lib.hid hm; have HD := Lib.hid hd; have HB1 := Lib.hid hb1; clear hm hr1 hb1 hd hkm
  go_wp2_with fail
  refine wp_region_grow (by kernel_rfl) Later Later.refl (fun _ _ _ => Later.trans) [8, 9, 10] [([0, 1, 2, 3, 4, 5, 6], 7)] (by kernel_rfl) (by kernel_rfl) (by kernel_rfl) ?_
  simp only [List.map_cons, List.map_nil, pick, List.getD_cons_zero, List.getD_cons_succ]
  refine wpGrow_cons ?_
  repeat (go_big_quiet_step (fail))
  refine wpQuiet_nil ?_
  go_wp2_with fail
  refine (rest_any A' (m - k) (c1 - k) _ w1.drew (HD.out.later (Later.drew w1)) hm9).mono ?_
  rintro e w2 ⟨A2, m2, c2, rfl, hm2, hr2, -, hb2⟩
  have HM2 := Lib.hid hm2; have HR2 := Lib.hid hr2; have HB2 := Lib.hid hb2; clear hm2 hr2 hb2
  go_wp2_with fail
  refine pieceEnd_normal ⟨HB2.out, ?_⟩
  refine wpGrow_nil ?_
  repeat (go_big_quiet_step (fail))
  refine wpQuiet_nil ?_
  go_wp2
  go_ret3
  refine ⟨A2, m2, c2, by rw [← HT.out]; rfl, by rw [HM2.out, List.drop_drop, List.length_drop], ?_, HB1.out.drew.trans (HB2.out.mono HB1.out.size)⟩
  have h := HR2.out
  rw [List.drop_drop] at h
  exact h
set_option maxHeartbeats 1000000 in
theorem refTakeInts_yes (A : Option Addr) (n c : Nat) (us : List UInt8) (most : Int) (k : Nat) (w : World) (hr : BRow w A n c us) (hnm : n ≤ 900000000) (hok : CountOk us most 8) (hk : cnt us = (k : Int)) :
    Calls Tryd.prog 61 #[.slice A n c, .int .i64 most] w (RTookL w us k) := by
  have HR := Lib.hid hr; have HL := Lib.hid hr.len; have HOK := Lib.hid hok; have HK := Lib.hid hk
  have hkn : Hid (8 ≤ n ∧ 8 * k ≤ n - 8 ∧ (k : Int) ≤ most) := by
    have h1 := hok.len; have h2 := hok.fit; have h3 := hr.len; have h4 := hok.le
    rw [hk, h3] at h2; rw [h3] at h1; rw [hk] at h4; exact ⟨h1, by omega, h4⟩
  have hn8 : 8 ≤ n := hkn.out.1
  have hk9 : k ≤ 200000000 := by have := hkn.out; omega
  clear hr hok hk
  go_enter Tryd.func61, Tryd.ntmps61
  go_wp2_with fail
  refine (refTakeInt_yes A n c us w HR.out hn8 hnm).mono ?_
  rintro e w1 ⟨A1, m, c1, rfl, hm, hr1, hn1, hb1⟩
  rw [HL.out] at hm
  have hm9 : m ≤ 900000000 := by omega
  rw [HK.out]
  have g1 : (decide (most < (k : Int))) = false := decide_eq_false (by have := hkn.out.2.2; omega)
  have g2 : (decide ((m : Int) / 8 < (k : Int))) = false := decide_eq_false (by have := hkn.out.2.1; omega)
  have HM := Lib.hid hm; have HR1 := Lib.hid hr1; have HB1 := Lib.hid hb1; clear hm hr1 hb1 hn1
  go_wp2_with fail
  go_loopw [0, 9, 10] (fun r v i wr => ∃ j : Nat, j ≤ k ∧ i = .int .i64 j ∧ ∃ A' m' c', r = .slice A' m' c' ∧ Hid (m' = m - 8 * j ∧ BRow wr A' m' c' (us.drop (8 + 8 * j)) ∧ IOwn wr w.heap.size v (intsAt us j) ∧ Below w.heap.size w wr)) (fun _ _ i _ => k - (intOf i).toNat)
  case atStart => exact ⟨0, by omega, rfl, A1, m, c1, rfl, Lib.hid ⟨by omega, HR1.out, World.ownsRow_nil _ _ _ _, HB1.out⟩⟩
  case round =>
    obtain ⟨j, hj, rfl, A', m', c', rfl, HQ⟩ := hrel
    by_cases hlt : j < k
    · have hm8 : 8 ≤ m' := by have h1 := HQ.out.1; have h2 := HM.out; have h3 := hkn.out; omega
      have hm99 : m' ≤ 900000000 := by have h1 := HQ.out.1; omega
      have hlen := Lib.hid (intsAt_len us j)
      go_wp2_with fail
      refine (refTakeInt_yes A' m' c' _ wr HQ.out.2.1 hm8 hm99).mono ?_
      rintro e w3 ⟨A3, m3, c3, rfl, hm3, hr3, hn3, hb3⟩
      rw [show cnt (List.drop (8 + 8 * j) us) = intAt us j from rfl]
      obtain ⟨x, hx⟩ : ∃ x, x = intAt us j := ⟨_, rfl⟩
      rw [← hx]
      have hown : IOwn w3 w.heap.size _ (intsAt us j) := own_below HQ.out.2.2.1 hb3 (fun g hg => (World.ownsRow.lt HQ.out.2.2.1 g hg).2)
      have hap : Hid (∀ ad, A3 = some ad → _ ≠ some ad.block) := fun ad hA e => by
        have h1 := (World.ownsRow.lt HQ.out.2.2.1 _ e).2
        have h2 := (hn3 ad hA).1
        omega
      have HX := Lib.hid hx; have HO := Lib.hid hown; have HM3 := Lib.hid hm3; have HR3 := Lib.hid hr3; have HB3 := Lib.hid (HQ.out.2.2.2.trans (hb3.mono HQ.out.2.2.2.size)); clear hx hown hm3 hr3 hn3 hb3
      go_wp2_with (at_builtin; go_must (refine wpList_app_newK w3 rfl (.tmp 49) (.tmp 51) 22 3 rfl w.heap.size Tryd.underlying22 i64_info rfl _ _ _ HO.out rfl 1 #[.int .i64 x] rfl (by simp [Value.oneCell']) rfl rfl (by rw [hlen.out]; unfold maxLen; omega) (by rw [hlen.out]; omega) HB3.out.size ?_); intro v4 w4 ho4 hb4 hk4 _; have HO4 := Lib.hid ho4; have HB4 := Lib.hid hb4; have HK4 := Lib.hid hk4; clear ho4 hb4 hk4)
      refine ⟨⟨j + 1, by omega, by go_num, A3, m3, c3, rfl, Lib.hid ⟨by have h1 := HQ.out.1; have h2 := HM3.out; rw [List.length_drop, HL.out] at h2; have h3 := HM.out; omega, ?_, ?_, HB3.out.trans HB4.out⟩⟩, by simp [intOf]; omega⟩
      · have h := HR3.out
        rw [List.drop_drop] at h
        exact Row.keep h (fun ad hA _ hlt' => HK4.out _ hlt' (hap.out ad hA))
      · unfold IOwn
        rw [intsAt_succ, intsV_app, List.length_append, ← HX.out]
        exact HO4.out
    · have HJ : Hid (j = k) := by unfold Hid; omega
      obtain ⟨B, b, hv, hrow⟩ := HQ.out.2.2.1.row
      rw [intsAt_len] at hv hrow
      subst hv
      have HRW := Lib.hid hrow; clear hrow
      have HNW : Hid (New w wr B) := Lib.hid fun ad hA => by subst hA; exact World.ownsRow.lt HQ.out.2.2.1 _ rfl
      go_wp2
      go_ret3
      have hJ := HJ.out
      subst hJ
      exact ⟨B, b, A', m', c', rfl, HRW.out, HNW.out, by rw [HL.out]; have h1 := HQ.out.1; have h2 := HM.out; omega, HQ.out.2.1, HQ.out.2.2.2⟩
end Go.Proofs.YtnokhjpileamaaaDoor
