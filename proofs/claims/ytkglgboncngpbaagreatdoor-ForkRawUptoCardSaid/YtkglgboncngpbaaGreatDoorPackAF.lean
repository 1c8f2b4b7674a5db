import Derived.Test.YtkglgboncngpbaaGreatDoorPackAE
import Derived.Test.YtkglgboncngpbaaGreatDoorPackAB
import Derived.Test.YtkglgboncngpbaaGreatDoorPackAA
import Derived.Test.YtkglgboncngpbaaGreatDoorPackAC
import Derived.WalkSmall
/- The walks of package wire: TakeText, TakeInts. -/
namespace Go.Proofs.YtkglgboncngpbaaGreatDoor
open Go.RowKit
/-- The string that was taken and the bytes behind it. -/
def TookS (w : World) (us : List UInt8) (k : Nat) (e : Ending) (w' : World) : Prop := ∃ A m c, e = .returned (.tuple #[.string (strOf ((us.drop 8).take k)), .slice A m c, .bool true]) ∧ m = us.length - (8 + k) ∧ BRow w A m c (us.drop (8 + k)) ∧ Below w.heap.size w w'
/-- Number i of those that stand behind the first one; the first k of them. -/
def intAt (us : List UInt8) (i : Nat) : Int := int8 ((us.drop (8 + 8 * i)).take 8)
def intsAt (us : List UInt8) (k : Nat) : List Int := (List.range k).map (intAt us)
theorem intsAt_len (us : List UInt8) (k : Nat) : (intsAt us k).length = k := by simp [intsAt]
theorem intsAt_succ (us : List UInt8) (k : Nat) : intsAt us (k + 1) = intsAt us k ++ [intAt us k] := by simp [intsAt, List.range_succ]
/-- The list that was taken and the bytes behind it. -/
def TookL (w : World) (us : List UInt8) (k : Nat) (e : Ending) (w' : World) : Prop :=
  ∃ B b A m c, e = .returned (.tuple #[.slice B k b, .slice A m c, .bool true]) ∧ IRow w' B k b (intsAt us k) ∧ New w w' B ∧ m = us.length - (8 + 8 * k) ∧ BRow w A m c (us.drop (8 + 8 * k)) ∧ Below w.heap.size w w'
/-- Numbers in a slice that the call itself has made. -/
def IOwn (w : World) (B : Nat) (v : Value) (l : List Int) : Prop := w.ownsRow B 3 1 v l.length (intsV l)
theorem IOwn.row {w : World} {B : Nat} {v : Value} {l : List Int} (h : IOwn w B v l) : ∃ A c, v = .slice A l.length c ∧ IRow w A l.length c l := Row.of_own h
set_option maxHeartbeats 1000000 in
theorem takeText_no (A : Option Addr) (n c : Nat) (us : List UInt8) (most : Int) (w : World) (hr : BRow w A n c us) (hnm : n ≤ 900000000) (hno : ¬ CountOk us most 1) :
    Calls Tryz.prog 58 #[.slice A n c, .int .i64 most] w fun e w' => e = noneS ∧ Below w.heap.size w w' := by
  have HR := Lib.hid hr; have HNO := Lib.hid hno; clear hr hno
  go_enter Tryz.func58, Tryz.ntmps58
  go_wp2_with fail
  refine (takeCount_no A n c us most 1 w HR.out (.inl rfl) hnm HNO.out).mono ?_
  rintro e w1 ⟨rfl, hb1⟩
  have HB1 := Lib.hid hb1; clear hb1
  unfold noneI
  go_wp2
  go_ret3
  exact ⟨rfl, HB1.out⟩
set_option maxHeartbeats 1000000 in
theorem takeText_yes (A : Option Addr) (n c : Nat) (us : List UInt8) (most : Int) (k : Nat) (w : World) (hr : BRow w A n c us) (hnm : n ≤ 900000000) (hok : CountOk us most 1) (hk : cnt us = (k : Int)) :
    Calls Tryz.prog 58 #[.slice A n c, .int .i64 most] w (TookS w us k) := by
  have HR := Lib.hid hr; have HL := Lib.hid hr.len; have HOK := Lib.hid hok; have HK := Lib.hid hk
  have hkn : Hid (8 ≤ n ∧ k ≤ n - 8) := by
    have h1 := hok.len; have h2 := hok.fit; have h3 := hr.len
    rw [hk, h3, Nat.div_one] at h2; rw [h3] at h1; exact ⟨h1, by omega⟩
  clear hr hok hk
  go_enter Tryz.func58, Tryz.ntmps58
  go_wp2_with fail
  refine (takeCount_yes A n c us most 1 w HR.out (.inl rfl) hnm HOK.out).mono ?_
  rintro e w1 ⟨A1, m, c1, rfl, hm, hr1, hb1⟩
  rw [HL.out] at hm
  have hkm : k ≤ m := by have := hkn.out; omega
  change Hid (int8 (us.take 8) = (k : Int)) at HK
  rw [HK.out]
  have hs1 := fun w => run_slice_from (P := Tryz.prog) (t := 30) Tryz.underlying30 u8_size (A := A1) (n := m) (c := c1) (k := k) (i := (k : Int)) rfl hkm .i64 w
  have hs2 := fun w => run_slice_to (P := Tryz.prog) (t := 30) Tryz.underlying30 u8_size (k := k) hr1 (i := (k : Int)) rfl hkm .i64 w
  have hd := hr1.drop k hkm
  have hcv : ∀ x, (convert 30 9 (.slice A1 k c1)).run Tryz.prog (fut Later w1.drew x) = .ok (.string (strOf ((us.drop 8).take k))) (fut Later w1.drew x) := fun x =>
    run_conv_row ((((hr1.take k hkm).later hb1).later (Later.drew w1)).later (fut_ok Later.refl _ x)) Tryz.underlying30 Tryz.underlying5 Tryz.underlying9
  generalize dropA A1 c1 k 1 = A' at hs1 hd
  obtain ⟨t, ht⟩ : ∃ t, t = strOf ((us.drop 8).take k) := ⟨_, rfl⟩
  rw [← ht] at hcv
  have HT := Lib.hid ht; clear ht
  have HM := Lib.hid hm; have HD := Lib.hid hd; have HB1 := Lib.hid hb1; clear hm hr1 hb1 hd hkm
  go_wp2_with fail
  refine wp_region_grow (by kernel_rfl) Later Later.refl (fun _ _ _ => Later.trans) [0, 1, 2, 3, 4, 5, 6, 7, 8, 9] [] (by kernel_rfl) (by kernel_rfl) (by kernel_rfl) ?_
  simp only [List.map_cons, List.map_nil, pick, List.getD_cons_zero, List.getD_cons_succ]
  refine wpGrow_nil ?_
  repeat (go_big_quiet_step (fail))
  refine wpQuiet_nil ?_
  go_wp2
  go_ret3
  refine ⟨A', m - k, c1 - k, by rw [← HT.out]; rfl, by rw [HL.out, HM.out]; omega, ?_, HB1.out.drew⟩
  have h := HD.out
  rw [List.drop_drop] at h
  exact h
set_option maxHeartbeats 1000000 in
theorem takeInts_no (A : Option Addr) (n c : Nat) (us : List UInt8) (most : Int) (w : World) (hr : BRow w A n c us) (hnm : n ≤ 900000000) (hno : ¬ CountOk us most 8) :
    Calls Tryz.prog 129 #[.slice A n c, .int .i64 most] w fun e w' => e = noneL ∧ Below w.heap.size w w' := by
  have HR := Lib.hid hr; have HNO := Lib.hid hno; clear hr hno
  go_enter Tryz.func129, Tryz.ntmps129
  go_wp2_with fail
  refine (takeCount_no A n c us most 8 w HR.out (.inr rfl) hnm HNO.out).mono ?_
  rintro e w1 ⟨rfl, hb1⟩
  have HB1 := Lib.hid hb1; clear hb1
  unfold noneI
  go_wp2
  go_ret3
  exact ⟨rfl, HB1.out⟩
set_option maxHeartbeats 1000000 in
theorem takeInts_yes (A : Option Addr) (n c : Nat) (us : List UInt8) (most : Int) (k : Nat) (w : World) (hr : BRow w A n c us) (hnm : n ≤ 900000000) (hok : CountOk us most 8) (hk : cnt us = (k : Int)) :
    Calls Tryz.prog 129 #[.slice A n c, .int .i64 most] w (TookL w us k) := by
  have HR := Lib.hid hr; have HL := Lib.hid hr.len; have HOK := Lib.hid hok; have HK := Lib.hid hk
  have hkn : Hid (8 ≤ n ∧ 8 * k ≤ n - 8) := by
    have h1 := hok.len; have h2 := hok.fit; have h3 := hr.len
    rw [hk, h3] at h2; rw [h3] at h1; exact ⟨h1, by omega⟩
  have hk9 : k ≤ 200000000 := by have := hkn.out; omega
  clear hr hok hk
  go_enter Tryz.func129, Tryz.ntmps129
  go_wp2_with fail
  refine (takeCount_yes A n c us most 8 w HR.out (.inr rfl) hnm HOK.out).mono ?_
  rintro e w1 ⟨A1, m, c1, rfl, hm, hr1, hb1⟩
  rw [HL.out] at hm
  have HM := Lib.hid hm; have HR1 := Lib.hid hr1; have HB1 := Lib.hid hb1; clear hm hr1 hb1
  change Hid (int8 (us.take 8) = (k : Int)) at HK
  rw [HK.out]
  go_wp2_with (at_make; go_must (refine wpList_make _ rfl (.const (.int .i64 0)) (.tmp 20) 22 3 rfl w.heap.size Tryz.underlying22 i64_info rfl 0 k rfl rfl rfl rfl (by omega) (by omega) (by unfold maxLen; omega) HB1.out.size ?_); intro w2 ho2 hb2; have HO2 := Lib.hid ho2; have HB2 := Lib.hid hb2; clear ho2 hb2)
  go_loopw [8, 10, 23] (fun r v i wr => ∃ j : Nat, j ≤ k ∧ i = .int .i64 j ∧ ∃ A' m' c', r = .slice A' m' c' ∧ Hid (m' = m - 8 * j ∧ BRow w A' m' c' (us.drop (8 + 8 * j)) ∧ IOwn wr w.heap.size v (intsAt us j) ∧ Below w.heap.size w wr)) (fun _ _ i _ => k - (intOf i).toNat)
  case atStart => exact ⟨0, by omega, rfl, A1, m, c1, rfl, Lib.hid ⟨by omega, HR1.out, HO2.out, HB1.out.trans (HB2.out.mono HB1.out.size)⟩⟩
  case round =>
    obtain ⟨j, hj, rfl, A', m', c', rfl, HQ⟩ := hrel
    by_cases hlt : j < k
    · have hm8 : 8 ≤ m' := by have h1 := HQ.out.1; have h2 := HM.out; have h3 := hkn.out; omega
      have hs1 := fun w => run_slice_from (P := Tryz.prog) (t := 30) Tryz.underlying30 u8_size (A := A') (n := m') (c := c') (k := 8) (i := 8) rfl hm8 .i64 w
      have hd := HQ.out.2.1.drop 8 hm8
      generalize dropA A' c' 8 1 = A2 at hs1 hd
      have HD := Lib.hid hd; clear hd
      have hlen := Lib.hid (intsAt_len us j)
      go_wp2_with fail
      refine (number_any A' m' c' _ wr (HQ.out.2.1.later HQ.out.2.2.2) hm8).mono ?_
      rintro e w3 ⟨rfl, rfl⟩
      rw [show int8 (List.take 8 (List.drop (8 + 8 * j) us)) = intAt us j from rfl]
      obtain ⟨x, hx⟩ : ∃ x, x = intAt us j := ⟨_, rfl⟩
      rw [← hx]
      have HX := Lib.hid hx; clear hx
      go_wp2_with (at_builtin; go_must (refine wpList_app_new wr rfl (.tmp 25) (.tmp 28) 22 3 rfl w.heap.size Tryz.underlying22 i64_info rfl _ _ _ HQ.out.2.2.1 rfl 1 #[.int .i64 x] rfl (by simp [Value.oneCell']) rfl rfl (by rw [hlen.out]; unfold maxLen; omega) (by rw [hlen.out]; omega) HQ.out.2.2.2.size ?_); intro v3 w3 ho3 hb3; have HO3 := Lib.hid ho3; have HB3 := Lib.hid hb3; clear ho3 hb3)
      refine ⟨⟨j + 1, by omega, by go_num, A2, _, _, rfl, Lib.hid ⟨by have := HQ.out.1; omega, ?_, ?_, HQ.out.2.2.2.trans HB3.out⟩⟩, by simp [intOf]; omega⟩
      · have h := HD.out
        rw [List.drop_drop] at h
        exact h
      · unfold IOwn
        rw [intsAt_succ, intsV_app, List.length_append, ← HX.out]
        exact HO3.out
    · have HJ : Hid (j = k) := by unfold Hid; omega
      obtain ⟨B, b, hv, hrow⟩ := HQ.out.2.2.1.row
      rw [intsAt_len] at hv hrow
      subst hv
      have HRW := Lib.hid hrow; clear hrow
      have HNW : Hid (New w wr B) := Lib.hid fun ad hA => by subst hA; exact World.ownsRow.lt HQ.out.2.2.1 _ rfl
      go_wp2
      go_ret3
      have hJ := HJ.out
      subst hJ
      exact ⟨B, b, A', m', c', rfl, HRW.out, HNW.out, by rw [HL.out]; have h1 := HQ.out.1; have h2 := HM.out; omega, HQ.out.2.1, HQ.out.2.2.2⟩
end Go.Proofs.YtkglgboncngpbaaGreatDoor
/- The walks of trustflowref02: Int, Text, Ints, rest. -/
namespace Go.Proofs.YtkglgboncngpbaaGreatDoor
open Go.RowKit
set_option maxHeartbeats 400000 in
theorem refInt_own (A : Option Addr) (n c : Nat) (us : List UInt8) (x : Int) (w : World) (hr : BRow w A n c us) (hm : n ≤ 3000000) :
    Calls Tryz.prog 68 #[.slice A n c, .int .i64 x] w fun e w' => ∃ v, e = .returned v ∧ BOwn w' w.heap.size v (us ++ be8 x) ∧ Below w.heap.size w w' := by
  have HR := Lib.hid hr; have HL := Lib.hid hr.len; clear hr
  go_enter Tryz.func68, Tryz.ntmps68
  go_wp2_with (at_builtin; go_must (refine wpList_app w rfl (.const (.slice none 0 0)) (.tmp 7) 30 30 5 rfl w.heap.size Tryz.underlying30 u8_info rfl _ 0 [] (World.ownsRow_nil w _ _ _) rfl (.slice A n c) n (bytesV us) (Row.src HR.out Tryz.underlying30 (bytesV_one us)) rfl (by unfold maxLen; omega) (by omega) (Nat.le_refl _) ?_); intro v3 w3 ho3 hb3; have HO3 := Lib.hid ho3; have HB3 := Lib.hid hb3; clear ho3 hb3)
  go_loopw [5, 6] (fun v i wr => ∃ k : Nat, k ≤ 8 ∧ i = .int .i64 (7 - (k : Int)) ∧ Hid (BOwn wr w.heap.size v (us ++ be8To x k) ∧ Below w.heap.size w wr)) (fun _ i _ => (intOf i + 1).toNat)
  case atStart => exact ⟨0, by omega, by go_num, Lib.hid ⟨by have h := HO3.out; rw [Nat.zero_add, List.nil_append] at h; unfold BOwn; simp only [be8To, List.range_zero, List.map_nil, List.append_nil]; rw [HL.out]; exact h, HB3.out⟩⟩
  case round =>
    obtain ⟨k, hk, rfl, HI⟩ := hrel
    have hlen : (us ++ be8To x k).length + 1 ≤ 1000000000 := by rw [List.length_append, be8To_len, HL.out]; omega
    have HLEN := Lib.hid hlen; clear hlen
    by_cases hlt : k < 8
    · have hsh := be8At_eq x k
      have h0 : (0 : Int) ≤ 7 - (k : Int) := by omega
      have h8 : 8 * (7 - (k : Int)) = ((56 - 8 * k : Nat) : Int) := by omega
      have hBr : w.heap.size ≤ wr.heap.size := HI.out.2.size
      go_wp2_with (at_builtin; go_must (refine wpList_app_new wr rfl (.tmp 13) (.tmp 20) 30 5 rfl w.heap.size Tryz.underlying30 u8_info rfl _ _ _ HI.out.1 rfl 1 #[.int .u8 (w8 (be8At x k))] rfl (by simp [Value.oneCell']) rfl rfl (by have := HLEN.out; unfold maxLen; omega) (by have := HLEN.out; omega) hBr ?_); intro v' w' hown' hb')
      exact ⟨⟨k + 1, by omega, by go_num, by rw [be8To_succ, ← List.append_assoc]; exact ⟨by unfold BOwn; rw [bytesV_app, List.length_append]; exact hown', HI.out.2.trans hb'⟩⟩, by simp [intOf]; omega⟩
    · go_wp2
      go_ret
      have hk8 : k = 8 := by omega
      subst hk8
      exact ⟨_, rfl, HI.out⟩
theorem refInt_any (A : Option Addr) (n c : Nat) (us : List UInt8) (x : Int) (w : World) (hr : BRow w A n c us) (hm : n ≤ 3000000) :
    Calls Tryz.prog 68 #[.slice A n c, .int .i64 x] w (GivesB w (us ++ be8 x)) :=
  (refInt_own A n c us x w hr hm).mono fun _ _ ⟨_, he, ho, hb⟩ => by subst he; exact ho.gives hb
set_option maxHeartbeats 400000 in
theorem refText_any (A : Option Addr) (n c : Nat) (us : List UInt8) (s : ByteArray) (w : World) (hr : BRow w A n c us) (hm : n ≤ 3000000) (hs : s.size ≤ 3000000) :
    Calls Tryz.prog 46 #[.slice A n c, .string s] w (GivesB w (us ++ textB s.data.toList)) := by
  have HR := Lib.hid hr; have HL := Lib.hid hr.len; clear hr
  go_enter Tryz.func46, Tryz.ntmps46
  go_wp2_with fail
  refine (refInt_own A n c us (s.size : Int) w HR.out hm).mono ?_
  rintro e w2 ⟨v2, rfl, ho2, hb2⟩
  have HO2 := Lib.hid ho2; have HB2 := Lib.hid hb2; clear ho2 hb2
  have hlen : (us ++ be8 (s.size : Int)).length = n + 8 := by rw [List.length_append, be8_len, HL.out]
  have HLEN := Lib.hid hlen; clear hlen
  go_wp2_with (at_builtin; go_must (refine wpList_app w2 rfl (.tmp 8) (.tmp 9) 30 9 5 rfl w.heap.size Tryz.underlying30 u8_info rfl v2 _ _ HO2.out rfl (.string s) s.size (byteCells s) (Src.ofString w2 Tryz.underlying9 s) rfl (by rw [HLEN.out]; unfold maxLen; omega) (by rw [HLEN.out]; omega) HB2.out.size ?_); intro v3 w3 ho3 hb3; have HO3 := Lib.hid ho3; have HB3 := Lib.hid (HB2.out.trans hb3); clear ho3 hb3)
  go_ret
  refine BOwn.gives ?_ HB3.out
  have h := HO3.out
  unfold BOwn textB
  rw [← List.append_assoc, bytesV_app, List.length_append, show (s.data.toList.length : Int) = (s.size : Int) from by simp]
  rw [show s.data.toList.length = s.size from by simp]
  exact h
set_option maxHeartbeats 400000 in
theorem refInts_any (A : Option Addr) (n c : Nat) (us : List UInt8) (B : Option Addr) (m k : Nat) (l : List Int) (w : World) (hr : BRow w A n c us) (hl : IRow w B m k l) (hm : n ≤ 100000) (hs : m ≤ 90000) :
    Calls Tryz.prog 92 #[.slice A n c, .slice B m k] w (GivesB w (us ++ intsB l)) := by
  have HR := Lib.hid hr; have HL := Lib.hid hr.len; have HI := Lib.hid hl; have HLL := Lib.hid hl.len; clear hr hl
  go_enter Tryz.func92, Tryz.ntmps92
  go_wp2_with fail
  refine (refInt_any A n c us (m : Int) w HR.out (by omega)).mono ?_
  rintro e w2 ⟨A2, m2, c2, rfl, hm2, hr2, hn2, hb2⟩
  have HN2 := Lib.hid hn2; have HM2 := Lib.hid hm2; have HR2 := Lib.hid hr2; have HB2 := Lib.hid hb2; clear hm2 hr2 hb2 hn2
  go_wp2_with fail
  go_loopw [5, 6] (fun v i wr => ∃ j : Nat, j ≤ m ∧ i = .int .i64 j ∧ ∃ A' n' c', v = .slice A' n' c' ∧ Hid (n' = n + 8 + 8 * j ∧ BRow wr A' n' c' (us ++ be8 (m : Int) ++ listB (l.take j)) ∧ Below w.heap.size w wr ∧ New w wr A')) (fun _ i _ => m - (intOf i).toNat)
  case atStart => exact ⟨0, Nat.zero_le _, rfl, A2, m2, c2, rfl, Lib.hid ⟨by have := HM2.out; rw [List.length_append, be8_len, HL.out] at this; omega, by simpa [listB] using HR2.out, HB2.out, HN2.out⟩⟩
  case round =>
    obtain ⟨j, hj, rfl, A', n', c', rfl, HQ⟩ := hrel
    by_cases hlt : j < m
    · obtain ⟨b, off, hA, hcell⟩ := (Row.later HI.out HQ.out.2.2.1).form (by omega)
      have hc := hcell j (by omega)
      rw [intsV_get _ _ (by rw [HLL.out]; exact hlt)] at hc
      unfold iv at hc
      subst hA
      clear hcell
      have hn' : n' ≤ 3000000 := by have := HQ.out.1; omega
      go_wp2_with fail
      refine (refInt_any A' n' c' _ (l.getD j 0) wr HQ.out.2.1 hn').mono ?_
      rintro e w3 ⟨A3, m3, c3, rfl, hm3, hr3, hn3, hb3⟩
      have HN3 := Lib.hid (hn3.from HQ.out.2.2.1.size); have HM3 := Lib.hid hm3; have HR3 := Lib.hid hr3; have HB3 := Lib.hid (HQ.out.2.2.1.trans (hb3.mono HQ.out.2.2.1.size)); clear hm3 hr3 hb3 hn3
      go_wp2
      exact ⟨⟨j + 1, by omega, by go_num, A3, m3, c3, rfl, Lib.hid ⟨by rw [HM3.out, List.length_append, be8_len, BRow.len HQ.out.2.1, HQ.out.1]; omega, by rw [take_snoc' l j 0 (by rw [HLL.out]; exact hlt), listB_snoc, ← List.append_assoc]; exact HR3.out, HB3.out, HN3.out⟩⟩, by simp [intOf]; omega⟩
    · have HK : Hid (j = m) := by unfold Hid; omega
      go_wp2
      go_ret
      have h := HQ.out.2.1
      rw [HK.out, List.take_of_length_le (by rw [HLL.out]; exact Nat.le_refl _)] at h
      have hlen := h.len
      refine ⟨A', n', c', rfl, ?_, ?_, HQ.out.2.2.2, HQ.out.2.2.1⟩
      · unfold intsB; rw [HLL.out, ← List.append_assoc, hlen]
      · unfold intsB; rw [HLL.out, ← List.append_assoc]; exact h
end Go.Proofs.YtkglgboncngpbaaGreatDoor
/- The walks of trustflowref02: TakeInt, TakeText, TakeInts. -/
namespace Go.Proofs.YtkglgboncngpbaaGreatDoor
open Go.RowKit
set_option maxHeartbeats 400000 in
theorem refTakeInt_no (A : Option Addr) (n c : Nat) (w : World) (hn : n < 8) :
    Calls Tryz.prog 93 #[.slice A n c] w fun e w' => e = noneI ∧ w = w' := by
  go_enter Tryz.func93, Tryz.ntmps93
  go_wp2
  go_ret3
  exact ⟨rfl, rfl⟩
/-- The number that was taken and a copy of the bytes behind it. -/
def RTookI (w : World) (us : List UInt8) (e : Ending) (w' : World) : Prop := ∃ A m c, e = .returned (.tuple #[.int .i64 (cnt us), .slice A m c, .bool true]) ∧ m = us.length - 8 ∧ BRow w' A m c (us.drop 8) ∧ New w w' A ∧ Below w.heap.size w w'
def RTookS (w : World) (us : List UInt8) (k : Nat) (e : Ending) (w' : World) : Prop := ∃ A m c, e = .returned (.tuple #[.string (strOf ((us.drop 8).take k)), .slice A m c, .bool true]) ∧ m = us.length - (8 + k) ∧ BRow w' A m c (us.drop (8 + k)) ∧ Below w.heap.size w w'
def RTookL (w : World) (us : List UInt8) (k : Nat) (e : Ending) (w' : World) : Prop :=
  ∃ B b A m c, e = .returned (.tuple #[.slice B k b, .slice A m c, .bool true]) ∧ IRow w' B k b (intsAt us k) ∧ New w w' B ∧ m = us.length - (8 + 8 * k) ∧ BRow w' A m c (us.drop (8 + 8 * k)) ∧ Below w.heap.size w w'
set_option maxHeartbeats 1000000 in
theorem refTakeInt_yes (A : Option Addr) (n c : Nat) (us : List UInt8) (w : World) (hr : BRow w A n c us) (hn : 8 ≤ n) (hnm : n ≤ 900000000) :
    Calls Tryz.prog 93 #[.slice A n c] w (RTookI w us) := by
  have hsl := fun w => run_slice_from (P := Tryz.prog) (t := 30) Tryz.underlying30 u8_size (A := A) (n := n) (c := c) (k := 8) (i := 8) rfl hn .i64 w
  have hd := hr.drop 8 hn
  obtain ⟨b, off, rfl, hcell⟩ := Row.form hr (by omega)
  generalize dropA (some ⟨b, off, none⟩) c 8 1 = A' at hsl hd
  have HL := Lib.hid hr.len; have HC := Lib.hid hcell; have HD := Lib.hid hd; clear hr hcell hd
  go_enter Tryz.func93, Tryz.ntmps93
  go_wp2
  go_loop [5, 6] (fun v i => ∃ k : Nat, k ≤ 8 ∧ i = .int .i64 k ∧ v = .int .u64 (numB (us.take k) : Nat)) (fun _ i => 8 - (intOf i).toNat)
  case atStart => exact ⟨0, by omega, rfl, rfl⟩
  case round =>
    obtain ⟨k, hk, rfl, rfl⟩ := hrel
    by_cases hlt : k < 8
    · have hc := HC.out k (by omega)
      rw [bytesV_get _ _ (by rw [HL.out]; omega)] at hc
      unfold bv at hc
      have hsn : Hid (numB (us.take (k + 1)) = numB (us.take k) * 256 + (us.getD k 0).toNat) := by
        unfold Hid; rw [take_snoc' us k 0 (by rw [HL.out]; omega), numB_snoc]
      have hm : numB (us.take k) < 72057594037927936 := by
        have h1 := numB_lt k (us.take k) (by rw [List.length_take, HL.out]; omega)
        have h2 : 256 ^ k ≤ 256 ^ 7 := Nat.pow_le_pow_right (by omega) (by omega)
        have h3 : (256 : Nat) ^ 7 = 72057594037927936 := by decide
        omega
      generalize hM : numB (us.take k) = m at hm hsn ⊢
      clear hM
      generalize us.getD k 0 = x at hc hsn
      have hor := or_low m x hm
      have hwx : IntKind.u64.wrap (w8 x) = w8 x := by have := w8_bd x; rw [IntKind.wrap_u64]; omega
      go_wp2
      go_round
      case rel => exact ⟨k + 1, by omega, by go_num, by rw [hsn.out]; go_num⟩
      case measure => simp [intOf]; omega
    · have HK : Hid (k = 8) := by unfold Hid; omega
      have hV : Hid (wrap64 (numB (us.take k) : Nat) = cnt us) := by unfold Hid; rw [HK.out]; rfl
      generalize numB (us.take k) = m at hV ⊢
      go_wp2_with fail
      refine (rest_any A' (n - 8) (c - 8) _ w HD.out (by omega)).mono ?_
      rintro e w2 ⟨A2, m2, c2, rfl, hm2, hr2, hn2, hb2⟩
      have HN2 := Lib.hid hn2; have HM2 := Lib.hid hm2; have HR2 := Lib.hid hr2; have HB2 := Lib.hid hb2; clear hm2 hr2 hb2 hn2
      go_wp2
      go_ret3
      exact ⟨A2, m2, c2, by rw [← hV.out]; rfl, by rw [HM2.out, List.length_drop], HR2.out, HN2.out, HB2.out⟩
set_option maxHeartbeats 1000000 in
theorem refTakeText_no (A : Option Addr) (n c : Nat) (us : List UInt8) (most : Int) (w : World) (hr : BRow w A n c us) (hnm : n ≤ 900000000) (hno : ¬ CountOk us most 1) :
    Calls Tryz.prog 63 #[.slice A n c, .int .i64 most] w fun e w' => e = noneS ∧ Below w.heap.size w w' := by
  have HR := Lib.hid hr; have HL := Lib.hid hr.len; have HNO := Lib.hid hno; clear hr hno
  by_cases hn : n < 8
  · go_enter Tryz.func63, Tryz.ntmps63
    go_wp2_with fail
    refine (refTakeInt_no A n c w hn).mono ?_
    rintro e w1 ⟨rfl, rfl⟩
    unfold noneI
    go_wp2
    go_ret3
    exact ⟨rfl, Below.refl _ _⟩
  · have hn8 : 8 ≤ n := by omega
    have h4 := Lib.hid (countNot HL.out hn8 HNO.out)
    go_enter Tryz.func63, Tryz.ntmps63
    go_wp2_with fail
    refine (refTakeInt_yes A n c us w HR.out hn8 hnm).mono ?_
    rintro e w1 ⟨A1, m, c1, rfl, hm, hr1, hn1, hb1⟩
    have HB1 := Lib.hid hb1; rw [HL.out] at hm; have HM := Lib.hid hm; clear hb1 hr1 hn1
    have hm9 : m ≤ 900000000 := by omega
    clear hm
    generalize cnt us = v at h4 ⊢
    rcases h4.out with h | ⟨h, h1⟩ | ⟨h, h1, h2⟩
    · have g : (decide (v < 0)) = true := decide_eq_true h
      clear h
      go_wp2
      go_ret3
      exact ⟨rfl, HB1.out⟩
    · have g : (decide (v < 0)) = false := decide_eq_false (by omega)
      have g1 : (decide (most < v)) = true := decide_eq_true h1
      clear h h1
      go_wp2
      go_ret3
      exact ⟨rfl, HB1.out⟩
    · rw [← HM.out] at h2
      have g : (decide (v < 0)) = false := decide_eq_false (by omega)
      have g1 : (decide (most < v)) = false := decide_eq_false (by omega)
      have g2 : (decide ((m : Int) < v)) = true := decide_eq_true (by omega)
      clear h h1 h2
      go_wp2
      go_ret3
      exact ⟨rfl, HB1.out⟩
set_option maxHeartbeats 1000000 in
theorem refTakeInts_no (A : Option Addr) (n c : Nat) (us : List UInt8) (most : Int) (w : World) (hr : BRow w A n c us) (hnm : n ≤ 900000000) (hno : ¬ CountOk us most 8) :
    Calls Tryz.prog 97 #[.slice A n c, .int .i64 most] w fun e w' => e = noneL ∧ Below w.heap.size w w' := by
  have HR := Lib.hid hr; have HL := Lib.hid hr.len; have HNO := Lib.hid hno; clear hr hno
  by_cases hn : n < 8
  · go_enter Tryz.func97, Tryz.ntmps97
    go_wp2_with fail
    refine (refTakeInt_no A n c w hn).mono ?_
    rintro e w1 ⟨rfl, rfl⟩
    unfold noneI
    go_wp2
    go_ret3
    exact ⟨rfl, Below.refl _ _⟩
  · have hn8 : 8 ≤ n := by omega
    have h4 := Lib.hid (countNot HL.out hn8 HNO.out)
    go_enter Tryz.func97, Tryz.ntmps97
    go_wp2_with fail
    refine (refTakeInt_yes A n c us w HR.out hn8 hnm).mono ?_
    rintro e w1 ⟨A1, m, c1, rfl, hm, hr1, hn1, hb1⟩
    have HB1 := Lib.hid hb1; rw [HL.out] at hm; have HM := Lib.hid hm; clear hb1 hr1 hn1
    have hm9 : m ≤ 900000000 := by omega
    clear hm
    generalize cnt us = v at h4 ⊢
    rcases h4.out with h | ⟨h, h1⟩ | ⟨h, h1, h2⟩
    · have g : (decide (v < 0)) = true := decide_eq_true h
      clear h
      go_wp2
      go_ret3
      exact ⟨rfl, HB1.out⟩
    · have g : (decide (v < 0)) = false := decide_eq_false (by omega)
      have g1 : (decide (most < v)) = true := decide_eq_true h1
      clear h h1
      go_wp2
      go_ret3
      exact ⟨rfl, HB1.out⟩
    · rw [← HM.out] at h2
      have g : (decide (v < 0)) = false := decide_eq_false (by omega)
      have g1 : (decide (most < v)) = false := decide_eq_false (by omega)
      have g2 : (decide ((m : Int) / 8 < v)) = true := decide_eq_true (by omega)
      clear h h1 h2
      go_wp2
      go_ret3
      exact ⟨rfl, HB1.out⟩
set_option maxHeartbeats 1000000 in
theorem refTakeText_yes (A : Option Addr) (n c : Nat) (us : List UInt8) (most : Int) (k : Nat) (w : World) (hr : BRow w A n c us) (hnm : n ≤ 900000000) (hok : CountOk us most 1) (hk : cnt us = (k : Int)) :
    Calls Tryz.prog 63 #[.slice A n c, .int .i64 most] w (RTookS w us k) := by
  have HR := Lib.hid hr; have HL := Lib.hid hr.len; have HOK := Lib.hid hok; have HK := Lib.hid hk
  have hkn : Hid (8 ≤ n ∧ k ≤ n - 8 ∧ (k : Int) ≤ most) := by
    have h1 := hok.len; have h2 := hok.fit; have h3 := hr.len; have h4 := hok.le
    rw [hk, h3, Nat.div_one] at h2; rw [h3] at h1; rw [hk] at h4; exact ⟨h1, by omega, h4⟩
  have hn8 : 8 ≤ n := hkn.out.1
  clear hr hok hk
  go_enter Tryz.func63, Tryz.ntmps63
  go_wp2_with fail
  refine (refTakeInt_yes A n c us w HR.out hn8 hnm).mono ?_
  rintro e w1 ⟨A1, m, c1, rfl, hm, hr1, -, hb1⟩
  rw [HL.out] at hm
  have hkm : k ≤ m := by have := hkn.out; omega
  rw [HK.out]
  have g1 : (decide (most < (k : Int))) = false := decide_eq_false (by have := hkn.out.2.2; omega)
  have g2 : (decide ((m : Int) < (k : Int))) = false := decide_eq_false (by omega)
  have g3 : (decide (m < k)) = false := decide_eq_false (by omega)
  have hs1 := fun w => run_slice_from (P := Tryz.prog) (t := 30) Tryz.underlying30 u8_size (A := A1) (n := m) (c := c1) (k := k) (i := (k : Int)) rfl hkm .i64 w
  have hs2 := fun w => run_slice_to (P := Tryz.prog) (t := 30) Tryz.underlying30 u8_size (k := k) hr1 (i := (k : Int)) rfl hkm .i64 w
  have hd := hr1.drop k hkm
  have hcv : ∀ x, (convert 30 9 (.slice A1 k c1)).run Tryz.prog (fut Later w1.drew x) = .ok (.string (strOf ((us.drop 8).take k))) (fut Later w1.drew x) := fun x =>
    run_conv_row (((hr1.take k hkm).later (Later.drew w1)).later (fut_ok Later.refl _ x)) Tryz.underlying30 Tryz.underlying5 Tryz.underlying9
  generalize dropA A1 c1 k 1 = A' at hs1 hd
  obtain ⟨t, ht⟩ : ∃ t, t = strOf ((us.drop 8).take k) := ⟨_, rfl⟩
  rw [← ht] at hcv
  have HT := Lib.hid ht; clear ht
  have hm9 : m - k ≤ 900000000 := by omega
  have HM := Lib.hid hm; have HD := Lib.hid hd; have HB1 := Lib.hid hb1; clear hm hr1 hb1 hd hkm
  go_wp2_with fail
  refine wp_region_grow (by kernel_rfl) Later Later.refl (fun _ _ _ => Later.trans) [8, 9, 10] [([0, 1, 2, 3, 4, 5, 6], 7)] (by kernel_rfl) (by kernel_rfl) (by kernel_rfl) ?_
  simp only [List.map_cons, List.map_nil, pick, List.getD_cons_zero, List.getD_cons_succ]
  refine wpGrow_cons ?_
  repeat (go_big_quiet_step (fail))
  refine wpQuiet_nil ?_
  go_wp2_with fail
  refine (rest_any A' (m - k) (c1 - k) _ w1.drew (HD.out.later (Later.drew w1)) hm9).mono ?_
  rintro e w2 ⟨A2, m2, c2, rfl, hm2, hr2, -, hb2⟩
  have HM2 := Lib.hid hm2; have HR2 := Lib.hid hr2; have HB2 := Lib.hid hb2; clear hm2 hr2 hb2
  go_wp2_with fail
  refine pieceEnd_normal ⟨HB2.out, ?_⟩
  refine wpGrow_nil ?_
  repeat (go_big_quiet_step (fail))
  refine wpQuiet_nil ?_
  go_wp2
  go_ret3
  refine ⟨A2, m2, c2, by rw [← HT.out]; rfl, by rw [HM2.out, List.drop_drop, List.length_drop], ?_, HB1.out.drew.trans (HB2.out.mono HB1.out.size)⟩
  have h := HR2.out
  rw [List.drop_drop] at h
  exact h
set_option maxHeartbeats 1000000 in
theorem refTakeInts_yes (A : Option Addr) (n c : Nat) (us : List UInt8) (most : Int) (k : Nat) (w : World) (hr : BRow w A n c us) (hnm : n ≤ 900000000) (hok : CountOk us most 8) (hk : cnt us = (k : Int)) :
    Calls Tryz.prog 97 #[.slice A n c, .int .i64 most] w (RTookL w us k) := by
  have HR := Lib.hid hr; have HL := Lib.hid hr.len; have HOK := Lib.hid hok; have HK := Lib.hid hk
  have hkn : Hid (8 ≤ n ∧ 8 * k ≤ n - 8 ∧ (k : Int) ≤ most) := by
    have h1 := hok.len; have h2 := hok.fit; have h3 := hr.len; have h4 := hok.le
    rw [hk, h3] at h2; rw [h3] at h1; rw [hk] at h4; exact ⟨h1, by omega, h4⟩
  have hn8 : 8 ≤ n := hkn.out.1
  have hk9 : k ≤ 200000000 := by have := hkn.out; omega
  clear hr hok hk
  go_enter Tryz.func97, Tryz.ntmps97
  go_wp2_with fail
  refine (refTakeInt_yes A n c us w HR.out hn8 hnm).mono ?_
  rintro e w1 ⟨A1, m, c1, rfl, hm, hr1, hn1, hb1⟩
  rw [HL.out] at hm
  have hm9 : m ≤ 900000000 := by omega
  rw [HK.out]
  have g1 : (decide (most < (k : Int))) = false := decide_eq_false (by have := hkn.out.2.2; omega)
  have g2 : (decide ((m : Int) / 8 < (k : Int))) = false := decide_eq_false (by have := hkn.out.2.1; omega)
  have HM := Lib.hid hm; have HR1 := Lib.hid hr1; have HB1 := Lib.hid hb1; clear hm hr1 hb1 hn1
  go_wp2_with fail
  go_loopw [0, 9, 10] (fun r v i wr => ∃ j : Nat, j ≤ k ∧ i = .int .i64 j ∧ ∃ A' m' c', r = .slice A' m' c' ∧ Hid (m' = m - 8 * j ∧ BRow wr A' m' c' (us.drop (8 + 8 * j)) ∧ IOwn wr w.heap.size v (intsAt us j) ∧ Below w.heap.size w wr)) (fun _ _ i _ => k - (intOf i).toNat)
  case atStart => exact ⟨0, by omega, rfl, A1, m, c1, rfl, Lib.hid ⟨by omega, HR1.out, World.ownsRow_nil _ _ _ _, HB1.out⟩⟩
  case round =>
    obtain ⟨j, hj, rfl, A', m', c', rfl, HQ⟩ := hrel
    by_cases hlt : j < k
    · have hm8 : 8 ≤ m' := by have h1 := HQ.out.1; have h2 := HM.out; have h3 := hkn.out; omega
      have hm99 : m' ≤ 900000000 := by have h1 := HQ.out.1; omega
      have hlen := Lib.hid (intsAt_len us j)
      go_wp2_with fail
      refine (refTakeInt_yes A' m' c' _ wr HQ.out.2.1 hm8 hm99).mono ?_
      rintro e w3 ⟨A3, m3, c3, rfl, hm3, hr3, hn3, hb3⟩
      rw [show cnt (List.drop (8 + 8 * j) us) = intAt us j from rfl]
      obtain ⟨x, hx⟩ : ∃ x, x = intAt us j := ⟨_, rfl⟩
      rw [← hx]
      have hown : IOwn w3 w.heap.size _ (intsAt us j) := own_below HQ.out.2.2.1 hb3 (fun g hg => (World.ownsRow.lt HQ.out.2.2.1 g hg).2)
      have hap : Hid (∀ ad, A3 = some ad → _ ≠ some ad.block) := fun ad hA e => by
        have h1 := (World.ownsRow.lt HQ.out.2.2.1 _ e).2
        have h2 := (hn3 ad hA).1
        omega
      have HX := Lib.hid hx; have HO := Lib.hid hown; have HM3 := Lib.hid hm3; have HR3 := Lib.hid hr3; have HB3 := Lib.hid (HQ.out.2.2.2.trans (hb3.mono HQ.out.2.2.2.size)); clear hx hown hm3 hr3 hn3 hb3
      go_wp2_with (at_builtin; go_must (refine wpList_app_newK w3 rfl (.tmp 49) (.tmp 51) 22 3 rfl w.heap.size Tryz.underlying22 i64_info rfl _ _ _ HO.out rfl 1 #[.int .i64 x] rfl (by simp [Value.oneCell']) rfl rfl (by rw [hlen.out]; unfold maxLen; omega) (by rw [hlen.out]; omega) HB3.out.size ?_); intro v4 w4 ho4 hb4 hk4 _; have HO4 := Lib.hid ho4; have HB4 := Lib.hid hb4; have HK4 := Lib.hid hk4; clear ho4 hb4 hk4)
      refine ⟨⟨j + 1, by omega, by go_num, A3, m3, c3, rfl, Lib.hid ⟨by have h1 := HQ.out.1; have h2 := HM3.out; rw [List.length_drop, HL.out] at h2; have h3 := HM.out; omega, ?_, ?_, HB3.out.trans HB4.out⟩⟩, by simp [intOf]; omega⟩
      · have h := HR3.out
        rw [List.drop_drop] at h
        exact Row.keep h (fun ad hA _ hlt' => HK4.out _ hlt' (hap.out ad hA))
      · unfold IOwn
        rw [intsAt_succ, intsV_app, List.length_append, ← HX.out]
        exact HO4.out
    · have HJ : Hid (j = k) := by unfold Hid; omega
      obtain ⟨B, b, hv, hrow⟩ := HQ.out.2.2.1.row
      rw [intsAt_len] at hv hrow
      subst hv
      have HRW := Lib.hid hrow; clear hrow
      have HNW : Hid (New w wr B) := Lib.hid fun ad hA => by subst hA; exact World.ownsRow.lt HQ.out.2.2.1 _ rfl
      go_wp2
      go_ret3
      have hJ := HJ.out
      subst hJ
      exact ⟨B, b, A', m', c', rfl, HRW.out, HNW.out, by rw [HL.out]; have h1 := HQ.out.1; have h2 := HM.out; omega, HQ.out.2.1, HQ.out.2.2.2⟩
end Go.Proofs.YtkglgboncngpbaaGreatDoor
/- What is taken from any bytes, by package wire and by the reference alike. -/
namespace Go.Proofs.YtkglgboncngpbaaGreatDoor
open Go.RowKit
/-- What is taken from bytes: the value, the bytes behind it, whether there is one. -/
def takeI (us : List UInt8) : Int × List UInt8 × Bool := if 8 ≤ us.length then (cnt us, us.drop 8, true) else (0, [], false)
open Classical in
noncomputable def takeS (us : List UInt8) (most : Int) : ByteArray × List UInt8 × Bool :=
  if CountOk us most 1 then (strOf ((us.drop 8).take (cnt us).toNat), us.drop (8 + (cnt us).toNat), true) else (⟨#[]⟩, [], false)
open Classical in
noncomputable def takeL (us : List UInt8) (most : Int) : List Int × List UInt8 × Bool :=
  if CountOk us most 8 then (intsAt us (cnt us).toNat, us.drop (8 + 8 * (cnt us).toNat), true) else ([], [], false)
def SomeI (w : World) (R : Int × List UInt8 × Bool) (e : Ending) (w' : World) : Prop := ∃ A m c, e = .returned (.tuple #[.int .i64 R.1, .slice A m c, .bool R.2.2]) ∧ BRow w' A m c R.2.1 ∧ Below w.heap.size w w'
def SomeS (w : World) (R : ByteArray × List UInt8 × Bool) (e : Ending) (w' : World) : Prop := ∃ A m c, e = .returned (.tuple #[.string R.1, .slice A m c, .bool R.2.2]) ∧ BRow w' A m c R.2.1 ∧ Below w.heap.size w w'
def SomeL (w : World) (R : List Int × List UInt8 × Bool) (e : Ending) (w' : World) : Prop :=
  ∃ B k b A m c, e = .returned (.tuple #[.slice B k b, .slice A m c, .bool R.2.2]) ∧ IRow w' B k b R.1 ∧ New w w' B ∧ BRow w' A m c R.2.1 ∧ Below w.heap.size w w'
theorem cnt_nat {us : List UInt8} {most : Int} {size : Nat} (h : CountOk us most size) : cnt us = ((cnt us).toNat : Int) := by have := h.nn; omega
theorem takeL_len (us : List UInt8) (most : Int) : (takeL us most).1.length ≤ us.length := by
  unfold takeL
  split
  · rename_i h
    have h1 := h.fit; have h2 := h.nn
    rw [intsAt_len]; omega
  · exact Nat.zero_le _
section
variable (A : Option Addr) (n c : Nat) (us : List UInt8) (most : Int) (w : World)
theorem takeInt_any (hr : BRow w A n c us) : Calls Tryz.prog 111 #[.slice A n c] w (SomeI w (takeI us)) := by
  by_cases h : 8 ≤ us.length
  · refine (takeInt_yes A n c us w hr (by rw [← hr.len]; exact h)).mono fun e w' ⟨A', m, c', he, _, h1, h2⟩ => ⟨A', m, c', ?_, ?_, h2⟩
    · unfold takeI; rw [if_pos h]; exact he
    · unfold takeI; rw [if_pos h]; exact h1.later h2
  · refine (takeInt_no A n c w (by rw [← hr.len]; omega)).mono fun e w' ⟨he, hw⟩ => ⟨none, 0, 0, ?_, ?_, ?_⟩
    · unfold takeI; rw [if_neg h]; exact he
    · unfold takeI; rw [if_neg h]; exact Row.nilRow _ _
    · subst hw; exact Below.refl _ _
theorem refTakeInt_any (hr : BRow w A n c us) (hn : n ≤ 900000000) : Calls Tryz.prog 93 #[.slice A n c] w (SomeI w (takeI us)) := by
  by_cases h : 8 ≤ us.length
  · refine (refTakeInt_yes A n c us w hr (by rw [← hr.len]; exact h) hn).mono fun e w' ⟨A', m, c', he, _, h1, _, h2⟩ => ⟨A', m, c', ?_, ?_, h2⟩
    · unfold takeI; rw [if_pos h]; exact he
    · unfold takeI; rw [if_pos h]; exact h1
  · refine (refTakeInt_no A n c w (by rw [← hr.len]; omega)).mono fun e w' ⟨he, hw⟩ => ⟨none, 0, 0, ?_, ?_, ?_⟩
    · unfold takeI; rw [if_neg h]; exact he
    · unfold takeI; rw [if_neg h]; exact Row.nilRow _ _
    · subst hw; exact Below.refl _ _
theorem takeText_any (hr : BRow w A n c us) (hn : n ≤ 900000000) : Calls Tryz.prog 58 #[.slice A n c, .int .i64 most] w (SomeS w (takeS us most)) := by
  by_cases h : CountOk us most 1
  · refine (takeText_yes A n c us most _ w hr hn h (cnt_nat h)).mono fun e w' ⟨A', m, c', he, _, h1, h2⟩ => ⟨A', m, c', ?_, ?_, h2⟩
    · unfold takeS; rw [if_pos h]; exact he
    · unfold takeS; rw [if_pos h]; exact h1.later h2
  · refine (takeText_no A n c us most w hr hn h).mono fun e w' ⟨he, hw⟩ => ⟨none, 0, 0, ?_, ?_, hw⟩
    · unfold takeS; rw [if_neg h]; exact he
    · unfold takeS; rw [if_neg h]; exact Row.nilRow _ _
theorem refTakeText_any (hr : BRow w A n c us) (hn : n ≤ 900000000) : Calls Tryz.prog 63 #[.slice A n c, .int .i64 most] w (SomeS w (takeS us most)) := by
  by_cases h : CountOk us most 1
  · refine (refTakeText_yes A n c us most _ w hr hn h (cnt_nat h)).mono fun e w' ⟨A', m, c', he, _, h1, h2⟩ => ⟨A', m, c', ?_, ?_, h2⟩
    · unfold takeS; rw [if_pos h]; exact he
    · unfold takeS; rw [if_pos h]; exact h1
  · refine (refTakeText_no A n c us most w hr hn h).mono fun e w' ⟨he, hw⟩ => ⟨none, 0, 0, ?_, ?_, hw⟩
    · unfold takeS; rw [if_neg h]; exact he
    · unfold takeS; rw [if_neg h]; exact Row.nilRow _ _
theorem takeInts_any (hr : BRow w A n c us) (hn : n ≤ 900000000) : Calls Tryz.prog 129 #[.slice A n c, .int .i64 most] w (SomeL w (takeL us most)) := by
  by_cases h : CountOk us most 8
  · refine (takeInts_yes A n c us most _ w hr hn h (cnt_nat h)).mono fun e w' ⟨B, b, A', m, c', he, h0, hN, _, h1, h2⟩ => ⟨B, (cnt us).toNat, b, A', m, c', ?_, ?_, hN, ?_, h2⟩
    · unfold takeL; rw [if_pos h]; exact he
    · unfold takeL; rw [if_pos h]; exact h0
    · unfold takeL; rw [if_pos h]; exact h1.later h2
  · refine (takeInts_no A n c us most w hr hn h).mono fun e w' ⟨he, hw⟩ => ⟨none, 0, 0, none, 0, 0, ?_, ?_, (fun _ h => by cases h), ?_, hw⟩
    · unfold takeL; rw [if_neg h]; exact he
    · unfold takeL; rw [if_neg h]; exact Row.nilRow _ _
    · unfold takeL; rw [if_neg h]; exact Row.nilRow _ _
theorem refTakeInts_any (hr : BRow w A n c us) (hn : n ≤ 900000000) : Calls Tryz.prog 97 #[.slice A n c, .int .i64 most] w (SomeL w (takeL us most)) := by
  by_cases h : CountOk us most 8
  · refine (refTakeInts_yes A n c us most _ w hr hn h (cnt_nat h)).mono fun e w' ⟨B, b, A', m, c', he, h0, hN, _, h1, h2⟩ => ⟨B, (cnt us).toNat, b, A', m, c', ?_, ?_, hN, ?_, h2⟩
    · unfold takeL; rw [if_pos h]; exact he
    · unfold takeL; rw [if_pos h]; exact h0
    · unfold takeL; rw [if_pos h]; exact h1
  · refine (refTakeInts_no A n c us most w hr hn h).mono fun e w' ⟨he, hw⟩ => ⟨none, 0, 0, none, 0, 0, ?_, ?_, (fun _ h => by cases h), ?_, hw⟩
    · unfold takeL; rw [if_neg h]; exact he
    · unfold takeL; rw [if_neg h]; exact Row.nilRow _ _
    · unfold takeL; rw [if_neg h]; exact Row.nilRow _ _
end
theorem conv_at {w : World} {A : Option Addr} {m c : Nat} {us : List UInt8} (h : BRow w A m c us) {w' : World} (hl : Below w.heap.size w w') {t : ByteArray} (ht : t = strOf us) :
    (convert 30 9 (.slice A m c)).run Tryz.prog w' = .ok (.string t) w' := by
  subst ht
  exact run_conv_row (Row.later h hl) Tryz.underlying30 Tryz.underlying5 Tryz.underlying9
theorem conv_fut {w : World} {A : Option Addr} {m c : Nat} {us : List UInt8} (h : BRow w A m c us) {t : ByteArray} (ht : t = strOf us) (x : World) :
    (convert 30 9 (.slice A m c)).run Tryz.prog (fut Later w x) = .ok (.string t) (fut Later w x) := by
  subst ht
  exact run_conv_row (Row.later h (fut_ok Later.refl _ x)) Tryz.underlying30 Tryz.underlying5 Tryz.underlying9
end Go.Proofs.YtkglgboncngpbaaGreatDoor
/- The walk of fork.Encode. -/
namespace Go.Proofs.YtkglgboncngpbaaGreatDoor
open Go.RowKit
/-- A call that gives bytes and an error. -/
def EncR (w : World) (E : Int) (EB : List UInt8) (e : Ending) (w' : World) : Prop := ∃ A m c, e = .returned (.tuple #[.slice A m c, .int .i64 E]) ∧ BRow w' A m c EB ∧ Below w.heap.size w w'
theorem whole_len {s : Stm} (h : Small s) (hs : sealedB s = true) : (wholeB s).length ≤ 2000048 := by
  have h1 := body_len h
  have h2 : s.dig.size = 32 := by
    unfold sealedB at hs
    simp only [Bool.and_eq_true, decide_eq_true_eq] at hs
    rw [hs.2, digS_size]
  unfold wholeB
  rw [List.length_append, List.length_append, textB_len, str_len, h2]
  simp only [listB, List.flatMap_cons, List.flatMap_nil, List.append_nil, be8_len]
  omega
theorem str_back (us : List UInt8) : (strOf us).data.toList = us := by simp [strOf]
set_option maxRecDepth 100000 in
set_option maxHeartbeats 4000000 in
theorem fkEncode_any (s : Stm) (A : Option Addr) (n c : Nat) (B : Option Addr) (m k : Nat) (t : Stm) (A2 : Option Addr) (n2 c2 : Nat) (B2 : Option Addr) (m2 k2 : Nat) (w : World) (hl : IRow w A n c s.list) (hp : PRow w B m k s.pins) (hl2 : IRow w A2 n2 c2 t.list) (hp2 : PRow w B2 m2 k2 t.pins) (hs : Small s) (ht : Small t) (hr : Rounds w) :
    Calls Tryz.prog 31 #[forkV s A n c B m k t A2 n2 c2 B2 m2 k2] w (EncR w (checkF s t) (encF s t)) := by
  have HCK : Hid (∀ w', Below w.heap.size w w' → Calls Tryz.prog 30 #[forkV s A n c B m k t A2 n2 c2 B2 m2 k2] w' (SaysL (.int .i64 (checkF s t)) w')) := Lib.hid fun w' h => fkCheck_any s A n c B m k t A2 n2 c2 B2 m2 k2 w' (hl.later h) (hp.later h) (hl2.later h) (hp2.later h) hs ht (hr.later h)
  have HFA : Hid (∀ w', Calls Tryz.prog 52 #[forkV s A n c B m k t A2 n2 c2 B2 m2 k2] w' (SaysL (forkV s A n c B m k t A2 n2 c2 B2 m2 k2) w')) := Lib.hid fun w' => faces_any s A n c B m k t A2 n2 c2 B2 m2 k2 w'
  have HE1 : Hid (checkF s t = 0 → ∀ w', Below w.heap.size w w' → Calls Tryz.prog 56 #[stmV s A n c B m k] w' (EncR w' 0 (wholeB s))) := Lib.hid fun g w' h => by
    obtain ⟨g1, -, g3, -, -⟩ := checkF_parts g
    have h1 := encode_any s A n c B m k w' (hl.later h) (hp.later h) hs (hr.later h)
    unfold EncS encE encB at h1
    rw [if_pos g1, if_pos g3, if_pos g1, if_pos g3] at h1
    exact h1
  have HE2 : Hid (checkF s t = 0 → ∀ w', Below w.heap.size w w' → Calls Tryz.prog 56 #[stmV t A2 n2 c2 B2 m2 k2] w' (EncR w' 0 (wholeB t))) := Lib.hid fun g w' h => by
    obtain ⟨-, g1, -, g3, -⟩ := checkF_parts g
    have h1 := encode_any t A2 n2 c2 B2 m2 k2 w' (hl2.later h) (hp2.later h) ht (hr.later h)
    unfold EncS encE encB at h1
    rw [if_pos g1, if_pos g3, if_pos g1, if_pos g3] at h1
    exact h1
  have HLN : Hid (checkF s t = 0 → (wholeB s).length ≤ 2000048 ∧ (wholeB t).length ≤ 2000048) := Lib.hid fun g => ⟨whole_len hs (checkF_parts g).2.2.1, whole_len ht (checkF_parts g).2.2.2.1⟩
  obtain ⟨SA, TA, VA, eS, eT, eV, h26⟩ := two26 s A n c B m k t A2 n2 c2 B2 m2 k2
  rw [eS] at HE1
  rw [eT] at HE2
  rw [eV] at HFA HCK ⊢
  have H26 := Lib.hid h26
  have HI0 := Lib.hid h26.i0; have HI1 := Lib.hid h26.i1
  clear eS eT eV hl hp hl2 hp2 hs ht hr h26
  have HEF : Hid (encF s t = if checkF s t = 0 then textB (wholeB s) ++ textB (wholeB t) else []) := Lib.hid rfl
  generalize encF s t = EB at HEF ⊢
  generalize checkF s t = E at HEF HCK HE1 HE2 HLN ⊢
  generalize wholeB s = US at HEF HE1 HLN
  generalize wholeB t = UT at HEF HE2 HLN
  have HX : Hid ((w.alloc (.cells VA 29)).heap[w.heap.size]? = some (.cells VA 29 (0, 0))) := Lib.hid (heap_alloc_new _ _)
  have HB : Hid (Below w.heap.size w (w.alloc (.cells VA 29))) := Lib.hid (one_new w _)
  have HZ : Hid (w.heap.size < (w.alloc (.cells VA 29)).heap.size) := Lib.hid (by simp)
  go_enter Tryz.func31, Tryz.ntmps31
  go_wp2_with (refine wpList_load_row rfl 29 (.tmp 1) rfl w.heap.size rfl 29 VA (0, 0) _ HX.out Tryz.underlying29 rfl H26.out.iF ?_)
  refine (HCK.out _ HB.out).mono ?_
  rintro e w1 ⟨rfl, hb⟩
  replace HX := Lib.hid ((hb.block _ HZ.out).trans HX.out); replace HB := Lib.hid (HB.out.trans (hb.mono HB.out.size)); replace HZ : Hid (w.heap.size < w1.heap.size) := Lib.hid (Nat.lt_of_lt_of_le HZ.out hb.size)
  clear hb
  by_cases h0 : E = 0
  · subst h0
    replace HE1 := Lib.hid (HE1.out rfl); replace HE2 := Lib.hid (HE2.out rfl); replace HLN := Lib.hid (HLN.out rfl); replace HEF : Hid (EB = textB US ++ textB UT) := Lib.hid (by rw [HEF.out, if_pos rfl])
    go_wp2_with (refine wpList_load_row rfl 29 (.tmp 1) rfl w.heap.size rfl 29 VA (0, 0) _ HX.out Tryz.underlying29 rfl H26.out.iF ?_)
    refine (HFA.out _).mono ?_
    rintro e w2 ⟨rfl, hb⟩
    replace HX := Lib.hid ((hb.block _ HZ.out).trans HX.out); replace HB := Lib.hid (HB.out.trans (hb.mono HB.out.size)); replace HZ : Hid (w.heap.size < w2.heap.size) := Lib.hid (Nat.lt_of_lt_of_le HZ.out hb.size)
    clear hb
    go_wp2_with fail
    refine wp_loop_rounds 3 ?_
    rw [rounds_succ]
    have hi := HI0.out
    go_wp2_with (first | (refine wpList_store_new rfl 27 (.tmp 7) (.tmp 19) rfl 27 _ SA rfl rfl H26.out.iS (by rw [H26.out.z1]; rfl) H26.out.o1 ?_) | (refine wpList_load_row rfl 27 (.tmp 7) rfl w2.heap.size rfl 27 SA (0, 0) _ (heap_alloc_new _ _) Tryz.underlying27 rfl H26.out.iS ?_))
    clear hi
    have hn := one_new w2 (.cells SA 27)
    replace HX := Lib.hid ((hn.block _ HZ.out).trans HX.out); replace HB := Lib.hid (HB.out.trans (hn.mono HB.out.size)); replace HZ : Hid (w.heap.size < (w2.alloc (.cells SA 27)).heap.size) := Lib.hid (Nat.lt_of_lt_of_le HZ.out hn.size)
    clear hn
    generalize w2.alloc (.cells SA 27) = y3 at *
    refine (HE1.out _ HB.out).mono ?_
    rintro e w3 ⟨Ae, me, ce, rfl, hrow, hb⟩
    replace HX := Lib.hid ((hb.block _ HZ.out).trans HX.out); replace HB := Lib.hid (HB.out.trans (hb.mono HB.out.size)); replace HZ : Hid (w.heap.size < w3.heap.size) := Lib.hid (Nat.lt_of_lt_of_le HZ.out hb.size)
    have HRE := Lib.hid hrow; clear hb hrow
    obtain ⟨TS1, hTS⟩ : ∃ x, x = strOf US := ⟨_, rfl⟩
    have hcv := conv_at HRE.out (Below.refl _ _) hTS
    have HTB : Hid (TS1.data.toList = US) := Lib.hid (by rw [hTS]; exact str_back _)
    have HTZ : Hid (TS1.size ≤ 2000048) := Lib.hid (by rw [hTS, strOf_size]; exact HLN.out.1)
    clear hTS
    go_wp2_with fail
    clear hcv
    refine (wireText_any none 0 0 [] TS1 w3 (Row.nilRow _ _) (by omega) (by have := HTZ.out; omega)).mono ?_
    rintro e w4 ⟨Ab, mb, cb, rfl, -, hrow, -, hb⟩
    replace HX := Lib.hid ((hb.block _ HZ.out).trans HX.out); replace HB := Lib.hid (HB.out.trans (hb.mono HB.out.size)); replace HZ : Hid (w.heap.size < w4.heap.size) := Lib.hid (Nat.lt_of_lt_of_le HZ.out hb.size)
    have HRB : Hid (BRow w4 Ab mb cb (textB US)) := Lib.hid (by rw [HTB.out, List.nil_append] at hrow; exact hrow)
    clear hb hrow HRE HTB HTZ
    go_wp2_with fail
    rw [rounds_succ]
    have hi := HI1.out
    go_wp2_with (first | (refine wpList_store_new rfl 27 (.tmp 7) (.tmp 19) rfl 27 _ TA rfl rfl H26.out.iT (by rw [H26.out.z2]; rfl) H26.out.o2 ?_) | (refine wpList_load_row rfl 27 (.tmp 7) rfl w4.heap.size rfl 27 TA (0, 0) _ (heap_alloc_new _ _) Tryz.underlying27 rfl H26.out.iT ?_))
    clear hi
    have hn := one_new w4 (.cells TA 27)
    replace HX := Lib.hid ((hn.block _ HZ.out).trans HX.out); replace HB := Lib.hid (HB.out.trans (hn.mono HB.out.size)); replace HZ : Hid (w.heap.size < (w4.alloc (.cells TA 27)).heap.size) := Lib.hid (Nat.lt_of_lt_of_le HZ.out hn.size)
    replace HRB := Lib.hid (HRB.out.later hn)
    clear hn
    generalize w4.alloc (.cells TA 27) = y5 at *
    refine (HE2.out _ HB.out).mono ?_
    rintro e w5 ⟨Ae, me, ce, rfl, hrow, hb⟩
    replace HX := Lib.hid ((hb.block _ HZ.out).trans HX.out); replace HB := Lib.hid (HB.out.trans (hb.mono HB.out.size)); replace HZ : Hid (w.heap.size < w5.heap.size) := Lib.hid (Nat.lt_of_lt_of_le HZ.out hb.size)
    replace HRB := Lib.hid (HRB.out.later hb)
    have HRE := Lib.hid hrow; clear hb hrow
    obtain ⟨TS2, hTS⟩ : ∃ x, x = strOf UT := ⟨_, rfl⟩
    have hcv := conv_at HRE.out (Below.refl _ _) hTS
    have HTB : Hid (TS2.data.toList = UT) := Lib.hid (by rw [hTS]; exact str_back _)
    have HTZ : Hid (TS2.size ≤ 2000048) := Lib.hid (by rw [hTS, strOf_size]; exact HLN.out.2)
    clear hTS
    go_wp2_with fail
    clear hcv
    refine (wireText_any Ab mb cb (textB US) TS2 w5 HRB.out (by have h1 := HRB.out.len; rw [textB_len] at h1; have h2 := HLN.out.1; omega) (by have := HTZ.out; omega)).mono ?_
    rintro e w6 ⟨Ac, mc, cc, rfl, -, hrow, -, hb⟩
    replace HX := Lib.hid ((hb.block _ HZ.out).trans HX.out); replace HB := Lib.hid (HB.out.trans (hb.mono HB.out.size)); replace HZ : Hid (w.heap.size < w6.heap.size) := Lib.hid (Nat.lt_of_lt_of_le HZ.out hb.size)
    have HRC : Hid (BRow w6 Ac mc cc (textB US ++ textB UT)) := Lib.hid (by rw [HTB.out] at hrow; exact hrow)
    clear hb hrow HRE HTB HTZ
    go_wp2_with fail
    rw [rounds_succ]
    go_wp2_with fail
    go_ret2
    exact ⟨Ac, mc, cc, rfl, by rw [HEF.out]; exact HRC.out, HB.out⟩
  · have g0 : (E == 0) = false := by simpa using h0
    go_wp2_with fail
    go_ret2
    exact ⟨none, 0, 0, rfl, by rw [HEF.out, if_neg h0]; exact Row.nilRow _ _, HB.out⟩
end Go.Proofs.YtkglgboncngpbaaGreatDoor
/- What package wire takes from bytes lies where the bytes lie. -/
namespace Go.Proofs.YtkglgboncngpbaaGreatDoor
open Go.RowKit
/-- An address in the block of another one. -/
def Sub (A' A : Option Addr) : Prop := ∀ ad', A' = some ad' → ∃ ad, A = some ad ∧ ad'.block = ad.block
theorem Sub.refl (A : Option Addr) : Sub A A := fun ad h => ⟨ad, h, rfl⟩
theorem Sub.none (A : Option Addr) : Sub none A := fun _ h => by cases h
theorem Sub.trans {A B C : Option Addr} (h : Sub A B) (k : Sub B C) : Sub A C := fun ad hA => by
  obtain ⟨b, hb, e⟩ := h ad hA
  obtain ⟨c, hc, e2⟩ := k b hb
  exact ⟨c, hc, e.trans e2⟩
theorem dropA_sub (A : Option Addr) (c k sz : Nat) : Sub (dropA A c k sz) A := fun ad h => by
  unfold dropA at h
  split at h
  · exact ⟨ad, h, rfl⟩
  · cases A with
    | none => cases h
    | some a => simp at h; exact ⟨a, rfl, by rw [← h]; unfold Addr.add; split <;> rfl⟩
def TookIs (w : World) (A0 : Option Addr) (us : List UInt8) (e : Ending) (w' : World) : Prop := ∃ A m c, e = .returned (.tuple #[.int .i64 (int8 (us.take 8)), .slice A m c, .bool true]) ∧ m = us.length - 8 ∧ BRow w A m c (us.drop 8) ∧ Sub A A0 ∧ Below w.heap.size w w'
def TookSs (w : World) (A0 : Option Addr) (us : List UInt8) (k : Nat) (e : Ending) (w' : World) : Prop := ∃ A m c, e = .returned (.tuple #[.string (strOf ((us.drop 8).take k)), .slice A m c, .bool true]) ∧ m = us.length - (8 + k) ∧ BRow w A m c (us.drop (8 + k)) ∧ Sub A A0 ∧ Below w.heap.size w w'
def TookLs (w : World) (A0 : Option Addr) (us : List UInt8) (k : Nat) (e : Ending) (w' : World) : Prop :=
  ∃ B b A m c, e = .returned (.tuple #[.slice B k b, .slice A m c, .bool true]) ∧ IRow w' B k b (intsAt us k) ∧ New w w' B ∧ m = us.length - (8 + 8 * k) ∧ BRow w A m c (us.drop (8 + 8 * k)) ∧ Sub A A0 ∧ Below w.heap.size w w'
set_option maxHeartbeats 400000 in
theorem takeInt_sub (A : Option Addr) (n c : Nat) (us : List UInt8) (w : World) (hr : BRow w A n c us) (hn : 8 ≤ n) :
    Calls Tryz.prog 111 #[.slice A n c] w (TookIs w A us) := by
  have hsl := fun w => run_slice_from (P := Tryz.prog) (t := 30) Tryz.underlying30 u8_size (A := A) (n := n) (c := c) (k := 8) (i := 8) rfl hn .i64 w
  have hd := hr.drop 8 hn
  have hsub := dropA_sub A c 8 1
  generalize dropA A c 8 1 = A' at hsl hd hsub
  have HSB := Lib.hid hsub; clear hsub
  have HR := Lib.hid hr; have HD := Lib.hid hd; have HL := Lib.hid hr.len; clear hr hd
  go_enter Tryz.func111, Tryz.ntmps111
  go_wp2_with fail
  refine wp_region_grow (by kernel_rfl) Later Later.refl (fun _ _ _ => Later.trans) [4, 5, 6] [([0, 2, 3], 1)] (by kernel_rfl) (by kernel_rfl) (by kernel_rfl) ?_
  simp only [List.map_cons, List.map_nil, pick, List.getD_cons_zero, List.getD_cons_succ]
  refine wpGrow_cons ?_
  repeat (go_big_quiet_step (fail))
  refine wpQuiet_nil ?_
  go_wp2_with fail
  refine (number_any A n c us w.drew (HR.out.later (Later.drew w)) hn).mono ?_
  rintro e w1 ⟨rfl, rfl⟩
  go_wp2_with fail
  refine pieceEnd_normal ⟨Later.refl _, ?_⟩
  refine wpGrow_nil ?_
  repeat (go_big_quiet_step (fail))
  refine wpQuiet_nil ?_
  go_wp2
  go_ret3
  exact ⟨_, _, _, rfl, by rw [HL.out], HD.out, HSB.out, (Later.drew w)⟩
set_option maxHeartbeats 1000000 in
theorem takeCount_sub (A : Option Addr) (n c : Nat) (us : List UInt8) (most : Int) (size : Nat) (w : World) (hr : BRow w A n c us) (hs : size = 1 ∨ size = 8) (hnm : n ≤ 900000000) (hok : CountOk us most size) :
    Calls Tryz.prog 87 #[.slice A n c, .int .i64 most, .int .i64 size] w (TookIs w A us) := by
  have HR := Lib.hid hr; have HL := Lib.hid hr.len; have HOK := Lib.hid hok; clear hr hok
  have hn8 : 8 ≤ n := by have := HOK.out.len; rw [HL.out] at this; exact this
  rcases hs with rfl | rfl
  all_goals
    go_enter Tryz.func87, Tryz.ntmps87
    go_wp2_with fail
    refine (takeInt_sub A n c us w HR.out hn8).mono ?_
    rintro e w1 ⟨A1, m, c1, rfl, hm, hr1, hsb, hb1⟩
    have HSB := Lib.hid hsb; clear hsb
    have HB1 := Lib.hid hb1; have HR1 := Lib.hid hr1; have HM0 := Lib.hid hm; rw [HL.out] at hm; have HM := Lib.hid hm; clear hb1 hr1
    have hm9 : m ≤ 900000000 := by omega
    clear hm
    have h := HOK.out.nn; have h1 := HOK.out.le; have h2 := HOK.out.fit
    rw [HL.out, ← HM.out] at h2
    unfold cnt at h h1 h2
    obtain ⟨v, hv⟩ : ∃ v, v = int8 (us.take 8) := ⟨_, rfl⟩
    rw [← hv] at h h1 h2 ⊢
    have HV := Lib.hid hv; clear hv
    have g : (decide (v < 0)) = false := decide_eq_false (by omega)
    have g1 : (decide (most < v)) = false := decide_eq_false (by omega)
    first
      | (have g2 : (decide ((m : Int) < v)) = false := decide_eq_false (by omega)
         clear h h1 h2
         go_wp2
         go_ret3
         exact ⟨A1, m, c1, by rw [← HV.out]; rfl, HM0.out, HR1.out, HSB.out, HB1.out⟩)
      | (have g2 : (decide ((m : Int) / 8 < v)) = false := decide_eq_false (by omega)
         clear h h1 h2
         go_wp2
         go_ret3
         exact ⟨A1, m, c1, by rw [← HV.out]; rfl, HM0.out, HR1.out, HSB.out, HB1.out⟩)
set_option maxHeartbeats 1000000 in
theorem takeText_sub (A : Option Addr) (n c : Nat) (us : List UInt8) (most : Int) (k : Nat) (w : World) (hr : BRow w A n c us) (hnm : n ≤ 900000000) (hok : CountOk us most 1) (hk : cnt us = (k : Int)) :
    Calls Tryz.prog 58 #[.slice A n c, .int .i64 most] w (TookSs w A us k) := by
  have HR := Lib.hid hr; have HL := Lib.hid hr.len; have HOK := Lib.hid hok; have HK := Lib.hid hk
  have hkn : Hid (8 ≤ n ∧ k ≤ n - 8) := by
    have h1 := hok.len; have h2 := hok.fit; have h3 := hr.len
    rw [hk, h3, Nat.div_one] at h2; rw [h3] at h1; exact ⟨h1, by omega⟩
  clear hr hok hk
  go_enter Tryz.func58, Tryz.ntmps58
  go_wp2_with fail
  refine (takeCount_sub A n c us most 1 w HR.out (.inl rfl) hnm HOK.out).mono ?_
  rintro e w1 ⟨A1, m, c1, rfl, hm, hr1, hsb, hb1⟩
  rw [HL.out] at hm
  have hkm : k ≤ m := by have := hkn.out; omega
  change Hid (int8 (us.take 8) = (k : Int)) at HK
  rw [HK.out]
  have hs1 := fun w => run_slice_from (P := Tryz.prog) (t := 30) Tryz.underlying30 u8_size (A := A1) (n := m) (c := c1) (k := k) (i := (k : Int)) rfl hkm .i64 w
  have hs2 := fun w => run_slice_to (P := Tryz.prog) (t := 30) Tryz.underlying30 u8_size (k := k) hr1 (i := (k : Int)) rfl hkm .i64 w
  have hd := hr1.drop k hkm
  have hcv : ∀ x, (convert 30 9 (.slice A1 k c1)).run Tryz.prog (fut Later w1.drew x) = .ok (.string (strOf ((us.drop 8).take k))) (fut Later w1.drew x) := fun x =>
    run_conv_row ((((hr1.take k hkm).later hb1).later (Later.drew w1)).later (fut_ok Later.refl _ x)) Tryz.underlying30 Tryz.underlying5 Tryz.underlying9
  have hsub := (dropA_sub A1 c1 k 1).trans hsb
  generalize dropA A1 c1 k 1 = A' at hs1 hd hsub
  have HSB := Lib.hid hsub; clear hsub hsb
  obtain ⟨t, ht⟩ : ∃ t, t = strOf ((us.drop 8).take k) := ⟨_, rfl⟩
  rw [← ht] at hcv
  have HT := Lib.hid ht; clear ht
  have HM := Lib.hid hm; have HD := Lib.hid hd; have HB1 := Lib.hid hb1; clear hm hr1 hb1 hd hkm
  go_wp2_with fail
  refine wp_region_grow (by kernel_rfl) Later Later.refl (fun _ _ _ => Later.trans) [0, 1, 2, 3, 4, 5, 6, 7, 8, 9] [] (by kernel_rfl) (by kernel_rfl) (by kernel_rfl) ?_
  simp only [List.map_cons, List.map_nil, pick, List.getD_cons_zero, List.getD_cons_succ]
  refine wpGrow_nil ?_
  repeat (go_big_quiet_step (fail))
  refine wpQuiet_nil ?_
  go_wp2
  go_ret3
  refine ⟨A', m - k, c1 - k, by rw [← HT.out]; rfl, by rw [HL.out, HM.out]; omega, ?_, HSB.out, HB1.out.drew⟩
  have h := HD.out
  rw [List.drop_drop] at h
  exact h
set_option maxHeartbeats 1000000 in
theorem takeInts_sub (A : Option Addr) (n c : Nat) (us : List UInt8) (most : Int) (k : Nat) (w : World) (hr : BRow w A n c us) (hnm : n ≤ 900000000) (hok : CountOk us most 8) (hk : cnt us = (k : Int)) :
    Calls Tryz.prog 129 #[.slice A n c, .int .i64 most] w (TookLs w A us k) := by
  have HR := Lib.hid hr; have HL := Lib.hid hr.len; have HOK := Lib.hid hok; have HK := Lib.hid hk
  have hkn : Hid (8 ≤ n ∧ 8 * k ≤ n - 8) := by
    have h1 := hok.len; have h2 := hok.fit; have h3 := hr.len
    rw [hk, h3] at h2; rw [h3] at h1; exact ⟨h1, by omega⟩
  have hk9 : k ≤ 200000000 := by have := hkn.out; omega
  clear hr hok hk
  go_enter Tryz.func129, Tryz.ntmps129
  go_wp2_with fail
  refine (takeCount_sub A n c us most 8 w HR.out (.inr rfl) hnm HOK.out).mono ?_
  rintro e w1 ⟨A1, m, c1, rfl, hm, hr1, hsb, hb1⟩
  have HSB := Lib.hid hsb; clear hsb
  rw [HL.out] at hm
  have HM := Lib.hid hm; have HR1 := Lib.hid hr1; have HB1 := Lib.hid hb1; clear hm hr1 hb1
  change Hid (int8 (us.take 8) = (k : Int)) at HK
  rw [HK.out]
  go_wp2_with (at_make; go_must (refine wpList_make _ rfl (.const (.int .i64 0)) (.tmp 20) 22 3 rfl w.heap.size Tryz.underlying22 i64_info rfl 0 k rfl rfl rfl rfl (by omega) (by omega) (by unfold maxLen; omega) HB1.out.size ?_); intro w2 ho2 hb2; have HO2 := Lib.hid ho2; have HB2 := Lib.hid hb2; clear ho2 hb2)
  go_loopw [8, 10, 23] (fun r v i wr => ∃ j : Nat, j ≤ k ∧ i = .int .i64 j ∧ ∃ A' m' c', r = .slice A' m' c' ∧ Hid (m' = m - 8 * j ∧ BRow w A' m' c' (us.drop (8 + 8 * j)) ∧ IOwn wr w.heap.size v (intsAt us j) ∧ Below w.heap.size w wr ∧ Sub A' A)) (fun _ _ i _ => k - (intOf i).toNat)
  case atStart => exact ⟨0, by omega, rfl, A1, m, c1, rfl, Lib.hid ⟨by omega, HR1.out, HO2.out, HB1.out.trans (HB2.out.mono HB1.out.size), HSB.out⟩⟩
  case round =>
    obtain ⟨j, hj, rfl, A', m', c', rfl, HQ⟩ := hrel
    by_cases hlt : j < k
    · have hm8 : 8 ≤ m' := by have h1 := HQ.out.1; have h2 := HM.out; have h3 := hkn.out; omega
      have hs1 := fun w => run_slice_from (P := Tryz.prog) (t := 30) Tryz.underlying30 u8_size (A := A') (n := m') (c := c') (k := 8) (i := 8) rfl hm8 .i64 w
      have hd := HQ.out.2.1.drop 8 hm8
      have hsub := (dropA_sub A' c' 8 1).trans HQ.out.2.2.2.2
      generalize dropA A' c' 8 1 = A2 at hs1 hd hsub
      have HSUB := Lib.hid hsub; clear hsub
      have HD := Lib.hid hd; clear hd
      have hlen := Lib.hid (intsAt_len us j)
      go_wp2_with fail
      refine (number_any A' m' c' _ wr (HQ.out.2.1.later HQ.out.2.2.2.1) hm8).mono ?_
      rintro e w3 ⟨rfl, rfl⟩
      rw [show int8 (List.take 8 (List.drop (8 + 8 * j) us)) = intAt us j from rfl]
      obtain ⟨x, hx⟩ : ∃ x, x = intAt us j := ⟨_, rfl⟩
      rw [← hx]
      have HX := Lib.hid hx; clear hx
      go_wp2_with (at_builtin; go_must (refine wpList_app_new wr rfl (.tmp 25) (.tmp 28) 22 3 rfl w.heap.size Tryz.underlying22 i64_info rfl _ _ _ HQ.out.2.2.1 rfl 1 #[.int .i64 x] rfl (by simp [Value.oneCell']) rfl rfl (by rw [hlen.out]; unfold maxLen; omega) (by rw [hlen.out]; omega) HQ.out.2.2.2.1.size ?_); intro v3 w3 ho3 hb3; have HO3 := Lib.hid ho3; have HB3 := Lib.hid hb3; clear ho3 hb3)
      refine ⟨⟨j + 1, by omega, by go_num, A2, _, _, rfl, Lib.hid ⟨by have := HQ.out.1; omega, ?_, ?_, HQ.out.2.2.2.1.trans HB3.out, HSUB.out⟩⟩, by simp [intOf]; omega⟩
      · have h := HD.out
        rw [List.drop_drop] at h
        exact h
      · unfold IOwn
        rw [intsAt_succ, intsV_app, List.length_append, ← HX.out]
        exact HO3.out
    · have HJ : Hid (j = k) := by unfold Hid; omega
      obtain ⟨B, b, hv, hrow⟩ := HQ.out.2.2.1.row
      rw [intsAt_len] at hv hrow
      subst hv
      have HRW := Lib.hid hrow; clear hrow
      have HNW : Hid (New w wr B) := Lib.hid fun ad hA => by subst hA; exact World.ownsRow.lt HQ.out.2.2.1 _ rfl
      go_wp2
      go_ret3
      have hJ := HJ.out
      subst hJ
      exact ⟨B, b, A', m', c', rfl, HRW.out, HNW.out, by rw [HL.out]; have h1 := HQ.out.1; have h2 := HM.out; omega, HQ.out.2.1, HQ.out.2.2.2.2, HQ.out.2.2.2.1⟩
def SubI (w : World) (A0 : Option Addr) (R : Int × List UInt8 × Bool) (e : Ending) (w' : World) : Prop := ∃ A m c, e = .returned (.tuple #[.int .i64 R.1, .slice A m c, .bool R.2.2]) ∧ BRow w' A m c R.2.1 ∧ Sub A A0 ∧ Below w.heap.size w w'
def SubS (w : World) (A0 : Option Addr) (R : ByteArray × List UInt8 × Bool) (e : Ending) (w' : World) : Prop := ∃ A m c, e = .returned (.tuple #[.string R.1, .slice A m c, .bool R.2.2]) ∧ BRow w' A m c R.2.1 ∧ Sub A A0 ∧ Below w.heap.size w w'
def SubL (w : World) (A0 : Option Addr) (R : List Int × List UInt8 × Bool) (e : Ending) (w' : World) : Prop :=
  ∃ B k b A m c, e = .returned (.tuple #[.slice B k b, .slice A m c, .bool R.2.2]) ∧ IRow w' B k b R.1 ∧ New w w' B ∧ BRow w' A m c R.2.1 ∧ Sub A A0 ∧ Below w.heap.size w w'
section
variable (A : Option Addr) (n c : Nat) (us : List UInt8) (most : Int) (w : World)
theorem takeI_sub (hr : BRow w A n c us) : Calls Tryz.prog 111 #[.slice A n c] w (SubI w A (takeI us)) := by
  by_cases h : 8 ≤ us.length
  · refine (takeInt_sub A n c us w hr (by rw [← hr.len]; exact h)).mono fun e w' ⟨A', m, c', he, _, h1, hs, h2⟩ => ⟨A', m, c', ?_, ?_, hs, h2⟩
    · unfold takeI; rw [if_pos h]; exact he
    · unfold takeI; rw [if_pos h]; exact h1.later h2
  · refine (takeInt_no A n c w (by rw [← hr.len]; omega)).mono fun e w' ⟨he, hw⟩ => ⟨none, 0, 0, ?_, ?_, Sub.none _, ?_⟩
    · unfold takeI; rw [if_neg h]; exact he
    · unfold takeI; rw [if_neg h]; exact Row.nilRow _ _
    · subst hw; exact Below.refl _ _
theorem takeS_sub (hr : BRow w A n c us) (hn : n ≤ 900000000) : Calls Tryz.prog 58 #[.slice A n c, .int .i64 most] w (SubS w A (takeS us most)) := by
  by_cases h : CountOk us most 1
  · refine (takeText_sub A n c us most _ w hr hn h (cnt_nat h)).mono fun e w' ⟨A', m, c', he, _, h1, hs, h2⟩ => ⟨A', m, c', ?_, ?_, hs, h2⟩
    · unfold takeS; rw [if_pos h]; exact he
    · unfold takeS; rw [if_pos h]; exact h1.later h2
  · refine (takeText_no A n c us most w hr hn h).mono fun e w' ⟨he, hw⟩ => ⟨none, 0, 0, ?_, ?_, Sub.none _, hw⟩
    · unfold takeS; rw [if_neg h]; exact he
    · unfold takeS; rw [if_neg h]; exact Row.nilRow _ _
theorem takeL_sub (hr : BRow w A n c us) (hn : n ≤ 900000000) : Calls Tryz.prog 129 #[.slice A n c, .int .i64 most] w (SubL w A (takeL us most)) := by
  by_cases h : CountOk us most 8
  · refine (takeInts_sub A n c us most _ w hr hn h (cnt_nat h)).mono fun e w' ⟨B, b, A', m, c', he, h0, hN, _, h1, hs, h2⟩ => ⟨B, (cnt us).toNat, b, A', m, c', ?_, ?_, hN, ?_, hs, h2⟩
    · unfold takeL; rw [if_pos h]; exact he
    · unfold takeL; rw [if_pos h]; exact h0
    · unfold takeL; rw [if_pos h]; exact h1.later h2
  · refine (takeInts_no A n c us most w hr hn h).mono fun e w' ⟨he, hw⟩ => ⟨none, 0, 0, none, 0, 0, ?_, ?_, (fun _ h => by cases h), ?_, Sub.none _, hw⟩
    · unfold takeL; rw [if_neg h]; exact he
    · unfold takeL; rw [if_neg h]; exact Row.nilRow _ _
    · unfold takeL; rw [if_neg h]; exact Row.nilRow _ _
end
end Go.Proofs.YtkglgboncngpbaaGreatDoor
/- The walks of the reader of package statement: require, number, text, list. -/
namespace Go.Proofs.YtkglgboncngpbaaGreatDoor
open Go.RowKit
/-- A reader in block R, with the bytes us left; they lie below block L. -/
structure RdAt (w : World) (L R : Nat) (us : List UInt8) : Prop where
  here : ∃ A n c, w.heap[R]? = some (.cells #[.slice A n c] 133 (0, 0)) ∧ BRow w A n c us ∧ (∀ ad, A = some ad → 0 < n → ad.block < L)
  low : L ≤ R
theorem RdAt.lt {w : World} {L R : Nat} {us : List UInt8} (h : RdAt w L R us) : R < w.heap.size := by
  obtain ⟨A, n, c, h1, _⟩ := h.here; exact (Array.getElem?_eq_some_iff.1 h1).1
/-- It stays where nothing has turned. -/
theorem RdAt.later {w w' : World} {L R : Nat} {us : List UInt8} (h : RdAt w L R us) (hb : Below w.heap.size w w') : RdAt w' L R us := by
  obtain ⟨A, n, c, h1, h2, h3⟩ := h.here
  exact ⟨⟨A, n, c, (hb.block R (Array.getElem?_eq_some_iff.1 h1).1).trans h1, h2.later hb, h3⟩, h.low⟩
/-- It stays where nothing turns but blocks from L on, other than its own. -/
theorem RdAt.keep {w w' : World} {L R : Nat} {us : List UInt8} (h : RdAt w L R us) (hR : w'.heap[R]? = w.heap[R]?) (hL : ∀ k, k < L → w'.heap[k]? = w.heap[k]?) : RdAt w' L R us := by
  obtain ⟨A, n, c, h1, h2, h3⟩ := h.here
  exact ⟨⟨A, n, c, hR.trans h1, Row.keep h2 fun ad hA h0 _ => hL _ (h3 ad hA h0), h3⟩, h.low⟩
def noSt : PanicEntry := { v := .iface 130 (.agg #[]), recovered := false }
theorem require_yes (p : Value) (w : World) : Calls Tryz.prog 114 #[p, .bool true] w fun e w' => e = .returned (.tuple #[]) ∧ w = w' := by
  go_enter Tryz.func114, Tryz.ntmps114
  go_wp2
  first | go_end0 | refine bodyPost_ret (results_none rfl _ _ _) rfl ?_
  exact ⟨rfl, rfl⟩
theorem require_no (p : Value) (w : World) : Calls Tryz.prog 114 #[p, .bool false] w fun e w' => e = .panicked [noSt] ∧ w = w' := by
  go_enter Tryz.func114, Tryz.ntmps114
  go_wp2
  exact ⟨rfl, rfl, rfl⟩
theorem takeI_le (us : List UInt8) : (takeI us).2.1.length ≤ us.length := by
  unfold takeI; split
  · simp
  · simp
theorem takeS_le (us : List UInt8) (most : Int) : (takeS us most).2.1.length ≤ us.length := by
  unfold takeS; split
  · simp
  · simp
theorem takeL_le (us : List UInt8) (most : Int) : (takeL us most).2.1.length ≤ us.length := by
  unfold takeL; split
  · simp
  · simp
/-- What a reader's method answers: a value, or the panic that ends the reading. -/
def Reads (L R : Nat) (w : World) (v : Value) (rest : List UInt8) (ok : Bool) (e : Ending) (w' : World) : Prop :=
  But R w w' ∧ ((ok = true ∧ e = .returned v ∧ RdAt w' L R rest) ∨ (ok = false ∧ e = .panicked [noSt]))
set_option maxHeartbeats 1000000 in
theorem rdNumber (L R : Nat) (us : List UInt8) (w : World) (h : RdAt w L R us) (_hn : us.length ≤ 900000) :
    Calls Tryz.prog 119 #[.pointer (some ⟨R, 0, none⟩)] w (Reads L R w (.int .i64 (takeI us).1) (takeI us).2.1 (takeI us).2.2) := by
  obtain ⟨⟨A, n, c, hR, hr, hlow⟩, hLR⟩ := h
  have HLOW := Lib.hid hlow; clear hlow
  have hlen := hr.len
  have HT := Lib.hid (takeI_sub A n c us w hr)
  have hc0 : w.cell? ⟨R, 0, none⟩ = some (.slice A n c) := by rw [cell_of_row _ _ _ _ _ _ hR]; rfl
  have hlt : R < w.heap.size := (Array.getElem?_eq_some_iff.1 hR).1
  have HR := Lib.hid hR; have HL := Lib.hid hlt; have HLEN := Lib.hid hlen; clear hR hr hlen hlt
  have hle := takeI_le us
  generalize takeI us = T at HT hle ⊢
  obtain ⟨v, rest, ok⟩ := T
  simp only at hle
  go_enter Tryz.func119, Tryz.ntmps119
  go_wp2_with fail
  refine HT.out.mono ?_
  rintro e w1 ⟨A1, m1, c1, rfl, hr1, hsub, hb⟩
  have HR1 := Lib.hid ((hb.block R HL.out).trans HR.out); have HB := Lib.hid hb; have HX := Lib.hid hr1; have HSB : Hid (∀ ad, A1 = some ad → 0 < m1 → ad.block < L) := Lib.hid (fun ad hA hm => by obtain ⟨ad0, h0, he⟩ := hsub ad hA; rw [he]; exact HLOW.out ad0 h0 (by have h1 : rest.length = m1 := hr1.len; have h2 := HLEN.out; omega)); clear hsub; clear hb hr1 hc0
  simp only
  cases ok
  · go_wp2_with fail
    refine (require_no _ _).mono ?_
    rintro e w2 ⟨rfl, rfl⟩
    go_wp2
    exact ⟨rfl, But.of HB.out, .inr ⟨rfl, rfl⟩⟩
  · go_wp2_with fail
    refine (require_yes _ _).mono ?_
    rintro e w2 ⟨rfl, rfl⟩
    have hc0 : w1.cell? ⟨R, 0, none⟩ = some (.slice A n c) := by rw [cell_of_row _ _ _ _ _ _ HR1.out]; rfl
    have hfz : w1.frozen? ⟨R, 0, none⟩ = false := frozen_of_row _ _ _ _ _ HR1.out
    go_wp2
    go_ret
    refine ⟨(But.of HB.out).trans (But.set _ _ _), .inl ⟨rfl, rfl, ?_⟩⟩
    exact ⟨⟨A1, m1, c1, heap_setCell_same _ _ _ _ _ _ HR1.out, Row.but HX.out (But.set _ _ _) (fun ad hA h0 => by have := HSB.out ad hA h0; omega), HSB.out⟩, hLR⟩
set_option maxHeartbeats 1000000 in
theorem rdText (L R : Nat) (us : List UInt8) (most : Int) (w : World) (h : RdAt w L R us) (hn : us.length ≤ 900000) :
    Calls Tryz.prog 120 #[.pointer (some ⟨R, 0, none⟩), .int .i64 most] w (Reads L R w (.string (takeS us most).1) (takeS us most).2.1 (takeS us most).2.2) := by
  obtain ⟨⟨A, n, c, hR, hr, hlow⟩, hLR⟩ := h
  have HLOW := Lib.hid hlow; clear hlow
  have hlen := hr.len
  have HT := Lib.hid (takeS_sub A n c us most w hr (by omega))
  have hc0 : w.cell? ⟨R, 0, none⟩ = some (.slice A n c) := by rw [cell_of_row _ _ _ _ _ _ hR]; rfl
  have hlt : R < w.heap.size := (Array.getElem?_eq_some_iff.1 hR).1
  have HR := Lib.hid hR; have HL := Lib.hid hlt; have HLEN := Lib.hid hlen; clear hR hr hlen hlt
  have hle := takeS_le us most
  generalize takeS us most = T at HT hle ⊢
  obtain ⟨v, rest, ok⟩ := T
  simp only at hle
  go_enter Tryz.func120, Tryz.ntmps120
  go_wp2_with fail
  refine HT.out.mono ?_
  rintro e w1 ⟨A1, m1, c1, rfl, hr1, hsub, hb⟩
  have HR1 := Lib.hid ((hb.block R HL.out).trans HR.out); have HB := Lib.hid hb; have HX := Lib.hid hr1; have HSB : Hid (∀ ad, A1 = some ad → 0 < m1 → ad.block < L) := Lib.hid (fun ad hA hm => by obtain ⟨ad0, h0, he⟩ := hsub ad hA; rw [he]; exact HLOW.out ad0 h0 (by have h1 : rest.length = m1 := hr1.len; have h2 := HLEN.out; omega)); clear hsub; clear hb hr1 hc0
  simp only
  cases ok
  · go_wp2_with fail
    refine (require_no _ _).mono ?_
    rintro e w2 ⟨rfl, rfl⟩
    go_wp2
    exact ⟨rfl, But.of HB.out, .inr ⟨rfl, rfl⟩⟩
  · go_wp2_with fail
    refine (require_yes _ _).mono ?_
    rintro e w2 ⟨rfl, rfl⟩
    have hc0 : w1.cell? ⟨R, 0, none⟩ = some (.slice A n c) := by rw [cell_of_row _ _ _ _ _ _ HR1.out]; rfl
    have hfz : w1.frozen? ⟨R, 0, none⟩ = false := frozen_of_row _ _ _ _ _ HR1.out
    go_wp2
    go_ret
    refine ⟨(But.of HB.out).trans (But.set _ _ _), .inl ⟨rfl, rfl, ?_⟩⟩
    exact ⟨⟨A1, m1, c1, heap_setCell_same _ _ _ _ _ _ HR1.out, Row.but HX.out (But.set _ _ _) (fun ad hA h0 => by have := HSB.out ad hA h0; omega), HSB.out⟩, hLR⟩
/-- The same of a list. -/
def ReadsL (L R : Nat) (w : World) (l : List Int) (rest : List UInt8) (ok : Bool) (e : Ending) (w' : World) : Prop :=
  But R w w' ∧ ((ok = true ∧ (∃ B m k, e = .returned (.slice B m k) ∧ IRow w' B m k l ∧ New w w' B) ∧ RdAt w' L R rest) ∨ (ok = false ∧ e = .panicked [noSt]))
set_option maxHeartbeats 1000000 in
theorem rdList (L R : Nat) (us : List UInt8) (most : Int) (w : World) (h : RdAt w L R us) (hn : us.length ≤ 900000) :
    Calls Tryz.prog 121 #[.pointer (some ⟨R, 0, none⟩), .int .i64 most] w (ReadsL L R w (takeL us most).1 (takeL us most).2.1 (takeL us most).2.2) := by
  obtain ⟨⟨A, n, c, hR, hr, hlow⟩, hLR⟩ := h
  have HLOW := Lib.hid hlow; clear hlow
  have hlen := hr.len
  have HT := Lib.hid (takeL_sub A n c us most w hr (by omega))
  have hc0 : w.cell? ⟨R, 0, none⟩ = some (.slice A n c) := by rw [cell_of_row _ _ _ _ _ _ hR]; rfl
  have hlt : R < w.heap.size := (Array.getElem?_eq_some_iff.1 hR).1
  have HR := Lib.hid hR; have HL := Lib.hid hlt; have HLEN := Lib.hid hlen; clear hR hr hlen hlt
  have hle := takeL_le us most
  generalize takeL us most = T at HT hle ⊢
  obtain ⟨v, rest, ok⟩ := T
  simp only at hle
  go_enter Tryz.func121, Tryz.ntmps121
  go_wp2_with fail
  refine HT.out.mono ?_
  rintro e w1 ⟨B1, k1, b1, A1, m1, c1, rfl, hi1, hn1, hr1, hsub, hb⟩
  have HR1 := Lib.hid ((hb.block R HL.out).trans HR.out); have HB := Lib.hid hb; have HX := Lib.hid hr1; have HSB : Hid (∀ ad, A1 = some ad → 0 < m1 → ad.block < L) := Lib.hid (fun ad hA hm => by obtain ⟨ad0, h0, he⟩ := hsub ad hA; rw [he]; exact HLOW.out ad0 h0 (by have h1 : rest.length = m1 := hr1.len; have h2 := HLEN.out; omega)); clear hsub; have HI := Lib.hid hi1; have HN := Lib.hid hn1; clear hi1 hn1; clear hb hr1 hc0
  simp only
  cases ok
  · go_wp2_with fail
    refine (require_no _ _).mono ?_
    rintro e w2 ⟨rfl, rfl⟩
    go_wp2
    exact ⟨rfl, But.of HB.out, .inr ⟨rfl, rfl⟩⟩
  · go_wp2_with fail
    refine (require_yes _ _).mono ?_
    rintro e w2 ⟨rfl, rfl⟩
    have hc0 : w1.cell? ⟨R, 0, none⟩ = some (.slice A n c) := by rw [cell_of_row _ _ _ _ _ _ HR1.out]; rfl
    have hfz : w1.frozen? ⟨R, 0, none⟩ = false := frozen_of_row _ _ _ _ _ HR1.out
    go_wp2
    go_ret
    refine ⟨(But.of HB.out).trans (But.set _ _ _), .inl ⟨rfl, ⟨B1, k1, b1, rfl, Row.but HI.out (But.set _ _ _) (fun ad hA _ => by have := (HN.out ad hA).1; have := HL.out; omega), fun ad hA => ⟨(HN.out ad hA).1, by rw [World.size_setCell]; exact (HN.out ad hA).2⟩⟩, ?_⟩⟩
    exact ⟨⟨A1, m1, c1, heap_setCell_same _ _ _ _ _ _ HR1.out, Row.but HX.out (But.set _ _ _) (fun ad hA h0 => by have := HSB.out ad hA h0; omega), HSB.out⟩, hLR⟩
end Go.Proofs.YtkglgboncngpbaaGreatDoor
