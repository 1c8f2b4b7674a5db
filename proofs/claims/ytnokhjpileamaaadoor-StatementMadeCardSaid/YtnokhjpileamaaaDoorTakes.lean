/- The walks of package wire: TakeText, TakeInts. -/
import Derived.Test.YtnokhjpileamaaaDoorTake
namespace Go.Proofs.YtnokhjpileamaaaDoor
open Go.RowKit
/-- The string that was taken and the bytes behind it. -/
def TookS (w : World) (us : List UInt8) (k : Nat) (e : Ending) (w' : World) : Prop := ∃ A m c, e = .returned (.tuple #[.string (strOf ((us.drop 8).take k)), .slice A m c, .bool true]) ∧ m = us.length - (8 + k) ∧ BRow w A m c (us.drop (8 + k)) ∧ Below w.heap.size w w'
/-- Number i of those that stand behind the first one; the first k of them. -/
def intAt (us : List UInt8) (i : Nat) : Int := int8 ((us.drop (8 + 8 * i)).take 8)
def intsAt (us : List UInt8) (k : Nat) : List Int := (List.range k).map (intAt us)
theorem intsAt_len (us : List UInt8) (k : Nat) : (intsAt us k).length = k := by simp [intsAt]
theorem intsAt_succ (us : List UInt8) (k : Nat) : intsAt us (k + 1) = intsAt us k ++ [intAt us k] := by simp [intsAt, List.range_succ]
/-- The list that was taken and the bytes behind it. -/
def TookL (w : World) (us : List UInt8) (k : Nat) (e : Ending) (w' : World) : Prop :=
  ∃ B b A m c, e = .returned (.tuple #[.slice B k b, .slice A m c, .bool true]) ∧ IRow w' B k b (intsAt us k) ∧ New w w' B ∧ m = us.length - (8 + 8 * k) ∧ BRow w A m c (us.drop (8 + 8 * k)) ∧ Below w.heap.size w w'
/-- Numbers in a slice that the call itself has made. -/
def IOwn (w : World) (B : Nat) (v : Value) (l : List Int) : Prop := w.ownsRow B 3 1 v l.length (intsV l)
theorem IOwn.row {w : World} {B : Nat} {v : Value} {l : List Int} (h : IOwn w B v l) : ∃ A c, v = .slice A l.length c ∧ IRow w A l.length c l := Row.of_own h
set_option maxHeartbeats 1000000 in
theorem takeText_no (A : Option Addr) (n c : Nat) (us : List UInt8) (most : Int) (w : World) (hr : BRow w A n c us) (hnm : n ≤ 900000000) (hno : ¬ CountOk us most 1) :
    Calls Tryd.prog 91 #[.slice A n c, .int .i64 most] w fun e w' => e = noneS ∧ Below w.heap.size w w' := by
  have HR := Lib.hid hr; have HNO := Lib.hid hno; clear hr hno
  go_enter Tryd.func91, Tryd.ntmps91
  go_wp2_with fail
  refine (takeCount_no A n c us most 1 w HR.out (.inl rfl) hnm HNO.out).mono ?_
  rintro e w1 ⟨rfl, hb1⟩
  have HB1 := Lib.hid hb1; clear hb1
  unfold noneI
  go_wp2
  go_ret3
  exact ⟨rfl, HB1.out⟩
set_option maxHeartbeats 1000000 in
theorem takeText_yes (A : Option Addr) (n c : Nat) (us : List UInt8) (most : Int) (k : Nat) (w : World) (hr : BRow w A n c us) (hnm : n ≤ 900000000) (hok : CountOk us most 1) (hk : cnt us = (k : Int)) :
    Calls Tryd.prog 91 #[.slice A n c, .int .i64 most] w (TookS w us k) := by
  have HR := Lib.hid hr; have HL := Lib.hid hr.len; have HOK := Lib.hid hok; have HK := Lib.hid hk
  have hkn : Hid (8 ≤ n ∧ k ≤ n - 8) := by
    have h1 := hok.len; have h2 := hok.fit; have h3 := hr.len
    rw [hk, h3, Nat.div_one] at h2; rw [h3] at h1; exact ⟨h1, by omega⟩
  clear hr hok hk
  go_enter Tryd.func91, Tryd.ntmps91
  go_wp2_with fail
  refine (takeCount_yes A n c us most 1 w HR.out (.inl rfl) hnm HOK.out).mono ?_
  rintro e w1 ⟨A1, m, c1, rfl, hm, hr1, hb1⟩
  rw [HL.out] at hm
  have hkm : k ≤ m := by have := hkn.out; omega
  change Hid (int8 (us.take 8) = (k : Int)) at HK
  rw [HK.out]
  have hs1 := fun w => run_slice_from (P := Tryd.prog) (t := 28) Tryd.underlying28 u8_size (A := A1) (n := m) (c := c1) (k := k) (i := (k : Int)) rfl hkm .i64 w
  have hs2 := fun w => run_slice_to (P := Tryd.prog) (t := 28) Tryd.underlying28 u8_size (k := k) hr1 (i := (k : Int)) rfl hkm .i64 w
  have hd := hr1.drop k hkm
  have hcv : ∀ x, (convert 28 9 (.slice A1 k c1)).run Tryd.prog (fut Later w1.drew x) = .ok (.string (strOf ((us.drop 8).take k))) (fut Later w1.drew x) := fun x =>
    run_conv_row ((((hr1.take k hkm).later hb1).later (Later.drew w1)).later (fut_ok Later.refl _ x)) Tryd.underlying28 Tryd.underlying5 Tryd.underlying9
  generalize dropA A1 c1 k 1 = A' at hs1 hd
  obtain ⟨t, ht⟩ : ∃ t, t = strOf ((us.drop 8).take k) := ⟨_, rfl⟩
  rw [← ht] at hcv
  have HT := Lib.hid ht; clear ht
  have HM := Lib.hid hm; have HD := Lib.hid hd; have HB1 := Lib.hid hb1; clear hm hr1 hb1 hd hkm
  go_wp2_with fail
  refine wp_region_grow (by kernel_rfl) Later Later.refl (fun _ _ _ => Later.trans) [0, 1, 2, 3, 4, 5, 6, 7, 8, 9] [] (by kernel_rfl) (by kernel_rfl) (by kernel_rfl) ?_
  simp only [List.map_cons, List.map_nil, pick, List.getD_cons_zero, List.getD_cons_succ]
  refine wpGrow_nil ?_
  repeat (go_big_quiet_step (fail))
  refine wpQuiet_nil ?_
  go_wp2
  go_ret3
  refine ⟨A', m - k, c1 - k, by rw [← HT.out]; rfl, by rw [HL.out, HM.out]; omega, ?_, HB1.out.drew⟩
  have h := HD.out
  rw [List.drop_drop] at h
  exact h
set_option maxHeartbeats 1000000 in
theorem takeInts_no (A : Option Addr) (n c : Nat) (us : List UInt8) (most : Int) (w : World) (hr : BRow w A n c us) (hnm : n ≤ 900000000) (hno : ¬ CountOk us most 8) :
    Calls Tryd.prog 92 #[.slice A n c, .int .i64 most] w fun e w' => e = noneL ∧ Below w.heap.size w w' := by
  have HR := Lib.hid hr; have HNO := Lib.hid hno; clear hr hno
  go_enter Tryd.func92, Tryd.ntmps92
  go_wp2_with fail
  refine (takeCount_no A n c us most 8 w HR.out (.inr rfl) hnm HNO.out).mono ?_
  rintro e w1 ⟨rfl, hb1⟩
  have HB1 := Lib.hid hb1; clear hb1
  unfold noneI
  go_wp2
  go_ret3
  exact ⟨rfl, HB1.out⟩
set_option maxHeartbeats 1000000 in
theorem takeInts_yes (A : Option Addr) (n c : Nat) (us : List UInt8) (most : Int) (k : Nat) (w : World) (hr : BRow w A n c us) (hnm : n ≤ 900000000) (hok : CountOk us most 8) (hk : cnt us = (k : Int)) :
    Calls Tryd.prog 92 #[.slice A n c, .int .i64 most] w (TookL w us k) := by
  have HR := Lib.hid hr; have HL := Lib.hid hr.len; have HOK := Lib.hid hok; have HK := Lib.hid hk
  have hkn : Hid (8 ≤ n ∧ 8 * k ≤ n - 8) := by
    have h1 := hok.len; have h2 := hok.fit; have h3 := hr.len
    rw [hk, h3] at h2; rw [h3] at h1; exact ⟨h1, by omega⟩
  have hk9 : k ≤ 200000000 := by have := hkn.out; omega
  clear hr hok hk
  go_enter Tryd.func92, Tryd.ntmps92
  go_wp2_with fail
  refine (takeCount_yes A n c us most 8 w HR.out (.inr rfl) hnm HOK.out).mono ?_
  rintro e w1 ⟨A1, m, c1, rfl, hm, hr1, hb1⟩
  rw [HL.out] at hm
  have HM := Lib.hid hm; have HR1 := Lib.hid hr1; have HB1 := Lib.hid hb1; clear hm hr1 hb1
  change Hid (int8 (us.take 8) = (k : Int)) at HK
  rw [HK.out]
  go_wp2_with (at_make; go_must (refine wpList_make _ rfl (.const (.int .i64 0)) (.tmp 20) 22 3 rfl w.heap.size Tryd.underlying22 i64_info rfl 0 k rfl rfl rfl rfl (by omega) (by omega) (by unfold maxLen; omega) HB1.out.size ?_); intro w2 ho2 hb2; have HO2 := Lib.hid ho2; have HB2 := Lib.hid hb2; clear ho2 hb2)
  go_loopw [8, 10, 23] (fun r v i wr => ∃ j : Nat, j ≤ k ∧ i = .int .i64 j ∧ ∃ A' m' c', r = .slice A' m' c' ∧ Hid (m' = m - 8 * j ∧ BRow w A' m' c' (us.drop (8 + 8 * j)) ∧ IOwn wr w.heap.size v (intsAt us j) ∧ Below w.heap.size w wr)) (fun _ _ i _ => k - (intOf i).toNat)
  case atStart => exact ⟨0, by omega, rfl, A1, m, c1, rfl, Lib.hid ⟨by omega, HR1.out, HO2.out, HB1.out.trans (HB2.out.mono HB1.out.size)⟩⟩
  case round =>
    obtain ⟨j, hj, rfl, A', m', c', rfl, HQ⟩ := hrel
    by_cases hlt : j < k
    · have hm8 : 8 ≤ m' := by have h1 := HQ.out.1; have h2 := HM.out; have h3 := hkn.out; omega
      have hs1 := fun w => run_slice_from (P := Tryd.prog) (t := 28) Tryd.underlying28 u8_size (A := A') (n := m') (c := c') (k := 8) (i := 8) rfl hm8 .i64 w
      have hd := HQ.out.2.1.drop 8 hm8
      generalize dropA A' c' 8 1 = A2 at hs1 hd
      have HD := Lib.hid hd; clear hd
      have hlen := Lib.hid (intsAt_len us j)
      go_wp2_with fail
      refine (number_any A' m' c' _ wr (HQ.out.2.1.later HQ.out.2.2.2) hm8).mono ?_
      rintro e w3 ⟨rfl, rfl⟩
      rw [show int8 (List.take 8 (List.drop (8 + 8 * j) us)) = intAt us j from rfl]
      obtain ⟨x, hx⟩ : ∃ x, x = intAt us j := ⟨_, rfl⟩
      rw [← hx]
      have HX := Lib.hid hx; clear hx
      go_wp2_with (at_builtin; go_must (refine wpList_app_new wr rfl (.tmp 25) (.tmp 28) 22 3 rfl w.heap.size Tryd.underlying22 i64_info rfl _ _ _ HQ.out.2.2.1 rfl 1 #[.int .i64 x] rfl (by simp [Value.oneCell']) rfl rfl (by rw [hlen.out]; unfold maxLen; omega) (by rw [hlen.out]; omega) HQ.out.2.2.2.size ?_); intro v3 w3 ho3 hb3; have HO3 := Lib.hid ho3; have HB3 := Lib.hid hb3; clear ho3 hb3)
      refine ⟨⟨j + 1, by omega, by go_num, A2, _, _, rfl, Lib.hid ⟨by have := HQ.out.1; omega, ?_, ?_, HQ.out.2.2.2.trans HB3.out⟩⟩, by simp [intOf]; omega⟩
      · have h := HD.out
        rw [List.drop_drop] at h
        exact h
      · unfold IOwn
        rw [intsAt_succ, intsV_app, List.length_append, ← HX.out]
        exact HO3.out
    · have HJ : Hid (j = k) := by unfold Hid; omega
      obtain ⟨B, b, hv, hrow⟩ := HQ.out.2.2.1.row
      rw [intsAt_len] at hv hrow
      subst hv
      have HRW := Lib.hid hrow; clear hrow
      have HNW : Hid (New w wr B) := Lib.hid fun ad hA => by subst hA; exact World.ownsRow.lt HQ.out.2.2.1 _ rfl
      go_wp2
      go_ret3
      have hJ := HJ.out
      subst hJ
      exact ⟨B, b, A', m', c', rfl, HRW.out, HNW.out, by rw [HL.out]; have h1 := HQ.out.1; have h2 := HM.out; omega, HQ.out.2.1, HQ.out.2.2.2⟩
end Go.Proofs.YtnokhjpileamaaaDoor
