/- What package wire takes from bytes lies where the bytes lie. -/
import Derived.Test.YtnokhjpileamaaaDoorSome
namespace Go.Proofs.YtnokhjpileamaaaDoor
open Go.RowKit
/-- An address in the block of another one. -/
def Sub (A' A : Option Addr) : Prop := ∀ ad', A' = some ad' → ∃ ad, A = some ad ∧ ad'.block = ad.block
theorem Sub.refl (A : Option Addr) : Sub A A := fun ad h => ⟨ad, h, rfl⟩
theorem Sub.none (A : Option Addr) : Sub none A := fun _ h => by cases h
theorem Sub.trans {A B C : Option Addr} (h : Sub A B) (k : Sub B C) : Sub A C := fun ad hA => by
  obtain ⟨b, hb, e⟩ := h ad hA
  obtain ⟨c, hc, e2⟩ := k b hb
  exact ⟨c, hc, e.trans e2⟩
theorem dropA_sub (A : Option Addr) (c k sz : Nat) : Sub (dropA A c k sz) A := fun ad h => by
  unfold dropA at h
  split at h
  · exact ⟨ad, h, rfl⟩
  · cases A with
    | none => cases h
    | some a => simp at h; exact ⟨a, rfl, by rw [← h]; unfold Addr.add; split <;> rfl⟩
def TookIs (w : World) (A0 : Option Addr) (us : List UInt8) (e : Ending) (w' : World) : Prop := ∃ A m c, e = .returned (.tuple #[.int .i64 (int8 (us.take 8)), .slice A m c, .bool true]) ∧ m = us.length - 8 ∧ BRow w A m c (us.drop 8) ∧ Sub A A0 ∧ Below w.heap.size w w'
def TookSs (w : World) (A0 : Option Addr) (us : List UInt8) (k : Nat) (e : Ending) (w' : World) : Prop := ∃ A m c, e = .returned (.tuple #[.string (strOf ((us.drop 8).take k)), .slice A m c, .bool true]) ∧ m = us.length - (8 + k) ∧ BRow w A m c (us.drop (8 + k)) ∧ Sub A A0 ∧ Below w.heap.size w w'
def TookLs (w : World) (A0 : Option Addr) (us : List UInt8) (k : Nat) (e : Ending) (w' : World) : Prop :=
  ∃ B b A m c, e = .returned (.tuple #[.slice B k b, .slice A m c, .bool true]) ∧ IRow w' B k b (intsAt us k) ∧ New w w' B ∧ m = us.length - (8 + 8 * k) ∧ BRow w A m c (us.drop (8 + 8 * k)) ∧ Sub A A0 ∧ Below w.heap.size w w'
set_option maxHeartbeats 400000 in
theorem takeInt_sub (A : Option Addr) (n c : Nat) (us : List UInt8) (w : World) (hr : BRow w A n c us) (hn : 8 ≤ n) :
    Calls Tryd.prog 90 #[.slice A n c] w (TookIs w A us) := by
  have hsl := fun w => run_slice_from (P := Tryd.prog) (t := 28) Tryd.underlying28 u8_size (A := A) (n := n) (c := c) (k := 8) (i := 8) rfl hn .i64 w
  have hd := hr.drop 8 hn
  have hsub := dropA_sub A c 8 1
  generalize dropA A c 8 1 = A' at hsl hd hsub
  have HSB := Lib.hid hsub; clear hsub
  have HR := Lib.hid hr; have HD := Lib.hid hd; have HL := Lib.hid hr.len; clear hr hd
  go_enter Tryd.func90, Tryd.ntmps90
  go_wp2_with fail
  refine wp_region_grow (by kernel_rfl) Later Later.refl (fun _ _ _ => Later.trans) [4, 5, 6] [([0, 2, 3], 1)] (by kernel_rfl) (by kernel_rfl) (by kernel_rfl) ?_
  simp only [List.map_cons, List.map_nil, pick, List.getD_cons_zero, List.getD_cons_succ]
  refine wpGrow_cons ?_
  repeat (go_big_quiet_step (fail))
  refine wpQuiet_nil ?_
  go_wp2_with fail
  refine (number_any A n c us w.drew (HR.out.later (Later.drew w)) hn).mono ?_
  rintro e w1 ⟨rfl, rfl⟩
  go_wp2_with fail
  refine pieceEnd_normal ⟨Later.refl _, ?_⟩
  refine wpGrow_nil ?_
  repeat (go_big_quiet_step (fail))
  refine wpQuiet_nil ?_
  go_wp2
  go_ret3
  exact ⟨_, _, _, rfl, by rw [HL.out], HD.out, HSB.out, (Later.drew w)⟩
set_option maxHeartbeats 1000000 in
theorem takeCount_sub (A : Option Addr) (n c : Nat) (us : List UInt8) (most : Int) (size : Nat) (w : World) (hr : BRow w A n c us) (hs : size = 1 ∨ size = 8) (hnm : n ≤ 900000000) (hok : CountOk us most size) :
    Calls Tryd.prog 94 #[.slice A n c, .int .i64 most, .int .i64 size] w (TookIs w A us) := by
  have HR := Lib.hid hr; have HL := Lib.hid hr.len; have HOK := Lib.hid hok; clear hr hok
  have hn8 : 8 ≤ n := by have := HOK.out.len; rw [HL.out] at this; exact this
  rcases hs with rfl | rfl
  all_goals
    go_enter Tryd.func94, Tryd.ntmps94
    go_wp2_with fail
    refine (takeInt_sub A n c us w HR.out hn8).mono ?_
    rintro e w1 ⟨A1, m, c1, rfl, hm, hr1, hsb, hb1⟩
    have HSB := Lib.hid hsb; clear hsb
    have HB1 := Lib.hid hb1; have HR1 := Lib.hid hr1; have HM0 := Lib.hid hm; rw [HL.out] at hm; have HM := Lib.hid hm; clear hb1 hr1
    have hm9 : m ≤ 900000000 := by omega
    clear hm
    have h := HOK.out.nn; have h1 := HOK.out.le; have h2 := HOK.out.fit
    rw [HL.out, ← HM.out] at h2
    unfold cnt at h h1 h2
    obtain ⟨v, hv⟩ : ∃ v, v = int8 (us.take 8) := ⟨_, rfl⟩
    rw [← hv] at h h1 h2 ⊢
    have HV := Lib.hid hv; clear hv
    have g : (decide (v < 0)) = false := decide_eq_false (by omega)
    have g1 : (decide (most < v)) = false := decide_eq_false (by omega)
    first
      | (have g2 : (decide ((m : Int) < v)) = false := decide_eq_false (by omega)
         clear h h1 h2
         go_wp2
         go_ret3
         exact ⟨A1, m, c1, by rw [← HV.out]; rfl, HM0.out, HR1.out, HSB.out, HB1.out⟩)
      | (have g2 : (decide ((m : Int) / 8 < v)) = false := decide_eq_false (by omega)
         clear h h1 h2
         go_wp2
         go_ret3
         exact ⟨A1, m, c1, by rw [← HV.out]; rfl, HM0.out, HR1.out, HSB.out, HB1.out⟩)
set_option maxHeartbeats 1000000 in
theorem takeText_sub (A : Option Addr) (n c : Nat) (us : List UInt8) (most : Int) (k : Nat) (w : World) (hr : BRow w A n c us) (hnm : n ≤ 900000000) (hok : CountOk us most 1) (hk : cnt us = (k : Int)) :
    Calls Tryd.prog 91 #[.slice A n c, .int .i64 most] w (TookSs w A us k) := by
  have HR := Lib.hid hr; have HL := Lib.hid hr.len; have HOK := Lib.hid hok; have HK := Lib.hid hk
  have hkn : Hid (8 ≤ n ∧ k ≤ n - 8) := by
    have h1 := hok.len; have h2 := hok.fit; have h3 := hr.len
    rw [hk, h3, Nat.div_one] at h2; rw [h3] at h1; exact ⟨h1, by omega⟩
  clear hr hok hk
  go_enter Tryd.func91, Tryd.ntmps91
  go_wp2_with fail
  refine (takeCount_sub A n c us most 1 w HR.out (.inl rfl) hnm HOK.out).mono ?_
  rintro e w1 ⟨A1, m, c1, rfl, hm, hr1, hsb, hb1⟩
  rw [HL.out] at hm
  have hkm : k ≤ m := by have := hkn.out; omega
  change Hid (int8 (us.take 8) = (k : Int)) at HK
  rw [HK.out]
  have hs1 := fun w => run_slice_from (P := Tryd.prog) (t := 28) Tryd.underlying28 u8_size (A := A1) (n := m) (c := c1) (k := k) (i := (k : Int)) rfl hkm .i64 w
  have hs2 := fun w => run_slice_to (P := Tryd.prog) (t := 28) Tryd.underlying28 u8_size (k := k) hr1 (i := (k : Int)) rfl hkm .i64 w
  have hd := hr1.drop k hkm
  have hcv : ∀ x, (convert 28 9 (.slice A1 k c1)).run Tryd.prog (fut Later w1.drew x) = .ok (.string (strOf ((us.drop 8).take k))) (fut Later w1.drew x) := fun x =>
    run_conv_row ((((hr1.take k hkm).later hb1).later (Later.drew w1)).later (fut_ok Later.refl _ x)) Tryd.underlying28 Tryd.underlying5 Tryd.underlying9
  have hsub := (dropA_sub A1 c1 k 1).trans hsb
  generalize dropA A1 c1 k 1 = A' at hs1 hd hsub
  have HSB := Lib.hid hsub; clear hsub hsb
  obtain ⟨t, ht⟩ : ∃ t, t = strOf ((us.drop 8).take k) := ⟨_, rfl⟩
  rw [← ht] at hcv
  have HT := Lib.hid ht; clear ht
  have HM := Lib.hid hm; have HD := Lib.hid hd; have HB1 := Lib.hid hb1; clear hm hr1 hb1 hd hkm
  go_wp2_with fail
  refine wp_region_grow (by kernel_rfl) Later Later.refl (fun _ _ _ => Later.trans) [0, 1, 2, 3, 4, 5, 6, 7, 8, 9] [] (by kernel_rfl) (by kernel_rfl) (by kernel_rfl) ?_
  simp only [List.map_cons, List.map_nil, pick, List.getD_cons_zero, List.getD_cons_succ]
  refine wpGrow_nil ?_
  repeat (go_big_quiet_step (fail))
  refine wpQuiet_nil ?_
  go_wp2
  go_ret3
  refine ⟨A', m - k, c1 - k, by rw [← HT.out]; rfl, by rw [HL.out, HM.out]; omega, ?_, HSB.out, HB1.out.drew⟩
  have h := HD.out
  rw [List.drop_drop] at h
  exact h
set_option maxHeartbeats 1000000 in
theorem takeInts_sub (A : Option Addr) (n c : Nat) (us : List UInt8) (most : Int) (k : Nat) (w : World) (hr : BRow w A n c us) (hnm : n ≤ 900000000) (hok : CountOk us most 8) (hk : cnt us = (k : Int)) :
    Calls Tryd.prog 92 #[.slice A n c, .int .i64 most] w (TookLs w A us k) := by
  have HR := Lib.hid hr; have HL := Lib.hid hr.len; have HOK := Lib.hid hok; have HK := Lib.hid hk
  have hkn : Hid (8 ≤ n ∧ 8 * k ≤ n - 8) := by
    have h1 := hok.len; have h2 := hok.fit; have h3 := hr.len
    rw [hk, h3] at h2; rw [h3] at h1; exact ⟨h1, by omega⟩
  have hk9 : k ≤ 200000000 := by have := hkn.out; omega
  clear hr hok hk
  go_enter Tryd.func92, Tryd.ntmps92
  go_wp2_with fail
  refine (takeCount_sub A n c us most 8 w HR.out (.inr rfl) hnm HOK.out).mono ?_
  rintro e w1 ⟨A1, m, c1, rfl, hm, hr1, hsb, hb1⟩
  have HSB := Lib.hid hsb; clear hsb
  rw [HL.out] at hm
  have HM := Lib.hid hm; have HR1 := Lib.hid hr1; have HB1 := Lib.hid hb1; clear hm hr1 hb1
  change Hid (int8 (us.take 8) = (k : Int)) at HK
  rw [HK.out]
  go_wp2_with (at_make; go_must (refine wpList_make _ rfl (.const (.int .i64 0)) (.tmp 20) 22 3 rfl w.heap.size Tryd.underlying22 i64_info rfl 0 k rfl rfl rfl rfl (by omega) (by omega) (by unfold maxLen; omega) HB1.out.size ?_); intro w2 ho2 hb2; have HO2 := Lib.hid ho2; have HB2 := Lib.hid hb2; clear ho2 hb2)
  go_loopw [8, 10, 23] (fun r v i wr => ∃ j : Nat, j ≤ k ∧ i = .int .i64 j ∧ ∃ A' m' c', r = .slice A' m' c' ∧ Hid (m' = m - 8 * j ∧ BRow w A' m' c' (us.drop (8 + 8 * j)) ∧ IOwn wr w.heap.size v (intsAt us j) ∧ Below w.heap.size w wr ∧ Sub A' A)) (fun _ _ i _ => k - (intOf i).toNat)
  case atStart => exact ⟨0, by omega, rfl, A1, m, c1, rfl, Lib.hid ⟨by omega, HR1.out, HO2.out, HB1.out.trans (HB2.out.mono HB1.out.size), HSB.out⟩⟩
  case round =>
    obtain ⟨j, hj, rfl, A', m', c', rfl, HQ⟩ := hrel
    by_cases hlt : j < k
    · have hm8 : 8 ≤ m' := by have h1 := HQ.out.1; have h2 := HM.out; have h3 := hkn.out; omega
      have hs1 := fun w => run_slice_from (P := Tryd.prog) (t := 28) Tryd.underlying28 u8_size (A := A') (n := m') (c := c') (k := 8) (i := 8) rfl hm8 .i64 w
      have hd := HQ.out.2.1.drop 8 hm8
      have hsub := (dropA_sub A' c' 8 1).trans HQ.out.2.2.2.2
      generalize dropA A' c' 8 1 = A2 at hs1 hd hsub
      have HSUB := Lib.hid hsub; clear hsub
      have HD := Lib.hid hd; clear hd
      have hlen := Lib.hid (intsAt_len us j)
      go_wp2_with fail
      refine (number_any A' m' c' _ wr (HQ.out.2.1.later HQ.out.2.2.2.1) hm8).mono ?_
      rintro e w3 ⟨rfl, rfl⟩
      rw [show int8 (List.take 8 (List.drop (8 + 8 * j) us)) = intAt us j from rfl]
      obtain ⟨x, hx⟩ : ∃ x, x = intAt us j := ⟨_, rfl⟩
      rw [← hx]
      have HX := Lib.hid hx; clear hx
      go_wp2_with (at_builtin; go_must (refine wpList_app_new wr rfl (.tmp 25) (.tmp 28) 22 3 rfl w.heap.size Tryd.underlying22 i64_info rfl _ _ _ HQ.out.2.2.1 rfl 1 #[.int .i64 x] rfl (by simp [Value.oneCell']) rfl rfl (by rw [hlen.out]; unfold maxLen; omega) (by rw [hlen.out]; omega) HQ.out.2.2.2.1.size ?_); intro v3 w3 ho3 hb3; have HO3 := Lib.hid ho3; have HB3 := Lib.hid hb3; clear ho3 hb3)
      refine ⟨⟨j + 1, by omega, by go_num, A2, _, _, rfl, Lib.hid ⟨by have := HQ.out.1; omega, ?_, ?_, HQ.out.2.2.2.1.trans HB3.out, HSUB.out⟩⟩, by simp [intOf]; omega⟩
      · have h := HD.out
        rw [List.drop_drop] at h
        exact h
      · unfold IOwn
        rw [intsAt_succ, intsV_app, List.length_append, ← HX.out]
        exact HO3.out
    · have HJ : Hid (j = k) := by unfold Hid; omega
      obtain ⟨B, b, hv, hrow⟩ := HQ.out.2.2.1.row
      rw [intsAt_len] at hv hrow
      subst hv
      have HRW := Lib.hid hrow; clear hrow
      have HNW : Hid (New w wr B) := Lib.hid fun ad hA => by subst hA; exact World.ownsRow.lt HQ.out.2.2.1 _ rfl
      go_wp2
      go_ret3
      have hJ := HJ.out
      subst hJ
      exact ⟨B, b, A', m', c', rfl, HRW.out, HNW.out, by rw [HL.out]; have h1 := HQ.out.1; have h2 := HM.out; omega, HQ.out.2.1, HQ.out.2.2.2.2, HQ.out.2.2.2.1⟩
def SubI (w : World) (A0 : Option Addr) (R : Int × List UInt8 × Bool) (e : Ending) (w' : World) : Prop := ∃ A m c, e = .returned (.tuple #[.int .i64 R.1, .slice A m c, .bool R.2.2]) ∧ BRow w' A m c R.2.1 ∧ Sub A A0 ∧ Below w.heap.size w w'
def SubS (w : World) (A0 : Option Addr) (R : ByteArray × List UInt8 × Bool) (e : Ending) (w' : World) : Prop := ∃ A m c, e = .returned (.tuple #[.string R.1, .slice A m c, .bool R.2.2]) ∧ BRow w' A m c R.2.1 ∧ Sub A A0 ∧ Below w.heap.size w w'
def SubL (w : World) (A0 : Option Addr) (R : List Int × List UInt8 × Bool) (e : Ending) (w' : World) : Prop :=
  ∃ B k b A m c, e = .returned (.tuple #[.slice B k b, .slice A m c, .bool R.2.2]) ∧ IRow w' B k b R.1 ∧ New w w' B ∧ BRow w' A m c R.2.1 ∧ Sub A A0 ∧ Below w.heap.size w w'
section
variable (A : Option Addr) (n c : Nat) (us : List UInt8) (most : Int) (w : World)
theorem takeI_sub (hr : BRow w A n c us) : Calls Tryd.prog 90 #[.slice A n c] w (SubI w A (takeI us)) := by
  by_cases h : 8 ≤ us.length
  · refine (takeInt_sub A n c us w hr (by rw [← hr.len]; exact h)).mono fun e w' ⟨A', m, c', he, _, h1, hs, h2⟩ => ⟨A', m, c', ?_, ?_, hs, h2⟩
    · unfold takeI; rw [if_pos h]; exact he
    · unfold takeI; rw [if_pos h]; exact h1.later h2
  · refine (takeInt_no A n c w (by rw [← hr.len]; omega)).mono fun e w' ⟨he, hw⟩ => ⟨none, 0, 0, ?_, ?_, Sub.none _, ?_⟩
    · unfold takeI; rw [if_neg h]; exact he
    · unfold takeI; rw [if_neg h]; exact Row.nilRow _ _
    · subst hw; exact Below.refl _ _
theorem takeS_sub (hr : BRow w A n c us) (hn : n ≤ 900000000) : Calls Tryd.prog 91 #[.slice A n c, .int .i64 most] w (SubS w A (takeS us most)) := by
  by_cases h : CountOk us most 1
  · refine (takeText_sub A n c us most _ w hr hn h (cnt_nat h)).mono fun e w' ⟨A', m, c', he, _, h1, hs, h2⟩ => ⟨A', m, c', ?_, ?_, hs, h2⟩
    · unfold takeS; rw [if_pos h]; exact he
    · unfold takeS; rw [if_pos h]; exact h1.later h2
  · refine (takeText_no A n c us most w hr hn h).mono fun e w' ⟨he, hw⟩ => ⟨none, 0, 0, ?_, ?_, Sub.none _, hw⟩
    · unfold takeS; rw [if_neg h]; exact he
    · unfold takeS; rw [if_neg h]; exact Row.nilRow _ _
theorem takeL_sub (hr : BRow w A n c us) (hn : n ≤ 900000000) : Calls Tryd.prog 92 #[.slice A n c, .int .i64 most] w (SubL w A (takeL us most)) := by
  by_cases h : CountOk us most 8
  · refine (takeInts_sub A n c us most _ w hr hn h (cnt_nat h)).mono fun e w' ⟨B, b, A', m, c', he, h0, hN, _, h1, hs, h2⟩ => ⟨B, (cnt us).toNat, b, A', m, c', ?_, ?_, hN, ?_, hs, h2⟩
    · unfold takeL; rw [if_pos h]; exact he
    · unfold takeL; rw [if_pos h]; exact h0
    · unfold takeL; rw [if_pos h]; exact h1.later h2
  · refine (takeInts_no A n c us most w hr hn h).mono fun e w' ⟨he, hw⟩ => ⟨none, 0, 0, none, 0, 0, ?_, ?_, (fun _ h => by cases h), ?_, Sub.none _, hw⟩
    · unfold takeL; rw [if_neg h]; exact he
    · unfold takeL; rw [if_neg h]; exact Row.nilRow _ _
    · unfold takeL; rw [if_neg h]; exact Row.nilRow _ _
end
end Go.Proofs.YtnokhjpileamaaaDoor
