/- The walk of taken: package wire takes what the reference takes. -/
import Derived.Test.YtmccnfdadipgiaaWrites
namespace Go.Proofs.Ytmccnfdadipgiaa
open Go.RowKit
/-- What is taken from bytes: the value, the bytes behind it, whether there is one. -/
def takeI (us : List UInt8) : Int × List UInt8 × Bool := if 8 ≤ us.length then (cnt us, us.drop 8, true) else (0, [], false)
open Classical in
noncomputable def takeS (us : List UInt8) (most : Int) : ByteArray × List UInt8 × Bool :=
  if CountOk us most 1 then (strOf ((us.drop 8).take (cnt us).toNat), us.drop (8 + (cnt us).toNat), true) else (⟨#[]⟩, [], false)
open Classical in
noncomputable def takeL (us : List UInt8) (most : Int) : List Int × List UInt8 × Bool :=
  if CountOk us most 8 then (intsAt us (cnt us).toNat, us.drop (8 + 8 * (cnt us).toNat), true) else ([], [], false)
def SomeI (w : World) (R : Int × List UInt8 × Bool) (e : Ending) (w' : World) : Prop := ∃ A m c, e = .returned (.tuple #[.int .i64 R.1, .slice A m c, .bool R.2.2]) ∧ BRow w' A m c R.2.1 ∧ Below w.heap.size w w'
def SomeS (w : World) (R : ByteArray × List UInt8 × Bool) (e : Ending) (w' : World) : Prop := ∃ A m c, e = .returned (.tuple #[.string R.1, .slice A m c, .bool R.2.2]) ∧ BRow w' A m c R.2.1 ∧ Below w.heap.size w w'
def SomeL (w : World) (R : List Int × List UInt8 × Bool) (e : Ending) (w' : World) : Prop :=
  ∃ B k b A m c, e = .returned (.tuple #[.slice B k b, .slice A m c, .bool R.2.2]) ∧ IRow w' B k b R.1 ∧ BRow w' A m c R.2.1 ∧ Below w.heap.size w w'
theorem cnt_nat {us : List UInt8} {most : Int} {size : Nat} (h : CountOk us most size) : cnt us = ((cnt us).toNat : Int) := by have := h.nn; omega
theorem takeL_len (us : List UInt8) (most : Int) : (takeL us most).1.length ≤ us.length := by
  unfold takeL
  split
  · rename_i h
    have h1 := h.fit; have h2 := h.nn
    rw [intsAt_len]; omega
  · exact Nat.zero_le _
section
variable (A : Option Addr) (n c : Nat) (us : List UInt8) (most : Int) (w : World)
theorem takeInt_any (hr : BRow w A n c us) : Calls Try.prog 16 #[.slice A n c] w (SomeI w (takeI us)) := by
  by_cases h : 8 ≤ us.length
  · refine (takeInt_yes A n c us w hr (by rw [← hr.len]; exact h)).mono fun e w' ⟨A', m, c', he, _, h1, h2⟩ => ⟨A', m, c', ?_, ?_, h2⟩
    · unfold takeI; rw [if_pos h]; exact he
    · unfold takeI; rw [if_pos h]; exact h1.later h2
  · refine (takeInt_no A n c w (by rw [← hr.len]; omega)).mono fun e w' ⟨he, hw⟩ => ⟨none, 0, 0, ?_, ?_, ?_⟩
    · unfold takeI; rw [if_neg h]; exact he
    · unfold takeI; rw [if_neg h]; exact Row.nilRow _ _
    · subst hw; exact Below.refl _ _
theorem refTakeInt_any (hr : BRow w A n c us) (hn : n ≤ 900000000) : Calls Try.prog 27 #[.slice A n c] w (SomeI w (takeI us)) := by
  by_cases h : 8 ≤ us.length
  · refine (refTakeInt_yes A n c us w hr (by rw [← hr.len]; exact h) hn).mono fun e w' ⟨A', m, c', he, _, h1, _, h2⟩ => ⟨A', m, c', ?_, ?_, h2⟩
    · unfold takeI; rw [if_pos h]; exact he
    · unfold takeI; rw [if_pos h]; exact h1
  · refine (refTakeInt_no A n c w (by rw [← hr.len]; omega)).mono fun e w' ⟨he, hw⟩ => ⟨none, 0, 0, ?_, ?_, ?_⟩
    · unfold takeI; rw [if_neg h]; exact he
    · unfold takeI; rw [if_neg h]; exact Row.nilRow _ _
    · subst hw; exact Below.refl _ _
theorem takeText_any (hr : BRow w A n c us) (hn : n ≤ 900000000) : Calls Try.prog 17 #[.slice A n c, .int .i64 most] w (SomeS w (takeS us most)) := by
  by_cases h : CountOk us most 1
  · refine (takeText_yes A n c us most _ w hr hn h (cnt_nat h)).mono fun e w' ⟨A', m, c', he, _, h1, h2⟩ => ⟨A', m, c', ?_, ?_, h2⟩
    · unfold takeS; rw [if_pos h]; exact he
    · unfold takeS; rw [if_pos h]; exact h1.later h2
  · refine (takeText_no A n c us most w hr hn h).mono fun e w' ⟨he, hw⟩ => ⟨none, 0, 0, ?_, ?_, hw⟩
    · unfold takeS; rw [if_neg h]; exact he
    · unfold takeS; rw [if_neg h]; exact Row.nilRow _ _
theorem refTakeText_any (hr : BRow w A n c us) (hn : n ≤ 900000000) : Calls Try.prog 28 #[.slice A n c, .int .i64 most] w (SomeS w (takeS us most)) := by
  by_cases h : CountOk us most 1
  · refine (refTakeText_yes A n c us most _ w hr hn h (cnt_nat h)).mono fun e w' ⟨A', m, c', he, _, h1, h2⟩ => ⟨A', m, c', ?_, ?_, h2⟩
    · unfold takeS; rw [if_pos h]; exact he
    · unfold takeS; rw [if_pos h]; exact h1
  · refine (refTakeText_no A n c us most w hr hn h).mono fun e w' ⟨he, hw⟩ => ⟨none, 0, 0, ?_, ?_, hw⟩
    · unfold takeS; rw [if_neg h]; exact he
    · unfold takeS; rw [if_neg h]; exact Row.nilRow _ _
theorem takeInts_any (hr : BRow w A n c us) (hn : n ≤ 900000000) : Calls Try.prog 18 #[.slice A n c, .int .i64 most] w (SomeL w (takeL us most)) := by
  by_cases h : CountOk us most 8
  · refine (takeInts_yes A n c us most _ w hr hn h (cnt_nat h)).mono fun e w' ⟨B, b, A', m, c', he, h0, _, h1, h2⟩ => ⟨B, (cnt us).toNat, b, A', m, c', ?_, ?_, ?_, h2⟩
    · unfold takeL; rw [if_pos h]; exact he
    · unfold takeL; rw [if_pos h]; exact h0
    · unfold takeL; rw [if_pos h]; exact h1.later h2
  · refine (takeInts_no A n c us most w hr hn h).mono fun e w' ⟨he, hw⟩ => ⟨none, 0, 0, none, 0, 0, ?_, ?_, ?_, hw⟩
    · unfold takeL; rw [if_neg h]; exact he
    · unfold takeL; rw [if_neg h]; exact Row.nilRow _ _
    · unfold takeL; rw [if_neg h]; exact Row.nilRow _ _
theorem refTakeInts_any (hr : BRow w A n c us) (hn : n ≤ 900000000) : Calls Try.prog 29 #[.slice A n c, .int .i64 most] w (SomeL w (takeL us most)) := by
  by_cases h : CountOk us most 8
  · refine (refTakeInts_yes A n c us most _ w hr hn h (cnt_nat h)).mono fun e w' ⟨B, b, A', m, c', he, h0, _, h1, h2⟩ => ⟨B, (cnt us).toNat, b, A', m, c', ?_, ?_, ?_, h2⟩
    · unfold takeL; rw [if_pos h]; exact he
    · unfold takeL; rw [if_pos h]; exact h0
    · unfold takeL; rw [if_pos h]; exact h1
  · refine (refTakeInts_no A n c us most w hr hn h).mono fun e w' ⟨he, hw⟩ => ⟨none, 0, 0, none, 0, 0, ?_, ?_, ?_, hw⟩
    · unfold takeL; rw [if_neg h]; exact he
    · unfold takeL; rw [if_neg h]; exact Row.nilRow _ _
    · unfold takeL; rw [if_neg h]; exact Row.nilRow _ _
end
theorem conv_at {w : World} {A : Option Addr} {m c : Nat} {us : List UInt8} (h : BRow w A m c us) {w' : World} (hl : Below w.heap.size w w') {t : ByteArray} (ht : t = strOf us) :
    (convert 22 9 (.slice A m c)).run Try.prog w' = .ok (.string t) w' := by
  subst ht
  exact run_conv_row (Row.later h hl) Try.underlying22 Try.underlying5 Try.underlying9
set_option maxRecDepth 100000 in
set_option maxHeartbeats 4000000 in
theorem taken_any (A : Option Addr) (n c : Nat) (us : List UInt8) (most : Int) (w : World) (hr : BRow w A n c us) (hn : n ≤ 1000000) :
    Calls Try.prog 15 #[.slice A n c, .int .i64 most] w fun e w' => e = .returned (.bool true) ∧ Below w.heap.size w w' := by
  have HR := Lib.hid hr; clear hr
  obtain ⟨⟨vI, rI, oI⟩, hI⟩ : ∃ R, R = takeI us := ⟨_, rfl⟩
  obtain ⟨⟨vS, rS, oS⟩, hS⟩ : ∃ R, R = takeS us most := ⟨_, rfl⟩
  obtain ⟨⟨vL, rL, oL⟩, hL⟩ : ∃ R, R = takeL us most := ⟨_, rfl⟩
  have HI := Lib.hid hI; have HS := Lib.hid hS; have HL := Lib.hid hL; clear hI hS hL
  obtain ⟨tI, hti⟩ : ∃ t, t = strOf rI := ⟨_, rfl⟩
  obtain ⟨tS, hts⟩ : ∃ t, t = strOf rS := ⟨_, rfl⟩
  obtain ⟨tL, htl⟩ : ∃ t, t = strOf rL := ⟨_, rfl⟩
  have HTI := Lib.hid hti; have HTS := Lib.hid hts; have HTL := Lib.hid htl; clear hti hts htl
  go_enter Try.func15, Try.ntmps15
  go_wp2_with fail
  refine (takeInt_any A n c us w HR.out).mono ?_
  rw [← HI.out]
  rintro e w1 ⟨A1, m1, c1, rfl, hr1, hb1⟩
  have HR1 := Lib.hid hr1; have HB1 := Lib.hid hb1; clear hr1 hb1
  dsimp only
  go_wp2_with fail
  refine (refTakeInt_any A n c us w1 (HR.out.later HB1.out) (by omega)).mono ?_
  rw [← HI.out]
  rintro e w2 ⟨A2, m2, c2, rfl, hr2, hb2⟩
  have HR2 := Lib.hid hr2; have HF2 := Lib.hid hb2; have HB2 := Lib.hid (HB1.out.trans (hb2.mono HB1.out.size)); clear hr2 hb2
  dsimp only
  go_wp2_with fail
  refine (takeText_any A n c us most w2 (HR.out.later HB2.out) (by omega)).mono ?_
  rw [← HS.out]
  rintro e w3 ⟨A3, m3, c3, rfl, hr3, hb3⟩
  have HR3 := Lib.hid hr3; have HF3 := Lib.hid hb3; have HB3 := Lib.hid (HB2.out.trans (hb3.mono HB2.out.size)); clear hr3 hb3
  dsimp only
  go_wp2_with fail
  refine (refTakeText_any A n c us most w3 (HR.out.later HB3.out) (by omega)).mono ?_
  rw [← HS.out]
  rintro e w4 ⟨A4, m4, c4, rfl, hr4, hb4⟩
  have HR4 := Lib.hid hr4; have HF4 := Lib.hid hb4; have HB4 := Lib.hid (HB3.out.trans (hb4.mono HB3.out.size)); clear hr4 hb4
  dsimp only
  go_wp2_with fail
  refine (takeInts_any A n c us most w4 (HR.out.later HB4.out) (by omega)).mono ?_
  rw [← HL.out]
  rintro e w5 ⟨B5, k5, b5, A5, m5, c5, rfl, hi5, hr5, hb5⟩
  have HI5 := Lib.hid hi5; have HR5 := Lib.hid hr5; have HF5 := Lib.hid hb5; have HB5 := Lib.hid (HB4.out.trans (hb5.mono HB4.out.size)); clear hi5 hr5 hb5
  dsimp only
  go_wp2_with fail
  refine (refTakeInts_any A n c us most w5 (HR.out.later HB5.out) (by omega)).mono ?_
  rw [← HL.out]
  rintro e w6 ⟨B6, k6, b6, A6, m6, c6, rfl, hi6, hr6, hb6⟩
  have HI6 := Lib.hid hi6; have HR6 := Lib.hid hr6; have HF6 := Lib.hid hb6; have HB6 := Lib.hid (HB5.out.trans (hb6.mono HB5.out.size)); clear hi6 hr6 hb6
  obtain rfl : k5 = k6 := by rw [← IRow.len HI5.out, ← IRow.len HI6.out]
  have hk9 : k5 ≤ 900000000 := by
    have h1 := takeL_len us most
    rw [← HL.out] at h1
    have h2 := IRow.len HI5.out
    have h3 := BRow.len HR.out
    dsimp only at h1 h2
    omega
  have F26 := Lib.hid ((((Later.trans HF3.out HF4.out).trans HF5.out).trans HF6.out))
  have F16 := Lib.hid (Later.trans HF2.out F26.out)
  have F46 := Lib.hid (Later.trans HF5.out HF6.out)
  have F36 := Lib.hid (Later.trans HF4.out F46.out)
  have cv1 := conv_at HR1.out F16.out HTI.out
  have cv2 := conv_at HR2.out F26.out HTI.out
  have cv3 := conv_at HR3.out F36.out HTS.out
  have cv4 := conv_at HR4.out F46.out HTS.out
  dsimp only
  go_wp2_with fail
  refine (sameInts_yes B5 B6 k5 b5 b6 vL w6 (HI5.out.later HF6.out) HI6.out hk9).mono ?_
  rintro e w7 ⟨rfl, hb7⟩
  have cv5 := conv_at HR5.out (Later.trans HF6.out hb7) HTL.out
  have cv6 := conv_at HR6.out hb7 HTL.out
  have HB7 := Lib.hid (HB6.out.trans (hb7.mono HB6.out.size))
  clear cv1 cv2 cv3 cv4 hb7
  go_wp2
  go_ret
  exact ⟨rfl, HB7.out⟩
end Go.Proofs.Ytmccnfdadipgiaa
