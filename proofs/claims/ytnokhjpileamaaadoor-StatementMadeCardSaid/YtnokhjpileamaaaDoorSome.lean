/- What is taken from any bytes, by package wire and by the reference alike. -/
import Derived.Test.YtnokhjpileamaaaDoorRefTake
namespace Go.Proofs.YtnokhjpileamaaaDoor
open Go.RowKit
/-- What is taken from bytes: the value, the bytes behind it, whether there is one. -/
def takeI (us : List UInt8) : Int × List UInt8 × Bool := if 8 ≤ us.length then (cnt us, us.drop 8, true) else (0, [], false)
open Classical in
noncomputable def takeS (us : List UInt8) (most : Int) : ByteArray × List UInt8 × Bool :=
  if CountOk us most 1 then (strOf ((us.drop 8).take (cnt us).toNat), us.drop (8 + (cnt us).toNat), true) else (⟨#[]⟩, [], false)
open Classical in
noncomputable def takeL (us : List UInt8) (most : Int) : List Int × List UInt8 × Bool :=
  if CountOk us most 8 then (intsAt us (cnt us).toNat, us.drop (8 + 8 * (cnt us).toNat), true) else ([], [], false)
def SomeI (w : World) (R : Int × List UInt8 × Bool) (e : Ending) (w' : World) : Prop := ∃ A m c, e = .returned (.tuple #[.int .i64 R.1, .slice A m c, .bool R.2.2]) ∧ BRow w' A m c R.2.1 ∧ Below w.heap.size w w'
def SomeS (w : World) (R : ByteArray × List UInt8 × Bool) (e : Ending) (w' : World) : Prop := ∃ A m c, e = .returned (.tuple #[.string R.1, .slice A m c, .bool R.2.2]) ∧ BRow w' A m c R.2.1 ∧ Below w.heap.size w w'
def SomeL (w : World) (R : List Int × List UInt8 × Bool) (e : Ending) (w' : World) : Prop :=
  ∃ B k b A m c, e = .returned (.tuple #[.slice B k b, .slice A m c, .bool R.2.2]) ∧ IRow w' B k b R.1 ∧ New w w' B ∧ BRow w' A m c R.2.1 ∧ Below w.heap.size w w'
theorem cnt_nat {us : List UInt8} {most : Int} {size : Nat} (h : CountOk us most size) : cnt us = ((cnt us).toNat : Int) := by have := h.nn; omega
theorem takeL_len (us : List UInt8) (most : Int) : (takeL us most).1.length ≤ us.length := by
  unfold takeL
  split
  · rename_i h
    have h1 := h.fit; have h2 := h.nn
    rw [intsAt_len]; omega
  · exact Nat.zero_le _
section
variable (A : Option Addr) (n c : Nat) (us : List UInt8) (most : Int) (w : World)
theorem takeInt_any (hr : BRow w A n c us) : Calls Tryd.prog 90 #[.slice A n c] w (SomeI w (takeI us)) := by
  by_cases h : 8 ≤ us.length
  · refine (takeInt_yes A n c us w hr (by rw [← hr.len]; exact h)).mono fun e w' ⟨A', m, c', he, _, h1, h2⟩ => ⟨A', m, c', ?_, ?_, h2⟩
    · unfold takeI; rw [if_pos h]; exact he
    · unfold takeI; rw [if_pos h]; exact h1.later h2
  · refine (takeInt_no A n c w (by rw [← hr.len]; omega)).mono fun e w' ⟨he, hw⟩ => ⟨none, 0, 0, ?_, ?_, ?_⟩
    · unfold takeI; rw [if_neg h]; exact he
    · unfold takeI; rw [if_neg h]; exact Row.nilRow _ _
    · subst hw; exact Below.refl _ _
theorem refTakeInt_any (hr : BRow w A n c us) (hn : n ≤ 900000000) : Calls Tryd.prog 79 #[.slice A n c] w (SomeI w (takeI us)) := by
  by_cases h : 8 ≤ us.length
  · refine (refTakeInt_yes A n c us w hr (by rw [← hr.len]; exact h) hn).mono fun e w' ⟨A', m, c', he, _, h1, _, h2⟩ => ⟨A', m, c', ?_, ?_, h2⟩
    · unfold takeI; rw [if_pos h]; exact he
    · unfold takeI; rw [if_pos h]; exact h1
  · refine (refTakeInt_no A n c w (by rw [← hr.len]; omega)).mono fun e w' ⟨he, hw⟩ => ⟨none, 0, 0, ?_, ?_, ?_⟩
    · unfold takeI; rw [if_neg h]; exact he
    · unfold takeI; rw [if_neg h]; exact Row.nilRow _ _
    · subst hw; exact Below.refl _ _
theorem takeText_any (hr : BRow w A n c us) (hn : n ≤ 900000000) : Calls Tryd.prog 91 #[.slice A n c, .int .i64 most] w (SomeS w (takeS us most)) := by
  by_cases h : CountOk us most 1
  · refine (takeText_yes A n c us most _ w hr hn h (cnt_nat h)).mono fun e w' ⟨A', m, c', he, _, h1, h2⟩ => ⟨A', m, c', ?_, ?_, h2⟩
    · unfold takeS; rw [if_pos h]; exact he
    · unfold takeS; rw [if_pos h]; exact h1.later h2
  · refine (takeText_no A n c us most w hr hn h).mono fun e w' ⟨he, hw⟩ => ⟨none, 0, 0, ?_, ?_, hw⟩
    · unfold takeS; rw [if_neg h]; exact he
    · unfold takeS; rw [if_neg h]; exact Row.nilRow _ _
theorem refTakeText_any (hr : BRow w A n c us) (hn : n ≤ 900000000) : Calls Tryd.prog 80 #[.slice A n c, .int .i64 most] w (SomeS w (takeS us most)) := by
  by_cases h : CountOk us most 1
  · refine (refTakeText_yes A n c us most _ w hr hn h (cnt_nat h)).mono fun e w' ⟨A', m, c', he, _, h1, h2⟩ => ⟨A', m, c', ?_, ?_, h2⟩
    · unfold takeS; rw [if_pos h]; exact he
    · unfold takeS; rw [if_pos h]; exact h1
  · refine (refTakeText_no A n c us most w hr hn h).mono fun e w' ⟨he, hw⟩ => ⟨none, 0, 0, ?_, ?_, hw⟩
    · unfold takeS; rw [if_neg h]; exact he
    · unfold takeS; rw [if_neg h]; exact Row.nilRow _ _
theorem takeInts_any (hr : BRow w A n c us) (hn : n ≤ 900000000) : Calls Tryd.prog 92 #[.slice A n c, .int .i64 most] w (SomeL w (takeL us most)) := by
  by_cases h : CountOk us most 8
  · refine (takeInts_yes A n c us most _ w hr hn h (cnt_nat h)).mono fun e w' ⟨B, b, A', m, c', he, h0, hN, _, h1, h2⟩ => ⟨B, (cnt us).toNat, b, A', m, c', ?_, ?_, hN, ?_, h2⟩
    · unfold takeL; rw [if_pos h]; exact he
    · unfold takeL; rw [if_pos h]; exact h0
    · unfold takeL; rw [if_pos h]; exact h1.later h2
  · refine (takeInts_no A n c us most w hr hn h).mono fun e w' ⟨he, hw⟩ => ⟨none, 0, 0, none, 0, 0, ?_, ?_, (fun _ h => by cases h), ?_, hw⟩
    · unfold takeL; rw [if_neg h]; exact he
    · unfold takeL; rw [if_neg h]; exact Row.nilRow _ _
    · unfold takeL; rw [if_neg h]; exact Row.nilRow _ _
theorem refTakeInts_any (hr : BRow w A n c us) (hn : n ≤ 900000000) : Calls Tryd.prog 61 #[.slice A n c, .int .i64 most] w (SomeL w (takeL us most)) := by
  by_cases h : CountOk us most 8
  · refine (refTakeInts_yes A n c us most _ w hr hn h (cnt_nat h)).mono fun e w' ⟨B, b, A', m, c', he, h0, hN, _, h1, h2⟩ => ⟨B, (cnt us).toNat, b, A', m, c', ?_, ?_, hN, ?_, h2⟩
    · unfold takeL; rw [if_pos h]; exact he
    · unfold takeL; rw [if_pos h]; exact h0
    · unfold takeL; rw [if_pos h]; exact h1
  · refine (refTakeInts_no A n c us most w hr hn h).mono fun e w' ⟨he, hw⟩ => ⟨none, 0, 0, none, 0, 0, ?_, ?_, (fun _ h => by cases h), ?_, hw⟩
    · unfold takeL; rw [if_neg h]; exact he
    · unfold takeL; rw [if_neg h]; exact Row.nilRow _ _
    · unfold takeL; rw [if_neg h]; exact Row.nilRow _ _
end
theorem conv_at {w : World} {A : Option Addr} {m c : Nat} {us : List UInt8} (h : BRow w A m c us) {w' : World} (hl : Below w.heap.size w w') {t : ByteArray} (ht : t = strOf us) :
    (convert 28 9 (.slice A m c)).run Tryd.prog w' = .ok (.string t) w' := by
  subst ht
  exact run_conv_row (Row.later h hl) Tryd.underlying28 Tryd.underlying5 Tryd.underlying9
theorem conv_fut {w : World} {A : Option Addr} {m c : Nat} {us : List UInt8} (h : BRow w A m c us) {t : ByteArray} (ht : t = strOf us) (x : World) :
    (convert 28 9 (.slice A m c)).run Tryd.prog (fut Later w x) = .ok (.string t) (fut Later w x) := by
  subst ht
  exact run_conv_row (Row.later h (fut_ok Later.refl _ x)) Tryd.underlying28 Tryd.underlying5 Tryd.underlying9
end Go.Proofs.YtnokhjpileamaaaDoor
