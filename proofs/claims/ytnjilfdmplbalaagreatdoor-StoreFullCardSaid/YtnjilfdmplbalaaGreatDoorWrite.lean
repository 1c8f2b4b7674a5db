/- The walks of package wire: Int, Text, Ints. -/
import Derived.Test.YtnjilfdmplbalaaGreatDoorWire
namespace Go.Proofs.YtnjilfdmplbalaaGreatDoor
open Go.RowKit
/-- What a string and a list are written as. -/
def textB (s : List UInt8) : List UInt8 := be8 (s.length : Int) ++ s
def listB (l : List Int) : List UInt8 := l.flatMap be8
def intsB (l : List Int) : List UInt8 := be8 (l.length : Int) ++ listB l
theorem textB_len (s : List UInt8) : (textB s).length = 8 + s.length := by simp [textB, be8_len]
theorem listB_len (l : List Int) : (listB l).length = 8 * l.length := by
  induction l with
  | nil => rfl
  | cons x l ih => simp only [listB, List.flatMap_cons, List.length_append, be8_len, List.length_cons] at ih ⊢; omega
theorem intsB_len (l : List Int) : (intsB l).length = 8 + 8 * l.length := by simp [intsB, be8_len, listB_len]
theorem listB_snoc (l : List Int) (x : Int) : listB (l ++ [x]) = listB l ++ be8 x := by simp [listB]
/-- A slice of bytes that a call hands back: it reads as us; what was there is as it was. -/
def GivesB (w : World) (us : List UInt8) (e : Ending) (w' : World) : Prop := ∃ A m c, e = .returned (.slice A m c) ∧ m = us.length ∧ BRow w' A m c us ∧ New w w' A ∧ Below w.heap.size w w'
theorem BOwn.gives {w w' : World} {v : Value} {us : List UInt8} (h : BOwn w' w.heap.size v us) (hb : Below w.heap.size w w') : GivesB w us (.returned v) w' := by
  obtain ⟨A, c, rfl, hr⟩ := h.row
  exact ⟨A, _, c, rfl, rfl, hr, fun ad hA => (by subst hA; exact World.ownsRow.lt h _ rfl), hb⟩
/-- The call returns bytes of its own. -/
def GivesO (w : World) (us : List UInt8) (e : Ending) (w' : World) : Prop := ∃ v, e = .returned v ∧ BOwn w' w.heap.size v us ∧ Below w.heap.size w w'
theorem GivesO.gives {w w' : World} {us : List UInt8} {e : Ending} (h : GivesO w us e w') : GivesB w us e w' := by
  obtain ⟨v, rfl, ho, hb⟩ := h; exact ho.gives hb
theorem take_snoc' {α : Type} (l : List α) (k : Nat) (d : α) (h : k < l.length) : l.take (k + 1) = l.take k ++ [l.getD k d] := by
  rw [List.take_succ_eq_append_getElem h]; simp [h]
set_option maxHeartbeats 400000 in
theorem wireInt_own (A : Option Addr) (n c : Nat) (us : List UInt8) (x : Int) (w : World) (hr : BRow w A n c us) (hm : n ≤ 3000000) :
    Calls Tryz.prog 151 #[.slice A n c, .int .i64 x] w (GivesO w (us ++ be8 x)) := by
  have HR := Lib.hid hr; have HL := Lib.hid hr.len; clear hr
  go_enter Tryz.func151, Tryz.ntmps151
  go_wp2_with fail
  refine (withRoom_any A n c us 8 w HR.out (by omega)).mono ?_
  rintro e w1 ⟨v1, rfl, ho1, hb1⟩
  have HO1 := Lib.hid ho1; have HB1 := Lib.hid hb1; clear ho1 hb1
  go_wp2_with fail
  refine (appendNumber_any w.heap.size v1 us x w1 HO1.out HB1.out.size (by rw [HL.out]; omega)).mono ?_
  rintro e w2 ⟨v2, rfl, ho2, hb2⟩
  have HO2 := Lib.hid ho2; have HB2 := Lib.hid hb2; clear ho2 hb2
  go_wp2
  go_ret
  exact ⟨_, rfl, HO2.out, HB1.out.trans HB2.out⟩
theorem wireInt_any (A : Option Addr) (n c : Nat) (us : List UInt8) (x : Int) (w : World) (hr : BRow w A n c us) (hm : n ≤ 3000000) :
    Calls Tryz.prog 151 #[.slice A n c, .int .i64 x] w (GivesB w (us ++ be8 x)) :=
  (wireInt_own A n c us x w hr hm).mono fun _ _ h => h.gives
set_option maxHeartbeats 400000 in
theorem wireText_own (A : Option Addr) (n c : Nat) (us : List UInt8) (s : ByteArray) (w : World) (hr : BRow w A n c us) (hm : n ≤ 3000000) (hs : s.size ≤ 3000000) :
    Calls Tryz.prog 144 #[.slice A n c, .string s] w (GivesO w (us ++ textB s.data.toList)) := by
  have HR := Lib.hid hr; have HL := Lib.hid hr.len; clear hr
  go_enter Tryz.func144, Tryz.ntmps144
  go_wp2_with fail
  refine (withRoom_any A n c us (8 + s.size) w HR.out (by omega)).mono ?_
  rintro e w1 ⟨v1, rfl, ho1, hb1⟩
  have HO1 := Lib.hid ho1; have HB1 := Lib.hid hb1; clear ho1 hb1
  go_wp2_with fail
  refine (appendNumber_any w.heap.size v1 us (s.size : Int) w1 HO1.out HB1.out.size (by rw [HL.out]; omega)).mono ?_
  rintro e w2 ⟨v2, rfl, ho2, hb2⟩
  have HO2 := Lib.hid ho2; have HB2 := Lib.hid (HB1.out.trans hb2); clear ho2 hb2
  have hlen : (us ++ be8 (s.size : Int)).length = n + 8 := by rw [List.length_append, be8_len, HL.out]
  have HLEN := Lib.hid hlen; clear hlen
  go_wp2_with (at_builtin; go_must (refine wpList_app w2 rfl (.tmp 14) (.tmp 15) 85 9 5 rfl w.heap.size Tryz.underlying85 u8_info rfl v2 _ _ HO2.out rfl (.string s) s.size (byteCells s) (Src.ofString w2 Tryz.underlying9 s) rfl (by rw [HLEN.out]; unfold maxLen; omega) (by rw [HLEN.out]; omega) HB2.out.size ?_); intro v3 w3 ho3 hb3; have HO3 := Lib.hid ho3; have HB3 := Lib.hid (HB2.out.trans hb3); clear ho3 hb3)
  go_ret
  refine ⟨_, rfl, ?_, HB3.out⟩
  have h := HO3.out
  unfold BOwn textB
  rw [← List.append_assoc, bytesV_app, List.length_append, show (s.data.toList.length : Int) = (s.size : Int) from by simp]
  rw [show s.data.toList.length = s.size from by simp]
  exact h
theorem wireText_any (A : Option Addr) (n c : Nat) (us : List UInt8) (s : ByteArray) (w : World) (hr : BRow w A n c us) (hm : n ≤ 3000000) (hs : s.size ≤ 3000000) :
    Calls Tryz.prog 144 #[.slice A n c, .string s] w (GivesB w (us ++ textB s.data.toList)) :=
  (wireText_own A n c us s w hr hm hs).mono fun _ _ h => h.gives
set_option maxHeartbeats 400000 in
theorem wireInts_own (A : Option Addr) (n c : Nat) (us : List UInt8) (B : Option Addr) (m k : Nat) (l : List Int) (w : World) (hr : BRow w A n c us) (hl : IRow w B m k l) (hm : n ≤ 3000000) (hs : m ≤ 90000) :
    Calls Tryz.prog 145 #[.slice A n c, .slice B m k] w (GivesO w (us ++ intsB l)) := by
  have HR := Lib.hid hr; have HL := Lib.hid hr.len; have HI := Lib.hid hl; have HLL := Lib.hid hl.len; clear hr hl
  go_enter Tryz.func145, Tryz.ntmps145
  go_wp2_with fail
  refine (withRoom_any A n c us (8 + 8 * m) w HR.out (by omega)).mono ?_
  rintro e w1 ⟨v1, rfl, ho1, hb1⟩
  have HO1 := Lib.hid ho1; have HB1 := Lib.hid hb1; clear ho1 hb1
  go_wp2_with fail
  refine (appendNumber_any w.heap.size v1 us (m : Int) w1 HO1.out HB1.out.size (by rw [HL.out]; omega)).mono ?_
  rintro e w2 ⟨v2, rfl, ho2, hb2⟩
  have HO2 := Lib.hid ho2; have HB2 := Lib.hid (HB1.out.trans hb2); clear ho2 hb2
  go_wp2_with fail
  go_loopw [5, 7, 19] (fun v y i wr => ∃ j : Nat, j ≤ m ∧ i = .int .i64 j ∧ Hid (BOwn wr w.heap.size v (us ++ be8 (m : Int) ++ listB (l.take j)) ∧ Below w.heap.size w wr)) (fun _ _ i _ => m - (intOf i).toNat)
  case atStart => exact ⟨0, Nat.zero_le _, rfl, Lib.hid ⟨by simpa [listB] using HO2.out, HB2.out⟩⟩
  case round =>
    obtain ⟨j, hj, rfl, HQ⟩ := hrel
    by_cases hlt : j < m
    · obtain ⟨b, off, hA, hcell⟩ := (Row.later HI.out HQ.out.2).form (by omega)
      have hc := hcell j (by omega)
      rw [intsV_get _ _ (by rw [HLL.out]; exact hlt)] at hc
      unfold iv at hc
      subst hA
      clear hcell
      have hlen : (us ++ be8 (m : Int) ++ listB (l.take j)).length ≤ 900000000 := by
        rw [List.length_append, List.length_append, be8_len, listB_len, List.length_take, HLL.out, HL.out]; omega
      have HLEN := Lib.hid hlen; clear hlen
      go_wp2_with fail
      refine (appendNumber_any w.heap.size _ _ (l.getD j 0) wr HQ.out.1 HQ.out.2.size HLEN.out).mono ?_
      rintro e w3 ⟨v3, rfl, ho3, hb3⟩
      have HO3 := Lib.hid ho3; have HB3 := Lib.hid (HQ.out.2.trans hb3); clear ho3 hb3
      go_wp2
      exact ⟨⟨j + 1, by omega, by go_num, Lib.hid ⟨by rw [take_snoc' l j 0 (by rw [HLL.out]; exact hlt), listB_snoc, ← List.append_assoc]; exact HO3.out, HB3.out⟩⟩, by simp [intOf]; omega⟩
    · have HK : Hid (j = m) := by unfold Hid; omega
      go_wp2
      go_ret
      refine ⟨_, rfl, ?_, HQ.out.2⟩
      have h := HQ.out.1
      rw [HK.out, List.take_of_length_le (by rw [HLL.out]; exact Nat.le_refl _)] at h
      unfold intsB
      rw [HLL.out, ← List.append_assoc]
      exact h
theorem wireInts_any (A : Option Addr) (n c : Nat) (us : List UInt8) (B : Option Addr) (m k : Nat) (l : List Int) (w : World) (hr : BRow w A n c us) (hl : IRow w B m k l) (hm : n ≤ 3000000) (hs : m ≤ 90000) :
    Calls Tryz.prog 145 #[.slice A n c, .slice B m k] w (GivesB w (us ++ intsB l)) :=
  (wireInts_own A n c us B m k l w hr hl hm hs).mono fun _ _ h => h.gives
end Go.Proofs.YtnjilfdmplbalaaGreatDoor
