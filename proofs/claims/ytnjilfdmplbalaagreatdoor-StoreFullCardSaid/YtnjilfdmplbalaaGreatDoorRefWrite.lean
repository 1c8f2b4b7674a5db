/- The walks of trustflowref02: Int, Text, Ints, rest. -/
import Derived.Test.YtnjilfdmplbalaaGreatDoorWrite
namespace Go.Proofs.YtnjilfdmplbalaaGreatDoor
open Go.RowKit
set_option maxHeartbeats 400000 in
theorem refInt_own (A : Option Addr) (n c : Nat) (us : List UInt8) (x : Int) (w : World) (hr : BRow w A n c us) (hm : n ≤ 3000000) :
    Calls Tryz.prog 123 #[.slice A n c, .int .i64 x] w fun e w' => ∃ v, e = .returned v ∧ BOwn w' w.heap.size v (us ++ be8 x) ∧ Below w.heap.size w w' := by
  have HR := Lib.hid hr; have HL := Lib.hid hr.len; clear hr
  go_enter Tryz.func123, Tryz.ntmps123
  go_wp2_with (at_builtin; go_must (refine wpList_app w rfl (.const (.slice none 0 0)) (.tmp 7) 85 85 5 rfl w.heap.size Tryz.underlying85 u8_info rfl _ 0 [] (World.ownsRow_nil w _ _ _) rfl (.slice A n c) n (bytesV us) (Row.src HR.out Tryz.underlying85 (bytesV_one us)) rfl (by unfold maxLen; omega) (by omega) (Nat.le_refl _) ?_); intro v3 w3 ho3 hb3; have HO3 := Lib.hid ho3; have HB3 := Lib.hid hb3; clear ho3 hb3)
  go_loopw [5, 6] (fun v i wr => ∃ k : Nat, k ≤ 8 ∧ i = .int .i64 (7 - (k : Int)) ∧ Hid (BOwn wr w.heap.size v (us ++ be8To x k) ∧ Below w.heap.size w wr)) (fun _ i _ => (intOf i + 1).toNat)
  case atStart => exact ⟨0, by omega, by go_num, Lib.hid ⟨by have h := HO3.out; rw [Nat.zero_add, List.nil_append] at h; unfold BOwn; simp only [be8To, List.range_zero, List.map_nil, List.append_nil]; rw [HL.out]; exact h, HB3.out⟩⟩
  case round =>
    obtain ⟨k, hk, rfl, HI⟩ := hrel
    have hlen : (us ++ be8To x k).length + 1 ≤ 1000000000 := by rw [List.length_append, be8To_len, HL.out]; omega
    have HLEN := Lib.hid hlen; clear hlen
    by_cases hlt : k < 8
    · have hsh := be8At_eq x k
      have h0 : (0 : Int) ≤ 7 - (k : Int) := by omega
      have h8 : 8 * (7 - (k : Int)) = ((56 - 8 * k : Nat) : Int) := by omega
      have hBr : w.heap.size ≤ wr.heap.size := HI.out.2.size
      go_wp2_with (at_builtin; go_must (refine wpList_app_new wr rfl (.tmp 13) (.tmp 20) 85 5 rfl w.heap.size Tryz.underlying85 u8_info rfl _ _ _ HI.out.1 rfl 1 #[.int .u8 (w8 (be8At x k))] rfl (by simp [Value.oneCell']) rfl rfl (by have := HLEN.out; unfold maxLen; omega) (by have := HLEN.out; omega) hBr ?_); intro v' w' hown' hb')
      exact ⟨⟨k + 1, by omega, by go_num, by rw [be8To_succ, ← List.append_assoc]; exact ⟨by unfold BOwn; rw [bytesV_app, List.length_append]; exact hown', HI.out.2.trans hb'⟩⟩, by simp [intOf]; omega⟩
    · go_wp2
      go_ret
      have hk8 : k = 8 := by omega
      subst hk8
      exact ⟨_, rfl, HI.out⟩
theorem refInt_any (A : Option Addr) (n c : Nat) (us : List UInt8) (x : Int) (w : World) (hr : BRow w A n c us) (hm : n ≤ 3000000) :
    Calls Tryz.prog 123 #[.slice A n c, .int .i64 x] w (GivesB w (us ++ be8 x)) :=
  (refInt_own A n c us x w hr hm).mono fun _ _ ⟨_, he, ho, hb⟩ => by subst he; exact ho.gives hb
set_option maxHeartbeats 400000 in
theorem refText_any (A : Option Addr) (n c : Nat) (us : List UInt8) (s : ByteArray) (w : World) (hr : BRow w A n c us) (hm : n ≤ 3000000) (hs : s.size ≤ 3000000) :
    Calls Tryz.prog 122 #[.slice A n c, .string s] w (GivesB w (us ++ textB s.data.toList)) := by
  have HR := Lib.hid hr; have HL := Lib.hid hr.len; clear hr
  go_enter Tryz.func122, Tryz.ntmps122
  go_wp2_with fail
  refine (refInt_own A n c us (s.size : Int) w HR.out hm).mono ?_
  rintro e w2 ⟨v2, rfl, ho2, hb2⟩
  have HO2 := Lib.hid ho2; have HB2 := Lib.hid hb2; clear ho2 hb2
  have hlen : (us ++ be8 (s.size : Int)).length = n + 8 := by rw [List.length_append, be8_len, HL.out]
  have HLEN := Lib.hid hlen; clear hlen
  go_wp2_with (at_builtin; go_must (refine wpList_app w2 rfl (.tmp 8) (.tmp 9) 85 9 5 rfl w.heap.size Tryz.underlying85 u8_info rfl v2 _ _ HO2.out rfl (.string s) s.size (byteCells s) (Src.ofString w2 Tryz.underlying9 s) rfl (by rw [HLEN.out]; unfold maxLen; omega) (by rw [HLEN.out]; omega) HB2.out.size ?_); intro v3 w3 ho3 hb3; have HO3 := Lib.hid ho3; have HB3 := Lib.hid (HB2.out.trans hb3); clear ho3 hb3)
  go_ret
  refine BOwn.gives ?_ HB3.out
  have h := HO3.out
  unfold BOwn textB
  rw [← List.append_assoc, bytesV_app, List.length_append, show (s.data.toList.length : Int) = (s.size : Int) from by simp]
  rw [show s.data.toList.length = s.size from by simp]
  exact h
set_option maxHeartbeats 400000 in
theorem refInts_any (A : Option Addr) (n c : Nat) (us : List UInt8) (B : Option Addr) (m k : Nat) (l : List Int) (w : World) (hr : BRow w A n c us) (hl : IRow w B m k l) (hm : n ≤ 100000) (hs : m ≤ 90000) :
    Calls Tryz.prog 124 #[.slice A n c, .slice B m k] w (GivesB w (us ++ intsB l)) := by
  have HR := Lib.hid hr; have HL := Lib.hid hr.len; have HI := Lib.hid hl; have HLL := Lib.hid hl.len; clear hr hl
  go_enter Tryz.func124, Tryz.ntmps124
  go_wp2_with fail
  refine (refInt_any A n c us (m : Int) w HR.out (by omega)).mono ?_
  rintro e w2 ⟨A2, m2, c2, rfl, hm2, hr2, hn2, hb2⟩
  have HN2 := Lib.hid hn2; have HM2 := Lib.hid hm2; have HR2 := Lib.hid hr2; have HB2 := Lib.hid hb2; clear hm2 hr2 hb2 hn2
  go_wp2_with fail
  go_loopw [5, 6] (fun v i wr => ∃ j : Nat, j ≤ m ∧ i = .int .i64 j ∧ ∃ A' n' c', v = .slice A' n' c' ∧ Hid (n' = n + 8 + 8 * j ∧ BRow wr A' n' c' (us ++ be8 (m : Int) ++ listB (l.take j)) ∧ Below w.heap.size w wr ∧ New w wr A')) (fun _ i _ => m - (intOf i).toNat)
  case atStart => exact ⟨0, Nat.zero_le _, rfl, A2, m2, c2, rfl, Lib.hid ⟨by have := HM2.out; rw [List.length_append, be8_len, HL.out] at this; omega, by simpa [listB] using HR2.out, HB2.out, HN2.out⟩⟩
  case round =>
    obtain ⟨j, hj, rfl, A', n', c', rfl, HQ⟩ := hrel
    by_cases hlt : j < m
    · obtain ⟨b, off, hA, hcell⟩ := (Row.later HI.out HQ.out.2.2.1).form (by omega)
      have hc := hcell j (by omega)
      rw [intsV_get _ _ (by rw [HLL.out]; exact hlt)] at hc
      unfold iv at hc
      subst hA
      clear hcell
      have hn' : n' ≤ 3000000 := by have := HQ.out.1; omega
      go_wp2_with fail
      refine (refInt_any A' n' c' _ (l.getD j 0) wr HQ.out.2.1 hn').mono ?_
      rintro e w3 ⟨A3, m3, c3, rfl, hm3, hr3, hn3, hb3⟩
      have HN3 := Lib.hid (hn3.from HQ.out.2.2.1.size); have HM3 := Lib.hid hm3; have HR3 := Lib.hid hr3; have HB3 := Lib.hid (HQ.out.2.2.1.trans (hb3.mono HQ.out.2.2.1.size)); clear hm3 hr3 hb3 hn3
      go_wp2
      exact ⟨⟨j + 1, by omega, by go_num, A3, m3, c3, rfl, Lib.hid ⟨by rw [HM3.out, List.length_append, be8_len, BRow.len HQ.out.2.1, HQ.out.1]; omega, by rw [take_snoc' l j 0 (by rw [HLL.out]; exact hlt), listB_snoc, ← List.append_assoc]; exact HR3.out, HB3.out, HN3.out⟩⟩, by simp [intOf]; omega⟩
    · have HK : Hid (j = m) := by unfold Hid; omega
      go_wp2
      go_ret
      have h := HQ.out.2.1
      rw [HK.out, List.take_of_length_le (by rw [HLL.out]; exact Nat.le_refl _)] at h
      have hlen := h.len
      refine ⟨A', n', c', rfl, ?_, ?_, HQ.out.2.2.2, HQ.out.2.2.1⟩
      · unfold intsB; rw [HLL.out, ← List.append_assoc, hlen]
      · unfold intsB; rw [HLL.out, ← List.append_assoc]; exact h
end Go.Proofs.YtnjilfdmplbalaaGreatDoor
