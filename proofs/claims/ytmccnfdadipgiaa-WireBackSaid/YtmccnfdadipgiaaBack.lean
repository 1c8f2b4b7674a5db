/- The walk of the law WireBack. -/
import Derived.Test.YtmccnfdadipgiaaCodec
namespace Go.Proofs.Ytmccnfdadipgiaa
open Go.RowKit
set_option maxRecDepth 100000 in
set_option maxHeartbeats 4000000 in
theorem back_small (v : Int) (s : ByteArray) (B : Option Addr) (m k : Nat) (l : List Int) (w : World) (hv : inI64 v) (hl : IRow w B m k l) (hz : ∀ z ∈ l, inI64 z) (hs : s.size ≤ 100) (hm : m ≤ 60) :
    Calls Try.prog 5 #[.int .i64 v, .string s, .slice B m k] w fun e w' => e = .returned (.bool true) ∧ Below w.heap.size w w' := by
  have HI := Lib.hid hl; have HM := Lib.hid hl.len; have HV := Lib.hid hv; have HZ := Lib.hid hz; clear hl hv hz
  have hsl : s.data.toList.length = s.size := by simp
  obtain ⟨us, hus⟩ : ∃ us, us = s.data.toList := ⟨_, rfl⟩
  have HS : Hid (strOf us = s) := by unfold Hid; rw [hus]; rfl
  rw [← hus] at hsl
  have HU := Lib.hid hus; have HSL := Lib.hid hsl; clear hus hsl
  go_enter Try.func5, Try.ntmps5
  go_wp2_with fail
  refine (wireInt_any none 0 0 [] v w (Row.nilRow w 1) (by omega)).mono ?_
  rintro e w1 ⟨A1, m1, c1, rfl, hm1, hr1, -, hb1⟩
  rw [List.nil_append] at hr1 hm1
  rw [be8_len] at hm1
  have h1 : m1 ≤ 10000 := by omega
  have HM1 := Lib.hid hm1; clear hm1
  have HR1 := Lib.hid hr1; have HB1 := Lib.hid hb1; clear hr1 hb1
  go_wp2_with fail
  refine (wireText_any A1 m1 c1 _ s w1 HR1.out (by omega) (by omega)).mono ?_
  rw [← HU.out]
  rintro e w2 ⟨A2, m2, c2, rfl, hm2, hr2, -, hb2⟩
  rw [List.length_append, be8_len, textB_len, HSL.out] at hm2
  have h2 : m2 ≤ 10000 := by omega
  have HM2 := Lib.hid hm2; clear hm2 h1
  have HR2 := Lib.hid hr2; have HB2 := Lib.hid (HB1.out.trans (hb2.mono HB1.out.size)); clear hr2 hb2
  go_wp2_with fail
  refine (wireInts_any A2 m2 c2 _ B m k l w2 HR2.out (Row.later HI.out HB2.out) (by omega) (by omega)).mono ?_
  rintro e w3 ⟨A3, m3, c3, rfl, hm3, hr3, -, hb3⟩
  rw [List.length_append, List.length_append, be8_len, textB_len, intsB_len, HSL.out, HM.out] at hm3
  have h3 : m3 ≤ 10000 ∧ 8 ≤ m3 := by omega
  have HM3 := Lib.hid hm3; clear hm3
  rw [List.append_assoc] at hr3
  have HR3 := Lib.hid hr3; have HB3 := Lib.hid (HB2.out.trans (hb3.mono HB2.out.size)); clear hr3 hb3 h2
  go_wp2_with fail
  refine (takeInt_yes A3 m3 c3 _ w3 HR3.out (by omega)).mono ?_
  rintro e w4 ⟨A4, m4, c4, rfl, hm4, hr4, hb4⟩
  rw [show int8 (List.take 8 (be8 v ++ (textB us ++ intsB l))) = v from cnt_be8 v _ HV.out]
  rw [drop8] at hr4
  rw [HR3.out.len] at hm4
  have h4 : m4 ≤ 10000 := by omega
  have HM4 := Lib.hid hm4; clear hm4 h3
  have HR4 := Lib.hid hr4; have HF4 := Lib.hid hb4; have HB4 := Lib.hid (HB3.out.trans (hb4.mono HB3.out.size)); clear hr4 hb4
  have H4 := Lib.hid (text_ok us (intsB l) (by rw [HSL.out]; omega)); have HC4 := Lib.hid (textB_cnt us (intsB l) (by rw [HSL.out]; omega))
  rw [HSL.out] at H4 HC4
  have H5 := Lib.hid (text_few us (intsB l) (by rw [HSL.out]; omega))
  rw [HSL.out] at H5
  have H6 := Lib.hid (list_ok l [] (by rw [HM.out]; omega)); have HC6 := Lib.hid (intsB_cnt l [] (by rw [HM.out]; omega))
  rw [HM.out, List.append_nil] at H6 HC6
  have H7 := Lib.hid (list_less l (by rw [HM.out]; omega))
  rw [HM.out] at H7
  go_wp2_with fail
  refine (takeText_yes A4 m4 c4 _ (s.size : Int) s.size w4 (HR4.out.later HF4.out) (by omega) H4.out HC4.out).mono ?_
  rintro e w5 ⟨A5, m5, c5, rfl, hm5, hr5, hb5⟩
  rw [show strOf (List.take s.size (List.drop 8 (textB us ++ intsB l))) = s from by rw [← HSL.out, textB_text, HS.out]]
  rw [show List.drop (8 + s.size) (textB us ++ intsB l) = intsB l from by rw [← HSL.out, textB_rest]] at hr5
  rw [List.length_append, textB_len, intsB_len, HSL.out, HM.out] at hm5
  obtain rfl : m5 = 8 + 8 * m := by omega
  clear hm5 h4
  have HR5 := Lib.hid hr5; have HF5 := Lib.hid hb5; have HB5 := Lib.hid (HB4.out.trans (hb5.mono HB4.out.size)); clear hr5 hb5
  go_wp2_with fail
  refine (takeInts_yes A5 (8 + 8 * m) c5 _ (m : Int) m w5 (HR5.out.later HF5.out) (by omega) H6.out HC6.out).mono ?_
  rintro e w6 ⟨B6, b6, A6, m6, c6, rfl, hi6, hm6, -, hb6⟩
  rw [show intsAt (intsB l) m = l from by have := intsB_list l [] HZ.out; rw [List.append_nil, HM.out] at this; exact this] at hi6
  rw [intsB_len, HM.out] at hm6
  obtain rfl : m6 = 0 := by omega
  clear hm6
  have HI6 := Lib.hid hi6; have HF6 := Lib.hid hb6; have HB6 := Lib.hid (HB5.out.trans (hb6.mono HB5.out.size)); clear hi6 hb6
  go_wp2_with fail
  refine (sameInts_yes B6 B m b6 k l w6 HI6.out (Row.later HI.out HB6.out) (by omega)).mono ?_
  rintro e w7 ⟨rfl, hb7⟩
  have HB7 := Lib.hid (HB6.out.trans (hb7.mono HB6.out.size)); have HF7 := Lib.hid (Later.trans (Later.trans HF5.out HF6.out) hb7); clear hb7
  have hs2 := fun w => run_slice_to (P := Try.prog) (t := 22) Try.underlying22 u8_size (k := 7 + 8 * m) HR5.out (i := 7 + 8 * (m : Int)) (by omega) (by omega) .i64 w
  have hs3 := fun w => run_slice_to (P := Try.prog) (t := 22) Try.underlying22 u8_size (k := 7 + 8 * m) HR5.out (i := 8 + 8 * (m : Int) - 1) (by omega) (by omega) .i64 w
  have g : ((m3 : Int) != 16 + (s.size : Int) + 8 + 8 * (m : Int)) = false := by
    have := HM3.out
    rw [bne_eq_false_iff_eq]; omega
  go_wp2_with fail
  refine (takeInts_no A5 (7 + 8 * m) c5 _ (m : Int) w7 ((HR5.out.take (7 + 8 * m) (by omega)).later HF7.out) (by omega) H7.out).mono ?_
  rintro e w8 ⟨rfl, hb8⟩
  have HB8 := Lib.hid (HB7.out.trans (hb8.mono HB7.out.size)); have HF8 := Lib.hid (Later.trans HF4.out (Later.trans HF7.out hb8)); clear hb8 hs2 hs3 g
  unfold noneL
  go_wp2_with fail
  refine (takeText_no A4 m4 c4 _ ((s.size : Int) - 1) w8 (HR4.out.later HF8.out) (by have := HM4.out; have := HM3.out; omega) H5.out).mono ?_
  rintro e w9 ⟨rfl, hb9⟩
  have HB9 := Lib.hid (HB8.out.trans (hb9.mono HB8.out.size)); clear hb9
  unfold noneS
  go_wp2_with fail
  refine (awake_any w9).mono ?_
  rintro e w10 ⟨rfl, hb⟩
  have HB10 := Lib.hid (HB9.out.trans (hb.mono HB9.out.size)); clear hb
  go_wp2
  go_ret
  exact ⟨rfl, HB10.out⟩
set_option maxHeartbeats 1000000 in
theorem back_any (v : Int) (s : ByteArray) (B : Option Addr) (m k : Nat) (l : List Int) (w : World) (hv : inI64 v) (hl : IRow w B m k l) (hz : ∀ z ∈ l, inI64 z) :
    Calls Try.prog 5 #[.int .i64 v, .string s, .slice B m k] w fun e w' => e = .returned (.bool true) ∧ Below w.heap.size w w' := by
  by_cases h : 100 < s.size ∨ 60 < m
  · clear hv hl hz
    have g : decide (100 < (s.size : Int)) = true ∨ (decide (100 < (s.size : Int)) = false ∧ decide (60 < (m : Int)) = true) := by
      simp only [decide_eq_true_eq, decide_eq_false_iff_not]; omega
    clear h
    rcases g with g | ⟨g, g1⟩
    all_goals
      go_enter Try.func5, Try.ntmps5
      go_wp2_with fail
      refine (awake_any w).mono ?_
      rintro e w1 ⟨rfl, hb⟩
      go_wp2
      go_ret
      exact ⟨rfl, hb⟩
  · exact back_small v s B m k l w hv hl hz (by omega) (by omega)
end Go.Proofs.Ytmccnfdadipgiaa
