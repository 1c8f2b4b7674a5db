/- The walk of the law WireTakes. -/
import Derived.Test.YtmccnfdadipgiaaTaken
import Derived.Test.YtmccnfdadipgiaaMade
namespace Go.Proofs.Ytmccnfdadipgiaa
open Go.RowKit
set_option maxRecDepth 20000 in
set_option maxHeartbeats 4000000 in
theorem takes_small (A : Option Addr) (n c : Nat) (us : List UInt8) (x most : Int) (w : World) (hr : BRow w A n c us) (hn : n ≤ 200) :
    Calls Try.prog 4 #[.slice A n c, .int .i64 x, .int .i64 most] w fun e w' => e = .returned (.bool true) ∧ Below w.heap.size w w' := by
  have HR := Lib.hid hr; have HN := Lib.hid hr.len; clear hr
  have hm30 := modF_bd x 30 (by omega)
  have hm40 := modF_bd most 40 (by omega)
  go_enter Try.func4, Try.ntmps4
  go_wp2_with fail
  refine (mod_any x 30 w (by omega) (by omega)).mono ?_
  rintro e w' ⟨rfl, rfl⟩
  generalize modF x 30 = y at hm30 ⊢
  go_wp2_with fail
  refine (refInt_own none 0 0 [] y w (Row.nilRow w 1) (by omega)).mono ?_
  rintro e w1 ⟨v1, rfl, ho1, hb1⟩
  rw [List.nil_append] at ho1
  have HO1 := Lib.hid ho1; have HB1 := Lib.hid hb1; clear ho1 hb1
  go_wp2_with (at_builtin; go_must (refine wpList_app w1 rfl (.tmp 14) (.tmp 15) 22 22 5 rfl w.heap.size Try.underlying22 u8_info rfl _ 8 _ HO1.out rfl (.slice A n c) n (bytesV us) (Row.src (HR.out.later HB1.out) Try.underlying22 (bytesV_one us)) rfl (by unfold maxLen; omega) (by omega) HB1.out.size ?_); intro v w2 ho hb; obtain ⟨A1, c1, rfl, hr1⟩ := Row.of_own ho; rw [← bytesV_app] at hr1; have HR1 := Lib.hid hr1; have HC1 := Lib.hid (HB1.out.trans hb); have HG1 := Lib.hid hb; clear ho hb hr1)
  refine (awake_any w2).mono ?_
  rintro e w3 ⟨rfl, hb⟩
  have HB3 := Lib.hid (HC1.out.trans (hb.mono HC1.out.size)); have HF3 := Lib.hid hb; clear hb
  go_wp2_with fail
  refine (taken_any A n c us most w3 (HR.out.later HB3.out) (by omega)).mono ?_
  rintro e w4 ⟨rfl, hb⟩
  have HB4 := Lib.hid (HB3.out.trans (hb.mono HB3.out.size)); have HF4 := Lib.hid (Later.trans HF3.out hb); clear hb
  go_wp2_with fail
  refine (taken_any A1 (8 + n) c1 (be8 y ++ us) most w4 (Row.later HR1.out HF4.out) (by omega)).mono ?_
  rintro e w5 ⟨rfl, hb⟩
  have HB5 := Lib.hid (HB4.out.trans (hb.mono HB4.out.size)); have HF5 := Lib.hid (Later.trans HF4.out hb); clear hb
  go_wp2_with fail
  refine (mod_any most 40 w5 (by omega) (by omega)).mono ?_
  rintro e w' ⟨rfl, rfl⟩
  generalize modF most 40 = z at hm40 ⊢
  go_wp2_with fail
  refine (taken_any A1 (8 + n) c1 (be8 y ++ us) z w5 (Row.later HR1.out HF5.out) (by omega)).mono ?_
  rintro e w6 ⟨rfl, hb⟩
  have HB6 := Lib.hid (HB5.out.trans (hb.mono HB5.out.size)); clear hb
  go_wp2_with fail
  refine (refInt_own none 0 0 [] x w6 (Row.nilRow w6 1) (by omega)).mono ?_
  rintro e w7 ⟨v7, rfl, ho7, hb7⟩
  rw [List.nil_append] at ho7
  have HO7 := Lib.hid (own_mono ho7 HB6.out.size); have HB7 := Lib.hid (HB6.out.trans (hb7.mono HB6.out.size)); clear ho7 hb7
  go_wp2_with (at_builtin; go_must (refine wpList_appG w7 rfl (.tmp 36) (.tmp 37) 22 22 5 rfl w.heap.size Try.underlying22 u8_info rfl _ 8 _ HO7.out rfl (.slice A n c) n (bytesV us) (Row.src (HR.out.later HB7.out) Try.underlying22 (bytesV_one us)) rfl (by unfold maxLen; omega) (by omega) HB7.out.size ?_); intro v w8 ho hb; obtain ⟨A7, c7, rfl, hr7⟩ := Row.of_own ho; rw [← bytesV_app] at hr7; have HR7 := Lib.hid hr7; have HC7 := Lib.hid (HB7.out.trans hb); have HG7 := Lib.hid hb; clear ho hb hr7)
  refine (taken_any A7 (8 + n) c7 (be8 x ++ us) most w8 HR7.out (by omega)).mono ?_
  rintro e w9 ⟨rfl, hb⟩
  have HB9 := Lib.hid (HC7.out.trans (hb.mono HC7.out.size)); clear hb
  go_wp2
  go_ret
  exact ⟨rfl, HB9.out⟩
set_option maxHeartbeats 1000000 in
theorem takes_any (A : Option Addr) (n c : Nat) (us : List UInt8) (x most : Int) (w : World) (hr : BRow w A n c us) :
    Calls Try.prog 4 #[.slice A n c, .int .i64 x, .int .i64 most] w fun e w' => e = .returned (.bool true) ∧ Below w.heap.size w w' := by
  by_cases h : n ≤ 200
  · exact takes_small A n c us x most w hr h
  · clear hr
    have h' : 200 < n := by omega
    clear h
    go_enter Try.func4, Try.ntmps4
    go_wp2_with fail
    refine (awake_any w).mono ?_
    rintro e w1 ⟨rfl, hb⟩
    go_wp2
    go_ret
    exact ⟨rfl, hb⟩
end Go.Proofs.Ytmccnfdadipgiaa
