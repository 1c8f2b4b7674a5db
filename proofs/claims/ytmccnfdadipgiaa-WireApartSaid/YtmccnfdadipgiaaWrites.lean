/- The walk of the law WireWrites. -/
import Derived.Test.YtmccnfdadipgiaaLaws2
namespace Go.Proofs.Ytmccnfdadipgiaa
open Go.RowKit
theorem conv_fut {w : World} {A : Option Addr} {m c : Nat} {us : List UInt8} (h : BRow w A m c us) {t : ByteArray} (ht : t = strOf us) (x : World) :
    (convert 22 9 (.slice A m c)).run Try.prog (fut Later w x) = .ok (.string t) (fut Later w x) := by
  subst ht
  exact run_conv_row (Row.later h (fut_ok Later.refl _ x)) Try.underlying22 Try.underlying5 Try.underlying9
set_option maxRecDepth 100000 in
set_option maxHeartbeats 4000000 in
theorem writes_pos (A : Option Addr) (n c : Nat) (us : List UInt8) (s : ByteArray) (B : Option Addr) (m k : Nat) (l : List Int) (w : World) (hr : BRow w A n c us) (hl : IRow w B m k l) (hn : n ≤ 100) (hs : s.size ≤ 100) (h0 : 0 < m) (hm : m ≤ 60) :
    Calls Try.prog 3 #[.slice A n c, .string s, .slice B m k] w fun e w' => e = .returned (.bool true) ∧ Below w.heap.size w w' := by
  obtain ⟨b, off, hB, hc⟩ := Row.form hl h0
  have hc := hc 0 (by omega)
  rw [intsV_get _ _ (by rw [hl.len]; exact h0)] at hc
  subst hB
  unfold iv at hc
  rw [Nat.add_zero] at hc
  generalize l.getD 0 0 = v at hc
  obtain ⟨t1, ht1⟩ : ∃ t, t = strOf (us ++ be8 v) := ⟨_, rfl⟩
  obtain ⟨t2, ht2⟩ : ∃ t, t = strOf (us ++ textB s.data.toList) := ⟨_, rfl⟩
  obtain ⟨t3, ht3⟩ : ∃ t, t = strOf (us ++ intsB l) := ⟨_, rfl⟩
  have HT1 := Lib.hid ht1; have HT2 := Lib.hid ht2; have HT3 := Lib.hid ht3; clear ht1 ht2 ht3
  have HR := Lib.hid hr; have HI := Lib.hid hl; clear hr hl
  go_enter Try.func3, Try.ntmps3
  go_wp2_with fail
  clear hc
  refine wp_region_grow (by kernel_rfl) Later Later.refl (fun _ _ _ => Later.trans) [31, 32, 33, 34] [([], 0), ([1, 2, 3, 6, 7], 4), ([5], 8), ([9, 10, 11, 12, 13, 14, 17, 18], 15), ([16], 19), ([20, 21, 22, 23, 24, 25, 28, 29], 26), ([27], 30)] (by kernel_rfl) (by kernel_rfl) (by kernel_rfl) ?_
  simp only [List.map_cons, List.map_nil, pick, List.getD_cons_zero, List.getD_cons_succ]
  have HBs := Lib.hid (Below.refl w.heap.size w).drew
  generalize w.drew = w1 at HBs ⊢
  refine wpGrow_cons ?_
  refine wpQuiet_nil ?_
  go_wp2_with fail
  refine (awake_any w1).mono ?_
  rintro e w2 ⟨rfl, hb⟩
  have HB2 := Lib.hid (HBs.out.trans (hb.mono HBs.out.size)); have HF := Lib.hid hb; clear hb HBs
  go_wp2_with fail
  refine pieceEnd_normal ⟨HF.out, ?_⟩
  clear HF
  refine wpGrow_cons ?_
  repeat (go_big_quiet_step (fail))
  refine wpQuiet_nil ?_
  go_wp2_with fail
  refine (wireInt_any A n c us v w2 (Row.later HR.out HB2.out) (by omega)).mono ?_
  rintro e w3 ⟨A3, m3, c3, rfl, -, hr, -, hb⟩
  have hcv3 := fun x => conv_fut hr HT1.out x
  have HB3 := Lib.hid (HB2.out.trans (hb.mono HB2.out.size)); have HF := Lib.hid hb; clear hb HB2 hr
  go_wp2_with fail
  refine pieceEnd_normal ⟨HF.out, ?_⟩
  clear HF
  refine wpGrow_cons ?_
  repeat (go_big_quiet_step (fail))
  refine wpQuiet_nil ?_
  clear hcv3
  go_wp2_with fail
  refine (refInt_any A n c us v w3 (Row.later HR.out HB3.out) (by omega)).mono ?_
  rintro e w4 ⟨A4, m4, c4, rfl, -, hr, -, hb⟩
  have hcv4 := fun x => conv_fut hr HT1.out x
  have HB4 := Lib.hid (HB3.out.trans (hb.mono HB3.out.size)); have HF := Lib.hid hb; clear hb HB3 hr
  go_wp2_with fail
  refine pieceEnd_normal ⟨HF.out, ?_⟩
  clear HF
  refine wpGrow_cons ?_
  repeat (go_big_quiet_step (fail))
  refine wpQuiet_nil ?_
  clear hcv4
  go_wp2_with fail
  refine (wireText_any A n c us s w4 (Row.later HR.out HB4.out) (by omega) (by omega)).mono ?_
  rintro e w5 ⟨A5, m5, c5, rfl, -, hr, -, hb⟩
  have hcv5 := fun x => conv_fut hr HT2.out x
  have HB5 := Lib.hid (HB4.out.trans (hb.mono HB4.out.size)); have HF := Lib.hid hb; clear hb HB4 hr
  go_wp2_with fail
  refine pieceEnd_normal ⟨HF.out, ?_⟩
  clear HF
  refine wpGrow_cons ?_
  repeat (go_big_quiet_step (fail))
  refine wpQuiet_nil ?_
  clear hcv5
  go_wp2_with fail
  refine (refText_any A n c us s w5 (Row.later HR.out HB5.out) (by omega) (by omega)).mono ?_
  rintro e w6 ⟨A6, m6, c6, rfl, -, hr, -, hb⟩
  have hcv6 := fun x => conv_fut hr HT2.out x
  have HB6 := Lib.hid (HB5.out.trans (hb.mono HB5.out.size)); have HF := Lib.hid hb; clear hb HB5 hr
  go_wp2_with fail
  refine pieceEnd_normal ⟨HF.out, ?_⟩
  clear HF
  refine wpGrow_cons ?_
  repeat (go_big_quiet_step (fail))
  refine wpQuiet_nil ?_
  clear hcv6
  go_wp2_with fail
  refine (wireInts_any A n c us (some ⟨b, off, none⟩) m k l w6 (Row.later HR.out HB6.out) (Row.later HI.out HB6.out) (by omega) (by omega)).mono ?_
  rintro e w7 ⟨A7, m7, c7, rfl, -, hr, -, hb⟩
  have hcv7 := fun x => conv_fut hr HT3.out x
  have HB7 := Lib.hid (HB6.out.trans (hb.mono HB6.out.size)); have HF := Lib.hid hb; clear hb HB6 hr
  go_wp2_with fail
  refine pieceEnd_normal ⟨HF.out, ?_⟩
  clear HF
  refine wpGrow_cons ?_
  repeat (go_big_quiet_step (fail))
  refine wpQuiet_nil ?_
  clear hcv7
  go_wp2_with fail
  refine (refInts_any A n c us (some ⟨b, off, none⟩) m k l w7 (Row.later HR.out HB7.out) (Row.later HI.out HB7.out) (by omega) (by omega)).mono ?_
  rintro e w8 ⟨A8, m8, c8, rfl, -, hr, -, hb⟩
  have hcv8 := fun x => conv_fut hr HT3.out x
  have HB8 := Lib.hid (HB7.out.trans (hb.mono HB7.out.size)); have HF := Lib.hid hb; clear hb HB7 hr
  go_wp2_with fail
  refine pieceEnd_normal ⟨HF.out, ?_⟩
  clear HF
  refine wpGrow_nil ?_
  repeat (go_big_quiet_step (fail))
  refine wpQuiet_nil ?_
  go_wp2
  go_ret
  exact ⟨rfl, HB8.out⟩
set_option maxRecDepth 100000 in
set_option maxHeartbeats 4000000 in
theorem writes_zero (A : Option Addr) (n c : Nat) (us : List UInt8) (s : ByteArray) (B : Option Addr) (m k : Nat) (l : List Int) (w : World) (hr : BRow w A n c us) (hl : IRow w B m k l) (hn : n ≤ 100) (hs : s.size ≤ 100) (hm : m = 0) :
    Calls Try.prog 3 #[.slice A n c, .string s, .slice B m k] w fun e w' => e = .returned (.bool true) ∧ Below w.heap.size w w' := by
  subst hm
  obtain ⟨t1, ht1⟩ : ∃ t, t = strOf (us ++ be8 (n : Int)) := ⟨_, rfl⟩
  obtain ⟨t2, ht2⟩ : ∃ t, t = strOf (us ++ textB s.data.toList) := ⟨_, rfl⟩
  obtain ⟨t3, ht3⟩ : ∃ t, t = strOf (us ++ intsB l) := ⟨_, rfl⟩
  have HT1 := Lib.hid ht1; have HT2 := Lib.hid ht2; have HT3 := Lib.hid ht3; clear ht1 ht2 ht3
  have HR := Lib.hid hr; have HI := Lib.hid hl; clear hr hl
  go_enter Try.func3, Try.ntmps3
  go_wp2_with fail
  refine wp_region_grow (by kernel_rfl) Later Later.refl (fun _ _ _ => Later.trans) [31, 32, 33, 34] [([], 0), ([1, 2, 3, 6, 7], 4), ([5], 8), ([9, 10, 11, 12, 13, 14, 17, 18], 15), ([16], 19), ([20, 21, 22, 23, 24, 25, 28, 29], 26), ([27], 30)] (by kernel_rfl) (by kernel_rfl) (by kernel_rfl) ?_
  simp only [List.map_cons, List.map_nil, pick, List.getD_cons_zero, List.getD_cons_succ]
  have HBs := Lib.hid (Below.refl w.heap.size w).drew
  generalize w.drew = w1 at HBs ⊢
  refine wpGrow_cons ?_
  refine wpQuiet_nil ?_
  go_wp2_with fail
  refine (awake_any w1).mono ?_
  rintro e w2 ⟨rfl, hb⟩
  have HB2 := Lib.hid (HBs.out.trans (hb.mono HBs.out.size)); have HF := Lib.hid hb; clear hb HBs
  go_wp2_with fail
  refine pieceEnd_normal ⟨HF.out, ?_⟩
  clear HF
  refine wpGrow_cons ?_
  repeat (go_big_quiet_step (fail))
  refine wpQuiet_nil ?_
  go_wp2_with fail
  refine (wireInt_any A n c us (n : Int) w2 (Row.later HR.out HB2.out) (by omega)).mono ?_
  rintro e w3 ⟨A3, m3, c3, rfl, -, hr, -, hb⟩
  have hcv3 := fun x => conv_fut hr HT1.out x
  have HB3 := Lib.hid (HB2.out.trans (hb.mono HB2.out.size)); have HF := Lib.hid hb; clear hb HB2 hr
  go_wp2_with fail
  refine pieceEnd_normal ⟨HF.out, ?_⟩
  clear HF
  refine wpGrow_cons ?_
  repeat (go_big_quiet_step (fail))
  refine wpQuiet_nil ?_
  clear hcv3
  go_wp2_with fail
  refine (refInt_any A n c us (n : Int) w3 (Row.later HR.out HB3.out) (by omega)).mono ?_
  rintro e w4 ⟨A4, m4, c4, rfl, -, hr, -, hb⟩
  have hcv4 := fun x => conv_fut hr HT1.out x
  have HB4 := Lib.hid (HB3.out.trans (hb.mono HB3.out.size)); have HF := Lib.hid hb; clear hb HB3 hr
  go_wp2_with fail
  refine pieceEnd_normal ⟨HF.out, ?_⟩
  clear HF
  refine wpGrow_cons ?_
  repeat (go_big_quiet_step (fail))
  refine wpQuiet_nil ?_
  clear hcv4
  go_wp2_with fail
  refine (wireText_any A n c us s w4 (Row.later HR.out HB4.out) (by omega) (by omega)).mono ?_
  rintro e w5 ⟨A5, m5, c5, rfl, -, hr, -, hb⟩
  have hcv5 := fun x => conv_fut hr HT2.out x
  have HB5 := Lib.hid (HB4.out.trans (hb.mono HB4.out.size)); have HF := Lib.hid hb; clear hb HB4 hr
  go_wp2_with fail
  refine pieceEnd_normal ⟨HF.out, ?_⟩
  clear HF
  refine wpGrow_cons ?_
  repeat (go_big_quiet_step (fail))
  refine wpQuiet_nil ?_
  clear hcv5
  go_wp2_with fail
  refine (refText_any A n c us s w5 (Row.later HR.out HB5.out) (by omega) (by omega)).mono ?_
  rintro e w6 ⟨A6, m6, c6, rfl, -, hr, -, hb⟩
  have hcv6 := fun x => conv_fut hr HT2.out x
  have HB6 := Lib.hid (HB5.out.trans (hb.mono HB5.out.size)); have HF := Lib.hid hb; clear hb HB5 hr
  go_wp2_with fail
  refine pieceEnd_normal ⟨HF.out, ?_⟩
  clear HF
  refine wpGrow_cons ?_
  repeat (go_big_quiet_step (fail))
  refine wpQuiet_nil ?_
  clear hcv6
  go_wp2_with fail
  refine (wireInts_any A n c us B 0 k l w6 (Row.later HR.out HB6.out) (Row.later HI.out HB6.out) (by omega) (by omega)).mono ?_
  rintro e w7 ⟨A7, m7, c7, rfl, -, hr, -, hb⟩
  have hcv7 := fun x => conv_fut hr HT3.out x
  have HB7 := Lib.hid (HB6.out.trans (hb.mono HB6.out.size)); have HF := Lib.hid hb; clear hb HB6 hr
  go_wp2_with fail
  refine pieceEnd_normal ⟨HF.out, ?_⟩
  clear HF
  refine wpGrow_cons ?_
  repeat (go_big_quiet_step (fail))
  refine wpQuiet_nil ?_
  clear hcv7
  go_wp2_with fail
  refine (refInts_any A n c us B 0 k l w7 (Row.later HR.out HB7.out) (Row.later HI.out HB7.out) (by omega) (by omega)).mono ?_
  rintro e w8 ⟨A8, m8, c8, rfl, -, hr, -, hb⟩
  have hcv8 := fun x => conv_fut hr HT3.out x
  have HB8 := Lib.hid (HB7.out.trans (hb.mono HB7.out.size)); have HF := Lib.hid hb; clear hb HB7 hr
  go_wp2_with fail
  refine pieceEnd_normal ⟨HF.out, ?_⟩
  clear HF
  refine wpGrow_nil ?_
  repeat (go_big_quiet_step (fail))
  refine wpQuiet_nil ?_
  go_wp2
  go_ret
  exact ⟨rfl, HB8.out⟩
set_option maxRecDepth 100000 in
set_option maxHeartbeats 4000000 in
theorem writes_big (A : Option Addr) (n c : Nat) (s : ByteArray) (B : Option Addr) (m k : Nat) (w : World) (h : 100 < n ∨ 100 < s.size ∨ 60 < m) :
    Calls Try.prog 3 #[.slice A n c, .string s, .slice B m k] w fun e w' => e = .returned (.bool true) ∧ Below w.heap.size w w' := by
  have g : (decide (100 < (n : Int)) = true) ∨ (decide (100 < (n : Int)) = false ∧ decide (100 < (s.size : Int)) = true) ∨ (decide (100 < (n : Int)) = false ∧ decide (100 < (s.size : Int)) = false ∧ decide (60 < (m : Int)) = true) := by
    simp only [decide_eq_true_eq, decide_eq_false_iff_not]; omega
  clear h
  rcases g with g | ⟨g, g1⟩ | ⟨g, g1, g2⟩
  all_goals
    go_enter Try.func3, Try.ntmps3
    go_wp2_with fail
    refine (awake_any w).mono ?_
    rintro e w1 ⟨rfl, hb⟩
    go_wp2
    go_ret
    exact ⟨rfl, hb⟩
theorem writes_any (A : Option Addr) (n c : Nat) (us : List UInt8) (s : ByteArray) (B : Option Addr) (m k : Nat) (l : List Int) (w : World) (hr : BRow w A n c us) (hl : IRow w B m k l) :
    Calls Try.prog 3 #[.slice A n c, .string s, .slice B m k] w fun e w' => e = .returned (.bool true) ∧ Below w.heap.size w w' := by
  by_cases h : 100 < n ∨ 100 < s.size ∨ 60 < m
  · exact writes_big A n c s B m k w h
  · rcases Nat.eq_zero_or_pos m with h0 | h0
    · exact writes_zero A n c us s B m k l w hr hl (by omega) (by omega) h0
    · exact writes_pos A n c us s B m k l w hr hl (by omega) (by omega) h0 (by omega)
end Go.Proofs.Ytmccnfdadipgiaa
