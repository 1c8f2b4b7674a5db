import Derived.Test.YtkglgboncngpbaaGreatDoorPackAH
import Derived.Test.YtkglgboncngpbaaGreatDoorPackAN
import Derived.Test.YtkglgboncngpbaaGreatDoorRefDecP
import Derived.Great.BuildSlice
import Derived.Deep.Cut
import Derived.Test.YtkglgboncngpbaaGreatDoorPackAE
import Derived.Test.YtkglgboncngpbaaGreatDoorPackAC
import Derived.Test.YtkglgboncngpbaaGreatDoorPackAA
/- The walk of the reference's Decode of evidence. -/
namespace Go.Proofs.YtkglgboncngpbaaGreatDoor
open Go.RowKit
theorem results_rfdec {tmps : Array Value} {w : World} {s : Nat} {cs : Array Value} {v : Value} (h2 : tmps.getD 2 undef = .pointer (some ⟨s, 0, none⟩)) (h3 : tmps.getD 3 undef = v)
    (hs : w.heap[s]? = some (.cells cs 29 (0, 0))) (hz : cs.size = 26) :
    (results Tryz.f36 tmps).run Tryz.prog w = .ok (.tuple #[.agg cs, v]) w := by
  have hr : Tryz.f36.results = #[.cell 2 29, .tmp 3] := rfl
  have h2' : tmps[2]?.getD undef = .pointer (some ⟨s, 0, none⟩) := by simpa using h2
  have h3' : tmps[3]?.getD undef = v := by simpa using h3
  have hl := run_loadVar_row (P := Tryz.prog) w s 29 29 cs (0, 0) _ hs Tryz.underlying29 rfl (by rw [hz]; kernel_rfl)
  unfold results
  rw [hr]
  simp [h2', h3', asAddr, hl]
theorem dec_small {us : List UInt8} (h : decOk us = true) : Small (decS us) := by
  have hk : readOk us = true := by unfold decOk at h; simp only [Bool.and_eq_true] at h; exact h.1.1
  have h2 : (parse us).2.2 = true := by unfold readOk at hk; simp only [Bool.and_eq_true] at hk; exact hk.1
  unfold decS readS
  rw [if_pos h, if_pos hk]
  exact (parse_small h2).1
set_option maxRecDepth 100000 in
set_option maxHeartbeats 4000000 in
theorem refFkDecode_any (A : Option Addr) (n c : Nat) (us : List UInt8) (w : World) (hr : BRow w A n c us) (hn : n ≤ 900000) :
    Calls Tryz.prog 36 #[.slice A n c] w (DecF w (decF1 us) (decF2 us) (decFE us)) := by
  have hus : us.length ≤ 900000 := by rw [hr.len]; exact hn
  have HT1 : Hid (∀ w', Below w.heap.size w w' → Calls Tryz.prog 63 #[.slice A n c, .int .i64 1048576] w' (SomeS w' (takeA us))) := Lib.hid fun w' h => by
    have h1 := refTakeText_any A n c us 1048576 w' (hr.later h) (by omega)
    rw [takeS_more us 1048576 (by omega)] at h1
    exact h1
  have HT2 : Hid (∀ w' A2 n2 c2, BRow w' A2 n2 c2 (takeA us).2.1 → Calls Tryz.prog 63 #[.slice A2 n2 c2, .int .i64 1048576] w' (SomeS w' (takeA (takeA us).2.1))) := Lib.hid fun w' A2 n2 c2 h => by
    have hz := takeA_le us
    have h1 := refTakeText_any A2 n2 c2 (takeA us).2.1 1048576 w' h (by rw [← h.len]; omega)
    rw [takeS_more (takeA us).2.1 1048576 (by omega)] at h1
    exact h1
  have HZ1 : Hid ((takeA us).1.size ≤ 900000 ∧ (takeA (takeA us).2.1).1.size ≤ 900000) := Lib.hid ⟨by have := takeA_size us; omega, by have := takeA_size (takeA us).2.1; have := takeA_le us; omega⟩
  have HDC : Hid (∀ (t : ByteArray) (w' : World) A2 n2 c2, t.size ≤ 900000 → BRow w' A2 n2 c2 t.data.toList → Calls Tryz.prog 64 #[.slice A2 n2 c2] w' (DecN w' (decS t.data.toList) (decE t.data.toList))) := Lib.hid fun t w' A2 n2 c2 hz hb => refDecode_new A2 n2 c2 _ w' hb (by rw [← hb.len, str_len]; exact hz)
  have HOK : Hid (okF us = ((takeA us).2.2 && (decOk (takeA us).1.data.toList && ((takeA (takeA us).2.1).2.2 && (decOk (takeA (takeA us).2.1).1.data.toList && (decide ((takeA (takeA us).2.1).2.1.length = 0) && twoB (decS (takeA us).1.data.toList) (decS (takeA (takeA us).2.1).1.data.toList))))))) := Lib.hid rfl
  have HF1 : Hid (decF1 us = if okF us = true then decS (takeA us).1.data.toList else zeroS) := Lib.hid rfl
  have HF2 : Hid (decF2 us = if okF us = true then decS (takeA (takeA us).2.1).1.data.toList else zeroS) := Lib.hid rfl
  have HFE : Hid (decFE us = if okF us = true then 0 else 1) := Lib.hid rfl
  generalize decF1 us = G1 at HF1 ⊢
  generalize decF2 us = G2 at HF2 ⊢
  generalize decFE us = GE at HFE ⊢
  generalize okF us = OK at HOK HF1 HF2 HFE
  generalize takeA (takeA us).2.1 = T2 at HT2 HZ1 HOK HF2
  generalize takeA us = T1 at HT1 HT2 HZ1 HOK HF1
  obtain ⟨t1, r1, k1⟩ := T1
  obtain ⟨t2, r2, k2⟩ := T2
  simp only at HT1 HT2 HZ1 HOK HF1 HF2
  have HD1 := Lib.hid (fun w' A2 n2 c2 hb => HDC.out t1 w' A2 n2 c2 HZ1.out.1 hb)
  have HD2 := Lib.hid (fun w' A2 n2 c2 hb => HDC.out t2 w' A2 n2 c2 HZ1.out.2 hb)
  have HCK : Hid (decOk t1.data.toList = true → decOk t2.data.toList = true → ∀ w' A n c B m k A2 n2 c2 B2 m2 k2, IRow w' A n c (decS t1.data.toList).list → PRow w' B m k (decS t1.data.toList).pins → IRow w' A2 n2 c2 (decS t2.data.toList).list → PRow w' B2 m2 k2 (decS t2.data.toList).pins →
      Calls Tryz.prog 37 #[forkV (decS t1.data.toList) A n c B m k (decS t2.data.toList) A2 n2 c2 B2 m2 k2] w' (SaysL (.int .i64 (if twoB (decS t1.data.toList) (decS t2.data.toList) = true then 0 else 12)) w')) := Lib.hid fun g1 g2 w' A n c B m k A2 n2 c2 B2 m2 k2 h1 h2 h3 h4 => by
    have h := refFkCheck_any (decS t1.data.toList) A n c B m k (decS t2.data.toList) A2 n2 c2 B2 m2 k2 w' h1 h2 h3 h4 (dec_small g1) (dec_small g2)
    rw [checkF_two (decOk_parts g1).1 (decOk_parts g2).1 (decOk_parts g1).2 (decOk_parts g2).2] at h
    exact h
  clear HDC HZ1 hr hn hus
  have HE1 : Hid (decE t1.data.toList = if decOk t1.data.toList = true then 0 else 1) := Lib.hid rfl
  have HE2 : Hid (decE t2.data.toList = if decOk t2.data.toList = true then 0 else 1) := Lib.hid rfl
  generalize decS t1.data.toList = S1 at HD1 HOK HF1 HCK
  generalize decS t2.data.toList = S2 at HD2 HOK HF2 HCK
  generalize decE t1.data.toList = e1 at HE1 HD1
  generalize decE t2.data.toList = e2 at HE2 HD2
  generalize decOk t1.data.toList = d1 at HE1 HOK HCK
  generalize decOk t2.data.toList = d2 at HE2 HOK HCK
  generalize twoB S1 S2 = tf at HOK HCK
  have HB : Hid (Below w.heap.size w (w.alloc (.cells #[.int .i64 0, .int .i64 0, .string ⟨#[]⟩, .int .i64 0, .int .i64 0, .int .i64 0, .int .i64 0, .int .i64 0, .slice none 0 0, .slice none 0 0, .string ⟨#[]⟩, .int .i64 0, .string ⟨#[]⟩, .int .i64 0, .int .i64 0, .string ⟨#[]⟩, .int .i64 0, .int .i64 0, .int .i64 0, .int .i64 0, .int .i64 0, .slice none 0 0, .slice none 0 0, .string ⟨#[]⟩, .int .i64 0, .string ⟨#[]⟩] 29))) := Lib.hid (one_new w _)
  have HX : Hid ((w.alloc (.cells #[.int .i64 0, .int .i64 0, .string ⟨#[]⟩, .int .i64 0, .int .i64 0, .int .i64 0, .int .i64 0, .int .i64 0, .slice none 0 0, .slice none 0 0, .string ⟨#[]⟩, .int .i64 0, .string ⟨#[]⟩, .int .i64 0, .int .i64 0, .string ⟨#[]⟩, .int .i64 0, .int .i64 0, .int .i64 0, .int .i64 0, .int .i64 0, .slice none 0 0, .slice none 0 0, .string ⟨#[]⟩, .int .i64 0, .string ⟨#[]⟩] 29)).heap[w.heap.size]? = some (.cells #[.int .i64 0, .int .i64 0, .string ⟨#[]⟩, .int .i64 0, .int .i64 0, .int .i64 0, .int .i64 0, .int .i64 0, .slice none 0 0, .slice none 0 0, .string ⟨#[]⟩, .int .i64 0, .string ⟨#[]⟩, .int .i64 0, .int .i64 0, .string ⟨#[]⟩, .int .i64 0, .int .i64 0, .int .i64 0, .int .i64 0, .int .i64 0, .slice none 0 0, .slice none 0 0, .string ⟨#[]⟩, .int .i64 0, .string ⟨#[]⟩] 29 (0, 0))) := Lib.hid (heap_alloc_new _ _)
  have HZ : Hid (w.heap.size < (w.alloc (.cells #[.int .i64 0, .int .i64 0, .string ⟨#[]⟩, .int .i64 0, .int .i64 0, .int .i64 0, .int .i64 0, .int .i64 0, .slice none 0 0, .slice none 0 0, .string ⟨#[]⟩, .int .i64 0, .string ⟨#[]⟩, .int .i64 0, .int .i64 0, .string ⟨#[]⟩, .int .i64 0, .int .i64 0, .int .i64 0, .int .i64 0, .int .i64 0, .slice none 0 0, .slice none 0 0, .string ⟨#[]⟩, .int .i64 0, .string ⟨#[]⟩] 29)).heap.size) := Lib.hid (by simp)
  go_enter Tryz.func36, Tryz.ntmps36
  go_wp2_with fail
  refine (HT1.out _ HB.out).mono ?_
  generalize w.alloc (.cells #[.int .i64 0, .int .i64 0, .string ⟨#[]⟩, .int .i64 0, .int .i64 0, .int .i64 0, .int .i64 0, .int .i64 0, .slice none 0 0, .slice none 0 0, .string ⟨#[]⟩, .int .i64 0, .string ⟨#[]⟩, .int .i64 0, .int .i64 0, .string ⟨#[]⟩, .int .i64 0, .int .i64 0, .int .i64 0, .int .i64 0, .int .i64 0, .slice none 0 0, .slice none 0 0, .string ⟨#[]⟩, .int .i64 0, .string ⟨#[]⟩] 29) = y0 at *
  rintro e w1 ⟨A1, n1, c1, rfl, hrow, hb⟩
  replace HX := Lib.hid ((hb.block _ HZ.out).trans HX.out); replace HB := Lib.hid (HB.out.trans (hb.mono HB.out.size)); replace HZ : Hid (w.heap.size < w1.heap.size) := Lib.hid (Nat.lt_of_lt_of_le HZ.out hb.size)
  have HR1 := Lib.hid hrow; clear hrow hb
  simp only at HR1 ⊢
  go_wp2_with fail
  refine (HT2.out _ _ _ _ HR1.out).mono ?_
  rintro e w2 ⟨A2, n2, c2, rfl, hrow, hb⟩
  replace HX := Lib.hid ((hb.block _ HZ.out).trans HX.out); replace HB := Lib.hid (HB.out.trans (hb.mono HB.out.size)); replace HZ : Hid (w.heap.size < w2.heap.size) := Lib.hid (Nat.lt_of_lt_of_le HZ.out hb.size)
  have HLN := Lib.hid hrow.len; clear hrow hb HR1
  simp only at HLN ⊢
  cases k1
  · have hOK : OK = false := by rw [HOK.out]; simp
    go_wp2_with (first | (refine wpList_store_row rfl 29 (.tmp 2) (.tmp 36) rfl w.heap.size #[.int .i64 0, .int .i64 0, .string ⟨#[]⟩, .int .i64 0, .int .i64 0, .int .i64 0, .int .i64 0, .int .i64 0, .slice none 0 0, .slice none 0 0, .string ⟨#[]⟩, .int .i64 0, .string ⟨#[]⟩, .int .i64 0, .int .i64 0, .string ⟨#[]⟩, .int .i64 0, .int .i64 0, .int .i64 0, .int .i64 0, .int .i64 0, .slice none 0 0, .slice none 0 0, .string ⟨#[]⟩, .int .i64 0, .string ⟨#[]⟩] rfl rfl 29 _ HX.out (by kernel_rfl) rfl (by simp [Value.oneCell']) ?_))
    refine bodyPost_ret (results_rfdec rfl rfl (setRow_heap _ _ _ #[.int .i64 0, .int .i64 0, .string ⟨#[]⟩, .int .i64 0, .int .i64 0, .int .i64 0, .int .i64 0, .int .i64 0, .slice none 0 0, .slice none 0 0, .string ⟨#[]⟩, .int .i64 0, .string ⟨#[]⟩, .int .i64 0, .int .i64 0, .string ⟨#[]⟩, .int .i64 0, .int .i64 0, .int .i64 0, .int .i64 0, .int .i64 0, .slice none 0 0, .slice none 0 0, .string ⟨#[]⟩, .int .i64 0, .string ⟨#[]⟩] _ _ HX.out) rfl) rfl ?_
    rw [HF1.out, HF2.out, HFE.out, hOK]
    exact DecF.zero (below_setRow HB.out (Nat.le_refl _) _)
  cases k2
  · have hOK : OK = false := by rw [HOK.out]; simp
    go_wp2_with (first | (refine wpList_store_row rfl 29 (.tmp 2) (.tmp 36) rfl w.heap.size #[.int .i64 0, .int .i64 0, .string ⟨#[]⟩, .int .i64 0, .int .i64 0, .int .i64 0, .int .i64 0, .int .i64 0, .slice none 0 0, .slice none 0 0, .string ⟨#[]⟩, .int .i64 0, .string ⟨#[]⟩, .int .i64 0, .int .i64 0, .string ⟨#[]⟩, .int .i64 0, .int .i64 0, .int .i64 0, .int .i64 0, .int .i64 0, .slice none 0 0, .slice none 0 0, .string ⟨#[]⟩, .int .i64 0, .string ⟨#[]⟩] rfl rfl 29 _ HX.out (by kernel_rfl) rfl (by simp [Value.oneCell']) ?_))
    refine bodyPost_ret (results_rfdec rfl rfl (setRow_heap _ _ _ #[.int .i64 0, .int .i64 0, .string ⟨#[]⟩, .int .i64 0, .int .i64 0, .int .i64 0, .int .i64 0, .int .i64 0, .slice none 0 0, .slice none 0 0, .string ⟨#[]⟩, .int .i64 0, .string ⟨#[]⟩, .int .i64 0, .int .i64 0, .string ⟨#[]⟩, .int .i64 0, .int .i64 0, .int .i64 0, .int .i64 0, .int .i64 0, .slice none 0 0, .slice none 0 0, .string ⟨#[]⟩, .int .i64 0, .string ⟨#[]⟩] _ _ HX.out) rfl) rfl ?_
    rw [HF1.out, HF2.out, HFE.out, hOK]
    exact DecF.zero (below_setRow HB.out (Nat.le_refl _) _)
  by_cases h0 : n2 = 0
  rotate_left
  · have hz : ¬ r2 = [] := fun e => h0 (by rw [← HLN.out, e]; rfl)
    have hOK : OK = false := by rw [HOK.out]; simp [hz]
    have hlt : (0 : Int) < (n2 : Int) := by omega
    go_wp2_with (first | (refine wpList_store_row rfl 29 (.tmp 2) (.tmp 36) rfl w.heap.size #[.int .i64 0, .int .i64 0, .string ⟨#[]⟩, .int .i64 0, .int .i64 0, .int .i64 0, .int .i64 0, .int .i64 0, .slice none 0 0, .slice none 0 0, .string ⟨#[]⟩, .int .i64 0, .string ⟨#[]⟩, .int .i64 0, .int .i64 0, .string ⟨#[]⟩, .int .i64 0, .int .i64 0, .int .i64 0, .int .i64 0, .int .i64 0, .slice none 0 0, .slice none 0 0, .string ⟨#[]⟩, .int .i64 0, .string ⟨#[]⟩] rfl rfl 29 _ HX.out (by kernel_rfl) rfl (by simp [Value.oneCell']) ?_))
    refine bodyPost_ret (results_rfdec rfl rfl (setRow_heap _ _ _ #[.int .i64 0, .int .i64 0, .string ⟨#[]⟩, .int .i64 0, .int .i64 0, .int .i64 0, .int .i64 0, .int .i64 0, .slice none 0 0, .slice none 0 0, .string ⟨#[]⟩, .int .i64 0, .string ⟨#[]⟩, .int .i64 0, .int .i64 0, .string ⟨#[]⟩, .int .i64 0, .int .i64 0, .int .i64 0, .int .i64 0, .int .i64 0, .slice none 0 0, .slice none 0 0, .string ⟨#[]⟩, .int .i64 0, .string ⟨#[]⟩] _ _ HX.out) rfl) rfl ?_
    rw [HF1.out, HF2.out, HFE.out, hOK]
    exact DecF.zero (below_setRow HB.out (Nat.le_refl _) _)
  subst h0
  have hz : r2 = [] := List.eq_nil_of_length_eq_zero HLN.out
  subst hz
  obtain ⟨Ab, cb, wb, hcv, hrow, hb⟩ := str_row w2 t1
  replace HX := Lib.hid ((hb.block _ HZ.out).trans HX.out); replace HB := Lib.hid (HB.out.trans (hb.mono HB.out.size)); replace HZ : Hid (w.heap.size < wb.heap.size) := Lib.hid (Nat.lt_of_lt_of_le HZ.out hb.size)
  have HRb := Lib.hid hrow; clear hrow hb
  go_wp2_with fail
  clear hcv
  refine (HD1.out _ _ _ _ HRb.out).mono ?_
  rintro e w3 ⟨Aa, na, ca, Ba, ma, ka, rfl, hl, hp, hna, hnb, hb⟩
  have HNA : Hid (∀ ad, Aa = some ad → w.heap.size < ad.block) := Lib.hid fun ad hA => Nat.lt_trans HZ.out (hna ad hA)
  have HNB : Hid (∀ ad, Ba = some ad → w.heap.size < ad.block) := Lib.hid fun ad hA => Nat.lt_trans HZ.out (hnb ad hA)
  replace HX := Lib.hid ((hb.block _ HZ.out).trans HX.out); replace HB := Lib.hid (HB.out.trans (hb.mono HB.out.size)); replace HZ : Hid (w.heap.size < w3.heap.size) := Lib.hid (Nat.lt_of_lt_of_le HZ.out hb.size)
  have HLA := Lib.hid hl; have HPA := Lib.hid hp; clear hl hp hna hnb hb HRb
  obtain ⟨SA, eA, zA, oA⟩ := one13 S1 Aa na ca Ba ma ka
  rw [eA]
  have HEA := Lib.hid eA; have HZA := Lib.hid zA; have HOA := Lib.hid oA; clear eA zA oA
  have hn := one_new w3 (.cells SA 27)
  replace HX := Lib.hid ((hn.block _ HZ.out).trans HX.out); replace HB := Lib.hid (HB.out.trans (hn.mono HB.out.size)); replace HZ : Hid (w.heap.size < (w3.alloc (.cells SA 27)).heap.size) := Lib.hid (Nat.lt_of_lt_of_le HZ.out hn.size)
  replace HLA := Lib.hid (HLA.out.later hn)
  replace HPA := Lib.hid (HPA.out.later hn)
  have HTA : Hid ((w3.alloc (.cells SA 27)).heap[w3.heap.size]? = some (.cells SA 27 (0, 0))) := Lib.hid (heap_alloc_new _ _)
  clear hn
  obtain ⟨Ad, cd, wd, hcv, hrow, hb⟩ := str_row (w3.alloc (.cells SA 27)) t2
  replace HX := Lib.hid ((hb.block _ HZ.out).trans HX.out); replace HB := Lib.hid (HB.out.trans (hb.mono HB.out.size)); replace HZ : Hid (w.heap.size < wd.heap.size) := Lib.hid (Nat.lt_of_lt_of_le HZ.out hb.size)
  replace HTA := Lib.hid ((hb.block _ (Array.getElem?_eq_some_iff.1 HTA.out).1).trans HTA.out)
  replace HLA := Lib.hid (HLA.out.later hb)
  replace HPA := Lib.hid (HPA.out.later hb)
  have HRd := Lib.hid hrow; clear hrow hb
  go_wp2_with (refine wpList_store_new rfl 27 (.tmp 8) (.tmp 41) rfl 27 _ SA rfl rfl (by rw [HZA.out]; kernel_rfl) (by rw [HZA.out]; rfl) HOA.out ?_)
  clear hcv
  refine (HD2.out _ _ _ _ HRd.out).mono ?_
  rintro e w4 ⟨Ac, nc, cc, Bc, mc, kc, rfl, hl, hp, hna, hnb, hb⟩
  have HNC : Hid (∀ ad, Ac = some ad → w.heap.size < ad.block) := Lib.hid fun ad hA => Nat.lt_trans HZ.out (hna ad hA)
  have HND : Hid (∀ ad, Bc = some ad → w.heap.size < ad.block) := Lib.hid fun ad hA => Nat.lt_trans HZ.out (hnb ad hA)
  replace HX := Lib.hid ((hb.block _ HZ.out).trans HX.out); replace HB := Lib.hid (HB.out.trans (hb.mono HB.out.size)); replace HZ : Hid (w.heap.size < w4.heap.size) := Lib.hid (Nat.lt_of_lt_of_le HZ.out hb.size)
  replace HTA := Lib.hid ((hb.block _ (Array.getElem?_eq_some_iff.1 HTA.out).1).trans HTA.out)
  replace HLA := Lib.hid (HLA.out.later hb)
  replace HPA := Lib.hid (HPA.out.later hb)
  have HLC := Lib.hid hl; have HPC := Lib.hid hp; clear hl hp hna hnb hb HRd
  replace HCK := Lib.hid (fun g1 g2 w' h1 h2 h3 h4 => HCK.out g1 g2 w' Aa na ca Ba ma ka Ac nc cc Bc mc kc h1 h2 h3 h4)
  obtain ⟨SA2, TA, VA, eS, eT, eV, h26⟩ := two26 S1 Aa na ca Ba ma ka S2 Ac nc cc Bc mc kc
  obtain rfl : SA2 = SA := by have h := eS.symm.trans HEA.out; injection h
  rw [eV] at HCK
  rw [eT]
  have H26 := Lib.hid h26; have HEV := Lib.hid eV; have HZT := Lib.hid h26.z2; have HOT := Lib.hid h26.o2
  clear eS eT eV h26 HEA
  have hn := one_new w4 (.cells TA 27)
  have HTT : Hid ((w4.alloc (.cells TA 27)).heap[w4.heap.size]? = some (.cells TA 27 (0, 0))) := Lib.hid (heap_alloc_new _ _)
  replace HX := Lib.hid ((hn.block _ HZ.out).trans HX.out); replace HB := Lib.hid (HB.out.trans (hn.mono HB.out.size)); replace HZ : Hid (w.heap.size < (w4.alloc (.cells TA 27)).heap.size) := Lib.hid (Nat.lt_of_lt_of_le HZ.out hn.size)
  replace HTA := Lib.hid ((hn.block _ (Array.getElem?_eq_some_iff.1 HTA.out).1).trans HTA.out)
  replace HLA := Lib.hid (HLA.out.later hn)
  replace HPA := Lib.hid (HPA.out.later hn)
  replace HLC := Lib.hid (HLC.out.later hn)
  replace HPC := Lib.hid (HPC.out.later hn)
  clear hn
  go_upto_region 7 with (refine wpList_store_new rfl 27 (.tmp 10) (.tmp 47) rfl 27 _ TA rfl rfl (by rw [HZT.out]; kernel_rfl) (by rw [HZT.out]; rfl) HOT.out ?_)
  generalize w4.alloc (.cells TA 27) = y5 at *
  have HTA0 := HTA; have HTT0 := HTT
  have hn := one_new y5 (.cells VA 29)
  have HTF : Hid ((y5.alloc (.cells VA 29)).heap[y5.heap.size]? = some (.cells VA 29 (0, 0))) := Lib.hid (heap_alloc_new _ _)
  replace HX := Lib.hid ((hn.block _ HZ.out).trans HX.out); replace HB := Lib.hid (HB.out.trans (hn.mono HB.out.size)); replace HZ : Hid (w.heap.size < (y5.alloc (.cells VA 29)).heap.size) := Lib.hid (Nat.lt_of_lt_of_le HZ.out hn.size)
  replace HLA := Lib.hid (HLA.out.later hn)
  replace HPA := Lib.hid (HPA.out.later hn)
  replace HLC := Lib.hid (HLC.out.later hn)
  replace HPC := Lib.hid (HPC.out.later hn)
  clear hn
  cases d1
  · have hOK : OK = false := by rw [HOK.out]; simp
    obtain rfl : e1 = 1 := HE1.out
    go_wp2_with (first | (refine wpList_load_row rfl 27 (.tmp 8) rfl w3.heap.size rfl 27 SA2 (0, 0) _ HTA0.out Tryz.underlying27 rfl (by rw [HZA.out]; kernel_rfl) ?_) | (refine wpList_load_row rfl 27 (.tmp 10) rfl w4.heap.size rfl 27 TA (0, 0) _ HTT0.out Tryz.underlying27 rfl (by rw [HZT.out]; kernel_rfl) ?_) | (refine wpList_buildTo rfl 29 #[(0, .tmp 49), (1, .tmp 50)] rfl (some 51) rfl VA ((congrArg (Tryz.prog.built 29) (show _ = [(0, Value.agg SA2), (1, Value.agg TA)] by kernel_rfl)).trans H26.out.blt) ?_) | (refine wpList_store_new rfl 29 (.tmp 12) (.tmp 51) rfl 29 _ VA rfl rfl H26.out.iF (by rw [H26.out.z3]; rfl) H26.out.o3 ?_) | (refine wpList_store_row rfl 29 (.tmp 2) (.tmp 63) rfl w.heap.size #[.int .i64 0, .int .i64 0, .string ⟨#[]⟩, .int .i64 0, .int .i64 0, .int .i64 0, .int .i64 0, .int .i64 0, .slice none 0 0, .slice none 0 0, .string ⟨#[]⟩, .int .i64 0, .string ⟨#[]⟩, .int .i64 0, .int .i64 0, .string ⟨#[]⟩, .int .i64 0, .int .i64 0, .int .i64 0, .int .i64 0, .int .i64 0, .slice none 0 0, .slice none 0 0, .string ⟨#[]⟩, .int .i64 0, .string ⟨#[]⟩] rfl rfl 29 _ HX.out (by kernel_rfl) rfl (by simp [Value.oneCell']) ?_))
    refine bodyPost_ret (results_rfdec rfl rfl (setRow_heap _ _ _ #[.int .i64 0, .int .i64 0, .string ⟨#[]⟩, .int .i64 0, .int .i64 0, .int .i64 0, .int .i64 0, .int .i64 0, .slice none 0 0, .slice none 0 0, .string ⟨#[]⟩, .int .i64 0, .string ⟨#[]⟩, .int .i64 0, .int .i64 0, .string ⟨#[]⟩, .int .i64 0, .int .i64 0, .int .i64 0, .int .i64 0, .int .i64 0, .slice none 0 0, .slice none 0 0, .string ⟨#[]⟩, .int .i64 0, .string ⟨#[]⟩] _ _ HX.out) rfl) rfl ?_
    rw [HF1.out, HF2.out, HFE.out, hOK]
    exact DecF.zero (below_setRow HB.out (Nat.le_refl _) _)
  obtain rfl : e1 = 0 := HE1.out
  cases d2
  · have hOK : OK = false := by rw [HOK.out]; simp
    obtain rfl : e2 = 1 := HE2.out
    go_wp2_with (first | (refine wpList_load_row rfl 27 (.tmp 8) rfl w3.heap.size rfl 27 SA2 (0, 0) _ HTA0.out Tryz.underlying27 rfl (by rw [HZA.out]; kernel_rfl) ?_) | (refine wpList_load_row rfl 27 (.tmp 10) rfl w4.heap.size rfl 27 TA (0, 0) _ HTT0.out Tryz.underlying27 rfl (by rw [HZT.out]; kernel_rfl) ?_) | (refine wpList_buildTo rfl 29 #[(0, .tmp 49), (1, .tmp 50)] rfl (some 51) rfl VA ((congrArg (Tryz.prog.built 29) (show _ = [(0, Value.agg SA2), (1, Value.agg TA)] by kernel_rfl)).trans H26.out.blt) ?_) | (refine wpList_store_new rfl 29 (.tmp 12) (.tmp 51) rfl 29 _ VA rfl rfl H26.out.iF (by rw [H26.out.z3]; rfl) H26.out.o3 ?_) | (refine wpList_store_row rfl 29 (.tmp 2) (.tmp 63) rfl w.heap.size #[.int .i64 0, .int .i64 0, .string ⟨#[]⟩, .int .i64 0, .int .i64 0, .int .i64 0, .int .i64 0, .int .i64 0, .slice none 0 0, .slice none 0 0, .string ⟨#[]⟩, .int .i64 0, .string ⟨#[]⟩, .int .i64 0, .int .i64 0, .string ⟨#[]⟩, .int .i64 0, .int .i64 0, .int .i64 0, .int .i64 0, .int .i64 0, .slice none 0 0, .slice none 0 0, .string ⟨#[]⟩, .int .i64 0, .string ⟨#[]⟩] rfl rfl 29 _ HX.out (by kernel_rfl) rfl (by simp [Value.oneCell']) ?_))
    refine bodyPost_ret (results_rfdec rfl rfl (setRow_heap _ _ _ #[.int .i64 0, .int .i64 0, .string ⟨#[]⟩, .int .i64 0, .int .i64 0, .int .i64 0, .int .i64 0, .int .i64 0, .slice none 0 0, .slice none 0 0, .string ⟨#[]⟩, .int .i64 0, .string ⟨#[]⟩, .int .i64 0, .int .i64 0, .string ⟨#[]⟩, .int .i64 0, .int .i64 0, .int .i64 0, .int .i64 0, .int .i64 0, .slice none 0 0, .slice none 0 0, .string ⟨#[]⟩, .int .i64 0, .string ⟨#[]⟩] _ _ HX.out) rfl) rfl ?_
    rw [HF1.out, HF2.out, HFE.out, hOK]
    exact DecF.zero (below_setRow HB.out (Nat.le_refl _) _)
  obtain rfl : e2 = 0 := HE2.out
  go_wp2_with (first | (refine wpList_load_row rfl 27 (.tmp 8) rfl w3.heap.size rfl 27 SA2 (0, 0) _ HTA0.out Tryz.underlying27 rfl (by rw [HZA.out]; kernel_rfl) ?_) | (refine wpList_load_row rfl 27 (.tmp 10) rfl w4.heap.size rfl 27 TA (0, 0) _ HTT0.out Tryz.underlying27 rfl (by rw [HZT.out]; kernel_rfl) ?_) | (refine wpList_buildTo rfl 29 #[(0, .tmp 49), (1, .tmp 50)] rfl (some 51) rfl VA ((congrArg (Tryz.prog.built 29) (show _ = [(0, Value.agg SA2), (1, Value.agg TA)] by kernel_rfl)).trans H26.out.blt) ?_) | (refine wpList_store_new rfl 29 (.tmp 12) (.tmp 51) rfl 29 _ VA rfl rfl H26.out.iF (by rw [H26.out.z3]; rfl) H26.out.o3 ?_) | (refine wpList_load_rowG rfl 29 (.tmp 12) rfl y5.heap.size rfl 29 VA (0, 0) _ HTF.out Tryz.underlying29 rfl H26.out.iF ?_))
  refine (HCK.out (by first | rfl | trivial) (by first | rfl | trivial) _ HLA.out HPA.out HLC.out HPC.out).mono ?_
  rintro e w6 ⟨rfl, hb⟩
  replace HX := Lib.hid ((hb.block _ HZ.out).trans HX.out); replace HB := Lib.hid (HB.out.trans (hb.mono HB.out.size)); replace HZ : Hid (w.heap.size < w6.heap.size) := Lib.hid (Nat.lt_of_lt_of_le HZ.out hb.size)
  replace HTF := Lib.hid ((hb.block _ (Array.getElem?_eq_some_iff.1 HTF.out).1).trans HTF.out)
  replace HLA := Lib.hid (HLA.out.later hb)
  replace HPA := Lib.hid (HPA.out.later hb)
  replace HLC := Lib.hid (HLC.out.later hb)
  replace HPC := Lib.hid (HPC.out.later hb)
  clear hb
  cases tf
  · have hOK : OK = false := by rw [HOK.out]; simp
    simp only [Bool.false_eq_true, if_false]
    go_wp2_with (first | (refine wpList_store_row rfl 29 (.tmp 2) (.tmp 63) rfl w.heap.size #[.int .i64 0, .int .i64 0, .string ⟨#[]⟩, .int .i64 0, .int .i64 0, .int .i64 0, .int .i64 0, .int .i64 0, .slice none 0 0, .slice none 0 0, .string ⟨#[]⟩, .int .i64 0, .string ⟨#[]⟩, .int .i64 0, .int .i64 0, .string ⟨#[]⟩, .int .i64 0, .int .i64 0, .int .i64 0, .int .i64 0, .int .i64 0, .slice none 0 0, .slice none 0 0, .string ⟨#[]⟩, .int .i64 0, .string ⟨#[]⟩] rfl rfl 29 _ HX.out (by kernel_rfl) rfl (by simp [Value.oneCell']) ?_))
    refine bodyPost_ret (results_rfdec rfl rfl (setRow_heap _ _ _ #[.int .i64 0, .int .i64 0, .string ⟨#[]⟩, .int .i64 0, .int .i64 0, .int .i64 0, .int .i64 0, .int .i64 0, .slice none 0 0, .slice none 0 0, .string ⟨#[]⟩, .int .i64 0, .string ⟨#[]⟩, .int .i64 0, .int .i64 0, .string ⟨#[]⟩, .int .i64 0, .int .i64 0, .int .i64 0, .int .i64 0, .int .i64 0, .slice none 0 0, .slice none 0 0, .string ⟨#[]⟩, .int .i64 0, .string ⟨#[]⟩] _ _ HX.out) rfl) rfl ?_
    rw [HF1.out, HF2.out, HFE.out, hOK]
    exact DecF.zero (below_setRow HB.out (Nat.le_refl _) _)
  have hOK : OK = true := by rw [HOK.out]; simp
  simp only [if_true]
  go_wp2_with (first | (refine wpList_load_row rfl 29 (.tmp 12) rfl y5.heap.size rfl 29 VA (0, 0) _ HTF.out Tryz.underlying29 rfl H26.out.iF ?_) | (refine wpList_store_row rfl 29 (.tmp 2) (.tmp 64) rfl w.heap.size VA rfl rfl 29 _ HX.out H26.out.iF (by rw [H26.out.z3]; rfl) H26.out.o3 ?_))
  refine bodyPost_ret (v := .tuple #[.agg VA, .int .i64 0]) (results_rfdec rfl rfl (setRow_heap _ _ _ VA _ _ HX.out) H26.out.z3) rfl ?_
  rw [HF1.out, HF2.out, HFE.out, hOK]
  refine ⟨Aa, na, ca, Ba, ma, ka, Ac, nc, cc, Bc, mc, kc, by simp only [if_true]; rw [HEV.out], ?_, ?_, ?_, ?_, below_setRow HB.out (Nat.le_refl _) _⟩
  · exact Row.keep HLA.out fun ad hA _ _ => setRow_other _ _ _ _ (Nat.ne_of_gt (HNA.out ad hA))
  · exact Row.keep HPA.out fun ad hA _ _ => setRow_other _ _ _ _ (Nat.ne_of_gt (HNB.out ad hA))
  · exact Row.keep HLC.out fun ad hA _ _ => setRow_other _ _ _ _ (Nat.ne_of_gt (HNC.out ad hA))
  · exact Row.keep HPC.out fun ad hA _ _ => setRow_other _ _ _ _ (Nat.ne_of_gt (HND.out ad hA))
end Go.Proofs.YtkglgboncngpbaaGreatDoor
/- The walk of the reference's SameFork. -/
namespace Go.Proofs.YtkglgboncngpbaaGreatDoor
open Go.RowKit
set_option maxRecDepth 100000 in
set_option maxHeartbeats 4000000 in
theorem sameFork_any (s : Stm) (A : Option Addr) (n c : Nat) (B : Option Addr) (m k : Nat) (t : Stm) (A2 : Option Addr) (n2 c2 : Nat) (B2 : Option Addr) (m2 k2 : Nat) (s' : Stm) (A' : Option Addr) (n' c' : Nat) (B' : Option Addr) (m' k' : Nat) (t' : Stm) (A2' : Option Addr) (n2' c2' : Nat) (B2' : Option Addr) (m2' k2' : Nat) (w : World) (b : Bool)
    (h1 : ∀ w', Below w.heap.size w w' → Calls Tryz.prog 60 #[stmV s A n c B m k, stmV s' A' n' c' B' m' k'] w' (SaysL (.bool b) w'))
    (h2 : ∀ w', Below w.heap.size w w' → Calls Tryz.prog 60 #[stmV t A2 n2 c2 B2 m2 k2, stmV t' A2' n2' c2' B2' m2' k2'] w' (SaysL (.bool true) w')) :
    Calls Tryz.prog 33 #[forkV s A n c B m k t A2 n2 c2 B2 m2 k2, forkV s' A' n' c' B' m' k' t' A2' n2' c2' B2' m2' k2'] w (SaysL (.bool b) w) := by
  have HA1 := Lib.hid h1; have HA2 := Lib.hid h2
  clear h1 h2
  obtain ⟨SA, TA, VA, eS, eT, eV, h26⟩ := two26 s A n c B m k t A2 n2 c2 B2 m2 k2
  obtain ⟨SB, TB, VB, fS, fT, fV, g26⟩ := two26 s' A' n' c' B' m' k' t' A2' n2' c2' B2' m2' k2'
  rw [eS, fS] at HA1
  rw [eT, fT] at HA2
  rw [eV, fV]
  have H26 := Lib.hid h26; have G26 := Lib.hid g26
  clear eS eT eV fS fT fV h26 g26
  have HX : Hid (((w.alloc (.cells VA 29)).alloc (.cells VB 29)).heap[w.heap.size]? = some (.cells VA 29 (0, 0))) := Lib.hid ((Below.heap_alloc _ _ _ (by simp)).trans (heap_alloc_new _ _))
  have HY : Hid (((w.alloc (.cells VA 29)).alloc (.cells VB 29)).heap[w.heap.size + 1]? = some (.cells VB 29 (0, 0))) := Lib.hid (heap_alloc2_new _ _ _)
  have HB : Hid (Below w.heap.size w ((w.alloc (.cells VA 29)).alloc (.cells VB 29))) := Lib.hid ((one_new w _).trans ((one_new _ _).mono (by simp)))
  have HZ : Hid (w.heap.size + 1 < ((w.alloc (.cells VA 29)).alloc (.cells VB 29)).heap.size) := Lib.hid (by simp)
  go_enter Tryz.func33, Tryz.ntmps33
  go_wp2_with (first | (refine wpList_load_part rfl 27 (.tmp 5) rfl w.heap.size 0 rfl 29 VA SA (0, 0) _ HX.out Tryz.underlying27 rfl H26.out.iS (fun j hj => by have h := H26.out.c0 j (by rw [H26.out.z1] at hj; exact hj); first | exact h | (rw [Nat.zero_add]; exact h)) ?_) | (refine wpList_load_part rfl 27 (.tmp 7) rfl (w.heap.size + 1) 0 rfl 29 VB SB (0, 0) _ HY.out Tryz.underlying27 rfl G26.out.iS (fun j hj => by have h := G26.out.c0 j (by rw [G26.out.z1] at hj; exact hj); first | exact h | (rw [Nat.zero_add]; exact h)) ?_))
  refine (HA1.out _ HB.out).mono ?_
  rintro e w1 ⟨rfl, hb⟩
  replace HX := Lib.hid ((hb.block _ (by have := HZ.out; omega)).trans HX.out); replace HY := Lib.hid ((hb.block _ HZ.out).trans HY.out); replace HB := Lib.hid (HB.out.trans (hb.mono HB.out.size)); clear hb HZ
  cases b
  · go_wp2_with fail
    go_ret
    exact ⟨rfl, HB.out⟩
  go_wp2_with (first | (refine wpList_load_partG rfl 27 (.tmp 11) rfl w.heap.size 13 rfl 29 VA TA (0, 0) _ HX.out Tryz.underlying27 rfl H26.out.iT (fun j hj => by have h := H26.out.c1 j (by rw [H26.out.z2] at hj; exact hj); first | exact h | (rw [Nat.zero_add]; exact h)) ?_) | (refine wpList_load_partG rfl 27 (.tmp 13) rfl (w.heap.size + 1) 13 rfl 29 VB TB (0, 0) _ HY.out Tryz.underlying27 rfl G26.out.iT (fun j hj => by have h := G26.out.c1 j (by rw [G26.out.z2] at hj; exact hj); first | exact h | (rw [Nat.zero_add]; exact h)) ?_))
  refine (HA2.out _ HB.out).mono ?_
  rintro e w2 ⟨rfl, hb⟩
  replace HB := Lib.hid (HB.out.trans (hb.mono HB.out.size)); clear hb
  go_wp2_with fail
  go_ret
  exact ⟨rfl, HB.out⟩
end Go.Proofs.YtkglgboncngpbaaGreatDoor
/- The walks of the comparisons of lists. -/
namespace Go.Proofs.YtkglgboncngpbaaGreatDoor
open Go.RowKit
def sameIB (l m : List Int) : Bool := decide (l.length = m.length) && (List.range l.length).all fun i => l.getD i 0 == m.getD i 0
def pinEq (p q : PinD) : Bool := decide (p.author = q.author) && decide (p.height = q.height) && decide (p.digest = q.digest)
def samePB (l m : List PinD) : Bool := decide (l.length = m.length) && (List.range l.length).all fun i => pinEq (l.getD i noPin) (m.getD i noPin)
theorem sameIB_self (l : List Int) : sameIB l l = true := by simp [sameIB]
theorem samePB_self (l : List PinD) : samePB l l = true := by simp [samePB, pinEq]
theorem IRow.cell' {w : World} {A : Option Addr} {n c : Nat} {l : List Int} (h : IRow w A n c l) (k : Nat) (hk : k < n) : ∃ b off, A = some ⟨b, off, none⟩ ∧ w.cell? ⟨b, off + k, none⟩ = some (.int .i64 (l.getD k 0)) := by
  obtain ⟨b, off, hA, hc⟩ := Row.form h (by omega)
  have hl := h.len
  have := hc k (by omega)
  rw [intsV_get _ _ (by omega)] at this
  exact ⟨b, off, hA, this⟩
set_option maxHeartbeats 1000000 in
theorem sameInts_any (A : Option Addr) (n c : Nat) (l : List Int) (B : Option Addr) (m k : Nat) (l2 : List Int) (w : World) (h1 : IRow w A n c l) (h2 : IRow w B m k l2) (hn : n ≤ 1000000) :
    Calls Tryz.prog 17 #[.slice A n c, .slice B m k] w (SaysL (.bool (sameIB l l2)) w) := by
  have H1 := Lib.hid h1; have H2 := Lib.hid h2
  have HS : Hid (sameIB l l2 = (decide (n = m) && (List.range n).all fun i => l.getD i 0 == l2.getD i 0)) := by unfold Hid sameIB; rw [h1.len, h2.len]
  clear h1 h2
  generalize sameIB l l2 = R at HS ⊢
  go_enter Tryz.func17, Tryz.ntmps17
  by_cases hm : n = m
  · subst hm
    have HS2 : Hid (R = (List.range n).all fun i => l.getD i 0 == l2.getD i 0) := by unfold Hid; rw [HS.out]; simp
    clear HS
    go_wp2_with fail
    go_loopw [5] (fun i wr => ∃ j : Nat, j ≤ n ∧ i = .int .i64 j ∧ Hid (((List.range j).all fun i => l.getD i 0 == l2.getD i 0) = true ∧ Below w.heap.size w wr)) (fun i _ => n - (intOf i).toNat)
    case atStart => exact ⟨0, Nat.zero_le _, rfl, Lib.hid ⟨rfl, Below.refl _ _⟩⟩
    case round =>
      obtain ⟨j, hj, rfl, HQ⟩ := hrel
      by_cases hlt : j < n
      · obtain ⟨b1, o1, hA, hc1⟩ := (H1.out.later HQ.out.2).cell' j hlt
        obtain ⟨b2, o2, hB, hc2⟩ := (H2.out.later HQ.out.2).cell' j hlt
        subst hA; subst hB
        have NO : Hid ((l.getD j 0 == l2.getD j 0) = false → R = false) := Lib.hid fun h => by rw [HS2.out]; exact all_no hlt h
        have YES : Hid ((l.getD j 0 == l2.getD j 0) = true → ((List.range (j + 1)).all fun i => l.getD i 0 == l2.getD i 0) = true) := Lib.hid fun h => all_more HQ.out.1 h
        generalize l.getD j 0 = x at hc1 NO YES
        generalize l2.getD j 0 = y at hc2 NO YES
        have HB := Lib.hid HQ.out.2; clear HQ
        cases g : (x == y)
        · have g2 : (x != y) = true := by simp only [bne, g]; rfl
          have HR := Lib.hid (NO.out g)
          go_wp2_with fail
          go_quiet (fail)
          go_wp2
          go_ret
          exact ⟨by rw [HR.out]; rfl, below_nq HB.out _⟩
        · have g2 : (x != y) = false := by simp only [bne, g]; rfl
          have HY := Lib.hid (YES.out g)
          go_wp2_with fail
          go_quiet (fail)
          go_wp2
          exact ⟨⟨j + 1, hlt, by go_num, Lib.hid ⟨HY.out, below_nq HB.out _⟩⟩, by simp [intOf]; omega⟩
      · have HE : Hid (j = n) := by unfold Hid; omega
        go_wp2
        go_ret
        exact ⟨by rw [HS2.out, ← HE.out, HQ.out.1]; rfl, HQ.out.2⟩
  · have HV : Hid (R = false) := by unfold Hid; rw [HS.out]; simp [hm]
    have g : ((n : Int) != m) = true := by simp; omega
    go_wp2
    go_ret
    exact ⟨by rw [HV.out]; rfl, Below.refl _ _⟩
set_option maxHeartbeats 2000000 in
theorem samePins_any (A : Option Addr) (n c : Nat) (l : List PinD) (B : Option Addr) (m k : Nat) (l2 : List PinD) (w : World) (h1 : PRow w A n c l) (h2 : PRow w B m k l2) (hn : n ≤ 1000000) :
    Calls Tryz.prog 89 #[.slice A n c, .slice B m k] w (SaysL (.bool (samePB l l2)) w) := by
  have H1 := Lib.hid h1; have H2 := Lib.hid h2
  have HS : Hid (samePB l l2 = (decide (n = m) && (List.range n).all fun i => pinEq (l.getD i noPin) (l2.getD i noPin))) := by unfold Hid samePB; rw [h1.len, h2.len]
  clear h1 h2
  generalize samePB l l2 = R at HS ⊢
  go_enter Tryz.func89, Tryz.ntmps89
  by_cases hm : n = m
  · subst hm
    have HS2 : Hid (R = (List.range n).all fun i => pinEq (l.getD i noPin) (l2.getD i noPin)) := by unfold Hid; rw [HS.out]; simp
    clear HS
    go_wp2_with fail
    go_loopw [5] (fun i wr => ∃ j : Nat, j ≤ n ∧ i = .int .i64 j ∧ Hid (((List.range j).all fun i => pinEq (l.getD i noPin) (l2.getD i noPin)) = true ∧ Below w.heap.size w wr)) (fun i _ => n - (intOf i).toNat)
    case atStart => exact ⟨0, Nat.zero_le _, rfl, Lib.hid ⟨rfl, Below.refl _ _⟩⟩
    case round =>
      obtain ⟨j, hj, rfl, HQ⟩ := hrel
      by_cases hlt : j < n
      · obtain ⟨b1, o1, hA, hc0, hc1, hc2⟩ := (H1.out.later HQ.out.2).cells j hlt
        obtain ⟨b2, o2, hB, hd0, hd1, hd2⟩ := (H2.out.later HQ.out.2).cells j hlt
        subst hA; subst hB
        have NO : Hid (pinEq (l.getD j noPin) (l2.getD j noPin) = false → R = false) := Lib.hid fun h => by rw [HS2.out]; exact all_no hlt h
        have YES : Hid (pinEq (l.getD j noPin) (l2.getD j noPin) = true → ((List.range (j + 1)).all fun i => pinEq (l.getD i noPin) (l2.getD i noPin)) = true) := Lib.hid fun h => all_more HQ.out.1 h
        generalize l.getD j noPin = x at hc0 hc1 hc2 NO YES
        generalize l2.getD j noPin = y at hd0 hd1 hd2 NO YES
        have HB := Lib.hid HQ.out.2; clear HQ
        obtain ⟨xa, xh, xd⟩ := x
        obtain ⟨ya, yh, yd⟩ := y
        simp only at hc0 hc1 hc2 hd0 hd1 hd2 NO YES
        by_cases e0 : xa = ya
        · by_cases e1 : xh = yh
          · by_cases e2 : xd.toList = yd.toList
            · have HY := Lib.hid (YES.out (by unfold pinEq; simp [e0, e1, (toList_iff _ _).1 e2]))
              go_wp2_with fail
              go_quiet (fail)
              go_wp2
              exact ⟨⟨j + 1, hlt, by go_num, Lib.hid ⟨HY.out, below_nq HB.out _⟩⟩, by simp [intOf]; omega⟩
            · have e3 : ¬ xd = yd := fun h => e2 ((toList_iff _ _).2 h)
              have HR := Lib.hid (NO.out (by unfold pinEq; simp [e3]))
              go_wp2_with fail
              go_quiet (fail)
              go_wp2
              go_ret
              exact ⟨by rw [HR.out]; rfl, below_nq HB.out _⟩
          · have HR := Lib.hid (NO.out (by unfold pinEq; simp [e1]))
            go_wp2_with fail
            go_quiet (fail)
            go_wp2
            go_ret
            exact ⟨by rw [HR.out]; rfl, below_nq HB.out _⟩
        · have HR := Lib.hid (NO.out (by unfold pinEq; simp [e0]))
          go_wp2_with fail
          go_quiet (fail)
          go_wp2
          go_ret
          exact ⟨by rw [HR.out]; rfl, below_nq HB.out _⟩
      · have HE : Hid (j = n) := by unfold Hid; omega
        go_wp2
        go_ret
        exact ⟨by rw [HS2.out, ← HE.out, HQ.out.1]; rfl, HQ.out.2⟩
  · have HV : Hid (R = false) := by unfold Hid; rw [HS.out]; simp [hm]
    have g : ((n : Int) != m) = true := by simp; omega
    go_wp2
    go_ret
    exact ⟨by rw [HV.out]; rfl, Below.refl _ _⟩
end Go.Proofs.YtkglgboncngpbaaGreatDoor
/- The walks of Same, of the program and of the reference. -/
namespace Go.Proofs.YtkglgboncngpbaaGreatDoor
open Go.RowKit
def sameS (s t : Stm) : Bool :=
  (s.author == t.author) && (s.number == t.number) && (s.prev.toList == t.prev.toList) && (s.time == t.time) && (s.kind == t.kind) && (s.a == t.a) && (s.b == t.b) && (s.c == t.c) && sameIB s.list t.list && samePB s.pins t.pins && (s.body.toList == t.body.toList) && (decide (s.key = t.key) && decide (s.dig = t.dig))
theorem sameS_self (s : Stm) : sameS s s = true := by simp [sameS, sameIB_self, samePB_self]
end Go.Proofs.YtkglgboncngpbaaGreatDoor
