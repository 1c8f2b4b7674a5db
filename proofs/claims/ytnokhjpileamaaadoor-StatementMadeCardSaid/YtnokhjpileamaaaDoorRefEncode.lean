/- The walk of the reference's Encode. -/
import Derived.Test.YtnokhjpileamaaaDoorRefSeal
import Derived.Test.YtnokhjpileamaaaDoorRefCheck
import Derived.Test.YtnokhjpileamaaaDoorEncode
namespace Go.Proofs.YtnokhjpileamaaaDoor
open Go.RowKit
set_option maxRecDepth 100000 in
set_option maxHeartbeats 800000 in
theorem refEncode_any (s : Stm) (A : Option Addr) (n c : Nat) (B : Option Addr) (m k : Nat) (w : World) (hl : IRow w A n c s.list) (hp : PRow w B m k s.pins) (hs : Small s) :
    Calls Tryd.prog 19 #[stmV s A n c B m k] w (EncS w s) := by
  have hn : n ≤ 1000 := by rw [← hl.len]; exact hs.list
  have hm : m ≤ 1000 := by rw [← hp.len]; exact hs.pins
  have H1 : Hid (∀ w', Below w.heap.size w w' → Calls Tryd.prog 28 #[stmV s A n c B m k] w' (SaysL (.int .i64 (checkV s)) w')) := Lib.hid fun w' h => refCheck_any s A n c B m k w' (hl.later h) (hp.later h) (by omega) (by omega) (by have := hs.body; omega)
  have H2 : Hid (∀ w', Below w.heap.size w w' → Calls Tryd.prog 32 #[stmV s A n c B m k] w' (SaysL (.bool (sealedB s)) w')) := Lib.hid fun w' h => refSealed_any s A n c B m k w' (hl.later h) (hp.later h) hs
  have H3 : Hid (∀ w', Below w.heap.size w w' → Calls Tryd.prog 30 #[stmV s A n c B m k] w' (GivesB w' (bodyB s))) := Lib.hid fun w' h => refBytes_any s A n c B m k w' (hl.later h) (hp.later h) hs
  have HE : Hid (encE s = if checkV s = 0 then (if sealedB s = true then 0 else 6) else checkV s) := Lib.hid rfl
  have HB : Hid (encB s = if checkV s = 0 then (if sealedB s = true then bodyB s ++ (listB [s.key] ++ textB s.dig.data.toList) else []) else []) := Lib.hid rfl
  have hdig := hs.dig; have hlen := body_len hs
  clear hl hp hs
  unfold EncS
  generalize encE s = E at HE ⊢
  generalize encB s = EB at HB ⊢
  generalize checkV s = cv at HE HB H1
  generalize sealedB s = sv at HE HB H2
  generalize bodyB s = R at HB H3 hlen
  obtain ⟨author, number, prev, time, kind, a, b, cc, list, pins, body, key, dig⟩ := s
  unfold stmV at *
  simp only at hdig HB
  go_enter Tryd.func19, Tryd.ntmps19
  go_wp2_with fail
  refine (H1.out _ (one_new _ _)).mono ?_
  rintro e w1 ⟨rfl, hb⟩
  have HB1 := Lib.hid ((one_new w _).trans (hb.mono (by simp))); have HX1 := Lib.hid ((hb.block w.heap.size (by simp)).trans (heap_alloc_new w (.cells #[.int .i64 author, .int .i64 number, .string prev, .int .i64 time, .int .i64 kind, .int .i64 a, .int .i64 b, .int .i64 cc, .slice A n c, .slice B m k, .string body, .int .i64 key, .string dig] 27))); have HZ1 : Hid (w.heap.size < w1.heap.size) := Lib.hid (by have := hb.size; simp at this; omega)
  clear hb
  by_cases h0 : cv = 0
  · subst h0
    obtain ⟨hc0, hc1, hc2, hc3, hc4, hc5, hc6, hc7, hc8, hc9, hc10, hc11, hc12⟩ := stm_cells (s := ⟨author, number, prev, time, kind, a, b, cc, list, pins, body, key, dig⟩) HX1.out
    go_wp2_with fail
    refine (H2.out _ HB1.out).mono ?_
    rintro e w2 ⟨rfl, hb⟩
    have HB2 := Lib.hid (HB1.out.trans (hb.mono HB1.out.size)); have HX2 := Lib.hid ((hb.block w.heap.size HZ1.out).trans HX1.out); have HZ2 : Hid (w.heap.size < w2.heap.size) := Lib.hid (Nat.lt_of_lt_of_le HZ1.out hb.size)
    clear hb hc0 hc1 hc2 hc3 hc4 hc5 hc6 hc7 hc8 hc9 hc10 hc11 hc12 HB1 HX1 HZ1
    cases g2 : sv
    · go_wp2
      go_ret2
      exact ⟨none, 0, 0, by rw [HE.out, g2]; rfl, by rw [HB.out, g2]; exact Row.nilRow _ _, HB2.out⟩
    have HE2 : Hid (E = 0) := by unfold Hid; rw [HE.out, g2]; rfl
    have HEB : Hid (EB = R ++ be8 key ++ textB dig.data.toList) := by unfold Hid; rw [HB.out, g2]; simp [listB]
    clear HE HB
    go_wp2_with fail
    refine wp_region_grow (by kernel_rfl) Later Later.refl (fun _ _ _ => Later.trans) [10, 11] [([0, 2, 3, 4, 6, 7, 8], 1), ([], 5), ([], 9)] (by kernel_rfl) (by kernel_rfl) (by kernel_rfl) ?_
    simp only [List.map_cons, List.map_nil, pick, List.getD_cons_zero, List.getD_cons_succ]
    have HB3 := Lib.hid HB2.out.drew; have HX3 : Hid (w2.drew.heap[w.heap.size]? = _) := HX2; have HZ3 : Hid (w.heap.size < w2.drew.heap.size) := HZ2
    clear HB2 HX2 HZ2
    generalize w2.drew = w3 at HB3 HX3 HZ3 ⊢
    obtain ⟨hf0, hf1, hf2, hf3, hf4, hf5, hf6, hf7, hf8, hf9, hf10, hf11, hf12⟩ := stm_futs (F := Later) Later.refl (s := ⟨author, number, prev, time, kind, a, b, cc, list, pins, body, key, dig⟩) (W := w3) (fun w' h => h.block _ HZ3.out) HX3.out
    refine wpGrow_cons ?_
    repeat (go_big_quiet_step (fail))
    refine wpQuiet_nil ?_
    clear hf0 hf1 hf2 hf3 hf4 hf5 hf6 hf7 hf8 hf9 hf10 hf11 hf12
    go_wp2_with fail
    refine (H3.out w3 HB3.out).mono ?_
    rintro e w4 ⟨A4, m4, c4, rfl, hm4, hr, -, hb⟩
    have HR4 := Lib.hid hr; have HB4 := Lib.hid (HB3.out.trans (hb.mono HB3.out.size)); have HF : Hid (Later w3 w4) := Lib.hid hb
    clear hr hb HB3 HX3 HZ3
    have hm4' : m4 ≤ 2000000 := by rw [hm4]; exact hlen
    have HM4 : Hid (R.length = m4) := Lib.hid hm4.symm
    clear hm4
    go_wp2_with fail
    refine pieceEnd_normal ⟨HF.out, ?_⟩
    clear HF
    refine wpGrow_cons ?_
    refine wpQuiet_nil ?_
    go_wp2_with fail
    refine (refInt_any A4 m4 c4 R key w4 HR4.out (by omega)).mono ?_
    rintro e w5 ⟨A5, m5, c5, rfl, hm5, hr, -, hb⟩
    have HR5 := Lib.hid hr; have HB5 := Lib.hid (HB4.out.trans (hb.mono HB4.out.size)); have HF : Hid (Later w4 w5) := Lib.hid hb
    clear hr hb HB4 HR4
    have hm5' : m5 ≤ 2000008 := by rw [hm5, List.length_append, be8_len, HM4.out]; omega
    clear hm5
    go_wp2_with fail
    refine pieceEnd_normal ⟨HF.out, ?_⟩
    clear HF
    refine wpGrow_cons ?_
    refine wpQuiet_nil ?_
    go_wp2_with fail
    refine (refText_any A5 m5 c5 _ dig w5 HR5.out (by omega) (by omega)).mono ?_
    rintro e w6 ⟨A6, m6, c6, rfl, -, hr, -, hb⟩
    have HR6 := Lib.hid hr; have HB6 := Lib.hid (HB5.out.trans (hb.mono HB5.out.size)); have HF : Hid (Later w5 w6) := Lib.hid hb
    clear hr hb HB5 HR5
    go_wp2_with fail
    refine pieceEnd_normal ⟨HF.out, ?_⟩
    clear HF
    refine wpGrow_nil ?_
    repeat (go_big_quiet_step (fail))
    refine wpQuiet_nil ?_
    go_wp2
    go_ret2
    exact ⟨A6, m6, c6, by rw [HE2.out]; rfl, by rw [HEB.out]; exact HR6.out, HB6.out⟩
  · have g1 : (cv == 0) = false := by simpa using h0
    go_wp2
    go_ret2
    exact ⟨none, 0, 0, by rw [HE.out, if_neg h0]; rfl, by rw [HB.out, if_neg h0]; exact Row.nilRow _ _, HB1.out⟩
end Go.Proofs.YtnokhjpileamaaaDoor
