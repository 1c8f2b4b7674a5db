import Derived.Test.YtdildmfjekdlgaaPackAP
import Derived.Test.YtdildmfjekdlgaaPackAB
import Derived.Lib.Bytealg
import Derived.Lib.Small
import Derived.Test.YtdildmfjekdlgaaGWithP
/- The reference's policy and Check. -/
namespace Go.Proofs.Ytdildmfjekdlgaa
open Go.RowKit
set_option maxRecDepth 100000 in
set_option maxHeartbeats 4000000 in
theorem refPol_any (G : Gr) (gv : Value) (p : Pol) (v : Value) (w : World) (hg : GHold w G gv) (h : PHold w p v) (hs : p.sd.length ≤ 100000) (ht : p.tb.length ≤ 100000) : Calls Try.prog 44 #[gv, v] w (SaysL (.bool (polB G.sz p)) w) := by
  obtain ⟨A9, n9, c9, B9, m9, k9, rfl, g1, g2⟩ := hg
  obtain ⟨A, n, c, B, m, k, rfl, h1, h2⟩ := h
  have HN := Lib.hid ((one_new w (.cells #[.int .i64 G.sz, .slice A9 n9 c9, .slice B9 m9 k9] 31)).trans ((one_new (w.alloc (.cells #[.int .i64 G.sz, .slice A9 n9 c9, .slice B9 m9 k9] 31)) (.cells #[.slice A n c, .slice B m k, .int .i64 p.lv] 24)).mono (by simp)))
  have HG : Hid (((w.alloc (.cells #[.int .i64 G.sz, .slice A9 n9 c9, .slice B9 m9 k9] 31)).alloc (.cells #[.slice A n c, .slice B m k, .int .i64 p.lv] 24)).heap[w.heap.size]? = some (.cells #[.int .i64 G.sz, .slice A9 n9 c9, .slice B9 m9 k9] 31 (0, 0))) := Lib.hid ((Below.heap_alloc _ _ _ (by simp)).trans (heap_alloc_new _ _))
  have HX : Hid (((w.alloc (.cells #[.int .i64 G.sz, .slice A9 n9 c9, .slice B9 m9 k9] 31)).alloc (.cells #[.slice A n c, .slice B m k, .int .i64 p.lv] 24)).heap[w.heap.size + 1]? = some (.cells #[.slice A n c, .slice B m k, .int .i64 p.lv] 24 (0, 0))) := Lib.hid (heap_alloc2_new _ _ _)
  have H1 := Lib.hid h1; have H2 := Lib.hid h2
  have hn : n ≤ 100000 := by rw [← h1.len]; exact hs
  have hm : m ≤ 100000 := by rw [← h2.len]; exact ht
  have hl1 := h1.len; have hl2 := h2.len
  have HPH : Hid (polHead G.sz p = (!decide (n = 0) && (setB p.sd G.sz && (decide (1 ≤ m) && (decide (m ≤ 8) && (decide (1 ≤ p.lv) && decide (p.lv ≤ 3))))))) := Lib.hid (by unfold polHead; rw [hl1, hl2])
  have HPB : Hid (polB G.sz p = (polHead G.sz p && tabB p.tb)) := Lib.hid rfl
  have HOK : Hid (∀ i, okT p.tb i = (decide (1 ≤ p.tb.getD i 0) && (decide (p.tb.getD i 0 ≤ 1000) && (decide (i = 0) || decide (p.tb.getD i 0 ≤ p.tb.getD (i - 1) 0))))) := Lib.hid fun _ => rfl
  have HTN : Hid (∀ i, i < m → okT p.tb i = false → tabB p.tb = false) := Lib.hid fun i hi h => tabB_no (by rw [hl2]; exact hi) h
  have HTY : Hid ((∀ i, i < m → okT p.tb i = true) → tabB p.tb = true) := Lib.hid fun h => tabB_yes fun i hi => h i (by rw [← hl2]; exact hi)
  generalize polB G.sz p = PBV at *
  generalize polHead G.sz p = PHV at *
  clear g1 g2 h1 h2 hs ht hl1 hl2
  go_enter Try.func44, Try.ntmps44
  go_upto_region 1 with fail
  generalize ((w.alloc (.cells #[.int .i64 G.sz, .slice A9 n9 c9, .slice B9 m9 k9] 31)).alloc (.cells #[.slice A n c, .slice B m k, .int .i64 p.lv] 24)) = y0 at *
  obtain ⟨gb, hgb⟩ : ∃ gb, w.heap.size = gb := ⟨_, rfl⟩
  obtain ⟨pb, hpb⟩ : ∃ pb, gb + 1 = pb := ⟨_, rfl⟩
  rw [hgb] at HX HG ⊢
  rw [hpb] at HX ⊢
  have HPS : Hid (pb < y0.heap.size ∧ gb < y0.heap.size) := Lib.hid ⟨(Array.getElem?_eq_some_iff.1 HX.out).1, (Array.getElem?_eq_some_iff.1 HG.out).1⟩
  clear hgb hpb
  have hz0 : y0.cell? ⟨gb, 0, none⟩ = some (.int .i64 G.sz) := (cell_of_row _ _ 0 _ _ _ HG.out).trans rfl
  have hc0 : y0.cell? ⟨pb, 0, none⟩ = some (.slice A n c) := (cell_of_row _ _ 0 _ _ _ HX.out).trans rfl
  have hc1 : y0.cell? ⟨pb, 1, none⟩ = some (.slice B m k) := (cell_of_row _ _ 1 _ _ _ HX.out).trans rfl
  have hc2 : y0.cell? ⟨pb, 2, none⟩ = some (.int .i64 p.lv) := (cell_of_row _ _ 2 _ _ _ HX.out).trans rfl
  by_cases c0 : n = 0
  · have d0 : ((n : Int) == 0) = true := by rw [c0]; rfl
    have d0' : decide ((n : Int) = 0) = true := decide_eq_true (by omega)
    have d0n : decide (n = 0) = true := decide_eq_true c0
    have HE : Hid (PBV = false) := Lib.hid (by rw [HPB.out, HPH.out, decide_eq_true c0, Bool.not_true, Bool.false_and, Bool.false_and])
    go_wp2_with fail
    go_ret
    exact ⟨by rw [HE.out]; rfl, HN.out⟩
  · have d0 : ((n : Int) == 0) = false := by rw [beq_eq_false_iff_ne]; omega
    have d0' : decide ((n : Int) = 0) = false := decide_eq_false (by omega)
    have d0n : decide (n = 0) = false := decide_eq_false c0
    have HSET := Lib.hid (set_any11 A n c p.sd G.sz y0 (H1.out.later HN.out) hn)
    rw [decide_eq_false c0, Bool.not_false, Bool.true_and] at HPH
    clear c0
    go_wp2_with fail
    refine HSET.out.mono ?_
    rintro e w1 ⟨rfl, hb⟩
    have HW1 := Lib.hid (HN.out.trans (hb.mono HN.out.size))
    replace HX : Hid (w1.heap[pb]? = some (.cells #[.slice A n c, .slice B m k, .int .i64 p.lv] 24 (0, 0))) := Lib.hid ((hb.block _ HPS.out.1).trans HX.out)
    replace HG : Hid (w1.heap[gb]? = some (.cells #[.int .i64 G.sz, .slice A9 n9 c9, .slice B9 m9 k9] 31 (0, 0))) := Lib.hid ((hb.block _ HPS.out.2).trans HG.out)
    clear hb HSET hc0 hc1 hc2 hz0 HPS HN
    have hz9 : w1.cell? ⟨gb, 0, none⟩ = some (.int .i64 G.sz) := (cell_of_row _ _ 0 _ _ _ HG.out).trans rfl
    have hc0 : w1.cell? ⟨pb, 0, none⟩ = some (.slice A n c) := (cell_of_row _ _ 0 _ _ _ HX.out).trans rfl
    have hc1 : w1.cell? ⟨pb, 1, none⟩ = some (.slice B m k) := (cell_of_row _ _ 1 _ _ _ HX.out).trans rfl
    have hc2 : w1.cell? ⟨pb, 2, none⟩ = some (.int .i64 p.lv) := (cell_of_row _ _ 2 _ _ _ HX.out).trans rfl
    clear hz9 hc0
    generalize setB p.sd G.sz = bs at *
    cases bs
    · rw [Bool.false_and] at HPH
      have HE : Hid (PBV = false) := Lib.hid (by rw [HPB.out, HPH.out, Bool.false_and])
      go_wp2_with fail
      go_ret
      exact ⟨by rw [HE.out]; rfl, HW1.out⟩
    · rw [Bool.true_and] at HPH
      by_cases c1 : 1 ≤ m
      · have d1 : decide ((m : Int) < 1) = false := decide_eq_false (by omega)
        have d1n : decide (m < 1) = false := decide_eq_false (by omega)
        rw [decide_eq_true c1, Bool.true_and] at HPH
        by_cases c2 : m ≤ 8
        · have d2 : decide ((m : Int) > 8) = false := decide_eq_false (by omega)
          have d2' : decide ((8 : Int) < (m : Int)) = false := d2
          have d2n : decide (8 < m) = false := decide_eq_false (by omega)
          rw [decide_eq_true c2, Bool.true_and] at HPH
          by_cases c3 : 1 ≤ p.lv
          · have d3 : decide (p.lv < 1) = false := decide_eq_false (by omega)
            rw [decide_eq_true c3, Bool.true_and] at HPH
            by_cases c4 : p.lv ≤ 3
            · have d4 : decide (p.lv > 3) = false := decide_eq_false (by omega)
              have d4' : decide (3 < p.lv) = false := d4
              rw [decide_eq_true c4] at HPH
              clear c1 c3 c4
              have hm8 : m ≤ 8 := c2
              clear c2
              go_upto_region 3 with fail
              clear d0 d0' d0n d1 d1n d2 d2' d2n d3 d4 d4' hc1 hc2
              go_wp2_with fail
              go_loopw [5] (fun i wr => ∃ j : Nat, j ≤ m ∧ i = .int .i64 j ∧ Hid ((∀ q, q < j → okT p.tb q = true) ∧ Below w1.heap.size w1 wr)) (fun i _ => m - (intOf i).toNat)
              case atStart => exact ⟨0, Nat.zero_le _, rfl, Lib.hid ⟨fun q h => absurd h (Nat.not_lt_zero _), Below.refl _ _⟩⟩
              case round =>
                obtain ⟨j, hj, rfl, HQ⟩ := hrel
                have HXr : Hid (wr.heap[pb]? = some (.cells #[.slice A n c, .slice B m k, .int .i64 p.lv] 24 (0, 0))) := Lib.hid ((HQ.out.2.block _ (Array.getElem?_eq_some_iff.1 HX.out).1).trans HX.out)
                have hc1 : wr.cell? ⟨pb, 1, none⟩ = some (.slice B m k) := (cell_of_row _ _ 1 _ _ _ HXr.out).trans rfl
                by_cases hlt : j < m
                · have hlt2 : (j : Int) < (m : Int) := by omega
                  obtain ⟨bo, oo, hA, -⟩ := IRow.cell (H2.out.later (HW1.out.trans (HQ.out.2.mono HW1.out.size))) j hlt
                  subst hA
                  go_upto_region 6 with fail
                  clear hc1
                  refine wp_region_grow (by kernel_rfl) Later Later.refl (fun _ _ _ => Later.trans) [0, 1, 2, 3, 4, 5, 6, 7, 8, 9, 10, 11, 12, 13, 14, 15, 16, 17, 18, 19, 20, 21, 22, 23, 24, 25, 26, 27, 28, 29, 30, 31] [] (by kernel_rfl) (by kernel_rfl) (by kernel_rfl) ?_
                  simp only [List.map_cons, List.map_nil, pick, List.getD_cons_zero, List.getD_cons_succ]
                  have HBr : Hid (Below w.heap.size w wr.drew) := Lib.hid (HW1.out.trans ((HQ.out.2.drew).mono HW1.out.size))
                  have HQ2 : Hid (Below w1.heap.size w1 wr.drew) := Lib.hid HQ.out.2.drew
                  have HK := Lib.hid HQ.out.1
                  have HXz : Hid (wr.drew.heap[pb]? = some (.cells #[.slice A n c, .slice (some ⟨bo, oo, none⟩) m k, .int .i64 p.lv] 24 (0, 0))) := Lib.hid HXr.out
                  have HL7 : Hid (IRow wr.drew (some ⟨bo, oo, none⟩) m k p.tb) := Lib.hid (H2.out.later (HBr.out))
                  clear HQ HXr
                  generalize wr.drew = z0 at *
                  have hfb : ∀ x, (fut Later z0 x).cell? ⟨pb, 1, none⟩ = some (.slice (some ⟨bo, oo, none⟩) m k) := fun x => (cell_of_row _ _ 1 _ _ _ (((fut_ok Later.refl z0 x).block pb (Array.getElem?_eq_some_iff.1 HXz.out).1).trans HXz.out)).trans rfl
                  have hfx := irow_fut HL7.out j hlt
                  have HOKj := Lib.hid (HOK.out j)
                  rcases Nat.eq_zero_or_pos j with h0 | h0
                  · have e0 : decide ((j : Int) > 0) = false := decide_eq_false (by omega)
                    have e0' : decide ((0 : Int) < (j : Int)) = false := e0
                    have e0n : decide (0 < j) = false := decide_eq_false (by omega)
                    rw [decide_eq_true h0, Bool.true_or, Bool.and_true] at HOKj
                    clear h0
                    generalize p.tb.getD j 0 = x at *
                    by_cases a1 : 1 ≤ x
                    · have f1 : decide (x < 1) = false := decide_eq_false (by omega)
                      by_cases a2 : x ≤ 1000
                      · have f2 : decide (x > 1000) = false := decide_eq_false (by omega)
                        have f2' : decide (1000 < x) = false := f2
                        rw [decide_eq_true a1, decide_eq_true a2, Bool.true_and] at HOKj
                        clear a1 a2
                        have HOKJ : Hid (okT p.tb j = true) := Lib.hid HOKj.out
                        refine wpGrow_nil ?_
                        repeat (go_big_quiet_step (fail))
                        refine wpQuiet_nil ?_
                        clear hfb hfx
                        go_wp2_with fail
                        exact ⟨⟨j + 1, hlt, by go_num, Lib.hid ⟨fun q hq => (Nat.lt_succ_iff_lt_or_eq.1 hq).elim (HK.out q) (fun e => by rw [e]; exact HOKJ.out), HQ2.out⟩⟩, by simp [intOf]; omega⟩
                      · have f2 : decide (x > 1000) = true := decide_eq_true (by omega)
                        have f2' : decide (1000 < x) = true := f2
                        have HE : Hid (PBV = false) := Lib.hid (by rw [HPB.out, HTN.out j hlt (by rw [HOKj.out, decide_eq_false a2, Bool.and_false]), Bool.and_false])
                        clear a1 a2
                        refine wpGrow_nil ?_
                        repeat (go_big_quiet_step (fail))
                        refine wpQuiet_nil ?_
                        clear hfb hfx
                        go_wp2_with fail
                        go_ret
                        exact ⟨by rw [HE.out]; rfl, HBr.out⟩
                    · have f1 : decide (x < 1) = true := decide_eq_true (by omega)
                      have HE : Hid (PBV = false) := Lib.hid (by rw [HPB.out, HTN.out j hlt (by rw [HOKj.out, decide_eq_false a1, Bool.false_and]), Bool.and_false])
                      clear a1
                      refine wpGrow_nil ?_
                      repeat (go_big_quiet_step (fail))
                      refine wpQuiet_nil ?_
                      clear hfb hfx
                      go_wp2_with fail
                      go_ret
                      exact ⟨by rw [HE.out]; rfl, HBr.out⟩
                  · obtain ⟨q, hq⟩ : ∃ q, j = q + 1 := ⟨j - 1, by omega⟩
                    have e0 : decide ((j : Int) > 0) = true := decide_eq_true (by omega)
                    have e0' : decide ((0 : Int) < (j : Int)) = true := e0
                    have e0n : decide (0 < j) = true := decide_eq_true h0
                    have e1 : (0 : Int) ≤ (j : Int) - 1 := by omega
                    have e2 : (j : Int) - 1 < (m : Int) := by omega
                    have e3 : ((j : Int) - 1).toNat = q := by omega
                    have hfy := irow_fut HL7.out q (by omega)
                    rw [decide_eq_false (show ¬ j = 0 by omega), Bool.false_or, show j - 1 = q by omega] at HOKj
                    clear h0 hq
                    generalize p.tb.getD j 0 = x at *
                    generalize p.tb.getD q 0 = y at *
                    by_cases a1 : 1 ≤ x
                    · have f1 : decide (x < 1) = false := decide_eq_false (by omega)
                      by_cases a2 : x ≤ 1000
                      · have f2 : decide (x > 1000) = false := decide_eq_false (by omega)
                        have f2' : decide (1000 < x) = false := f2
                        rw [decide_eq_true a1, decide_eq_true a2, Bool.true_and, Bool.true_and] at HOKj
                        clear a1 a2
                        by_cases a3 : x ≤ y
                        · have f3 : decide (x > y) = false := decide_eq_false (by omega)
                          have f3' : decide (y < x) = false := f3
                          rw [decide_eq_true a3] at HOKj
                          clear a3
                          have HOKJ : Hid (okT p.tb j = true) := Lib.hid HOKj.out
                          refine wpGrow_nil ?_
                          repeat (go_big_quiet_step (fail))
                          refine wpQuiet_nil ?_
                          clear hfb hfx hfy
                          go_wp2_with fail
                          exact ⟨⟨j + 1, hlt, by go_num, Lib.hid ⟨fun q hq => (Nat.lt_succ_iff_lt_or_eq.1 hq).elim (HK.out q) (fun e => by rw [e]; exact HOKJ.out), HQ2.out⟩⟩, by simp [intOf]; omega⟩
                        · have f3 : decide (x > y) = true := decide_eq_true (by omega)
                          have f3' : decide (y < x) = true := f3
                          have HE : Hid (PBV = false) := Lib.hid (by rw [HPB.out, HTN.out j hlt (by rw [HOKj.out, decide_eq_false a3]), Bool.and_false])
                          clear a3
                          refine wpGrow_nil ?_
                          repeat (go_big_quiet_step (fail))
                          refine wpQuiet_nil ?_
                          clear hfb hfx hfy
                          go_wp2_with fail
                          go_ret
                          exact ⟨by rw [HE.out]; rfl, HBr.out⟩
                      · have f2 : decide (x > 1000) = true := decide_eq_true (by omega)
                        have f2' : decide (1000 < x) = true := f2
                        have HE : Hid (PBV = false) := Lib.hid (by rw [HPB.out, HTN.out j hlt (by rw [HOKj.out, decide_eq_false a2, Bool.false_and, Bool.and_false]), Bool.and_false])
                        clear a1 a2
                        refine wpGrow_nil ?_
                        repeat (go_big_quiet_step (fail))
                        refine wpQuiet_nil ?_
                        clear hfb hfx hfy
                        go_wp2_with fail
                        go_ret
                        exact ⟨by rw [HE.out]; rfl, HBr.out⟩
                    · have f1 : decide (x < 1) = true := decide_eq_true (by omega)
                      have HE : Hid (PBV = false) := Lib.hid (by rw [HPB.out, HTN.out j hlt (by rw [HOKj.out, decide_eq_false a1, Bool.false_and]), Bool.and_false])
                      clear a1
                      refine wpGrow_nil ?_
                      repeat (go_big_quiet_step (fail))
                      refine wpQuiet_nil ?_
                      clear hfb hfx hfy
                      go_wp2_with fail
                      go_ret
                      exact ⟨by rw [HE.out]; rfl, HBr.out⟩
                · have hlt2 : ¬ (j : Int) < (m : Int) := by omega
                  have HE : Hid (PBV = true) := Lib.hid (by rw [HPB.out, HPH.out, Bool.true_and]; exact HTY.out fun i hi => HQ.out.1 i (by omega))
                  have HQ2 := Lib.hid HQ.out.2
                  clear HQ
                  go_wp2_with fail
                  go_ret
                  exact ⟨by rw [HE.out]; rfl, HW1.out.trans (HQ2.out.mono HW1.out.size)⟩
            · have d4 : decide (p.lv > 3) = true := decide_eq_true (by omega)
              have d4' : decide (3 < p.lv) = true := d4
              have HE : Hid (PBV = false) := Lib.hid (by rw [HPB.out, HPH.out, decide_eq_false c4, Bool.false_and])
              go_wp2_with fail
              go_ret
              exact ⟨by rw [HE.out]; rfl, HW1.out⟩
          · have d3 : decide (p.lv < 1) = true := decide_eq_true (by omega)
            have HE : Hid (PBV = false) := Lib.hid (by rw [HPB.out, HPH.out, decide_eq_false c3, Bool.false_and, Bool.false_and])
            go_wp2_with fail
            go_ret
            exact ⟨by rw [HE.out]; rfl, HW1.out⟩
        · have d2 : decide ((m : Int) > 8) = true := decide_eq_true (by omega)
          have d2' : decide ((8 : Int) < (m : Int)) = true := d2
          have d2n : decide (8 < m) = true := decide_eq_true (by omega)
          have HE : Hid (PBV = false) := Lib.hid (by rw [HPB.out, HPH.out, decide_eq_false c2, Bool.false_and, Bool.false_and])
          go_wp2_with fail
          go_ret
          exact ⟨by rw [HE.out]; rfl, HW1.out⟩
      · have d1 : decide ((m : Int) < 1) = true := decide_eq_true (by omega)
        have d1n : decide (m < 1) = true := decide_eq_true (by omega)
        have HE : Hid (PBV = false) := Lib.hid (by rw [HPB.out, HPH.out, decide_eq_false c1, Bool.false_and, Bool.false_and])
        go_wp2_with fail
        go_ret
        exact ⟨by rw [HE.out]; rfl, HW1.out⟩
set_option maxRecDepth 100000 in
set_option maxHeartbeats 4000000 in
theorem refChkP_any (G : Gr) (gv : Value) (p : Pol) (v : Value) (w : World) (hg : GHold w G gv) (h : PHold w p v) (he : G.es.length ≤ 100000) (hgn : G.gn.length ≤ 100000) (hs : p.sd.length ≤ 100000) (ht : p.tb.length ≤ 100000) : Calls Try.prog 26 #[gv, v] w (SaysL (.int .i64 (checkP G p)) w) := by
  have HGH := Lib.hid hg; have HPH := Lib.hid h
  obtain ⟨A9, n9, c9, B9, m9, k9, rfl, g1, g2⟩ := hg
  obtain ⟨A, n, c, B, m, k, rfl, h1, h2⟩ := h
  have HN := Lib.hid ((one_new w (.cells #[.int .i64 G.sz, .slice A9 n9 c9, .slice B9 m9 k9] 31)).trans ((one_new (w.alloc (.cells #[.int .i64 G.sz, .slice A9 n9 c9, .slice B9 m9 k9] 31)) (.cells #[.slice A n c, .slice B m k, .int .i64 p.lv] 24)).mono (by simp)))
  have HG : Hid (((w.alloc (.cells #[.int .i64 G.sz, .slice A9 n9 c9, .slice B9 m9 k9] 31)).alloc (.cells #[.slice A n c, .slice B m k, .int .i64 p.lv] 24)).heap[w.heap.size]? = some (.cells #[.int .i64 G.sz, .slice A9 n9 c9, .slice B9 m9 k9] 31 (0, 0))) := Lib.hid ((Below.heap_alloc _ _ _ (by simp)).trans (heap_alloc_new _ _))
  have HX : Hid (((w.alloc (.cells #[.int .i64 G.sz, .slice A9 n9 c9, .slice B9 m9 k9] 31)).alloc (.cells #[.slice A n c, .slice B m k, .int .i64 p.lv] 24)).heap[w.heap.size + 1]? = some (.cells #[.slice A n c, .slice B m k, .int .i64 p.lv] 24 (0, 0))) := Lib.hid (heap_alloc2_new _ _ _)
  have H1 := Lib.hid h1; have H2 := Lib.hid h2
  have HC : Hid (checkP G p = if okG G = false then 14 else if polB G.sz p = false then 15 else 0) := Lib.hid rfl
  have HCG : Hid (checkG G = if okG G then 0 else 14) := Lib.hid rfl
  have HC1 := fun y (hb : Below w.heap.size w y) => gcheck_any G (.agg #[.int .i64 G.sz, .slice A9 n9 c9, .slice B9 m9 k9]) y (HGH.out.later hb) he hgn
  have HC2 := fun y (hb : Below w.heap.size w y) => refPol_any G (.agg #[.int .i64 G.sz, .slice A9 n9 c9, .slice B9 m9 k9]) p (.agg #[.slice A n c, .slice B m k, .int .i64 p.lv]) y (HGH.out.later hb) (HPH.out.later hb) hs ht
  have HC1 := Lib.hid HC1; have HC2 := Lib.hid HC2
  generalize checkP G p = CP at *
  generalize checkG G = CG at *
  clear g1 g2 h1 h2 he hgn hs ht HGH HPH H1 H2
  go_enter Try.func26, Try.ntmps26
  go_upto_region 1 with fail
  generalize ((w.alloc (.cells #[.int .i64 G.sz, .slice A9 n9 c9, .slice B9 m9 k9] 31)).alloc (.cells #[.slice A n c, .slice B m k, .int .i64 p.lv] 24)) = y0 at *
  obtain ⟨gb, hgb⟩ : ∃ gb, w.heap.size = gb := ⟨_, rfl⟩
  obtain ⟨pb, hpb⟩ : ∃ pb, gb + 1 = pb := ⟨_, rfl⟩
  rw [hgb] at HX HG ⊢
  rw [hpb] at HX ⊢
  have HPS : Hid (pb < y0.heap.size ∧ gb < y0.heap.size) := Lib.hid ⟨(Array.getElem?_eq_some_iff.1 HX.out).1, (Array.getElem?_eq_some_iff.1 HG.out).1⟩
  clear hgb hpb
  have HCC := Lib.hid (HC1.out y0 HN.out)
  go_wp2_with (refine wpList_load_row rfl 31 (.tmp 2) rfl gb rfl 31 #[.int .i64 G.sz, .slice A9 n9 c9, .slice B9 m9 k9] (0, 0) _ HG.out Try.underlying31 rfl gr_size ?_)
  refine HCC.out.mono ?_
  rintro e w1 ⟨rfl, hb⟩
  have HW1 := Lib.hid (HN.out.trans (hb.mono HN.out.size))
  replace HX : Hid (w1.heap[pb]? = some (.cells #[.slice A n c, .slice B m k, .int .i64 p.lv] 24 (0, 0))) := Lib.hid ((hb.block _ HPS.out.1).trans HX.out)
  replace HG : Hid (w1.heap[gb]? = some (.cells #[.int .i64 G.sz, .slice A9 n9 c9, .slice B9 m9 k9] 31 (0, 0))) := Lib.hid ((hb.block _ HPS.out.2).trans HG.out)
  clear hb HCC HPS HN
  generalize okG G = bg at *
  cases bg
  · rw [if_neg (by decide)] at HCG
    rw [if_pos rfl] at HC
    rw [HCG.out]
    go_wp2_with fail
    go_ret
    exact ⟨by rw [HC.out]; rfl, HW1.out⟩
  · rw [if_pos rfl] at HCG
    rw [if_neg (by decide)] at HC
    rw [HCG.out]
    have HCC := Lib.hid (HC2.out w1 HW1.out)
    go_wp2_with (first | (refine wpList_load_row rfl 31 (.tmp 2) rfl gb rfl 31 #[.int .i64 G.sz, .slice A9 n9 c9, .slice B9 m9 k9] (0, 0) _ HG.out Try.underlying31 rfl gr_size ?_) | (refine wpList_load_row rfl 24 (.tmp 3) rfl pb rfl 24 #[.slice A n c, .slice B m k, .int .i64 p.lv] (0, 0) _ HX.out Try.underlying24 rfl po_size ?_))
    refine HCC.out.mono ?_
    rintro e w2 ⟨rfl, hb⟩
    have HW2 := Lib.hid (HW1.out.trans (hb.mono HW1.out.size))
    clear hb HCC
    generalize polB G.sz p = bp at *
    cases bp
    · rw [if_pos rfl] at HC
      go_wp2_with fail
      go_ret
      exact ⟨by rw [HC.out]; rfl, HW2.out⟩
    · rw [if_neg (by decide)] at HC
      go_wp2_with fail
      go_ret
      exact ⟨by rw [HC.out]; rfl, HW2.out⟩
end Go.Proofs.Ytdildmfjekdlgaa
/- Distances: what lies on a shortest way to a key, told by the distances to the key. Plain facts. -/
namespace Go.Proofs.Ytdildmfjekdlgaa
open Go.RowKit
/-- An edge turned round. -/
def revE (e : Edg) : Edg := ⟨e.tu, e.fr, e.lv⟩
/-- The way round by a key is not shorter. -/
theorem IsDist.round {z : Nat} {es : List Edg} {sd : Int → Bool} {key : Int} {d b : List Int} (h : IsDist z es sd d) (hb : IsDist z (es.map revE) (fun k => decide (k = key)) b) (hz : ∀ e ∈ es, InZ z e) : ∀ (n : Nat) (k : Int), 0 ≤ k → k < z → dAt b k = (n : Int) → 0 ≤ dAt d k → 0 ≤ dAt d key ∧ dAt d key ≤ dAt d k + n
  | 0, k, h0, hk, hn, hd => by
    have h1 := (hb.zero k h0 hk).1 hn
    rw [decide_eq_true_eq] at h1
    rw [← h1]
    exact ⟨hd, by simp⟩
  | n + 1, k, h0, hk, hn, hd => by
    obtain ⟨e, he, e1, e2, e3, e4⟩ := hb.step k h0 hk n (by rw [hn]; omega)
    obtain ⟨x, hx, rfl⟩ := List.mem_map.1 he
    obtain ⟨a0, a1, a2, a3⟩ := hz x hx
    have h1 := h.edge x hx a0 a1 a2 a3 (by rw [show x.fr = k from e1]; exact hd)
    rw [show x.fr = k from e1] at h1
    have h2 := IsDist.round h hb hz n x.tu a2 a3 e4 h1.1
    omega
end Go.Proofs.Ytdildmfjekdlgaa
/- Distances: a search in breadth that queues keys ascending gives distances, and the keys before make the least ways. Plain facts. -/
namespace Go.Proofs.Ytdildmfjekdlgaa
open Go.RowKit
/-- A queued key: the place in the queue of the key before it, plus one (0: a seed); the key. -/
structure Qd where
  b : Nat
  k : Int
def noQd : Qd := ⟨0, 0⟩
def qk (T : List Qd) (x : Nat) : Int := (T.getD x noQd).k
def qb (T : List Qd) (x : Nat) : Nat := (T.getD x noQd).b
def bfAt (l : List Int) (k : Int) : Int := l.getD k.toNat 0
theorem qk_lo {T : List Qd} (p : Qd) {x : Nat} (h : x < T.length) : qk (T ++ [p]) x = qk T x := by
  unfold qk; rw [List.getD_eq_getElem?_getD, List.getElem?_append_left h, ← List.getD_eq_getElem?_getD]
theorem qb_lo {T : List Qd} (p : Qd) {x : Nat} (h : x < T.length) : qb (T ++ [p]) x = qb T x := by
  unfold qb; rw [List.getD_eq_getElem?_getD, List.getElem?_append_left h, ← List.getD_eq_getElem?_getD]
theorem qk_hi (T : List Qd) (p : Qd) : qk (T ++ [p]) T.length = p.k := by
  unfold qk; rw [List.getD_eq_getElem?_getD, List.getElem?_append_right (Nat.le_refl _), Nat.sub_self]; rfl
theorem qb_hi (T : List Qd) (p : Qd) : qb (T ++ [p]) T.length = p.b := by
  unfold qb; rw [List.getD_eq_getElem?_getD, List.getElem?_append_right (Nat.le_refl _), Nat.sub_self]; rfl
theorem bfAt_set {d : List Int} {t : Int} (ht : t.toNat < d.length) (v k : Int) : bfAt (d.set t.toNat v) k = if t.toNat = k.toNat then v else bfAt d k := by
  unfold bfAt
  rw [List.getD_eq_getElem?_getD, List.getElem?_set, List.getD_eq_getElem?_getD]
  split
  · first | (rw [if_pos ht]; rfl) | rfl
  · rfl
/-- Where the search stands: h keys are done, of the next one the neighbours p. -/
structure Srch (z : Nat) (es : List Edg) (sd : Int → Bool) (h : Nat) (p : List Int) (T : List Qd) (d bf : List Int) : Prop where
  len : d.length = z
  blen : bf.length = z
  hle : h ≤ T.length
  inz : ∀ x, x < T.length → 0 ≤ qk T x ∧ qk T x < z
  seen : ∀ k : Int, 0 ≤ k → k < z → 0 ≤ dAt d k → ∃ x, x < T.length ∧ qk T x = k
  nn : ∀ x, x < T.length → 0 ≤ dAt d (qk T x)
  low : ∀ k : Int, 0 ≤ k → k < z → -1 ≤ dAt d k
  asc : ∀ x y, x < y → y < T.length → qb T x < qb T y ∨ (qb T x = qb T y ∧ qk T x < qk T y)
  one : ∀ x y, x < T.length → y < T.length → qk T x = qk T y → x = y
  seed : ∀ x, x < T.length → qb T x = 0 → sd (qk T x) = true ∧ dAt d (qk T x) = 0
  seeds : ∀ k : Int, 0 ≤ k → k < z → sd k = true → ∃ x, x < T.length ∧ qb T x = 0 ∧ qk T x = k
  prev : ∀ x, x < T.length → ∀ i, qb T x = i + 1 → i < x ∧ i ≤ h ∧ (i = h → qk T x ∈ p) ∧ (∃ e ∈ es, e.fr = qk T i ∧ e.tu = qk T x) ∧ dAt d (qk T x) = dAt d (qk T i) + 1 ∧ bfAt bf (qk T x) = qk T i ∧ ∀ i', i' < i → ∀ e ∈ es, e.fr = qk T i' → e.tu ≠ qk T x
  done : ∀ x, x < h → ∀ e ∈ es, e.fr = qk T x → ∃ y, y < T.length ∧ qk T y = e.tu
  part : ∀ k ∈ p, ∃ y, y < T.length ∧ qk T y = k
section
variable {z : Nat} {es : List Edg} {sd : Int → Bool} {h : Nat} {p : List Int} {T : List Qd} {d bf : List Int}
/-- A neighbour that is there already. -/
theorem Srch.old (S : Srch z es sd h p T d bf) {k : Int} (k0 : 0 ≤ k) (k1 : k < z) (hk : 0 ≤ dAt d k) : Srch z es sd h (p ++ [k]) T d bf :=
  { S with
    prev := fun x hx i hi => by
      obtain ⟨a, b, c, r⟩ := S.prev x hx i hi
      exact ⟨a, b, fun q => List.mem_append_left _ (c q), r⟩
    part := fun j hj => by
      rcases List.mem_append.1 hj with hj | hj
      · exact S.part j hj
      · rw [List.mem_singleton.1 hj]; exact S.seen k k0 k1 hk }
/-- A neighbour that is new. -/
theorem Srch.new (S : Srch z es sd h p T d bf) (hh : h < T.length) {k : Int} (k0 : 0 ≤ k) (k1 : k < z) (hk : dAt d k = -1) (he : ∃ e ∈ es, e.fr = qk T h ∧ e.tu = k) (hp : ∀ j ∈ p, j < k) :
    Srch z es sd h (p ++ [k]) (T ++ [⟨h + 1, k⟩]) (d.set k.toNat (dAt d (qk T h) + 1)) (bf.set k.toNat (qk T h)) := by
  have hl : k.toNat < d.length := by rw [S.len]; omega
  have hl2 : k.toNat < bf.length := by rw [S.blen]; omega
  have hno : ∀ x, x < T.length → qk T x ≠ k := fun x hx q => by have := S.nn x hx; rw [q] at this; omega
  have hd : ∀ j : Int, 0 ≤ j → j ≠ k → dAt (d.set k.toNat (dAt d (qk T h) + 1)) j = dAt d j := fun j j0 hj => by rw [dAt_set hl, if_neg (by omega)]
  have hdk : dAt (d.set k.toNat (dAt d (qk T h) + 1)) k = dAt d (qk T h) + 1 := by rw [dAt_set hl, if_pos rfl]
  have hb : ∀ j : Int, 0 ≤ j → j ≠ k → bfAt (bf.set k.toNat (qk T h)) j = bfAt bf j := fun j j0 hj => by rw [bfAt_set hl2, if_neg (by omega)]
  have hbk : bfAt (bf.set k.toNat (qk T h)) k = qk T h := by rw [bfAt_set hl2, if_pos rfl]
  have hT : (T ++ [(⟨h + 1, k⟩ : Qd)]).length = T.length + 1 := by rw [List.length_append]; rfl
  have klo : ∀ x, x < T.length → qk (T ++ [⟨h + 1, k⟩]) x = qk T x := fun x hx => qk_lo _ hx
  have blo : ∀ x, x < T.length → qb (T ++ [⟨h + 1, k⟩]) x = qb T x := fun x hx => qb_lo _ hx
  have khi : qk (T ++ [⟨h + 1, k⟩]) T.length = k := qk_hi T ⟨h + 1, k⟩
  have bhi : qb (T ++ [⟨h + 1, k⟩]) T.length = h + 1 := qb_hi T ⟨h + 1, k⟩
  have h0 := S.nn h hh
  refine ⟨by rw [List.length_set]; exact S.len, by rw [List.length_set]; exact S.blen, by rw [hT]; exact Nat.le_succ_of_le S.hle, ?_, ?_, ?_, ?_, ?_, ?_, ?_, ?_, ?_, ?_, ?_⟩
  · intro x hx
    rcases Nat.lt_or_ge x T.length with g | g
    · rw [klo x g]; exact S.inz x g
    · rw [show x = T.length by omega, khi]; exact ⟨k0, k1⟩
  · intro j j0 j1 hj
    by_cases q : j = k
    · exact ⟨T.length, by omega, by rw [khi, q]⟩
    · rw [hd j j0 q] at hj
      obtain ⟨x, hx, e⟩ := S.seen j j0 j1 hj
      exact ⟨x, by omega, by rw [klo x hx]; exact e⟩
  · intro x hx
    rcases Nat.lt_or_ge x T.length with g | g
    · rw [klo x g, hd _ (S.inz x g).1 (hno x g)]; exact S.nn x g
    · rw [show x = T.length by omega, khi, hdk]; omega
  · intro j j0 j1
    by_cases q : j = k
    · rw [q, hdk]; omega
    · rw [hd j j0 q]; exact S.low j j0 j1
  · intro x y hxy hy
    rcases Nat.lt_or_ge y T.length with g | g
    · rw [klo y g, blo y g, klo x (by omega), blo x (by omega)]; exact S.asc x y hxy g
    · have hxl : x < T.length := by omega
      rw [show y = T.length by omega, khi, bhi, klo x hxl, blo x hxl]
      rcases Nat.eq_zero_or_pos (qb T x) with q | q
      · left; omega
      · obtain ⟨a, b, c, -⟩ := S.prev x hxl (qb T x - 1) (by omega)
        by_cases q2 : qb T x - 1 = h
        · exact .inr ⟨by omega, hp _ (c q2)⟩
        · left; omega
  · intro x y hx hy hxy
    rcases Nat.lt_or_ge x T.length with g | g <;> rcases Nat.lt_or_ge y T.length with g2 | g2
    · rw [klo x g, klo y g2] at hxy; exact S.one x y g g2 hxy
    · rw [klo x g, show y = T.length by omega, khi] at hxy; exact absurd hxy (hno x g)
    · rw [klo y g2, show x = T.length by omega, khi] at hxy; exact absurd hxy.symm (hno y g2)
    · omega
  · intro x hx q
    rcases Nat.lt_or_ge x T.length with g | g
    · rw [blo x g] at q
      rw [klo x g, hd _ (S.inz x g).1 (hno x g)]; exact S.seed x g q
    · rw [show x = T.length by omega, bhi] at q; omega
  · intro j j0 j1 hj
    obtain ⟨x, hx, a, b⟩ := S.seeds j j0 j1 hj
    exact ⟨x, by omega, by rw [blo x hx]; exact a, by rw [klo x hx]; exact b⟩
  · intro x hx i hi
    rcases Nat.lt_or_ge x T.length with g | g
    · rw [blo x g] at hi
      obtain ⟨a, b, c, e, f, g1, g2⟩ := S.prev x g i hi
      have hil : i < T.length := by omega
      rw [klo x g, klo i hil, hd _ (S.inz x g).1 (hno x g), hd _ (S.inz i hil).1 (hno i hil), hb _ (S.inz x g).1 (hno x g)]
      exact ⟨a, b, fun q => List.mem_append_left _ (c q), e, f, g1, fun i' hi' => by rw [klo i' (by omega)]; exact g2 i' hi'⟩
    · have hxe : x = T.length := by omega
      subst hxe
      rw [bhi] at hi
      have hie : i = h := by omega
      subst hie
      rw [khi, klo i hh, hdk, hd _ (S.inz i hh).1 (hno i hh), hbk]
      exact ⟨hh, Nat.le_refl _, fun _ => List.mem_append_right _ (List.mem_singleton_self _), he, rfl, rfl, fun i' hi' e hm hf ht => by
        rw [klo i' (by omega)] at hf
        obtain ⟨y, hy, q⟩ := S.done i' hi' e hm hf
        exact hno y hy (q.trans ht)⟩
  · intro x hx e hm hf
    rw [klo x (by omega)] at hf
    obtain ⟨y, hy, q⟩ := S.done x hx e hm hf
    exact ⟨y, by omega, by rw [klo y hy]; exact q⟩
  · intro j hj
    rcases List.mem_append.1 hj with hj | hj
    · obtain ⟨y, hy, q⟩ := S.part j hj
      exact ⟨y, by omega, by rw [klo y hy]; exact q⟩
    · exact ⟨T.length, by omega, by rw [khi]; exact (List.mem_singleton.1 hj).symm⟩
/-- A key's neighbours are done. -/
theorem Srch.next (S : Srch z es sd h p T d bf) (hh : h < T.length) (hp : ∀ e ∈ es, e.fr = qk T h → e.tu ∈ p) : Srch z es sd (h + 1) [] T d bf :=
  { S with
    hle := hh
    prev := fun x hx i hi => by
      obtain ⟨a, b, c, r⟩ := S.prev x hx i hi
      exact ⟨a, by omega, fun q => by omega, r⟩
    done := fun x hx e hm hf => by
      rcases Nat.lt_or_ge x h with g | g
      · exact S.done x g e hm hf
      · rw [show x = h by omega] at hf
        exact S.part _ (hp e hm hf)
    part := fun k hk => nomatch hk }
/-- The start. -/
def seedsQ (l : List Int) : List Qd := l.map fun k => ⟨0, k⟩
theorem qk_seeds {l : List Int} {x : Nat} (hx : x < l.length) : qk (seedsQ l) x = l[x] := by
  unfold qk seedsQ
  rw [List.getD_eq_getElem?_getD, List.getElem?_map, List.getElem?_eq_getElem hx]; rfl
theorem qb_seeds (l : List Int) (x : Nat) : qb (seedsQ l) x = 0 := by
  unfold qb seedsQ
  rw [List.getD_eq_getElem?_getD, List.getElem?_map]
  cases l[x]? <;> rfl
theorem Srch.start {l : List Int} (hl : l.Pairwise (· < ·)) (hm : ∀ k, k ∈ l ↔ 0 ≤ k ∧ k < z ∧ sd k = true) (hd : d.length = z) (hb : bf.length = z) (hv : ∀ k : Int, 0 ≤ k → k < z → dAt d k = if sd k then 0 else -1) : Srch z es sd 0 [] (seedsQ l) d bf := by
  have hlen : (seedsQ l).length = l.length := by unfold seedsQ; rw [List.length_map]
  have hk : ∀ x (hx : x < (seedsQ l).length), qk (seedsQ l) x = l[x]'(by rw [← hlen]; exact hx) := fun x hx => qk_seeds (by rw [← hlen]; exact hx)
  have hmem : ∀ x, x < (seedsQ l).length → 0 ≤ qk (seedsQ l) x ∧ qk (seedsQ l) x < z ∧ sd (qk (seedsQ l) x) = true := fun x hx => by
    rw [hk x hx]; exact (hm _).1 (List.getElem_mem _)
  have hin : ∀ k : Int, 0 ≤ k → k < z → sd k = true → ∃ x, x < (seedsQ l).length ∧ qk (seedsQ l) x = k := fun k k0 k1 hs => by
    obtain ⟨x, hx, e⟩ := List.getElem_of_mem ((hm k).2 ⟨k0, k1, hs⟩)
    exact ⟨x, by rw [hlen]; exact hx, by rw [hk x (by rw [hlen]; exact hx)]; exact e⟩
  have hasc : ∀ x y, x < y → y < (seedsQ l).length → qk (seedsQ l) x < qk (seedsQ l) y := fun x y hxy hy => by
    rw [hk x (by omega), hk y hy]
    exact List.pairwise_iff_getElem.1 hl x y (by omega) (by omega) hxy
  refine ⟨hd, hb, Nat.zero_le _, fun x hx => ⟨(hmem x hx).1, (hmem x hx).2.1⟩, fun k k0 k1 hk => ?_, fun x hx => ?_, fun k k0 k1 => ?_, fun x y hxy hy => .inr ⟨by rw [qb_seeds, qb_seeds], hasc x y hxy hy⟩, fun x y hx hy e => ?_, fun x hx _ => ?_, fun k k0 k1 hs => ?_, fun x hx i hi => ?_, fun x hx => absurd hx (Nat.not_lt_zero _), fun k hk => nomatch hk⟩
  · rw [hv k k0 k1] at hk
    split at hk
    · rename_i hs; exact hin k k0 k1 hs
    · omega
  · have := hmem x hx
    rw [hv _ this.1 this.2.1, if_pos this.2.2]; exact Int.le_refl _
  · rw [hv k k0 k1]; split <;> omega
  · rcases Nat.lt_trichotomy x y with q | q | q
    · have := hasc x y q hy; omega
    · exact q
    · have := hasc y x q hx; omega
  · have := hmem x hx
    exact ⟨this.2.2, by rw [hv _ this.1 this.2.1, if_pos this.2.2]⟩
  · obtain ⟨x, hx, e⟩ := hin k k0 k1 hs
    exact ⟨x, hx, qb_seeds _ _, e⟩
  · rw [qb_seeds] at hi; omega
theorem Srch.ble (S : Srch z es sd h p T d bf) {x y : Nat} (hxy : x ≤ y) (hy : y < T.length) : qb T x ≤ qb T y := by
  rcases Nat.eq_or_lt_of_le hxy with q | q
  · rw [q]; exact Nat.le_refl _
  · rcases S.asc x y q hy with a | a <;> omega
theorem Srch.mono (S : Srch z es sd h p T d bf) : ∀ (y x : Nat), x ≤ y → y < T.length → dAt d (qk T x) ≤ dAt d (qk T y) := by
  intro y
  induction y using Nat.strongRecOn with
  | _ y ih =>
    intro x hxy hy
    have hb := S.ble hxy hy
    have hx : x < T.length := by omega
    rcases Nat.eq_zero_or_pos (qb T x) with q | q
    · rw [(S.seed x hx q).2]; exact S.nn y hy
    · obtain ⟨a, -, -, -, e, -⟩ := S.prev x hx (qb T x - 1) (by omega)
      obtain ⟨a2, -, -, -, e2, -⟩ := S.prev y hy (qb T y - 1) (by omega)
      have := ih (qb T y - 1) a2 (qb T x - 1) (by omega) (by omega)
      omega
theorem Srch.few (S : Srch z es sd h p T d bf) : T.length ≤ z := by
  have h1 := nodup_below z (T.map fun q => q.k.toNat) (by
    rw [List.nodup_iff_pairwise_ne, List.pairwise_map, List.pairwise_iff_getElem]
    intro i j hi hj hij e
    have h1 := S.inz i hi
    have h2 := S.inz j hj
    have e1 : qk T i = T[i].k := by unfold qk; rw [List.getD_eq_getElem?_getD, List.getElem?_eq_getElem hi]; rfl
    have e2 : qk T j = T[j].k := by unfold qk; rw [List.getD_eq_getElem?_getD, List.getElem?_eq_getElem hj]; rfl
    have := S.one i j hi hj (by rw [e1] at h1 ⊢; rw [e2] at h2 ⊢; omega)
    omega) fun x hx => by
      obtain ⟨q, hq, rfl⟩ := List.mem_map.1 hx
      obtain ⟨i, hi, rfl⟩ := List.getElem_of_mem hq
      have h1 := S.inz i hi
      have e1 : qk T i = T[i].k := by unfold qk; rw [List.getD_eq_getElem?_getD, List.getElem?_eq_getElem hi]; rfl
      rw [e1] at h1
      omega
  rwa [List.length_map] at h1
/-- The end: distances. -/
theorem Srch.dist (S : Srch z es sd h p T d bf) (hh : h = T.length) : IsDist z es sd d := by
  refine ⟨S.len, fun k k0 k1 => ⟨fun hk => ?_, fun hs => ?_⟩, S.low, fun k k0 k1 n hk => ?_, fun e he f0 f1 t0 t1 hd => ?_⟩
  · obtain ⟨x, hx, e⟩ := S.seen k k0 k1 (by omega)
    rcases Nat.eq_zero_or_pos (qb T x) with q | q
    · rw [← e]; exact (S.seed x hx q).1
    · obtain ⟨a, -, -, -, r, -⟩ := S.prev x hx (qb T x - 1) (by omega)
      have := S.nn (qb T x - 1) (by omega)
      rw [e] at r
      omega
  · obtain ⟨x, hx, q, e⟩ := S.seeds k k0 k1 hs
    rw [← e]; exact (S.seed x hx q).2
  · obtain ⟨x, hx, e⟩ := S.seen k k0 k1 (by omega)
    rcases Nat.eq_zero_or_pos (qb T x) with q | q
    · have := (S.seed x hx q).2
      rw [e] at this; omega
    · obtain ⟨a, -, -, ⟨g, hg, g1, g2⟩, r, -⟩ := S.prev x hx (qb T x - 1) (by omega)
      have hi := S.inz (qb T x - 1) (by omega)
      rw [e] at r g2
      exact ⟨g, hg, g2, by rw [g1]; exact hi.1, by rw [g1]; exact hi.2, by rw [g1]; omega⟩
  · obtain ⟨x, hx, e1⟩ := S.seen e.fr f0 f1 hd
    obtain ⟨y, hy, e2⟩ := S.done x (by omega) e he e1.symm
    rw [← e2]
    refine ⟨S.nn y hy, ?_⟩
    rcases Nat.eq_zero_or_pos (qb T y) with q | q
    · rw [(S.seed y hy q).2]; omega
    · obtain ⟨a, -, -, -, r, -, m⟩ := S.prev y hy (qb T y - 1) (by omega)
      have hle : qb T y - 1 ≤ x := by
        rcases Nat.lt_or_ge x (qb T y - 1) with g | g
        · exact absurd e2.symm (m x g e he e1.symm)
        · exact g
      have := S.mono x (qb T y - 1) hle hx
      rw [e1] at this
      omega
end
/-- The keys of the way, from the end. -/
def bk (bf : List Int) (key : Int) : Nat → Int
  | 0 => key
  | m + 1 => bfAt bf (bk bf key m)
section
variable {z : Nat} {es : List Edg} {sd : Int → Bool} {h : Nat} {p : List Int} {T : List Qd} {d bf : List Int} {key : Int} {n : Nat}
theorem Srch.back (S : Srch z es sd h p T d bf) (hk0 : 0 ≤ key) (hk1 : key < z) (hn : dAt d key = (n : Int)) : ∀ m, m ≤ n → (∃ x, x < T.length ∧ qk T x = bk bf key m) ∧ dAt d (bk bf key m) = ((n - m : Nat) : Int) ∧ Rch d es key (bk bf key m) ∧ (m < n → ∃ e ∈ es, e.fr = bk bf key (m + 1) ∧ e.tu = bk bf key m)
  | 0, _ => by
    obtain ⟨x, hx, e⟩ := S.seen key hk0 hk1 (by omega)
    refine ⟨⟨x, hx, e⟩, hn, .here, fun hlt => ?_⟩
    rcases Nat.eq_zero_or_pos (qb T x) with q | q
    · have := (S.seed x hx q).2
      rw [e] at this; omega
    · obtain ⟨a, -, -, ⟨g, hg, g1, g2⟩, r, b, -⟩ := S.prev x hx (qb T x - 1) (by omega)
      rw [e] at g2 b
      exact ⟨g, hg, by rw [g1]; exact b.symm, g2⟩
  | m + 1, hm => by
    obtain ⟨⟨x, hx, e⟩, hd, hr, -⟩ := Srch.back S hk0 hk1 hn m (by omega)
    rcases Nat.eq_zero_or_pos (qb T x) with q | q
    · have := (S.seed x hx q).2
      rw [e] at this; omega
    · obtain ⟨a, -, -, ⟨g, hg, g1, g2⟩, r, b, -⟩ := S.prev x hx (qb T x - 1) (by omega)
      have hi : qb T x - 1 < T.length := by omega
      have hbk : bk bf key (m + 1) = qk T (qb T x - 1) := by
        show bfAt bf (bk bf key m) = _
        rw [← e]; exact b
      rw [e, hd] at r
      have hd2 : dAt d (bk bf key (m + 1)) = ((n - (m + 1) : Nat) : Int) := by rw [hbk]; omega
      refine ⟨⟨_, hi, hbk.symm⟩, hd2, ?_, fun hlt => ?_⟩
      · have h1 := Rch.back hg (by rw [g2, e]; exact hr) (by rw [g1, g2, e]; omega) (by rw [g1]; omega)
        rw [g1, ← hbk] at h1
        exact h1
      · rcases Nat.eq_zero_or_pos (qb T (qb T x - 1)) with q2 | q2
        · have := (S.seed _ hi q2).2
          rw [← hbk] at this; omega
        · obtain ⟨a', -, -, ⟨g', hg', g1', g2'⟩, r', b', -⟩ := S.prev _ hi (qb T (qb T x - 1) - 1) (by omega)
          rw [← hbk] at g2' b'
          exact ⟨g', hg', by rw [g1']; exact b'.symm, g2'⟩
/-- Of the keys of one distance on shortest ways the way's stands first in the queue. -/
theorem Srch.first (S : Srch z es sd h p T d bf) (hz : ∀ e ∈ es, InZ z e) (hk0 : 0 ≤ key) (hk1 : key < z) (hn : dAt d key = (n : Int)) : ∀ m, m ≤ n → ∀ x y, x < T.length → y < T.length → qk T x = bk bf key m → Rch d es key (qk T y) → dAt d (qk T y) = ((n - m : Nat) : Int) → x ≤ y
  | 0, _, x, y, hx, hy, e, hr, hd => by
    have h1 := hr.le.2 (by rw [hd, hn, Nat.sub_zero])
    have := S.one x y hx hy (e.trans (h1.symm : key = qk T y))
    omega
  | m + 1, hm, x, y, hx, hy, e, hr, hd => by
    obtain ⟨⟨X, hX, eX⟩, hdX, hrX, -⟩ := S.back hk0 hk1 hn m (by omega)
    obtain ⟨g, hg, g1, g2, g3⟩ := hr.step (by omega)
    obtain ⟨-, -, t0, t1⟩ := hz g hg
    obtain ⟨Y, hY, eY⟩ := S.seen g.tu t0 t1 (by omega)
    have ih := Srch.first S hz hk0 hk1 hn m (by omega) X Y hX hY eX (by rw [eY]; exact g2) (by rw [eY]; omega)
    have hb := S.ble ih hY
    rcases Nat.eq_zero_or_pos (qb T X) with q | q
    · have := (S.seed X hX q).2
      rw [eX] at this; omega
    · obtain ⟨a, -, -, -, -, b, -⟩ := S.prev X hX (qb T X - 1) (by omega)
      obtain ⟨a2, -, -, -, -, -, m2⟩ := S.prev Y hY (qb T Y - 1) (by omega)
      have hxe : x = qb T X - 1 := S.one _ _ hx (by omega) (by rw [e, ← b, eX]; rfl)
      have hle : qb T Y - 1 ≤ y := by
        rcases Nat.lt_or_ge y (qb T Y - 1) with k | k
        · exact absurd eY.symm (m2 y k g hg g1)
        · exact k
      omega
theorem wayB_at {m i : Nat} (hi : i < m) : (((List.range m).map fun i => bk bf key (n - i)).getD i 0) = bk bf key (n - i) := by
  rw [List.getD_eq_getElem?_getD, List.getElem?_map, List.getElem?_range hi]; rfl
/-- The way by the keys before is the one that the reference picks. -/
theorem Srch.way (S : Srch z es sd h p T d bf) (hz : ∀ e ∈ es, InZ z e) (hk0 : 0 ≤ key) (hk1 : key < z) (hn : dAt d key = (n : Int)) : ∀ m, m ≤ n + 1 → wayUp d es (marked d es z key) z m = (List.range m).map fun i => bk bf key (n - i)
  | 0, _ => rfl
  | m + 1, hm => by
    have ih := Srch.way S hz hk0 hk1 hn m (by omega)
    obtain ⟨-, m1, m2⟩ := marked_iff hz hk0 hk1 (by omega : 0 ≤ dAt d key)
    obtain ⟨r, hrm⟩ : ∃ r, r = n - m := ⟨_, rfl⟩
    have er : n - r = m := by omega
    have er2 : 0 < m → n - (m - 1) = r + 1 := fun h0 => by omega
    have hrn : r ≤ n := by omega
    have hB := S.back hk0 hk1 hn r hrn
    rw [er] at hB
    obtain ⟨⟨x, hx, e⟩, hd, hr, hprev'⟩ := hB
    have hin := S.inz x hx
    rw [e] at hin
    have hprev : 0 < m → ∃ g ∈ es, g.fr = bk bf key (r + 1) ∧ g.tu = bk bf key r := fun h0 => hprev' (by omega)
    have hlast : 0 < m → ((List.range m).map fun i => bk bf key (n - i)).getD (m - 1) 0 = bk bf key (r + 1) := fun h0 => by
      rw [wayB_at (Nat.sub_lt h0 Nat.one_pos), er2 h0]
    have hF := S.first hz hk0 hk1 hn r hrn x
    rw [er] at hF
    clear er
    have hfit : fitsD d es (marked d es z key) (wayUp d es (marked d es z key) z m) m (bk bf key r).toNat = true := by
      refine fits_iff.2 ?_
      rw [show (((bk bf key r).toNat : Nat) : Int) = bk bf key r by omega]
      refine ⟨m2 _ hr (by rw [hd]; exact Int.natCast_nonneg _), hd, fun h0 => ?_⟩
      rw [ih, hlast h0]
      obtain ⟨g, hg, g1, g2⟩ := hprev h0
      exact (hasI_iff _ _).2 (outS_mem.2 ⟨g, hg, g1, g2⟩)
    obtain ⟨q, hq, hp, hfq, hmin⟩ := pick_some hin.1 hin.2 hfit
    have hle : q ≤ (bk bf key r).toNat := by
      rcases Nat.lt_or_ge (bk bf key r).toNat q with k | k
      · rw [hmin _ k] at hfit; cases hfit
      · exact k
    obtain ⟨f1, f2, f3⟩ := fits_iff.1 hfq
    have hrq := m1 (q : Int) (Int.natCast_nonneg _) (Int.ofNat_lt.2 hq) f1
    obtain ⟨y, hy, ey⟩ := S.seen (q : Int) (Int.natCast_nonneg _) (Int.ofNat_lt.2 hq) (by rw [f2]; exact Int.natCast_nonneg _)
    have hxy := hF y hx hy e (by rw [ey]; exact hrq) (by rw [ey]; exact f2)
    have hge : bk bf key r ≤ (q : Int) := by
      rw [← e, ← ey]
      rcases Nat.eq_or_lt_of_le hxy with k | k
      · rw [k]; exact Int.le_refl _
      · rcases S.asc x y k hy with k2 | k2
        · exfalso
          rcases Nat.eq_zero_or_pos m with h0 | h0
          · obtain ⟨j, hj⟩ : ∃ j, qb T y = j + 1 := ⟨qb T y - 1, by omega⟩
            obtain ⟨a, -, -, -, rr, -⟩ := S.prev y hy j hj
            have := S.nn j (Nat.lt_trans a hy)
            rw [ey, f2, h0] at rr
            omega
          · have f4 := outS_mem.1 ((hasI_iff _ _).1 (f3 h0))
            rw [ih, hlast h0] at f4
            obtain ⟨g, hg, g1, g2⟩ := f4
            rcases Nat.eq_zero_or_pos (qb T x) with q2 | q2
            · have := (S.seed x hx q2).2
              rw [e, hd] at this
              omega
            · obtain ⟨i, hi⟩ : ∃ i, qb T x = i + 1 := ⟨qb T x - 1, by omega⟩
              obtain ⟨j, hj⟩ : ∃ j, qb T y = j + 1 := ⟨qb T y - 1, by omega⟩
              obtain ⟨a, -, -, -, -, b, -⟩ := S.prev x hx i hi
              obtain ⟨a3, -, -, -, -, -, m3⟩ := S.prev y hy j hj
              refine m3 i (by omega) g hg ?_ (by rw [g2, ey])
              rw [g1, ← b, e]; rfl
        · exact Int.le_of_lt k2.2
    unfold wayUp
    rw [hp, ih, List.range_succ, List.map_append]
    have : (q : Int) = bk bf key r := by omega
    rw [this, hrm]; rfl
end
end Go.Proofs.Ytdildmfjekdlgaa
/- The walks of cmp.Or, cmp.Compare, strings.Compare. -/
namespace Go.Proofs.Ytdildmfjekdlgaa
open Go.RowKit
/-- The first number that is not zero. -/
def firstNZ : List Int → Int
  | [] => 0
  | x :: l => if x = 0 then firstNZ l else x
theorem firstNZ_drop (l : List Int) (j : Nat) (h : ∀ i, i < j → l.getD i 0 = 0) (hj : j ≤ l.length) : firstNZ l = firstNZ (l.drop j) := by
  induction j with
  | zero => rfl
  | succ j ih =>
    rw [ih (fun i hi => h i (by omega)) (by omega), List.drop_eq_getElem_cons (show j < l.length by omega)]
    have h0 := h j (by omega)
    rw [List.getD_eq_getElem?_getD, List.getElem?_eq_getElem (by omega)] at h0
    exact if_pos h0
set_option maxRecDepth 100000 in
set_option maxHeartbeats 1000000 in
theorem or_any (A : Option Addr) (n c : Nat) (l : List Int) (w : World) (hl : IRow w A n c l) (hn : n ≤ 1000000) :
    Calls Try.prog 61 #[.slice A n c] w fun e w' => e = .returned (.int .i64 (firstNZ l)) ∧ w' = w := by
  have HL := Lib.hid hl; have HLN := Lib.hid hl.len
  clear hl
  go_enter Try.func61, Try.ntmps61
  go_wp2
  go_loopw [8] (fun i wr => ∃ j : Nat, j ≤ n ∧ i = .int .i64 j ∧ wr = w ∧ Hid (∀ i, i < j → l.getD i 0 = 0)) (fun i _ => n - (intOf i).toNat)
  case atStart => exact ⟨0, Nat.zero_le _, rfl, rfl, Lib.hid fun _ h => absurd h (Nat.not_lt_zero _)⟩
  case round =>
    obtain ⟨j, hj, rfl, rfl, HQ⟩ := hrel
    by_cases hlt : j < n
    · obtain ⟨ab, off, hA, hc0⟩ := HL.out.cell j hlt
      subst hA
      by_cases hz : l.getD j 0 = 0
      · rw [hz] at hc0
        have HZ := Lib.hid hz; clear hz
        go_wp2
        refine ⟨⟨j + 1, hlt, by go_num, by simp, Lib.hid fun i hi => ?_⟩, by simp [intOf]; omega⟩
        by_cases h : i = j
        · rw [h]; exact HZ.out
        · exact HQ.out i (by omega)
      · have HZ : Hid (firstNZ l = l.getD j 0) := Lib.hid (by
          rw [firstNZ_drop l j HQ.out (by have := HLN.out; omega), List.drop_eq_getElem_cons (show j < l.length by have := HLN.out; omega)]
          have e : l.getD j 0 = l[j]'(by have := HLN.out; omega) := by rw [List.getD_eq_getElem?_getD, List.getElem?_eq_getElem (by have := HLN.out; omega)]; rfl
          rw [e] at hz ⊢
          show (if l[j]'_ = 0 then _ else _) = _
          rw [if_neg hz])
        generalize l.getD j 0 = x at hc0 HZ hz
        have hx : (x != 0) = true := by simpa using hz
        clear hz
        go_wp2
        go_ret
        exact ⟨by rw [HZ.out]; rfl, rfl⟩
    · have HE : Hid (j = n) := by unfold Hid; omega
      go_wp2
      go_ret
      refine ⟨?_, rfl⟩
      rw [firstNZ_drop l j HQ.out (by have := HLN.out; omega), List.drop_eq_nil_of_le (by have := HLN.out; have := HE.out; omega)]
      rfl
set_option maxHeartbeats 1000000 in
theorem cmpInt_any (x y : Int) (w : World) :
    Calls Try.prog 62 #[.int .i64 x, .int .i64 y] w fun e w' => e = .returned (.int .i64 (Lib.compareInt x y)) ∧ w' = w := by
  go_enter Try.func62, Try.ntmps62
  go_wp2
  all_goals (go_ret; refine ⟨?_, rfl⟩; unfold Lib.compareInt; (repeat' split) <;> first | rfl | (exfalso; omega))
end Go.Proofs.Ytdildmfjekdlgaa
/- The walk of store's compare. -/
namespace Go.Proofs.Ytdildmfjekdlgaa
open Go.RowKit
/-- Blocks and draws may have come; nothing has turned. -/
def Laid (a b : World) : Prop := Below a.heap.size a b ∧ a.drawn ≤ b.drawn
theorem Laid.refl (a : World) : Laid a a := ⟨Below.refl _ _, Nat.le_refl _⟩
theorem Laid.trans {a b c : World} (h : Laid a b) (k : Laid b c) : Laid a c := ⟨h.1.trans (k.1.mono h.1.size), Nat.le_trans h.2 k.2⟩
theorem Laid.alloc (a : World) (o : Obj) : Laid a (a.alloc o) := ⟨one_new a o, Nat.le_refl _⟩
theorem Laid.drew (a : World) : Laid a a.drew := ⟨(Below.refl _ _).drew, Nat.le_succ _⟩
end Go.Proofs.Ytdildmfjekdlgaa
/- The walk of graph's compare, and its order. -/
namespace Go.Proofs.Ytdildmfjekdlgaa
open Go.RowKit
/-- The order of edges as the program reckons it. -/
def cmpEd (a b : Edg) : Int := firstNZ [Lib.compareInt a.fr b.fr, Lib.compareInt a.tu b.tu]
theorem cmpI_three (x y : Int) : (x < y ∧ Lib.compareInt x y = -1) ∨ (x = y ∧ Lib.compareInt x y = 0) ∨ (y < x ∧ Lib.compareInt x y = 1) := by
  unfold Lib.compareInt
  (repeat' split) <;> omega
theorem cmpEd_iff (a b : Edg) : cmpEd a b < 0 ↔ befE a b = true := by
  rw [befE_iff]
  unfold cmpEd firstNZ firstNZ firstNZ ltE
  rcases cmpI_three a.fr b.fr with ⟨h, e⟩ | ⟨h, e⟩ | ⟨h, e⟩
  · rw [e, if_neg (by decide)]; omega
  · rw [e, if_pos rfl]
    rcases cmpI_three a.tu b.tu with ⟨k, f⟩ | ⟨k, f⟩ | ⟨k, f⟩
    · rw [f, if_neg (by decide)]; omega
    · rw [f, if_pos rfl]; omega
    · rw [f, if_neg (by decide)]; omega
  · rw [e, if_neg (by decide)]; omega
theorem edg_cells {w : World} {g : Nat} {p : Edg} {t : TypeId} {fr : Nat × Nat} (h : w.heap[g]? = some (.cells p.arr t fr)) :
    w.cell? ⟨g, 0, none⟩ = some (.int .i64 p.fr) ∧ w.cell? ⟨g, 1, none⟩ = some (.int .i64 p.tu) ∧ w.cell? ⟨g, 2, none⟩ = some (.int .i64 p.lv) :=
  ⟨(cell_of_row _ _ 0 _ _ _ h).trans rfl, (cell_of_row _ _ 1 _ _ _ h).trans rfl, (cell_of_row _ _ 2 _ _ _ h).trans rfl⟩
theorem edg_futs {F : World → World → Prop} (hr : ∀ w, F w w) {W : World} {g : Nat} {p : Edg} {t : TypeId} {fr : Nat × Nat} (hF : ∀ w', F W w' → w'.heap[g]? = W.heap[g]?) (h : W.heap[g]? = some (.cells p.arr t fr)) :
    (∀ x, (fut F W x).cell? ⟨g, 0, none⟩ = some (.int .i64 p.fr)) ∧ (∀ x, (fut F W x).cell? ⟨g, 1, none⟩ = some (.int .i64 p.tu)) ∧ (∀ x, (fut F W x).cell? ⟨g, 2, none⟩ = some (.int .i64 p.lv)) := by
  have h2 := fun x => edg_cells ((hF _ (fut_ok hr W x)).trans h)
  exact ⟨fun x => (h2 x).1, fun x => (h2 x).2.1, fun x => (h2 x).2.2⟩
set_option maxRecDepth 100000 in
set_option maxHeartbeats 1000000 in
theorem compareEd_any (p q : Edg) (w : World) : Calls Try.prog 52 #[.agg p.arr, .agg q.arr] w fun e w' => e = .returned (.int .i64 (cmpEd p q)) ∧ Laid w w' := by
  have HB : Hid (Laid w (((w.alloc (.cells p.arr 45)).alloc (.cells q.arr 45)).drew)) := Lib.hid (((Laid.alloc w _).trans (Laid.alloc _ _)).trans (Laid.drew _))
  have HX : Hid ((((w.alloc (.cells p.arr 45)).alloc (.cells q.arr 45)).drew).heap[w.heap.size]? = some (.cells p.arr 45 (0, 0))) := Lib.hid ((Below.heap_alloc _ _ _ (by simp)).trans (heap_alloc_new _ _))
  have HY : Hid ((((w.alloc (.cells p.arr 45)).alloc (.cells q.arr 45)).drew).heap[w.heap.size + 1]? = some (.cells q.arr 45 (0, 0))) := Lib.hid (heap_alloc2_new _ _ _)
  unfold cmpEd
  go_enter Try.func52, Try.ntmps52
  go_wp2_with fail
  refine wp_region_grow (by kernel_rfl) Laid Laid.refl (fun _ _ _ => Laid.trans) [12] [([0, 1, 2, 3, 5, 6, 7, 8], 4), ([], 9), ([], 10), ([], 11)] (by kernel_rfl) (by kernel_rfl) (by kernel_rfl) ?_
  simp only [List.map_cons, List.map_nil, pick, List.getD_cons_zero, List.getD_cons_succ]
  generalize (((w.alloc (.cells p.arr 45)).alloc (.cells q.arr 45)).drew) = w1 at HB HX HY ⊢
  have hlx : w.heap.size < w1.heap.size := (Array.getElem?_eq_some_iff.1 HX.out).1
  have hly : w.heap.size + 1 < w1.heap.size := (Array.getElem?_eq_some_iff.1 HY.out).1
  obtain ⟨hf0, hf1, hf2⟩ := edg_futs (F := Laid) Laid.refl (p := p) (W := w1) (fun w' h => h.1.block _ hlx) HX.out
  obtain ⟨hg0, hg1, hg2⟩ := edg_futs (F := Laid) Laid.refl (p := q) (W := w1) (fun w' h => h.1.block _ hly) HY.out
  obtain ⟨x0, x1, x2⟩ := p
  obtain ⟨y0, y1, y2⟩ := q
  simp only at hf0 hf1 hf2 hg0 hg1 hg2 ⊢
  refine wpGrow_cons ?_
  repeat (go_big_quiet_step (fail))
  refine wpQuiet_nil ?_
  clear hf0 hf1 hf2 hg0 hg1 hg2 HX HY hlx hly
  go_wp2_with fail
  refine (cmpInt_any _ _ _).mono ?_
  rintro e w2 ⟨rfl, rfl⟩
  go_wp2_with fail
  refine pieceEnd_normal ⟨Laid.refl _, ?_⟩
  refine wpGrow_cons ?_
  refine wpQuiet_nil ?_
  go_wp2_with fail
  refine (cmpInt_any _ _ _).mono ?_
  rintro e w4 ⟨rfl, rfl⟩
  go_wp2_with fail
  refine pieceEnd_normal ⟨Laid.refl _, ?_⟩
  generalize hr1 : Lib.compareInt x0 y0 = r1
  generalize hr2 : Lib.compareInt x1 y1 = r2
  have HR := Lib.hid (And.intro hr1 hr2); clear hr1 hr2
  refine wpGrow_cons ?_
  refine wpQuiet_nil ?_
  go_wp2_with fail
  refine pieceEnd_normal ⟨Laid.alloc _ _, ?_⟩
  have HI := Lib.hid (show IRow (w4.alloc (.cells #[.int .i64 r1, .int .i64 r2] 3)) (some ⟨w4.heap.size, 0, none⟩) 2 2 [r1, r2] from Row.of_block (heap_alloc_new _ _) rfl)
  have HB2 := Lib.hid (HB.out.trans (Laid.alloc w4 (.cells #[.int .i64 r1, .int .i64 r2] 3)))
  refine wpGrow_cons ?_
  refine wpQuiet_nil ?_
  go_wp2_with fail
  refine (or_any _ _ _ _ _ HI.out (by omega)).mono ?_
  rintro e w5 ⟨rfl, rfl⟩
  go_wp2_with fail
  refine pieceEnd_normal ⟨Laid.refl _, ?_⟩
  refine wpGrow_nil ?_
  repeat (go_big_quiet_step (fail))
  refine wpQuiet_nil ?_
  go_wp2_with fail
  go_ret
  exact ⟨by rw [HR.out.1, HR.out.2]; rfl, HB2.out⟩
end Go.Proofs.Ytdildmfjekdlgaa
