import Derived.Test.YtdildmfjekdlgaaPackAK
import Derived.Test.YtdildmfjekdlgaaPackAJ
import Derived.Test.YtdildmfjekdlgaaPackAB
/- Graphs: the walk of the reference's Check. -/
namespace Go.Proofs.Ytdildmfjekdlgaa
open Go.RowKit
set_option maxRecDepth 100000 in
set_option maxHeartbeats 4000000 in
theorem gcheck_any (G : Gr) (v : Value) (w : World) (h : GHold w G v) (he : G.es.length ≤ 100000) (hg : G.gn.length ≤ 100000) : Calls Try.prog 32 #[v] w (SaysL (.int .i64 (checkG G)) w) := by
  obtain ⟨A, n, c, B, m, k, rfl, h1, h2⟩ := h
  have hn : n ≤ 100000 := by rw [← ERow.len h1]; exact he
  have hm : m ≤ 100000 := by rw [← h2.len]; exact hg
  have HL1 : Hid (G.es.length = n) := Lib.hid (ERow.len h1)
  have HN := Lib.hid (one_new w (.cells #[.int .i64 G.sz, .slice A n c, .slice B m k] 31))
  have HX : Hid ((w.alloc (.cells #[.int .i64 G.sz, .slice A n c, .slice B m k] 31)).heap[w.heap.size]? = some (.cells #[.int .i64 G.sz, .slice A n c, .slice B m k] 31 (0, 0))) := Lib.hid (heap_alloc_new _ _)
  have H1 := Lib.hid h1; have H2 := Lib.hid h2
  have HBAD : Hid (okG G = false → checkG G = 14) := Lib.hid fun h => by unfold checkG; rw [h]; rfl
  have HGOOD : Hid (okG G = true → checkG G = 0) := Lib.hid fun h => by unfold checkG; rw [h]; rfl
  have HHD : Hid (headB G = (decide (0 ≤ G.sz) && (decide (G.sz ≤ 64) && (decide (G.es.length ≤ 500) && setB G.gn G.sz)))) := Lib.hid rfl
  have HOKE : Hid (∀ i, okE G i = (endsB G.sz (G.es.getD i noEdg) && (levB (G.es.getD i noEdg) && (nextB G.es i && freeB G.gn (G.es.getD i noEdg))))) := Lib.hid fun _ => rfl
  have HNO : Hid (∀ i, i < n → okE G i = false → okG G = false) := Lib.hid fun i hi h => okG_no (by rw [HL1.out]; exact hi) h
  have HYES : Hid (headB G = true → (∀ i, i < n → okE G i = true) → okG G = true) := Lib.hid fun h0 h => okG_yes h0 fun i hi => h i (by rw [← HL1.out]; exact hi)
  generalize checkG G = CG at *
  clear h1 h2 he hg
  go_enter Try.func32, Try.ntmps32
  go_upto_region 1 with fail
  generalize (w.alloc (.cells #[.int .i64 G.sz, .slice A n c, .slice B m k] 31)) = y0 at *
  have HXL : Hid (w.heap.size < y0.heap.size) := Lib.hid (Array.getElem?_eq_some_iff.1 HX.out).1
  have hc0 : y0.cell? ⟨w.heap.size, 0, none⟩ = some (.int .i64 G.sz) := (cell_of_row _ _ 0 _ _ _ HX.out).trans rfl
  have hc1 : y0.cell? ⟨w.heap.size, 1, none⟩ = some (.slice A n c) := (cell_of_row _ _ 1 _ _ _ HX.out).trans rfl
  have hc2 : y0.cell? ⟨w.heap.size, 2, none⟩ = some (.slice B m k) := (cell_of_row _ _ 2 _ _ _ HX.out).trans rfl
  by_cases c0 : G.sz < 0
  · have d0 : decide (G.sz < 0) = true := decide_eq_true c0
    have HE : Hid (CG = 14) := Lib.hid (HBAD.out (okG_head (by rw [HHD.out, decide_eq_false (by omega), Bool.false_and])))
    clear c0
    go_wp2_with fail
    go_ret
    exact ⟨by rw [HE.out]; rfl, HN.out⟩
  · have d0 : decide (G.sz < 0) = false := decide_eq_false c0
    have C0 := Lib.hid c0; clear c0
    by_cases c1 : G.sz > 64
    · have d1 : decide (G.sz > 64) = true := decide_eq_true c1
      have d1' : decide (64 < G.sz) = true := d1
      have HE : Hid (CG = 14) := Lib.hid (HBAD.out (okG_head (by rw [HHD.out, decide_eq_false (by omega : ¬ G.sz ≤ 64), Bool.false_and, Bool.and_false])))
      clear c1
      go_wp2_with fail
      go_ret
      exact ⟨by rw [HE.out]; rfl, HN.out⟩
    · have d1 : decide (G.sz > 64) = false := decide_eq_false c1
      have d1' : decide (64 < G.sz) = false := d1
      have C1 := Lib.hid c1; clear c1
      by_cases c2 : n > 500
      · have d2 : decide ((n : Int) > 500) = true := decide_eq_true (by omega)
        have d2' : decide ((500 : Int) < (n : Int)) = true := d2
        have HE : Hid (CG = 14) := Lib.hid (HBAD.out (okG_head (by rw [HHD.out, decide_eq_false (by rw [HL1.out]; omega : ¬ G.es.length ≤ 500), Bool.false_and, Bool.and_false, Bool.and_false])))
        clear c2
        go_wp2_with fail
        go_ret
        exact ⟨by rw [HE.out]; rfl, HN.out⟩
      · have d2 : decide ((n : Int) > 500) = false := decide_eq_false (by omega)
        have d2' : decide ((500 : Int) < (n : Int)) = false := d2
        have C2 := Lib.hid c2; clear c2
        have HSET := Lib.hid (set_any11 B m k G.gn G.sz y0 (H2.out.later HN.out) hm)
        go_wp2_with fail
        refine HSET.out.mono ?_
        rintro e w1 ⟨rfl, hb⟩
        have HW1 := Lib.hid (HN.out.trans (hb.mono HN.out.size))
        have HX1 : Hid (w1.heap[w.heap.size]? = some (.cells #[.int .i64 G.sz, .slice A n c, .slice B m k] 31 (0, 0))) := Lib.hid ((hb.block _ HXL.out).trans HX.out)
        clear hb HSET hc0 hc1 hc2 d0 d1 d1' d2 d2'
        by_cases c3 : setB G.gn G.sz = true
        · rw [c3]
          have HH : Hid (headB G = true) := Lib.hid (by rw [HHD.out, decide_eq_true (by have := C0.out; omega : 0 ≤ G.sz), decide_eq_true (by have := C1.out; omega : G.sz ≤ 64), decide_eq_true (by have := C2.out; rw [HL1.out]; omega : G.es.length ≤ 500), c3]; rfl)
          clear c3 C0 C1 C2 HHD HX HXL HN
          generalize y0 = y00 at *
          have HXL : Hid (w.heap.size < w1.heap.size) := Lib.hid (Array.getElem?_eq_some_iff.1 HX1.out).1
          go_upto_region 4 with fail
          go_loopw [3] (fun i wr => ∃ j : Nat, j ≤ n ∧ i = .int .i64 j ∧ Hid ((∀ q, q < j → okE G q = true) ∧ Below w1.heap.size w1 wr)) (fun i _ => n - (intOf i).toNat)
          case atStart => exact ⟨0, Nat.zero_le _, rfl, Lib.hid ⟨fun q h => absurd h (Nat.not_lt_zero _), Below.refl _ _⟩⟩
          case round =>
            obtain ⟨j, hj, rfl, HQ⟩ := hrel
            have HXR : Hid (wr.heap[w.heap.size]? = some (.cells #[.int .i64 G.sz, .slice A n c, .slice B m k] 31 (0, 0))) := Lib.hid ((HQ.out.2.block _ HXL.out).trans HX1.out)
            have HBR : Hid (Below w.heap.size w wr) := Lib.hid (HW1.out.trans (HQ.out.2.mono HW1.out.size))
            have HK := Lib.hid HQ.out.1; have HB := Lib.hid HQ.out.2
            have hg1 : wr.cell? ⟨w.heap.size, 1, none⟩ = some (.slice A n c) := (cell_of_row _ _ 1 _ _ _ HXR.out).trans rfl
            clear HQ
            by_cases hlt : j < n
            · have hlt2 : (j : Int) < (n : Int) := by omega
              obtain ⟨b, off, hA, hc⟩ := GRow.cells Edg.len (by decide) (GRow.later H1.out HBR.out) noEdg j hlt
              subst hA
              obtain ⟨p, hp⟩ : ∃ p, G.es.getD j noEdg = p := ⟨_, rfl⟩
              rw [hp] at hc
              have HP := Lib.hid hp
              have HC : Hid (∀ q, q < p.arr.size → wr.cell? ⟨b, off + j * 3 + q, none⟩ = p.arr[q]?) := Lib.hid fun q hq => (hc q hq).trans (by rw [← Edg.list, Array.getElem?_toList])
              clear hc hp
              have HOJ : Hid (okE G j = (endsB G.sz p && (levB p && (nextB G.es j && freeB G.gn p)))) := Lib.hid (by rw [HOKE.out, HP.out])
              go_upto_region 7 with (first | (refine wpList_load_cells rfl 45 (.tmp 37) rfl b (off + j * 3) rfl p.arr _ Try.underlying45 rfl p.info HC.out ?_) | (refine wpList_store_new rfl 45 (.tmp 4) (.tmp 38) rfl 45 _ p.arr rfl rfl p.info rfl p.one ?_))
              have HN3 := Lib.hid (one_new wr (.cells p.arr 45))
              have HY : Hid ((wr.alloc (.cells p.arr 45)).heap[wr.heap.size]? = some (.cells p.arr 45 (0, 0))) := Lib.hid (heap_alloc_new _ _)
              replace HXR := Lib.hid ((HN3.out.block _ (Array.getElem?_eq_some_iff.1 HXR.out).1).trans HXR.out)
              replace HB := Lib.hid (HB.out.trans (HN3.out.mono HB.out.size))
              replace HBR := Lib.hid (HBR.out.trans (HN3.out.mono HBR.out.size))
              clear HN3 HC hg1
              generalize wr.alloc (.cells p.arr 45) = x2 at *
              generalize wr.heap.size = g4 at *
              have hc0 : x2.cell? ⟨w.heap.size, 0, none⟩ = some (.int .i64 G.sz) := (cell_of_row _ _ 0 _ _ _ HXR.out).trans rfl
              have hy0 : x2.cell? ⟨g4, 0, none⟩ = some (.int .i64 p.fr) := (cell_of_row _ _ 0 _ _ _ HY.out).trans rfl
              have hy1 : x2.cell? ⟨g4, 1, none⟩ = some (.int .i64 p.tu) := (cell_of_row _ _ 1 _ _ _ HY.out).trans rfl
              have hy2 : x2.cell? ⟨g4, 2, none⟩ = some (.int .i64 p.lv) := (cell_of_row _ _ 2 _ _ _ HY.out).trans rfl
              have HEN : Hid (endsB G.sz p = ((decide (0 ≤ p.fr) && decide (p.fr < G.sz)) && ((decide (0 ≤ p.tu) && decide (p.tu < G.sz)) && !decide (p.fr = p.tu)))) := Lib.hid rfl
              have HLV : Hid (levB p = (decide (1 ≤ p.lv) && decide (p.lv ≤ 3))) := Lib.hid rfl
              by_cases e0 : p.fr < 0
              · have f0 : decide (p.fr < 0) = true := decide_eq_true e0
                have HE : Hid (CG = 14) := Lib.hid (HBAD.out (HNO.out j hlt (by rw [HOJ.out, HEN.out, decide_eq_false (by omega : ¬ 0 ≤ p.fr)]; simp)))
                clear e0
                go_wp2_with fail
                go_ret
                exact ⟨by rw [HE.out]; rfl, HBR.out⟩
              · have f0 : decide (p.fr < 0) = false := decide_eq_false e0
                have E0 := Lib.hid e0; clear e0
                by_cases e1 : p.fr ≥ G.sz
                · have f1 : decide (p.fr ≥ G.sz) = true := decide_eq_true e1
                  have f1' : decide (G.sz ≤ p.fr) = true := f1
                  have HE : Hid (CG = 14) := Lib.hid (HBAD.out (HNO.out j hlt (by rw [HOJ.out, HEN.out, decide_eq_false (by omega : ¬ p.fr < G.sz)]; simp)))
                  clear e1
                  go_wp2_with fail
                  go_ret
                  exact ⟨by rw [HE.out]; rfl, HBR.out⟩
                · have f1 : decide (p.fr ≥ G.sz) = false := decide_eq_false e1
                  have f1' : decide (G.sz ≤ p.fr) = false := f1
                  have E1 := Lib.hid e1; clear e1
                  by_cases e2 : p.tu < 0
                  · have f2 : decide (p.tu < 0) = true := decide_eq_true e2
                    have HE : Hid (CG = 14) := Lib.hid (HBAD.out (HNO.out j hlt (by rw [HOJ.out, HEN.out, decide_eq_false (by omega : ¬ 0 ≤ p.tu)]; simp)))
                    clear e2
                    go_wp2_with fail
                    go_ret
                    exact ⟨by rw [HE.out]; rfl, HBR.out⟩
                  · have f2 : decide (p.tu < 0) = false := decide_eq_false e2
                    have E2 := Lib.hid e2; clear e2
                    by_cases e3 : p.tu ≥ G.sz
                    · have f3 : decide (p.tu ≥ G.sz) = true := decide_eq_true e3
                      have f3' : decide (G.sz ≤ p.tu) = true := f3
                      have HE : Hid (CG = 14) := Lib.hid (HBAD.out (HNO.out j hlt (by rw [HOJ.out, HEN.out, decide_eq_false (by omega : ¬ p.tu < G.sz)]; simp)))
                      clear e3
                      go_wp2_with fail
                      go_ret
                      exact ⟨by rw [HE.out]; rfl, HBR.out⟩
                    · have f3 : decide (p.tu ≥ G.sz) = false := decide_eq_false e3
                      have f3' : decide (G.sz ≤ p.tu) = false := f3
                      have E3 := Lib.hid e3; clear e3
                      by_cases e4 : p.fr = p.tu
                      · have f4 : (p.fr == p.tu) = true := by rw [e4]; simp
                        have HE : Hid (CG = 14) := Lib.hid (HBAD.out (HNO.out j hlt (by rw [HOJ.out, HEN.out, decide_eq_true e4]; simp)))
                        clear e4
                        go_wp2_with fail
                        go_ret
                        exact ⟨by rw [HE.out]; rfl, HBR.out⟩
                      · have f4 : (p.fr == p.tu) = false := by rw [beq_eq_false_iff_ne]; exact e4
                        have E4 := Lib.hid e4; clear e4
                        by_cases e5 : p.lv < 1
                        · have f5 : decide (p.lv < 1) = true := decide_eq_true e5
                          have HE : Hid (CG = 14) := Lib.hid (HBAD.out (HNO.out j hlt (by rw [HOJ.out, HLV.out, decide_eq_false (by omega : ¬ 1 ≤ p.lv)]; simp)))
                          clear e5
                          go_wp2_with fail
                          go_ret
                          exact ⟨by rw [HE.out]; rfl, HBR.out⟩
                        · have f5 : decide (p.lv < 1) = false := decide_eq_false e5
                          have E5 := Lib.hid e5; clear e5
                          by_cases e6 : p.lv > 3
                          · have f6 : decide (p.lv > 3) = true := decide_eq_true e6
                            have f6' : decide (3 < p.lv) = true := f6
                            have HE : Hid (CG = 14) := Lib.hid (HBAD.out (HNO.out j hlt (by rw [HOJ.out, HLV.out, decide_eq_false (by omega : ¬ p.lv ≤ 3)]; simp)))
                            clear e6
                            go_wp2_with fail
                            go_ret
                            exact ⟨by rw [HE.out]; rfl, HBR.out⟩
                          · have f6 : decide (p.lv > 3) = false := decide_eq_false e6
                            have f6' : decide (3 < p.lv) = false := f6
                            have E6 := Lib.hid e6; clear e6
                            have HEB : Hid (endsB G.sz p = true) := Lib.hid (by rw [HEN.out, decide_eq_true (by have := E0.out; omega : 0 ≤ p.fr), decide_eq_true (by have := E1.out; omega : p.fr < G.sz), decide_eq_true (by have := E2.out; omega : 0 ≤ p.tu), decide_eq_true (by have := E3.out; omega : p.tu < G.sz), decide_eq_false E4.out]; rfl)
                            have HLB : Hid (levB p = true) := Lib.hid (by rw [HLV.out, decide_eq_true (by have := E5.out; omega : 1 ≤ p.lv), decide_eq_true (by have := E6.out; omega : p.lv ≤ 3)]; rfl)
                            replace HOJ : Hid (okE G j = (nextB G.es j && freeB G.gn p)) := Lib.hid (by rw [HOJ.out, HEB.out, HLB.out]; rfl)
                            clear HEB HLB HEN HLV E0 E1 E2 E3 E4 E5 E6
                            go_upto_region 9 with fail
                            clear f0 f1 f2 f3 f4 f5 f6 f1' f3' f6' hc0 hy0 hy1 hy2
                            refine wp_region_grow (by kernel_rfl) Later Later.refl (fun _ _ _ => Later.trans) [26] [([0, 1, 2, 3, 4, 5, 6, 7, 8, 9], 10), ([11, 12, 13, 14, 15, 16, 17], 18), ([19, 20, 21, 22, 23, 24], 25)] (by kernel_rfl) (by kernel_rfl) (by kernel_rfl) ?_
                            simp only [List.map_cons, List.map_nil, pick, List.getD_cons_zero, List.getD_cons_succ]
                            have HB9 : Hid (Below w1.heap.size w1 x2.drew) := Lib.hid HB.out.drew
                            have HBR9 : Hid (Below w.heap.size w x2.drew) := Lib.hid HBR.out.drew
                            have HX9 : Hid (x2.drew.heap[w.heap.size]? = some (.cells #[.int .i64 G.sz, .slice (some ⟨b, off, none⟩) n c, .slice B m k] 31 (0, 0))) := Lib.hid HXR.out
                            have HY9 : Hid (x2.drew.heap[g4]? = some (.cells p.arr 45 (0, 0))) := Lib.hid HY.out
                            clear HB HBR HXR HY
                            generalize x2.drew = z0 at *
                            have HXS : Hid (w.heap.size < z0.heap.size) := Lib.hid (Array.getElem?_eq_some_iff.1 HX9.out).1
                            have HYS : Hid (g4 < z0.heap.size) := Lib.hid (Array.getElem?_eq_some_iff.1 HY9.out).1
                            have HHS : Hid (∀ y x, Below w.heap.size w y → Calls Try.prog 22 #[.slice B m k, .int .i64 x] y (SaysL (.bool (hasI G.gn x)) y)) := Lib.hid fun y x h => has_any11 B m k G.gn x y (H2.out.later h) hm
                            have HFR : Hid (freeB G.gn p = (!hasI G.gn p.fr && !hasI G.gn p.tu)) := Lib.hid rfl
                            by_cases hj0 : 0 < j
                            · have e0 : decide ((j : Int) > 0) = true := decide_eq_true (by omega)
                              have e0' : decide ((0 : Int) < (j : Int)) = true := e0
                              have e1 : (0 : Int) ≤ (j : Int) - 1 := by omega
                              have e2 : (j : Int) - 1 < (n : Int) := by omega
                              have e3 : ((j : Int) - 1).toNat = j - 1 := by omega
                              obtain ⟨q, hq⟩ : ∃ q, G.es.getD (j - 1) noEdg = q := ⟨_, rfl⟩
                              have HNX0 : Hid (nextB G.es j = befE q p) := Lib.hid (by unfold nextB; rw [decide_eq_false (by omega), Bool.false_or, HP.out, hq])
                              obtain ⟨b2, off2, hA2, hfq⟩ := GRow.futs (F := Later) Later.refl Edg.len (by decide) (fun _ h => h) (GRow.later H1.out HBR9.out) noEdg (j - 1) (by omega)
                              injection hA2 with hA2
                              injection hA2 with i1 i2
                              subst i1 i2
                              rw [hq] at hfq
                              have hfqc : ∀ x, (loadVar 45 ⟨b, off + (j - 1) * 3, none⟩).run Try.prog (fut Later z0 x) = .ok (.agg q.arr) (fut Later z0 x) := fun x => run_loadVar_cells _ b (off + (j - 1) * 3) 45 q.arr _ Try.underlying45 rfl q.info fun i hi => (hfq x i hi).trans (by rw [← Edg.list, Array.getElem?_toList])
                              have hfpc : ∀ x, (loadVar 45 ⟨g4, 0, none⟩).run Try.prog (fut Later z0 x) = .ok (.agg p.arr) (fut Later z0 x) := fun x => run_loadVar_cells _ g4 0 45 p.arr _ Try.underlying45 rfl p.info fun i hi => by rw [Nat.zero_add]; exact cell_of_row _ _ i _ _ _ (((fut_ok Later.refl z0 x).block _ HYS.out).trans HY9.out)
                              clear hfq hq
                              have hf1 : ∀ x, (fut Later z0 x).cell? ⟨w.heap.size, 1, none⟩ = some (.slice (some ⟨b, off, none⟩) n c) := fun x => (cell_of_row _ _ 1 _ _ _ (((fut_ok Later.refl z0 x).block _ HXS.out).trans HX9.out)).trans rfl
                              have hf2 : ∀ x, (fut Later z0 x).cell? ⟨w.heap.size, 2, none⟩ = some (.slice B m k) := fun x => (cell_of_row _ _ 2 _ _ _ (((fut_ok Later.refl z0 x).block _ HXS.out).trans HX9.out)).trans rfl
                              have hfy0 : ∀ x, (fut Later z0 x).cell? ⟨g4, 0, none⟩ = some (.int .i64 p.fr) := fun x => (cell_of_row _ _ 0 _ _ _ (((fut_ok Later.refl z0 x).block _ HYS.out).trans HY9.out)).trans rfl
                              have hfy1 : ∀ x, (fut Later z0 x).cell? ⟨g4, 1, none⟩ = some (.int .i64 p.tu) := fun x => (cell_of_row _ _ 1 _ _ _ (((fut_ok Later.refl z0 x).block _ HYS.out).trans HY9.out)).trans rfl
                              refine wpGrow_cons ?_
                              repeat (first | (refine wpQuiet_load rfl 45 (.tmp 85) rfl ⟨b, off + (j - 1) * 3, none⟩ rfl (.agg q.arr) (fun w' h => by obtain ⟨x, rfl⟩ := h; exact hfqc x) ?_; simp only [Act.put, List.setIfInBounds_toArray, List.set_cons_succ, List.set_cons_zero]) | (refine wpQuiet_load rfl 45 (.tmp 4) rfl ⟨g4, 0, none⟩ rfl (.agg p.arr) (fun w' h => by obtain ⟨x, rfl⟩ := h; exact hfpc x) ?_; simp only [Act.put, List.setIfInBounds_toArray, List.set_cons_succ, List.set_cons_zero]) | go_big_quiet_step (fail))
                              refine wpQuiet_nil ?_
                              clear hf1 hf2 hfy0 hfy1
                              clear hfqc hfpc e0 e0' e1 e2 e3
                              go_wp2_with fail
                              refine (before_any11 q p z0).mono ?_
                              rintro e z5 ⟨rfl, hb⟩
                              have HF : Hid (Later z0 z5) := Lib.hid hb
                              replace HX9 := Lib.hid ((hb.block _ HXS.out).trans HX9.out); replace HY9 := Lib.hid ((hb.block _ HYS.out).trans HY9.out)
                              replace HXS := Lib.hid (Nat.lt_of_lt_of_le HXS.out hb.size); replace HYS := Lib.hid (Nat.lt_of_lt_of_le HYS.out hb.size)
                              replace HB9 := Lib.hid (HB9.out.trans (hb.mono HB9.out.size)); replace HBR9 := Lib.hid (HBR9.out.trans (hb.mono HBR9.out.size))
                              clear hb
                              go_wp2_with fail
                              refine pieceEnd_normal ⟨HF.out, ?_⟩
                              clear HF
                              cases hbq : befE q p
                              · have HE : Hid (CG = 14) := Lib.hid (HBAD.out (HNO.out j hlt (by rw [HOJ.out, HNX0.out, hbq]; rfl)))
                                clear hbq
                                have hf1 : ∀ x, (fut Later z5 x).cell? ⟨w.heap.size, 1, none⟩ = some (.slice (some ⟨b, off, none⟩) n c) := fun x => (cell_of_row _ _ 1 _ _ _ (((fut_ok Later.refl z5 x).block _ HXS.out).trans HX9.out)).trans rfl
                                have hf2 : ∀ x, (fut Later z5 x).cell? ⟨w.heap.size, 2, none⟩ = some (.slice B m k) := fun x => (cell_of_row _ _ 2 _ _ _ (((fut_ok Later.refl z5 x).block _ HXS.out).trans HX9.out)).trans rfl
                                have hfy0 : ∀ x, (fut Later z5 x).cell? ⟨g4, 0, none⟩ = some (.int .i64 p.fr) := fun x => (cell_of_row _ _ 0 _ _ _ (((fut_ok Later.refl z5 x).block _ HYS.out).trans HY9.out)).trans rfl
                                have hfy1 : ∀ x, (fut Later z5 x).cell? ⟨g4, 1, none⟩ = some (.int .i64 p.tu) := fun x => (cell_of_row _ _ 1 _ _ _ (((fut_ok Later.refl z5 x).block _ HYS.out).trans HY9.out)).trans rfl
                                refine wpGrow_cons ?_
                                repeat (go_big_quiet_step (fail))
                                refine wpQuiet_nil ?_
                                clear hf1 hf2 hfy0 hfy1
                                go_wp2_with fail
                                refine pieceEnd_normal ⟨Later.refl _, ?_⟩
                                have hf1 : ∀ x, (fut Later z5 x).cell? ⟨w.heap.size, 1, none⟩ = some (.slice (some ⟨b, off, none⟩) n c) := fun x => (cell_of_row _ _ 1 _ _ _ (((fut_ok Later.refl z5 x).block _ HXS.out).trans HX9.out)).trans rfl
                                have hf2 : ∀ x, (fut Later z5 x).cell? ⟨w.heap.size, 2, none⟩ = some (.slice B m k) := fun x => (cell_of_row _ _ 2 _ _ _ (((fut_ok Later.refl z5 x).block _ HXS.out).trans HX9.out)).trans rfl
                                have hfy0 : ∀ x, (fut Later z5 x).cell? ⟨g4, 0, none⟩ = some (.int .i64 p.fr) := fun x => (cell_of_row _ _ 0 _ _ _ (((fut_ok Later.refl z5 x).block _ HYS.out).trans HY9.out)).trans rfl
                                have hfy1 : ∀ x, (fut Later z5 x).cell? ⟨g4, 1, none⟩ = some (.int .i64 p.tu) := fun x => (cell_of_row _ _ 1 _ _ _ (((fut_ok Later.refl z5 x).block _ HYS.out).trans HY9.out)).trans rfl
                                refine wpGrow_cons ?_
                                repeat (go_big_quiet_step (fail))
                                refine wpQuiet_nil ?_
                                clear hf1 hf2 hfy0 hfy1
                                go_wp2_with fail
                                refine pieceEnd_normal ⟨Later.refl _, ?_⟩
                                refine wpGrow_nil ?_
                                repeat (go_big_quiet_step (fail))
                                refine wpQuiet_nil ?_
                                try clear hf1 hf2 hfy0 hfy1
                                go_wp2_with fail
                                go_ret
                                exact ⟨by rw [HE.out]; rfl, HBR9.out⟩
                              · have HNX : Hid (nextB G.es j = true) := Lib.hid (by rw [HNX0.out, hbq])
                                clear hbq
                                have hf1 : ∀ x, (fut Later z5 x).cell? ⟨w.heap.size, 1, none⟩ = some (.slice (some ⟨b, off, none⟩) n c) := fun x => (cell_of_row _ _ 1 _ _ _ (((fut_ok Later.refl z5 x).block _ HXS.out).trans HX9.out)).trans rfl
                                have hf2 : ∀ x, (fut Later z5 x).cell? ⟨w.heap.size, 2, none⟩ = some (.slice B m k) := fun x => (cell_of_row _ _ 2 _ _ _ (((fut_ok Later.refl z5 x).block _ HXS.out).trans HX9.out)).trans rfl
                                have hfy0 : ∀ x, (fut Later z5 x).cell? ⟨g4, 0, none⟩ = some (.int .i64 p.fr) := fun x => (cell_of_row _ _ 0 _ _ _ (((fut_ok Later.refl z5 x).block _ HYS.out).trans HY9.out)).trans rfl
                                have hfy1 : ∀ x, (fut Later z5 x).cell? ⟨g4, 1, none⟩ = some (.int .i64 p.tu) := fun x => (cell_of_row _ _ 1 _ _ _ (((fut_ok Later.refl z5 x).block _ HYS.out).trans HY9.out)).trans rfl
                                refine wpGrow_cons ?_
                                repeat (go_big_quiet_step (fail))
                                refine wpQuiet_nil ?_
                                clear hf1 hf2 hfy0 hfy1
                                go_wp2_with fail
                                refine (HHS.out z5 p.fr HBR9.out).mono ?_
                                rintro e z8 ⟨rfl, hb⟩
                                have HF : Hid (Later z5 z8) := Lib.hid hb
                                replace HX9 := Lib.hid ((hb.block _ HXS.out).trans HX9.out); replace HY9 := Lib.hid ((hb.block _ HYS.out).trans HY9.out)
                                replace HXS := Lib.hid (Nat.lt_of_lt_of_le HXS.out hb.size); replace HYS := Lib.hid (Nat.lt_of_lt_of_le HYS.out hb.size)
                                replace HB9 := Lib.hid (HB9.out.trans (hb.mono HB9.out.size)); replace HBR9 := Lib.hid (HBR9.out.trans (hb.mono HBR9.out.size))
                                clear hb
                                go_wp2_with fail
                                refine pieceEnd_normal ⟨HF.out, ?_⟩
                                clear HF
                                cases hh0 : hasI G.gn p.fr
                                · rw [hh0] at HFR
                                  clear hh0
                                  have hf1 : ∀ x, (fut Later z8 x).cell? ⟨w.heap.size, 1, none⟩ = some (.slice (some ⟨b, off, none⟩) n c) := fun x => (cell_of_row _ _ 1 _ _ _ (((fut_ok Later.refl z8 x).block _ HXS.out).trans HX9.out)).trans rfl
                                  have hf2 : ∀ x, (fut Later z8 x).cell? ⟨w.heap.size, 2, none⟩ = some (.slice B m k) := fun x => (cell_of_row _ _ 2 _ _ _ (((fut_ok Later.refl z8 x).block _ HXS.out).trans HX9.out)).trans rfl
                                  have hfy0 : ∀ x, (fut Later z8 x).cell? ⟨g4, 0, none⟩ = some (.int .i64 p.fr) := fun x => (cell_of_row _ _ 0 _ _ _ (((fut_ok Later.refl z8 x).block _ HYS.out).trans HY9.out)).trans rfl
                                  have hfy1 : ∀ x, (fut Later z8 x).cell? ⟨g4, 1, none⟩ = some (.int .i64 p.tu) := fun x => (cell_of_row _ _ 1 _ _ _ (((fut_ok Later.refl z8 x).block _ HYS.out).trans HY9.out)).trans rfl
                                  refine wpGrow_cons ?_
                                  repeat (go_big_quiet_step (fail))
                                  refine wpQuiet_nil ?_
                                  clear hf1 hf2 hfy0 hfy1
                                  go_wp2_with fail
                                  refine (HHS.out z8 p.tu HBR9.out).mono ?_
                                  rintro e z9 ⟨rfl, hb⟩
                                  have HF : Hid (Later z8 z9) := Lib.hid hb
                                  replace HX9 := Lib.hid ((hb.block _ HXS.out).trans HX9.out); replace HY9 := Lib.hid ((hb.block _ HYS.out).trans HY9.out)
                                  replace HXS := Lib.hid (Nat.lt_of_lt_of_le HXS.out hb.size); replace HYS := Lib.hid (Nat.lt_of_lt_of_le HYS.out hb.size)
                                  replace HB9 := Lib.hid (HB9.out.trans (hb.mono HB9.out.size)); replace HBR9 := Lib.hid (HBR9.out.trans (hb.mono HBR9.out.size))
                                  clear hb
                                  go_wp2_with fail
                                  refine pieceEnd_normal ⟨HF.out, ?_⟩
                                  clear HF
                                  cases hh1 : hasI G.gn p.tu
                                  · have HT : Hid (okE G j = true) := Lib.hid (by rw [HOJ.out, HNX.out, HFR.out, hh1]; rfl)
                                    clear hh1
                                    refine wpGrow_nil ?_
                                    repeat (go_big_quiet_step (fail))
                                    refine wpQuiet_nil ?_
                                    try clear hf1 hf2 hfy0 hfy1
                                    go_wp2_with fail
                                    exact ⟨⟨j + 1, by omega, by go_num, Lib.hid ⟨fun q hq => (Nat.lt_or_ge q j).elim (fun h => HK.out q h) (fun h => by rw [show q = j by omega]; exact HT.out), HB9.out⟩⟩, by simp [intOf]; omega⟩
                                  · have HE : Hid (CG = 14) := Lib.hid (HBAD.out (HNO.out j hlt (by rw [HOJ.out, HFR.out, hh1]; simp)))
                                    clear hh1
                                    refine wpGrow_nil ?_
                                    repeat (go_big_quiet_step (fail))
                                    refine wpQuiet_nil ?_
                                    try clear hf1 hf2 hfy0 hfy1
                                    go_wp2_with fail
                                    go_ret
                                    exact ⟨by rw [HE.out]; rfl, HBR9.out⟩
                                · have HE : Hid (CG = 14) := Lib.hid (HBAD.out (HNO.out j hlt (by rw [HOJ.out, HFR.out, hh0]; simp)))
                                  clear hh0
                                  have hf1 : ∀ x, (fut Later z8 x).cell? ⟨w.heap.size, 1, none⟩ = some (.slice (some ⟨b, off, none⟩) n c) := fun x => (cell_of_row _ _ 1 _ _ _ (((fut_ok Later.refl z8 x).block _ HXS.out).trans HX9.out)).trans rfl
                                  have hf2 : ∀ x, (fut Later z8 x).cell? ⟨w.heap.size, 2, none⟩ = some (.slice B m k) := fun x => (cell_of_row _ _ 2 _ _ _ (((fut_ok Later.refl z8 x).block _ HXS.out).trans HX9.out)).trans rfl
                                  have hfy0 : ∀ x, (fut Later z8 x).cell? ⟨g4, 0, none⟩ = some (.int .i64 p.fr) := fun x => (cell_of_row _ _ 0 _ _ _ (((fut_ok Later.refl z8 x).block _ HYS.out).trans HY9.out)).trans rfl
                                  have hfy1 : ∀ x, (fut Later z8 x).cell? ⟨g4, 1, none⟩ = some (.int .i64 p.tu) := fun x => (cell_of_row _ _ 1 _ _ _ (((fut_ok Later.refl z8 x).block _ HYS.out).trans HY9.out)).trans rfl
                                  refine wpGrow_cons ?_
                                  repeat (go_big_quiet_step (fail))
                                  refine wpQuiet_nil ?_
                                  clear hf1 hf2 hfy0 hfy1
                                  go_wp2_with fail
                                  refine pieceEnd_normal ⟨Later.refl _, ?_⟩
                                  refine wpGrow_nil ?_
                                  repeat (go_big_quiet_step (fail))
                                  refine wpQuiet_nil ?_
                                  try clear hf1 hf2 hfy0 hfy1
                                  go_wp2_with fail
                                  go_ret
                                  exact ⟨by rw [HE.out]; rfl, HBR9.out⟩
                            · have e0 : decide ((j : Int) > 0) = false := decide_eq_false (by omega)
                              have e0' : decide ((0 : Int) < (j : Int)) = false := e0
                              have HNX : Hid (nextB G.es j = true) := Lib.hid (by unfold nextB; rw [decide_eq_true (by omega), Bool.true_or])
                              have hf1 : ∀ x, (fut Later z0 x).cell? ⟨w.heap.size, 1, none⟩ = some (.slice (some ⟨b, off, none⟩) n c) := fun x => (cell_of_row _ _ 1 _ _ _ (((fut_ok Later.refl z0 x).block _ HXS.out).trans HX9.out)).trans rfl
                              have hf2 : ∀ x, (fut Later z0 x).cell? ⟨w.heap.size, 2, none⟩ = some (.slice B m k) := fun x => (cell_of_row _ _ 2 _ _ _ (((fut_ok Later.refl z0 x).block _ HXS.out).trans HX9.out)).trans rfl
                              have hfy0 : ∀ x, (fut Later z0 x).cell? ⟨g4, 0, none⟩ = some (.int .i64 p.fr) := fun x => (cell_of_row _ _ 0 _ _ _ (((fut_ok Later.refl z0 x).block _ HYS.out).trans HY9.out)).trans rfl
                              have hfy1 : ∀ x, (fut Later z0 x).cell? ⟨g4, 1, none⟩ = some (.int .i64 p.tu) := fun x => (cell_of_row _ _ 1 _ _ _ (((fut_ok Later.refl z0 x).block _ HYS.out).trans HY9.out)).trans rfl
                              refine wpGrow_cons ?_
                              repeat (go_big_quiet_step (fail))
                              refine wpQuiet_nil ?_
                              clear hf1 hf2 hfy0 hfy1
                              go_wp2_with fail
                              refine pieceEnd_normal ⟨Later.refl _, ?_⟩
                              clear e0 e0'
                              have hf1 : ∀ x, (fut Later z0 x).cell? ⟨w.heap.size, 1, none⟩ = some (.slice (some ⟨b, off, none⟩) n c) := fun x => (cell_of_row _ _ 1 _ _ _ (((fut_ok Later.refl z0 x).block _ HXS.out).trans HX9.out)).trans rfl
                              have hf2 : ∀ x, (fut Later z0 x).cell? ⟨w.heap.size, 2, none⟩ = some (.slice B m k) := fun x => (cell_of_row _ _ 2 _ _ _ (((fut_ok Later.refl z0 x).block _ HXS.out).trans HX9.out)).trans rfl
                              have hfy0 : ∀ x, (fut Later z0 x).cell? ⟨g4, 0, none⟩ = some (.int .i64 p.fr) := fun x => (cell_of_row _ _ 0 _ _ _ (((fut_ok Later.refl z0 x).block _ HYS.out).trans HY9.out)).trans rfl
                              have hfy1 : ∀ x, (fut Later z0 x).cell? ⟨g4, 1, none⟩ = some (.int .i64 p.tu) := fun x => (cell_of_row _ _ 1 _ _ _ (((fut_ok Later.refl z0 x).block _ HYS.out).trans HY9.out)).trans rfl
                              refine wpGrow_cons ?_
                              repeat (go_big_quiet_step (fail))
                              refine wpQuiet_nil ?_
                              clear hf1 hf2 hfy0 hfy1
                              go_wp2_with fail
                              refine (HHS.out z0 p.fr HBR9.out).mono ?_
                              rintro e z8 ⟨rfl, hb⟩
                              have HF : Hid (Later z0 z8) := Lib.hid hb
                              replace HX9 := Lib.hid ((hb.block _ HXS.out).trans HX9.out); replace HY9 := Lib.hid ((hb.block _ HYS.out).trans HY9.out)
                              replace HXS := Lib.hid (Nat.lt_of_lt_of_le HXS.out hb.size); replace HYS := Lib.hid (Nat.lt_of_lt_of_le HYS.out hb.size)
                              replace HB9 := Lib.hid (HB9.out.trans (hb.mono HB9.out.size)); replace HBR9 := Lib.hid (HBR9.out.trans (hb.mono HBR9.out.size))
                              clear hb
                              go_wp2_with fail
                              refine pieceEnd_normal ⟨HF.out, ?_⟩
                              clear HF
                              cases hh0 : hasI G.gn p.fr
                              · rw [hh0] at HFR
                                clear hh0
                                have hf1 : ∀ x, (fut Later z8 x).cell? ⟨w.heap.size, 1, none⟩ = some (.slice (some ⟨b, off, none⟩) n c) := fun x => (cell_of_row _ _ 1 _ _ _ (((fut_ok Later.refl z8 x).block _ HXS.out).trans HX9.out)).trans rfl
                                have hf2 : ∀ x, (fut Later z8 x).cell? ⟨w.heap.size, 2, none⟩ = some (.slice B m k) := fun x => (cell_of_row _ _ 2 _ _ _ (((fut_ok Later.refl z8 x).block _ HXS.out).trans HX9.out)).trans rfl
                                have hfy0 : ∀ x, (fut Later z8 x).cell? ⟨g4, 0, none⟩ = some (.int .i64 p.fr) := fun x => (cell_of_row _ _ 0 _ _ _ (((fut_ok Later.refl z8 x).block _ HYS.out).trans HY9.out)).trans rfl
                                have hfy1 : ∀ x, (fut Later z8 x).cell? ⟨g4, 1, none⟩ = some (.int .i64 p.tu) := fun x => (cell_of_row _ _ 1 _ _ _ (((fut_ok Later.refl z8 x).block _ HYS.out).trans HY9.out)).trans rfl
                                refine wpGrow_cons ?_
                                repeat (go_big_quiet_step (fail))
                                refine wpQuiet_nil ?_
                                clear hf1 hf2 hfy0 hfy1
                                go_wp2_with fail
                                refine (HHS.out z8 p.tu HBR9.out).mono ?_
                                rintro e z9 ⟨rfl, hb⟩
                                have HF : Hid (Later z8 z9) := Lib.hid hb
                                replace HX9 := Lib.hid ((hb.block _ HXS.out).trans HX9.out); replace HY9 := Lib.hid ((hb.block _ HYS.out).trans HY9.out)
                                replace HXS := Lib.hid (Nat.lt_of_lt_of_le HXS.out hb.size); replace HYS := Lib.hid (Nat.lt_of_lt_of_le HYS.out hb.size)
                                replace HB9 := Lib.hid (HB9.out.trans (hb.mono HB9.out.size)); replace HBR9 := Lib.hid (HBR9.out.trans (hb.mono HBR9.out.size))
                                clear hb
                                go_wp2_with fail
                                refine pieceEnd_normal ⟨HF.out, ?_⟩
                                clear HF
                                cases hh1 : hasI G.gn p.tu
                                · have HT : Hid (okE G j = true) := Lib.hid (by rw [HOJ.out, HNX.out, HFR.out, hh1]; rfl)
                                  clear hh1
                                  refine wpGrow_nil ?_
                                  repeat (go_big_quiet_step (fail))
                                  refine wpQuiet_nil ?_
                                  try clear hf1 hf2 hfy0 hfy1
                                  go_wp2_with fail
                                  exact ⟨⟨j + 1, by omega, by go_num, Lib.hid ⟨fun q hq => (Nat.lt_or_ge q j).elim (fun h => HK.out q h) (fun h => by rw [show q = j by omega]; exact HT.out), HB9.out⟩⟩, by simp [intOf]; omega⟩
                                · have HE : Hid (CG = 14) := Lib.hid (HBAD.out (HNO.out j hlt (by rw [HOJ.out, HFR.out, hh1]; simp)))
                                  clear hh1
                                  refine wpGrow_nil ?_
                                  repeat (go_big_quiet_step (fail))
                                  refine wpQuiet_nil ?_
                                  try clear hf1 hf2 hfy0 hfy1
                                  go_wp2_with fail
                                  go_ret
                                  exact ⟨by rw [HE.out]; rfl, HBR9.out⟩
                              · have HE : Hid (CG = 14) := Lib.hid (HBAD.out (HNO.out j hlt (by rw [HOJ.out, HFR.out, hh0]; simp)))
                                clear hh0
                                have hf1 : ∀ x, (fut Later z8 x).cell? ⟨w.heap.size, 1, none⟩ = some (.slice (some ⟨b, off, none⟩) n c) := fun x => (cell_of_row _ _ 1 _ _ _ (((fut_ok Later.refl z8 x).block _ HXS.out).trans HX9.out)).trans rfl
                                have hf2 : ∀ x, (fut Later z8 x).cell? ⟨w.heap.size, 2, none⟩ = some (.slice B m k) := fun x => (cell_of_row _ _ 2 _ _ _ (((fut_ok Later.refl z8 x).block _ HXS.out).trans HX9.out)).trans rfl
                                have hfy0 : ∀ x, (fut Later z8 x).cell? ⟨g4, 0, none⟩ = some (.int .i64 p.fr) := fun x => (cell_of_row _ _ 0 _ _ _ (((fut_ok Later.refl z8 x).block _ HYS.out).trans HY9.out)).trans rfl
                                have hfy1 : ∀ x, (fut Later z8 x).cell? ⟨g4, 1, none⟩ = some (.int .i64 p.tu) := fun x => (cell_of_row _ _ 1 _ _ _ (((fut_ok Later.refl z8 x).block _ HYS.out).trans HY9.out)).trans rfl
                                refine wpGrow_cons ?_
                                repeat (go_big_quiet_step (fail))
                                refine wpQuiet_nil ?_
                                clear hf1 hf2 hfy0 hfy1
                                go_wp2_with fail
                                refine pieceEnd_normal ⟨Later.refl _, ?_⟩
                                refine wpGrow_nil ?_
                                repeat (go_big_quiet_step (fail))
                                refine wpQuiet_nil ?_
                                try clear hf1 hf2 hfy0 hfy1
                                go_wp2_with fail
                                go_ret
                                exact ⟨by rw [HE.out]; rfl, HBR9.out⟩
            · have hlt2 : ¬ (j : Int) < (n : Int) := by omega
              have HE : Hid (CG = 0) := Lib.hid (HGOOD.out (HYES.out HH.out fun q hq => HK.out q (by omega)))
              go_wp2_with fail
              go_ret
              exact ⟨by rw [HE.out]; rfl, HBR.out⟩
        · have HE : Hid (CG = 14) := Lib.hid (HBAD.out (okG_head (by rw [HHD.out, show setB G.gn G.sz = false by simpa using c3]; simp)))
          rw [show setB G.gn G.sz = false by simpa using c3]
          clear c3
          go_wp2_with fail
          go_ret
          exact ⟨by rw [HE.out]; rfl, HW1.out⟩
end Go.Proofs.Ytdildmfjekdlgaa
