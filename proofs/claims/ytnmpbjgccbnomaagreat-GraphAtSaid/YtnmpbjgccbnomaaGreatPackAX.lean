import Derived.Test.YtnmpbjgccbnomaaGreatPackAW
import Derived.Test.YtnmpbjgccbnomaaGreatPackAV
/- The walk of graph's Check. -/
namespace Go.Proofs.YtnmpbjgccbnomaaGreat
open Go.RowKit
set_option maxRecDepth 100000 in
set_option maxHeartbeats 4000000 in
theorem checkGr_any (G : Gr) (v : Value) (w : World) (h : GHold w G v) (he : G.es.length ≤ 100000) (hg : G.gn.length ≤ 100000) : Calls Tryz.prog 16 #[v] w (SaysL (.int .i64 (checkG G)) w) := by
  obtain ⟨A, n, c, B, m, k, rfl, h1, h2⟩ := h
  have hn : n ≤ 100000 := by rw [← ERow.len h1]; exact he
  have hm : m ≤ 100000 := by rw [← h2.len]; exact hg
  have HL1 : Hid (G.es.length = n) := Lib.hid (ERow.len h1)
  have HN := Lib.hid (one_new w (.cells #[.int .i64 G.sz, .slice A n c, .slice B m k] 35))
  have HX : Hid ((w.alloc (.cells #[.int .i64 G.sz, .slice A n c, .slice B m k] 35)).heap[w.heap.size]? = some (.cells #[.int .i64 G.sz, .slice A n c, .slice B m k] 35 (0, 0))) := Lib.hid (heap_alloc_new _ _)
  have H1 := Lib.hid h1; have H2 := Lib.hid h2
  have HBAD : Hid (okG G = false → checkG G = 14) := Lib.hid fun h => by unfold checkG; rw [h]; rfl
  have HGOOD : Hid (okG G = true → checkG G = 0) := Lib.hid fun h => by unfold checkG; rw [h]; rfl
  have HHD : Hid (headB G = (decide (0 ≤ G.sz) && (decide (G.sz ≤ 64) && (decide (G.es.length ≤ 500) && setB G.gn G.sz)))) := Lib.hid rfl
  have HOKE : Hid (∀ i, okE G i = ((endsB G.sz (G.es.getD i noEdg) && freeB G.gn (G.es.getD i noEdg)) && (levB (G.es.getD i noEdg) && nextB G.es i))) := Lib.hid fun i => by
    unfold okE
    cases endsB G.sz (G.es.getD i noEdg) <;> cases levB (G.es.getD i noEdg) <;> cases nextB G.es i <;> cases freeB G.gn (G.es.getD i noEdg) <;> rfl
  have HNO : Hid (∀ i, i < n → okE G i = false → okG G = false) := Lib.hid fun i hi h => okG_no (by rw [HL1.out]; exact hi) h
  have HYES : Hid (headB G = true → (∀ i, i < n → okE G i = true) → okG G = true) := Lib.hid fun h0 h => okG_yes h0 fun i hi => h i (by rw [← HL1.out]; exact hi)
  generalize checkG G = CG at *
  clear h1 h2 he hg
  go_enter Tryz.func16, Tryz.ntmps16
  go_upto_region 1 with fail
  generalize (w.alloc (.cells #[.int .i64 G.sz, .slice A n c, .slice B m k] 35)) = y0 at *
  have HXL : Hid (w.heap.size < y0.heap.size) := Lib.hid (Array.getElem?_eq_some_iff.1 HX.out).1
  have hc0 : y0.cell? ⟨w.heap.size, 0, none⟩ = some (.int .i64 G.sz) := (cell_of_row _ _ 0 _ _ _ HX.out).trans rfl
  have hc1 : y0.cell? ⟨w.heap.size, 1, none⟩ = some (.slice A n c) := (cell_of_row _ _ 1 _ _ _ HX.out).trans rfl
  have hc2 : y0.cell? ⟨w.heap.size, 2, none⟩ = some (.slice B m k) := (cell_of_row _ _ 2 _ _ _ HX.out).trans rfl
  by_cases c0 : G.sz < 0
  · have d0 : decide (G.sz < 0) = true := decide_eq_true c0
    have HE : Hid (CG = 14) := Lib.hid (HBAD.out (okG_head (by rw [HHD.out, decide_eq_false (by omega), Bool.false_and])))
    clear c0
    go_wp2_with fail
    go_ret
    exact ⟨by rw [HE.out]; rfl, HN.out⟩
  · have d0 : decide (G.sz < 0) = false := decide_eq_false c0
    have C0 := Lib.hid c0; clear c0
    by_cases c1 : G.sz > 64
    · have d1 : decide (G.sz > 64) = true := decide_eq_true c1
      have d1' : decide (64 < G.sz) = true := d1
      have HE : Hid (CG = 14) := Lib.hid (HBAD.out (okG_head (by rw [HHD.out, decide_eq_false (by omega : ¬ G.sz ≤ 64), Bool.false_and, Bool.and_false])))
      clear c1
      go_wp2_with fail
      go_ret
      exact ⟨by rw [HE.out]; rfl, HN.out⟩
    · have d1 : decide (G.sz > 64) = false := decide_eq_false c1
      have d1' : decide (64 < G.sz) = false := d1
      have C1 := Lib.hid c1; clear c1
      by_cases c2 : n > 500
      · have d2 : decide ((n : Int) > 500) = true := decide_eq_true (by omega)
        have d2' : decide ((500 : Int) < (n : Int)) = true := d2
        have HE : Hid (CG = 14) := Lib.hid (HBAD.out (okG_head (by rw [HHD.out, decide_eq_false (by rw [HL1.out]; omega : ¬ G.es.length ≤ 500), Bool.false_and, Bool.and_false, Bool.and_false])))
        clear c2
        go_wp2_with fail
        go_ret
        exact ⟨by rw [HE.out]; rfl, HN.out⟩
      · have d2 : decide ((n : Int) > 500) = false := decide_eq_false (by omega)
        have d2' : decide ((500 : Int) < (n : Int)) = false := d2
        have C2 := Lib.hid c2; clear c2
        have HSET := Lib.hid (keysGr_any G A n c B m k B m k G.gn y0 (H2.out.later HN.out) hm)
        go_wp2_with (refine wpList_load_rowG rfl 35 (.tmp 1) rfl w.heap.size rfl 35 #[.int .i64 G.sz, .slice A n c, .slice B m k] (0, 0) _ HX.out Tryz.underlying35 rfl gr_size ?_)
        refine HSET.out.mono ?_
        rintro e w1 ⟨rfl, hb⟩
        have HW1 := Lib.hid (HN.out.trans (hb.mono HN.out.size))
        have HX1 : Hid (w1.heap[w.heap.size]? = some (.cells #[.int .i64 G.sz, .slice A n c, .slice B m k] 35 (0, 0))) := Lib.hid ((hb.block _ HXL.out).trans HX.out)
        clear hb HSET hc0 hc1 hc2 d0 d1 d1' d2 d2'
        by_cases c3 : setB G.gn G.sz = true
        · rw [c3]
          have HH : Hid (headB G = true) := Lib.hid (by rw [HHD.out, decide_eq_true (by have := C0.out; omega : 0 ≤ G.sz), decide_eq_true (by have := C1.out; omega : G.sz ≤ 64), decide_eq_true (by have := C2.out; rw [HL1.out]; omega : G.es.length ≤ 500), c3]; rfl)
          clear c3 C0 C1 C2 HHD HX HXL HN
          generalize y0 = y00 at *
          have HXL : Hid (w.heap.size < w1.heap.size) := Lib.hid (Array.getElem?_eq_some_iff.1 HX1.out).1
          have hg1 : w1.cell? ⟨w.heap.size, 1, none⟩ = some (.slice A n c) := (cell_of_row _ _ 1 _ _ _ HX1.out).trans rfl
          go_upto_region 4 with fail
          clear hg1
          go_loopw [29] (fun i wr => ∃ j : Nat, j ≤ n ∧ i = .int .i64 j ∧ Hid ((∀ q, q < j → okE G q = true) ∧ Below w1.heap.size w1 wr)) (fun i _ => n - (intOf i).toNat)
          case atStart => exact ⟨0, Nat.zero_le _, rfl, Lib.hid ⟨fun q h => absurd h (Nat.not_lt_zero _), Below.refl _ _⟩⟩
          case round =>
            obtain ⟨j, hj, rfl, HQ⟩ := hrel
            have HXR : Hid (wr.heap[w.heap.size]? = some (.cells #[.int .i64 G.sz, .slice A n c, .slice B m k] 35 (0, 0))) := Lib.hid ((HQ.out.2.block _ HXL.out).trans HX1.out)
            have HBR : Hid (Below w.heap.size w wr) := Lib.hid (HW1.out.trans (HQ.out.2.mono HW1.out.size))
            have HK := Lib.hid HQ.out.1; have HB := Lib.hid HQ.out.2
            clear HQ
            by_cases hlt : j < n
            · have hlt2 : (j : Int) < (n : Int) := by omega
              obtain ⟨b, off, hA, hc⟩ := GRow.cells Edg.len (by decide) (GRow.later H1.out HBR.out) noEdg j hlt
              subst hA
              obtain ⟨p, hp⟩ : ∃ p, G.es.getD j noEdg = p := ⟨_, rfl⟩
              rw [hp] at hc
              have HP := Lib.hid hp
              have HC : Hid (∀ q, q < p.arr.size → wr.cell? ⟨b, off + j * 3 + q, none⟩ = p.arr[q]?) := Lib.hid fun q hq => (hc q hq).trans (by rw [← Edg.list, Array.getElem?_toList])
              clear hc hp
              have HOJ : Hid (okE G j = ((endsB G.sz p && freeB G.gn p) && (levB p && nextB G.es j))) := Lib.hid (by rw [HOKE.out, HP.out])
              go_upto_region 6 with (first | (refine wpList_load_cells rfl 53 (.tmp 32) rfl b (off + j * 3) rfl p.arr _ Tryz.underlying53 rfl p.info HC.out ?_) | (refine wpList_store_new rfl 53 (.tmp 4) (.tmp 33) rfl 53 _ p.arr rfl rfl p.info rfl p.one ?_))
              have HN3 := Lib.hid (one_new wr (.cells p.arr 53))
              have HY : Hid ((wr.alloc (.cells p.arr 53)).heap[wr.heap.size]? = some (.cells p.arr 53 (0, 0))) := Lib.hid (heap_alloc_new _ _)
              replace HXR := Lib.hid ((HN3.out.block _ (Array.getElem?_eq_some_iff.1 HXR.out).1).trans HXR.out)
              replace HB := Lib.hid (HB.out.trans (HN3.out.mono HB.out.size))
              replace HBR := Lib.hid (HBR.out.trans (HN3.out.mono HBR.out.size))
              clear HN3 HC
              generalize wr.alloc (.cells p.arr 53) = x2 at *
              generalize wr.heap.size = g4 at *
              refine wp_region_grow (by kernel_rfl) Later Later.refl (fun _ _ _ => Later.trans) [22, 23, 24] [([0, 1], 2), ([3, 4, 5, 6], 7), ([8, 9, 10, 11, 12, 13, 14, 15, 16, 17, 18, 19, 20], 21)] (by kernel_rfl) (by kernel_rfl) (by kernel_rfl) ?_
              simp only [List.map_cons, List.map_nil, pick, List.getD_cons_zero, List.getD_cons_succ]
              have HB9 : Hid (Below w1.heap.size w1 x2.drew) := Lib.hid HB.out.drew
              have HBR9 : Hid (Below w.heap.size w x2.drew) := Lib.hid HBR.out.drew
              have HX9 : Hid (x2.drew.heap[w.heap.size]? = some (.cells #[.int .i64 G.sz, .slice (some ⟨b, off, none⟩) n c, .slice B m k] 35 (0, 0))) := Lib.hid HXR.out
              have HY9 : Hid (x2.drew.heap[g4]? = some (.cells p.arr 53 (0, 0))) := Lib.hid HY.out
              clear HB HBR HXR HY
              generalize x2.drew = z0 at *
              have HJN := Lib.hid (joinsGr_any G (some ⟨b, off, none⟩) n c B m k p z0 (H2.out.later HBR9.out) hm)
              have hl1 : ∀ x, (loadVar 35 ⟨w.heap.size, 0, none⟩).run Tryz.prog (fut Later z0 x) = .ok (.agg #[.int .i64 G.sz, .slice (some ⟨b, off, none⟩) n c, .slice B m k]) (fut Later z0 x) := fun x => run_loadVar_row _ w.heap.size 35 35 #[.int .i64 G.sz, .slice (some ⟨b, off, none⟩) n c, .slice B m k] (0, 0) _ (((fut_ok Later.refl z0 x).block _ (Array.getElem?_eq_some_iff.1 HX9.out).1).trans HX9.out) Tryz.underlying35 rfl gr_size
              have hl2 : ∀ x, (loadVar 53 ⟨g4, 0, none⟩).run Tryz.prog (fut Later z0 x) = .ok (.agg p.arr) (fut Later z0 x) := fun x => run_loadVar_row _ g4 53 53 p.arr (0, 0) _ (((fut_ok Later.refl z0 x).block _ (Array.getElem?_eq_some_iff.1 HY9.out).1).trans HY9.out) Tryz.underlying53 rfl p.info
              refine wpGrow_cons ?_
              repeat (first | (refine wpQuiet_load rfl 35 (.tmp 1) rfl ⟨w.heap.size, 0, none⟩ rfl (.agg #[.int .i64 G.sz, .slice (some ⟨b, off, none⟩) n c, .slice B m k]) (fun w' h => by obtain ⟨x, rfl⟩ := h; exact hl1 x) ?_; simp only [Act.put, List.setIfInBounds_toArray, List.set_cons_succ, List.set_cons_zero]) | (refine wpQuiet_load rfl 53 (.tmp 4) rfl ⟨g4, 0, none⟩ rfl (.agg p.arr) (fun w' h => by obtain ⟨x, rfl⟩ := h; exact hl2 x) ?_; simp only [Act.put, List.setIfInBounds_toArray, List.set_cons_succ, List.set_cons_zero]) | go_big_quiet_step (fail))
              refine wpQuiet_nil ?_
              clear hl1 hl2
              go_wp2_with fail
              refine HJN.out.mono ?_
              rintro e z5 ⟨rfl, hb⟩
              have HF : Hid (Later z0 z5) := Lib.hid hb
              replace HX9 := Lib.hid ((hb.block _ (Array.getElem?_eq_some_iff.1 HX9.out).1).trans HX9.out); replace HY9 := Lib.hid ((hb.block _ (Array.getElem?_eq_some_iff.1 HY9.out).1).trans HY9.out)
              replace HB9 := Lib.hid (HB9.out.trans (hb.mono HB9.out.size)); replace HBR9 := Lib.hid (HBR9.out.trans (hb.mono HBR9.out.size))
              clear hb
              go_wp2_with fail
              refine pieceEnd_normal ⟨HF.out, ?_⟩
              clear HF HJN
              cases hjn : (endsB G.sz p && freeB G.gn p)
              · have HE : Hid (CG = 14) := Lib.hid (HBAD.out (HNO.out j hlt (by rw [HOJ.out, hjn]; rfl)))
                clear hjn
                refine wpGrow_cons ?_
                repeat (go_big_quiet_step (fail))
                refine wpQuiet_nil ?_
                go_wp2_with fail
                refine pieceEnd_normal ⟨Later.refl _, ?_⟩
                refine wpGrow_cons ?_
                repeat (go_big_quiet_step (fail))
                refine wpQuiet_nil ?_
                go_wp2_with fail
                refine pieceEnd_normal ⟨Later.refl _, ?_⟩
                refine wpGrow_nil ?_
                repeat (go_big_quiet_step (fail))
                refine wpQuiet_nil ?_
                go_wp2_with fail
                go_ret
                exact ⟨by rw [HE.out]; rfl, HBR9.out⟩
              · rw [hjn, Bool.true_and] at HOJ
                clear hjn
                have hf2 : ∀ x, (fut Later z5 x).cell? ⟨g4, 2, none⟩ = some (.int .i64 p.lv) := fun x => (cell_of_row _ _ 2 _ _ _ (((fut_ok Later.refl z5 x).block _ (Array.getElem?_eq_some_iff.1 HY9.out).1).trans HY9.out)).trans rfl
                have HLB : Hid (levB p = (decide (1 ≤ p.lv) && decide (p.lv ≤ 3))) := Lib.hid rfl
                refine wpGrow_cons ?_
                repeat (go_big_quiet_step (fail))
                refine wpQuiet_nil ?_
                clear hf2
                go_wp2_with fail
                refine (levGr_any p.lv z5).mono ?_
                rintro e z6 ⟨rfl, rfl⟩
                rw [← HLB.out]
                clear HLB
                go_wp2_with fail
                refine pieceEnd_normal ⟨Later.refl _, ?_⟩
                cases hlv : levB p
                · have HE : Hid (CG = 14) := Lib.hid (HBAD.out (HNO.out j hlt (by rw [HOJ.out, hlv]; rfl)))
                  clear hlv
                  refine wpGrow_cons ?_
                  repeat (go_big_quiet_step (fail))
                  refine wpQuiet_nil ?_
                  go_wp2_with fail
                  refine pieceEnd_normal ⟨Later.refl _, ?_⟩
                  refine wpGrow_nil ?_
                  repeat (go_big_quiet_step (fail))
                  refine wpQuiet_nil ?_
                  go_wp2_with fail
                  go_ret
                  exact ⟨by rw [HE.out]; rfl, HBR9.out⟩
                · rw [hlv, Bool.true_and] at HOJ
                  clear hlv
                  by_cases hj0 : 0 < j
                  · have e0 : decide ((j : Int) > 0) = true := decide_eq_true (by omega)
                    have e0' : decide ((0 : Int) < (j : Int)) = true := e0
                    have e1 : (0 : Int) ≤ (j : Int) - 1 := by omega
                    have e2 : (j : Int) - 1 < (n : Int) := by omega
                    have e3 : ((j : Int) - 1).toNat = j - 1 := by omega
                    obtain ⟨q, hq⟩ : ∃ q, G.es.getD (j - 1) noEdg = q := ⟨_, rfl⟩
                    have HNX0 : Hid (nextB G.es j = befE q p) := Lib.hid (by unfold nextB; rw [decide_eq_false (by omega), Bool.false_or, HP.out, hq])
                    obtain ⟨b2, off2, hA2, hfq⟩ := GRow.futs (F := Later) Later.refl Edg.len (by decide) (fun _ h => h) (GRow.later H1.out HBR9.out) noEdg (j - 1) (by omega)
                    injection hA2 with hA2
                    injection hA2 with i1 i2
                    subst i1 i2
                    rw [hq] at hfq
                    have hl1 : ∀ x, (loadVar 53 ⟨b, off + (j - 1) * 3, none⟩).run Tryz.prog (fut Later z6 x) = .ok (.agg q.arr) (fut Later z6 x) := fun x => run_loadVar_cells _ b (off + (j - 1) * 3) 53 q.arr _ Tryz.underlying53 rfl q.info fun i hi => (hfq x i hi).trans (by rw [← Edg.list, Array.getElem?_toList])
                    have hl2 : ∀ x, (loadVar 53 ⟨g4, 0, none⟩).run Tryz.prog (fut Later z6 x) = .ok (.agg p.arr) (fut Later z6 x) := fun x => run_loadVar_row _ g4 53 53 p.arr (0, 0) _ (((fut_ok Later.refl z6 x).block _ (Array.getElem?_eq_some_iff.1 HY9.out).1).trans HY9.out) Tryz.underlying53 rfl p.info
                    have hf1 : ∀ x, (fut Later z6 x).cell? ⟨w.heap.size, 1, none⟩ = some (.slice (some ⟨b, off, none⟩) n c) := fun x => (cell_of_row _ _ 1 _ _ _ (((fut_ok Later.refl z6 x).block _ (Array.getElem?_eq_some_iff.1 HX9.out).1).trans HX9.out)).trans rfl
                    clear hfq hq
                    refine wpGrow_cons ?_
                    repeat (first | (refine wpQuiet_load rfl 53 (.tmp 52) rfl ⟨b, off + (j - 1) * 3, none⟩ rfl (.agg q.arr) (fun w' h => by obtain ⟨x, rfl⟩ := h; exact hl1 x) ?_; simp only [Act.put, List.setIfInBounds_toArray, List.set_cons_succ, List.set_cons_zero]) | (refine wpQuiet_load rfl 53 (.tmp 4) rfl ⟨g4, 0, none⟩ rfl (.agg p.arr) (fun w' h => by obtain ⟨x, rfl⟩ := h; exact hl2 x) ?_; simp only [Act.put, List.setIfInBounds_toArray, List.set_cons_succ, List.set_cons_zero]) | go_big_quiet_step (fail))
                    refine wpQuiet_nil ?_
                    clear hl1 hl2 hf1 e0 e0' e1 e2 e3
                    go_wp2_with fail
                    refine (compareEd_any q p z6).mono ?_
                    rintro e z7 ⟨rfl, hb⟩
                    replace hb := hb.1
                    have HF : Hid (Later z6 z7) := Lib.hid hb
                    replace HX9 := Lib.hid ((hb.block _ (Array.getElem?_eq_some_iff.1 HX9.out).1).trans HX9.out); replace HY9 := Lib.hid ((hb.block _ (Array.getElem?_eq_some_iff.1 HY9.out).1).trans HY9.out)
                    replace HB9 := Lib.hid (HB9.out.trans (hb.mono HB9.out.size)); replace HBR9 := Lib.hid (HBR9.out.trans (hb.mono HBR9.out.size))
                    clear hb
                    go_wp2_with fail
                    refine pieceEnd_normal ⟨HF.out, ?_⟩
                    clear HF
                    have HCI : Hid (cmpEd q p < 0 ↔ befE q p = true) := Lib.hid (cmpEd_iff q p)
                    generalize cmpEd q p = r at *
                    by_cases hr : r < 0
                    · have d1 : decide (r ≥ 0) = false := decide_eq_false (by omega)
                      have d1' : decide (0 ≤ r) = false := d1
                      have HT : Hid (okE G j = true) := Lib.hid (by rw [HOJ.out, HNX0.out, HCI.out.1 hr])
                      clear hr
                      refine wpGrow_nil ?_
                      repeat (go_big_quiet_step (fail))
                      refine wpQuiet_nil ?_
                      go_wp2_with fail
                      exact ⟨⟨j + 1, by omega, by go_num, Lib.hid ⟨fun q hq => (Nat.lt_or_ge q j).elim (fun h => HK.out q h) (fun h => by rw [show q = j by omega]; exact HT.out), HB9.out⟩⟩, by simp [intOf]; omega⟩
                    · have d1 : decide (r ≥ 0) = true := decide_eq_true (by omega)
                      have d1' : decide (0 ≤ r) = true := d1
                      have HE : Hid (CG = 14) := Lib.hid (HBAD.out (HNO.out j hlt (by rw [HOJ.out, HNX0.out]; exact Bool.eq_false_iff.2 fun q => hr (HCI.out.2 q))))
                      clear hr
                      refine wpGrow_nil ?_
                      repeat (go_big_quiet_step (fail))
                      refine wpQuiet_nil ?_
                      go_wp2_with fail
                      go_ret
                      exact ⟨by rw [HE.out]; rfl, HBR9.out⟩
                  · have e0 : decide ((j : Int) > 0) = false := decide_eq_false (by omega)
                    have e0' : decide ((0 : Int) < (j : Int)) = false := e0
                    have HT : Hid (okE G j = true) := Lib.hid (by rw [HOJ.out]; unfold nextB; rw [decide_eq_true (by omega), Bool.true_or])
                    refine wpGrow_cons ?_
                    repeat (go_big_quiet_step (fail))
                    refine wpQuiet_nil ?_
                    go_wp2_with fail
                    refine pieceEnd_normal ⟨Later.refl _, ?_⟩
                    refine wpGrow_nil ?_
                    repeat (go_big_quiet_step (fail))
                    refine wpQuiet_nil ?_
                    go_wp2_with fail
                    exact ⟨⟨j + 1, by omega, by go_num, Lib.hid ⟨fun q hq => (Nat.lt_or_ge q j).elim (fun h => HK.out q h) (fun h => by rw [show q = j by omega]; exact HT.out), HB9.out⟩⟩, by simp [intOf]; omega⟩
            · have hlt2 : ¬ (j : Int) < (n : Int) := by omega
              have HE : Hid (CG = 0) := Lib.hid (HGOOD.out (HYES.out HH.out fun q hq => HK.out q (by omega)))
              go_wp2_with fail
              go_ret
              exact ⟨by rw [HE.out]; rfl, HBR.out⟩
        · have HE : Hid (CG = 14) := Lib.hid (HBAD.out (okG_head (by rw [HHD.out, show setB G.gn G.sz = false by simpa using c3]; simp)))
          rw [show setB G.gn G.sz = false by simpa using c3]
          clear c3
          go_wp2_with fail
          go_ret
          exact ⟨by rw [HE.out]; rfl, HW1.out⟩
end Go.Proofs.YtnmpbjgccbnomaaGreat
/- The walk of slices.BinarySearchFunc over edges, with graph's compare. -/
namespace Go.Proofs.YtnmpbjgccbnomaaGreat
open Go.RowKit
/-- Where an edge is looked for: what the program's search gives. -/
theorem bs_low {l : List Edg} {e : Edg} (i : Nat) (h : i < idxE e l) : cmpEd (l.getD i noEdg) e < 0 := (cmpEd_iff _ _).2 (idxE_low e l i h)
theorem bs_high {l : List Edg} {e : Edg} (hl : l.Pairwise ltE) (i : Nat) (h : idxE e l ≤ i) (hi : i < l.length) : 0 ≤ cmpEd (l.getD i noEdg) e := by
  refine Int.not_lt.1 fun hc => ?_
  have h1 := (befE_iff _ _).1 ((cmpEd_iff _ _).1 hc)
  have h2 := idxE_at e l (by omega)
  rcases Nat.lt_or_ge (idxE e l) i with h3 | h3
  · have h4 := pair_at hl h3 hi
    rw [← getDE hi, ← getDE (by omega : idxE e l < l.length)] at h4
    have h5 := (befE_iff _ _).2 (ltE_trans h4 h1)
    rw [h2] at h5
    cases h5
  · rw [show idxE e l = i by omega] at h2
    rw [(befE_iff _ _).2 h1] at h2
    cases h2
theorem bs_there (l : List Edg) (e : Edg) : (decide (idxE e l < l.length) && decide (cmpEd (l.getD (idxE e l) noEdg) e = 0)) = thereE e l := by
  unfold thereE
  congr 1
  rw [← Bool.decide_and]
  exact decide_eq_decide.2 (cmpEd_zero _ _)
set_option maxRecDepth 100000 in
set_option maxHeartbeats 4000000 in
theorem bsearchEd_any (A : Option Addr) (n c : Nat) (l : List Edg) (e : Edg) (w : World) (hl : ERow w A n c l) (hn : n ≤ 1000000) (hs : l.Pairwise ltE) :
    Calls Tryz.prog 39 #[.slice A n c, .agg e.arr, .func (.func 38) #[] #[]] w (SaysL (.tuple #[.int .i64 (idxE e l : Nat), .bool (thereE e l)]) w) := by
  have HL := Lib.hid hl; have HLN : Hid (l.length = n) := Lib.hid (ERow.len hl)
  have HTH := Lib.hid (bs_there l e)
  have HLO : Hid (∀ i, i < idxE e l → cmpEd (l.getD i noEdg) e < 0) := Lib.hid fun i h => bs_low i h
  have HHI : Hid (∀ i, idxE e l ≤ i → i < n → 0 ≤ cmpEd (l.getD i noEdg) e) := Lib.hid fun i h hi => bs_high hs i h (by rw [HLN.out]; exact hi)
  have hp : idxE e l ≤ n := by rw [← HLN.out]; exact idxE_le e l
  rw [HLN.out] at HTH
  generalize thereE e l = th at *
  generalize idxE e l = p at *
  clear hl hs
  have HCM : Hid (∀ q y, Calls Tryz.prog 38 #[.agg (Edg.arr q), .agg e.arr] y fun x w' => x = .returned (.int .i64 (cmpEd q e)) ∧ Laid y w') := Lib.hid fun q y => compareEd_any q e y
  have HB := Lib.hid (one_new w (.cells e.arr 53))
  have HX := Lib.hid (heap_alloc_new w (.cells e.arr 53))
  go_enter Tryz.func39, Tryz.ntmps39
  go_wp2_with fail
  generalize w.alloc (.cells e.arr 53) = w0 at HB HX ⊢
  go_loopw [9, 10] (fun a b wr => ∃ i j : Nat, i ≤ p ∧ p ≤ j ∧ j ≤ n ∧ a = .int .i64 i ∧ b = .int .i64 j ∧ Hid (Below w0.heap.size w0 wr)) (fun a b _ => (intOf b).toNat - (intOf a).toNat)
  case atStart => exact ⟨0, n, Nat.zero_le _, hp, Nat.le_refl _, rfl, rfl, Lib.hid (Below.refl _ _)⟩
  case round =>
    obtain ⟨i, j, hi, hj, hjn, rfl, rfl, HQ⟩ := hrel
    by_cases hlt : i < j
    · have HLX : Hid (w.heap.size < w0.heap.size) := Lib.hid (Array.getElem?_eq_some_iff.1 HX.out).1
      have HX2 : Hid (wr.drew.heap[w.heap.size]? = some (.cells e.arr 53 (0, 0))) := Lib.hid ((HQ.out.block _ HLX.out).trans HX.out)
      have HL2 : Hid (ERow wr.drew A n c l) := Lib.hid (GRow.later HL.out ((HB.out.trans (HQ.out.mono HB.out.size)).drew))
      have HM : Hid (i ≤ (i + j) / 2 ∧ (i + j) / 2 < j) := Lib.hid (by omega)
      go_wp2_with fail
      rw [show ((i : Int) + (j : Int)) / 2 = (((i + j) / 2 : Nat) : Int) by omega]
      generalize (i + j) / 2 = h at HM ⊢
      have hhn : h < n := by have := HM.out; omega
      have hhn2 : (h : Int) < (n : Int) := by omega
      obtain ⟨b, off, hA, hfq⟩ := GRow.futs (F := Later) Later.refl Edg.len (by decide) (fun _ h => h) HL2.out noEdg h hhn
      subst hA
      have HB2 : Hid (Below w0.heap.size w0 wr.drew) := Lib.hid HQ.out.drew
      have HS1 : Hid (h < p → cmpEd (l.getD h noEdg) e < 0) := Lib.hid (HLO.out h)
      have HS2 : Hid (p ≤ h → 0 ≤ cmpEd (l.getD h noEdg) e) := Lib.hid fun g => HHI.out h g hhn
      have HC := Lib.hid (HCM.out (l.getD h noEdg))
      generalize l.getD h noEdg = s at *
      generalize cmpEd s e = r at HC HS1 HS2
      refine wp_region_grow (by kernel_rfl) Later Later.refl (fun _ _ _ => Later.trans) [7] [([0, 1, 2, 3, 4, 5], 6)] (by kernel_rfl) (by kernel_rfl) (by kernel_rfl) ?_
      simp only [List.map_cons, List.map_nil, pick, List.getD_cons_zero, List.getD_cons_succ]
      generalize wr.drew = w1 at *
      have hl1 : ∀ x, (loadVar 53 ⟨b, off + h * 3, none⟩).run Tryz.prog (fut Later w1 x) = .ok (.agg s.arr) (fut Later w1 x) := fun x => run_loadVar_cells _ b (off + h * 3) 53 s.arr _ Tryz.underlying53 rfl s.info fun i hi => (hfq x i hi).trans (by rw [← Edg.list, Array.getElem?_toList])
      have hl2 : ∀ x, (loadVar 53 ⟨w.heap.size, 0, none⟩).run Tryz.prog (fut Later w1 x) = .ok (.agg e.arr) (fut Later w1 x) := fun x => run_loadVar_row _ w.heap.size 53 53 e.arr (0, 0) _ (((fut_ok Later.refl w1 x).block _ (Array.getElem?_eq_some_iff.1 HX2.out).1).trans HX2.out) Tryz.underlying53 rfl e.info
      clear hfq
      refine wpGrow_cons ?_
      repeat (first | (refine wpQuiet_load rfl 53 (.tmp 27) rfl ⟨b, off + h * 3, none⟩ rfl (.agg s.arr) (fun w' h => by obtain ⟨x, rfl⟩ := h; exact hl1 x) ?_; simp only [Act.put, List.setIfInBounds_toArray, List.set_cons_succ, List.set_cons_zero]) | (refine wpQuiet_load rfl 53 (.tmp 4) rfl ⟨w.heap.size, 0, none⟩ rfl (.agg e.arr) (fun w' h => by obtain ⟨x, rfl⟩ := h; exact hl2 x) ?_; simp only [Act.put, List.setIfInBounds_toArray, List.set_cons_succ, List.set_cons_zero]) | go_big_quiet_step (fail))
      refine wpQuiet_nil ?_
      clear hl1 hl2 hhn2
      go_wp2_with fail
      refine (HC.out w1).mono ?_
      rintro x w2 ⟨rfl, hb⟩
      have HB3 := Lib.hid (HB2.out.trans (hb.1.mono HB2.out.size)); have HF := Lib.hid hb.1
      clear hb
      go_wp2_with fail
      refine pieceEnd_normal ⟨HF.out, ?_⟩
      by_cases hr : r < 0
      · have hph : h < p := by
          refine Nat.lt_of_not_le fun g => ?_
          have := HS2.out g; omega
        have HPH := Lib.hid hph; clear hph
        have hge : decide (r < 0) = true := decide_eq_true hr
        have HR := Lib.hid hr; clear hr
        refine wpGrow_nil ?_
        repeat (go_big_quiet_step (fail))
        refine wpQuiet_nil ?_
        go_wp2_with fail
        exact ⟨⟨h + 1, j, HPH.out, hj, hjn, by go_num, rfl, HB3⟩, by have := HM.out; simp [intOf]; omega⟩
      · have hph : p ≤ h := by
          refine Nat.le_of_not_lt fun g => ?_
          have := HS1.out g; omega
        have HPH := Lib.hid hph; clear hph
        have hge : decide (r < 0) = false := decide_eq_false hr
        have HR := Lib.hid hr; clear hr
        refine wpGrow_nil ?_
        repeat (go_big_quiet_step (fail))
        refine wpQuiet_nil ?_
        go_wp2_with fail
        exact ⟨⟨i, h, hi, HPH.out, by omega, rfl, by go_num, HB3⟩, by have := HM.out; simp [intOf]; omega⟩
    · have hip : i = p := by omega
      subst hip
      have HL2 : Hid (ERow wr.drew A n c l) := Lib.hid (GRow.later HL.out ((HB.out.trans (HQ.out.mono HB.out.size)).drew))
      have HB2 : Hid (Below w.heap.size w wr.drew) := Lib.hid ((HB.out.trans (HQ.out.mono HB.out.size)).drew)
      by_cases hin : i < n
      · have HLX : Hid (w.heap.size < w0.heap.size) := Lib.hid (Array.getElem?_eq_some_iff.1 HX.out).1
        have HX2 : Hid (wr.drew.heap[w.heap.size]? = some (.cells e.arr 53 (0, 0))) := Lib.hid ((HQ.out.block _ HLX.out).trans HX.out)
        have hin2 : (i : Int) < (n : Int) := by omega
        rw [decide_eq_true hin, Bool.true_and] at HTH
        go_wp2_with fail
        have hhn : i < n := hin
        obtain ⟨b, off, hA, hfq⟩ := GRow.futs (F := Later) Later.refl Edg.len (by decide) (fun _ h => h) HL2.out noEdg i hhn
        subst hA
        have HC := Lib.hid (HCM.out (l.getD i noEdg))
        generalize l.getD i noEdg = s at *
        generalize cmpEd s e = r at HC HTH
        refine wp_region_grow (by kernel_rfl) Later Later.refl (fun _ _ _ => Later.trans) [12, 13, 14, 15] [([0, 1, 2, 3, 4, 5, 6, 7, 8, 9, 10], 11)] (by kernel_rfl) (by kernel_rfl) (by kernel_rfl) ?_
        simp only [List.map_cons, List.map_nil, pick, List.getD_cons_zero, List.getD_cons_succ]
        generalize wr.drew = w1 at *
        have hl1 : ∀ x, (loadVar 53 ⟨b, off + i * 3, none⟩).run Tryz.prog (fut Later w1 x) = .ok (.agg s.arr) (fut Later w1 x) := fun x => run_loadVar_cells _ b (off + i * 3) 53 s.arr _ Tryz.underlying53 rfl s.info fun i hi => (hfq x i hi).trans (by rw [← Edg.list, Array.getElem?_toList])
        have hl2 : ∀ x, (loadVar 53 ⟨w.heap.size, 0, none⟩).run Tryz.prog (fut Later w1 x) = .ok (.agg e.arr) (fut Later w1 x) := fun x => run_loadVar_row _ w.heap.size 53 53 e.arr (0, 0) _ (((fut_ok Later.refl w1 x).block _ (Array.getElem?_eq_some_iff.1 HX2.out).1).trans HX2.out) Tryz.underlying53 rfl e.info
        clear hfq
        refine wpGrow_cons ?_
        repeat (first | (refine wpQuiet_load rfl 53 (.tmp 43) rfl ⟨b, off + i * 3, none⟩ rfl (.agg s.arr) (fun w' h => by obtain ⟨x, rfl⟩ := h; exact hl1 x) ?_; simp only [Act.put, List.setIfInBounds_toArray, List.set_cons_succ, List.set_cons_zero]) | (refine wpQuiet_load rfl 53 (.tmp 4) rfl ⟨w.heap.size, 0, none⟩ rfl (.agg e.arr) (fun w' h => by obtain ⟨x, rfl⟩ := h; exact hl2 x) ?_; simp only [Act.put, List.setIfInBounds_toArray, List.set_cons_succ, List.set_cons_zero]) | go_big_quiet_step (fail))
        refine wpQuiet_nil ?_
        clear hl1 hl2
        go_wp2_with fail
        refine (HC.out w1).mono ?_
        rintro x w2 ⟨rfl, hb⟩
        have HB3 := Lib.hid (HB2.out.trans (hb.1.mono HB2.out.size)); have HF := Lib.hid hb.1
        clear hb
        go_wp2_with fail
        refine pieceEnd_normal ⟨HF.out, ?_⟩
        have HTT : Hid ((r == 0) = th) := Lib.hid (by rw [← HTH.out]; by_cases h : r = 0 <;> simp [h])
        refine wpGrow_nil ?_
        repeat (go_big_quiet_step (fail))
        refine wpQuiet_nil ?_
        go_wp2_with fail
        go_ret2
        exact ⟨by rw [← HTT.out]; rfl, HB3.out⟩
      · have hin2 : ¬ (i : Int) < (n : Int) := by omega
        rw [decide_eq_false hin, Bool.false_and] at HTH
        go_wp2_with fail
        refine wp_region_grow (by kernel_rfl) Later Later.refl (fun _ _ _ => Later.trans) [12, 13, 14, 15] [([0, 1, 2, 3, 4, 5, 6, 7, 8, 9, 10], 11)] (by kernel_rfl) (by kernel_rfl) (by kernel_rfl) ?_
        simp only [List.map_cons, List.map_nil, pick, List.getD_cons_zero, List.getD_cons_succ]
        generalize wr.drew = w1 at *
        refine wpGrow_cons ?_
        repeat (go_big_quiet_step (fail))
        refine wpQuiet_nil ?_
        go_wp2_with fail
        refine pieceEnd_normal ⟨Later.refl _, ?_⟩
        refine wpGrow_nil ?_
        repeat (go_big_quiet_step (fail))
        refine wpQuiet_nil ?_
        go_wp2_with fail
        go_ret2
        exact ⟨by rw [← HTH.out]; rfl, HB2.out⟩
end Go.Proofs.YtnmpbjgccbnomaaGreat
