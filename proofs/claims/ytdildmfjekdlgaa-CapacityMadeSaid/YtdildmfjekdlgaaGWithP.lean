import Derived.Test.YtdildmfjekdlgaaPackAK
import Derived.Test.YtdildmfjekdlgaaGCheckP
import Derived.Test.YtdildmfjekdlgaaPackAB
/- Graphs: the walk of the reference's With. -/
namespace Go.Proofs.Ytdildmfjekdlgaa
open Go.RowKit
theorem results_ge {f : Func} {i j : Nat} (hr : f.results = #[.cell i 31, .tmp j]) {tmps : Array Value} {w : World} {s : Nat} {cs : Array Value} {v : Value} (h2 : tmps.getD i undef = .pointer (some ⟨s, 0, none⟩)) (h3 : tmps.getD j undef = v)
    (hs : w.heap[s]? = some (.cells cs 31 (0, 0))) (hz : cs.size = 3) : (results f tmps).run Try.prog w = .ok (.tuple #[.agg cs, v]) w := by
  have h2' : tmps[i]?.getD undef = .pointer (some ⟨s, 0, none⟩) := by simpa using h2
  have h3' : tmps[j]?.getD undef = v := by simpa using h3
  have hl := run_loadVar_row (P := Try.prog) w s 31 31 cs (0, 0) _ hs Try.underlying31 rfl (by rw [hz]; kernel_rfl)
  unfold results
  rw [hr]
  simp [h2', h3', asAddr, hl]
theorem idxE_lv (x : Edg) : ∀ l : List Edg, idxE ⟨x.fr, x.tu, 0⟩ l = idxE x l
  | [] => rfl
  | e :: m => by
    show (if befE e ⟨x.fr, x.tu, 0⟩ then idxE ⟨x.fr, x.tu, 0⟩ m + 1 else 0) = (if befE e x then idxE x m + 1 else 0)
    rw [idxE_lv x m]; rfl
theorem thereE_lv (x : Edg) (l : List Edg) : thereE ⟨x.fr, x.tu, 0⟩ l = thereE x l := by unfold thereE; rw [idxE_lv]
set_option maxRecDepth 100000 in
set_option maxHeartbeats 4000000 in
theorem gwith_any (G : Gr) (v : Value) (e : Edg) (w : World) (h : GHold w G v) (he : G.es.length ≤ 100000) (hg : G.gn.length ≤ 100000) : Calls Try.prog 18 #[v, .agg e.arr] w (GivesGOE w (withG G e)) := by
  have HGH := Lib.hid h
  obtain ⟨A, n, c, B, m, k, rfl, h1, h2⟩ := h
  have hn : n ≤ 100000 := by rw [← ERow.len h1]; exact he
  have hm : m ≤ 100000 := by rw [← h2.len]; exact hg
  have HL1 : Hid (G.es.length = n) := Lib.hid (ERow.len h1)
  have HL2 : Hid (G.gn.length = m) := Lib.hid h2.len
  have HB : Hid (Below w.heap.size w (((w.alloc (.cells #[.int .i64 G.sz, .slice A n c, .slice B m k] 31)).alloc (.cells e.arr 45)).alloc (.cells #[.int .i64 0, .slice none 0 0, .slice none 0 0] 31))) := Lib.hid (((one_new w _).trans ((one_new _ _).mono (by simp))).trans ((one_new _ _).mono (by simp; omega)))
  have HX : Hid ((((w.alloc (.cells #[.int .i64 G.sz, .slice A n c, .slice B m k] 31)).alloc (.cells e.arr 45)).alloc (.cells #[.int .i64 0, .slice none 0 0, .slice none 0 0] 31)).heap[w.heap.size]? = some (.cells #[.int .i64 G.sz, .slice A n c, .slice B m k] 31 (0, 0))) := Lib.hid ((Below.heap_alloc _ _ _ (by simp; omega)).trans ((Below.heap_alloc _ _ _ (by simp)).trans (heap_alloc_new _ _)))
  have HY : Hid ((((w.alloc (.cells #[.int .i64 G.sz, .slice A n c, .slice B m k] 31)).alloc (.cells e.arr 45)).alloc (.cells #[.int .i64 0, .slice none 0 0, .slice none 0 0] 31)).heap[w.heap.size + 1]? = some (.cells e.arr 45 (0, 0))) := Lib.hid ((Below.heap_alloc _ _ _ (by simp)).trans (heap_alloc2_new _ _ _))
  have HR : Hid ((((w.alloc (.cells #[.int .i64 G.sz, .slice A n c, .slice B m k] 31)).alloc (.cells e.arr 45)).alloc (.cells #[.int .i64 0, .slice none 0 0, .slice none 0 0] 31)).heap[w.heap.size + 2]? = some (.cells #[.int .i64 0, .slice none 0 0, .slice none 0 0] 31 (0, 0))) := Lib.hid (by
    have h := heap_alloc_new ((w.alloc (.cells #[.int .i64 G.sz, .slice A n c, .slice B m k] 31)).alloc (.cells e.arr 45)) (.cells #[.int .i64 0, .slice none 0 0, .slice none 0 0] 31)
    rw [show ((w.alloc (.cells #[.int .i64 G.sz, .slice A n c, .slice B m k] 31)).alloc (.cells e.arr 45)).heap.size = w.heap.size + 2 by simp] at h
    exact h)
  have H1 := Lib.hid h1; have H2 := Lib.hid h2
  have HCK : Hid (∀ y, Below w.heap.size w y → Calls Try.prog 32 #[.agg #[.int .i64 G.sz, .slice A n c, .slice B m k]] y (SaysL (.int .i64 (checkG G)) y)) := Lib.hid fun y hy => gcheck_any G _ y (HGH.out.later hy) he hg
  have HIX : Hid (∀ y, Below w.heap.size w y → Calls Try.prog 33 #[.agg #[.int .i64 G.sz, .slice A n c, .slice B m k], .int .i64 e.fr, .int .i64 e.tu] y fun e2 w' => e2 = .returned (.tuple #[.int .i64 (idxE e G.es : Nat), .bool (thereE e G.es)]) ∧ Below y.heap.size y w') := Lib.hid fun y hy => by have h := gindex_any G _ e.fr e.tu y (HGH.out.later hy) he; rwa [idxE_lv, thereE_lv] at h
  have HCP : Hid (∀ y, Below w.heap.size w y → Calls Try.prog 21 #[.agg #[.int .i64 G.sz, .slice A n c, .slice B m k]] y (GivesGO y G)) := Lib.hid fun y hy => gcopy_any G _ y (HGH.out.later hy) he hg
  have HHS : Hid (∀ y x, Below w.heap.size w y → Calls Try.prog 22 #[.slice B m k, .int .i64 x] y (SaysL (.bool (hasI G.gn x)) y)) := Lib.hid fun y x h => has_any11 B m k G.gn x y (H2.out.later h) hm
  have HRW : Hid (withG G e = if okG G = false then (noGr, 14) else if endsB G.sz e = false then (noGr, 4) else if freeB G.gn e = false then (noGr, 4) else if levB e = false then (noGr, 2) else if thereE e G.es then (noGr, 19)
    else if G.es.length = 500 then (noGr, 3) else (⟨G.sz, G.es.take (idxE e G.es) ++ e :: G.es.drop (idxE e G.es), G.gn⟩, 0)) := Lib.hid rfl
  have HCG : Hid (checkG G = if okG G then 0 else 14) := Lib.hid rfl
  generalize withG G e = RW at *
  generalize checkG G = CG at *
  have HEN : Hid (endsB G.sz e = ((decide (0 ≤ e.fr) && decide (e.fr < G.sz)) && ((decide (0 ≤ e.tu) && decide (e.tu < G.sz)) && !decide (e.fr = e.tu)))) := Lib.hid rfl
  have HFR : Hid (freeB G.gn e = (!hasI G.gn e.fr && !hasI G.gn e.tu)) := Lib.hid rfl
  have HLV : Hid (levB e = (decide (1 ≤ e.lv) && decide (e.lv ≤ 3))) := Lib.hid rfl
  clear h1 h2 he hg HGH
  go_enter Try.func18, Try.ntmps18
  go_upto_region 1 with fail
  generalize (((w.alloc (.cells #[.int .i64 G.sz, .slice A n c, .slice B m k] 31)).alloc (.cells e.arr 45)).alloc (.cells #[.int .i64 0, .slice none 0 0, .slice none 0 0] 31)) = y0 at *
  have HSZ : Hid (w.heap.size + 3 ≤ y0.heap.size) := Lib.hid (Array.getElem?_eq_some_iff.1 HR.out).1
  go_wp2_with (refine wpList_load_row rfl 31 (.tmp 2) rfl w.heap.size rfl 31 #[.int .i64 G.sz, .slice A n c, .slice B m k] (0, 0) _ HX.out Try.underlying31 rfl gr_size ?_)
  refine (HCK.out y0 HB.out).mono ?_
  rintro e1 w1 ⟨rfl, hb⟩
  have hs3 : w.heap.size + 3 ≤ y0.heap.size := HSZ.out
  replace HX := Lib.hid ((hb.block _ (by omega)).trans HX.out); replace HY := Lib.hid ((hb.block _ (by omega)).trans HY.out); replace HR := Lib.hid ((hb.block _ (by omega)).trans HR.out)
  replace HB := Lib.hid (HB.out.trans (hb.mono HB.out.size))
  replace HSZ : Hid (w.heap.size + 3 ≤ w1.heap.size) := Lib.hid (Nat.le_trans hs3 hb.size)
  clear hb HCK hs3
  cases hok : okG G
  · rw [hok] at HCG HRW
    have HCE : Hid (CG = 14) := Lib.hid HCG.out
    rw [HCE.out]
    have HE : Hid (RW = (noGr, 14)) := Lib.hid (by rw [HRW.out]; rfl)
    clear HCE hok
    go_wp2_with (refine wpList_store_row rfl 31 (.tmp 4) (.tmp 12) rfl (w.heap.size + 2) #[.int .i64 0, .slice none 0 0, .slice none 0 0] rfl rfl 31 _ HR.out gr_size rfl (by simp [Value.oneCell']) ?_)
    refine bodyPost_ret (results_ge rfl rfl rfl (setRow_heap _ _ _ #[.int .i64 0, .slice none 0 0, .slice none 0 0] _ _ HR.out) rfl) rfl ?_
    rw [HE.out]
    exact ⟨_, rfl, GOwn.none _ _, below_setRow HB.out (by omega) _⟩
  · rw [hok] at HCG HRW
    have HCE : Hid (CG = 0) := Lib.hid HCG.out
    rw [HCE.out]
    replace HRW : Hid (RW = if endsB G.sz e = false then (noGr, 4) else if freeB G.gn e = false then (noGr, 4) else if levB e = false then (noGr, 2) else if thereE e G.es then (noGr, 19)
      else if G.es.length = 500 then (noGr, 3) else (⟨G.sz, G.es.take (idxE e G.es) ++ e :: G.es.drop (idxE e G.es), G.gn⟩, 0)) := Lib.hid (by rw [HRW.out]; rfl)
    clear HCE HCG hok CG
    have hy0 : w1.cell? ⟨w.heap.size + 1, 0, none⟩ = some (.int .i64 e.fr) := (cell_of_row _ _ 0 _ _ _ HY.out).trans rfl
    have hy1 : w1.cell? ⟨w.heap.size + 1, 1, none⟩ = some (.int .i64 e.tu) := (cell_of_row _ _ 1 _ _ _ HY.out).trans rfl
    go_wp2_with (refine wpList_load_row rfl 31 (.tmp 2) rfl w.heap.size rfl 31 #[.int .i64 G.sz, .slice A n c, .slice B m k] (0, 0) _ HX.out Try.underlying31 rfl gr_size ?_)
    clear hy0 hy1
    refine (HIX.out w1 HB.out).mono ?_
    rintro e1 w2 ⟨rfl, hb⟩
    have hs3 : w.heap.size + 3 ≤ w1.heap.size := HSZ.out
    replace HX := Lib.hid ((hb.block _ (by omega)).trans HX.out); replace HY := Lib.hid ((hb.block _ (by omega)).trans HY.out); replace HR := Lib.hid ((hb.block _ (by omega)).trans HR.out)
    replace HB := Lib.hid (HB.out.trans (hb.mono HB.out.size))
    replace HSZ : Hid (w.heap.size + 3 ≤ w2.heap.size) := Lib.hid (Nat.le_trans hs3 hb.size)
    clear hb HIX hs3
    go_upto_region 4 with fail
    have hc0 : w2.cell? ⟨w.heap.size, 0, none⟩ = some (.int .i64 G.sz) := (cell_of_row _ _ 0 _ _ _ HX.out).trans rfl
    have hc2 : w2.cell? ⟨w.heap.size, 2, none⟩ = some (.slice B m k) := (cell_of_row _ _ 2 _ _ _ HX.out).trans rfl
    have hy0 : w2.cell? ⟨w.heap.size + 1, 0, none⟩ = some (.int .i64 e.fr) := (cell_of_row _ _ 0 _ _ _ HY.out).trans rfl
    have hy1 : w2.cell? ⟨w.heap.size + 1, 1, none⟩ = some (.int .i64 e.tu) := (cell_of_row _ _ 1 _ _ _ HY.out).trans rfl
    by_cases t0 : e.fr < 0
    · have f0 : decide (e.fr < 0) = true := decide_eq_true t0
      have HE : Hid (RW = (noGr, 4)) := Lib.hid (by rw [HRW.out, if_pos (by rw [HEN.out, decide_eq_false (by omega : ¬ 0 ≤ e.fr)]; simp)])
      clear t0
      go_wp2_with (refine wpList_store_row rfl 31 (.tmp 4) (.tmp 66) rfl (w.heap.size + 2) #[.int .i64 0, .slice none 0 0, .slice none 0 0] rfl rfl 31 _ HR.out gr_size rfl (by simp [Value.oneCell']) ?_)
      refine bodyPost_ret (results_ge rfl rfl rfl (setRow_heap _ _ _ #[.int .i64 0, .slice none 0 0, .slice none 0 0] _ _ HR.out) rfl) rfl ?_
      rw [HE.out]
      exact ⟨_, rfl, GOwn.none _ _, below_setRow HB.out (by omega) _⟩
    · have f0 : decide (e.fr < 0) = false := decide_eq_false t0
      have T0 := Lib.hid t0; clear t0
      by_cases t1 : e.fr ≥ G.sz
      · have f1 : decide (e.fr ≥ G.sz) = true := decide_eq_true t1
        have f1' : decide (G.sz ≤ e.fr) = true := f1
        have HE : Hid (RW = (noGr, 4)) := Lib.hid (by rw [HRW.out, if_pos (by rw [HEN.out, decide_eq_false (by omega : ¬ e.fr < G.sz)]; simp)])
        clear t1
        go_wp2_with (refine wpList_store_row rfl 31 (.tmp 4) (.tmp 66) rfl (w.heap.size + 2) #[.int .i64 0, .slice none 0 0, .slice none 0 0] rfl rfl 31 _ HR.out gr_size rfl (by simp [Value.oneCell']) ?_)
        refine bodyPost_ret (results_ge rfl rfl rfl (setRow_heap _ _ _ #[.int .i64 0, .slice none 0 0, .slice none 0 0] _ _ HR.out) rfl) rfl ?_
        rw [HE.out]
        exact ⟨_, rfl, GOwn.none _ _, below_setRow HB.out (by omega) _⟩
      · have f1 : decide (e.fr ≥ G.sz) = false := decide_eq_false t1
        have f1' : decide (G.sz ≤ e.fr) = false := f1
        have T1 := Lib.hid t1; clear t1
        by_cases t2 : e.tu < 0
        · have f2 : decide (e.tu < 0) = true := decide_eq_true t2
          have HE : Hid (RW = (noGr, 4)) := Lib.hid (by rw [HRW.out, if_pos (by rw [HEN.out, decide_eq_false (by omega : ¬ 0 ≤ e.tu)]; simp)])
          clear t2
          go_wp2_with (refine wpList_store_row rfl 31 (.tmp 4) (.tmp 66) rfl (w.heap.size + 2) #[.int .i64 0, .slice none 0 0, .slice none 0 0] rfl rfl 31 _ HR.out gr_size rfl (by simp [Value.oneCell']) ?_)
          refine bodyPost_ret (results_ge rfl rfl rfl (setRow_heap _ _ _ #[.int .i64 0, .slice none 0 0, .slice none 0 0] _ _ HR.out) rfl) rfl ?_
          rw [HE.out]
          exact ⟨_, rfl, GOwn.none _ _, below_setRow HB.out (by omega) _⟩
        · have f2 : decide (e.tu < 0) = false := decide_eq_false t2
          have T2 := Lib.hid t2; clear t2
          by_cases t3 : e.tu ≥ G.sz
          · have f3 : decide (e.tu ≥ G.sz) = true := decide_eq_true t3
            have f3' : decide (G.sz ≤ e.tu) = true := f3
            have HE : Hid (RW = (noGr, 4)) := Lib.hid (by rw [HRW.out, if_pos (by rw [HEN.out, decide_eq_false (by omega : ¬ e.tu < G.sz)]; simp)])
            clear t3
            go_wp2_with (refine wpList_store_row rfl 31 (.tmp 4) (.tmp 66) rfl (w.heap.size + 2) #[.int .i64 0, .slice none 0 0, .slice none 0 0] rfl rfl 31 _ HR.out gr_size rfl (by simp [Value.oneCell']) ?_)
            refine bodyPost_ret (results_ge rfl rfl rfl (setRow_heap _ _ _ #[.int .i64 0, .slice none 0 0, .slice none 0 0] _ _ HR.out) rfl) rfl ?_
            rw [HE.out]
            exact ⟨_, rfl, GOwn.none _ _, below_setRow HB.out (by omega) _⟩
          · have f3 : decide (e.tu ≥ G.sz) = false := decide_eq_false t3
            have f3' : decide (G.sz ≤ e.tu) = false := f3
            have T3 := Lib.hid t3; clear t3
            by_cases t4 : e.fr = e.tu
            · have f4 : (e.fr == e.tu) = true := by rw [t4]; simp
              have HE : Hid (RW = (noGr, 4)) := Lib.hid (by rw [HRW.out, if_pos (by rw [HEN.out, decide_eq_true t4]; simp)])
              clear t4
              go_wp2_with (refine wpList_store_row rfl 31 (.tmp 4) (.tmp 66) rfl (w.heap.size + 2) #[.int .i64 0, .slice none 0 0, .slice none 0 0] rfl rfl 31 _ HR.out gr_size rfl (by simp [Value.oneCell']) ?_)
              refine bodyPost_ret (results_ge rfl rfl rfl (setRow_heap _ _ _ #[.int .i64 0, .slice none 0 0, .slice none 0 0] _ _ HR.out) rfl) rfl ?_
              rw [HE.out]
              exact ⟨_, rfl, GOwn.none _ _, below_setRow HB.out (by omega) _⟩
            · have f4 : (e.fr == e.tu) = false := by rw [beq_eq_false_iff_ne]; exact t4
              have T4 := Lib.hid t4; clear t4
              replace HRW : Hid (RW = if freeB G.gn e = false then (noGr, 4) else if levB e = false then (noGr, 2) else if thereE e G.es then (noGr, 19)
                else if G.es.length = 500 then (noGr, 3) else (⟨G.sz, G.es.take (idxE e G.es) ++ e :: G.es.drop (idxE e G.es), G.gn⟩, 0)) := Lib.hid (by rw [HRW.out, if_neg (by rw [HEN.out, decide_eq_true (by have := T0.out; omega : 0 ≤ e.fr), decide_eq_true (by have := T1.out; omega : e.fr < G.sz), decide_eq_true (by have := T2.out; omega : 0 ≤ e.tu), decide_eq_true (by have := T3.out; omega : e.tu < G.sz), decide_eq_false T4.out]; simp)])
              clear T0 T1 T2 T3 T4 HEN
              go_wp2_with fail
              refine (HHS.out w2 e.fr HB.out).mono ?_
              rintro e1 w3 ⟨rfl, hb⟩
              have hs3 : w.heap.size + 3 ≤ w2.heap.size := HSZ.out
              replace HX := Lib.hid ((hb.block _ (by omega)).trans HX.out); replace HY := Lib.hid ((hb.block _ (by omega)).trans HY.out); replace HR := Lib.hid ((hb.block _ (by omega)).trans HR.out)
              replace HB := Lib.hid (HB.out.trans (hb.mono HB.out.size))
              replace HSZ : Hid (w.heap.size + 3 ≤ w3.heap.size) := Lib.hid (Nat.le_trans hs3 hb.size)
              clear hb hs3
              clear f0 f1 f1' f2 f3 f3' f4 hc0 hc2 hy0 hy1
              cases hh0 : hasI G.gn e.fr
              · rw [hh0] at HFR
                clear hh0
                have hc2 : w3.cell? ⟨w.heap.size, 2, none⟩ = some (.slice B m k) := (cell_of_row _ _ 2 _ _ _ HX.out).trans rfl
                have hy1 : w3.cell? ⟨w.heap.size + 1, 1, none⟩ = some (.int .i64 e.tu) := (cell_of_row _ _ 1 _ _ _ HY.out).trans rfl
                go_wp2_with fail
                refine (HHS.out w3 e.tu HB.out).mono ?_
                rintro e1 w4 ⟨rfl, hb⟩
                have hs3 : w.heap.size + 3 ≤ w3.heap.size := HSZ.out
                replace HX := Lib.hid ((hb.block _ (by omega)).trans HX.out); replace HY := Lib.hid ((hb.block _ (by omega)).trans HY.out); replace HR := Lib.hid ((hb.block _ (by omega)).trans HR.out)
                replace HB := Lib.hid (HB.out.trans (hb.mono HB.out.size))
                replace HSZ : Hid (w.heap.size + 3 ≤ w4.heap.size) := Lib.hid (Nat.le_trans hs3 hb.size)
                clear hb hs3
                clear hc2 hy1 HHS
                cases hh1 : hasI G.gn e.tu
                · replace HRW : Hid (RW = if levB e = false then (noGr, 2) else if thereE e G.es then (noGr, 19) else if G.es.length = 500 then (noGr, 3) else (⟨G.sz, G.es.take (idxE e G.es) ++ e :: G.es.drop (idxE e G.es), G.gn⟩, 0)) := Lib.hid (by rw [HRW.out, if_neg (by rw [HFR.out, hh1]; simp)])
                  clear hh1 HFR
                  go_upto_region 6 with fail
                  have hy2 : w4.cell? ⟨w.heap.size + 1, 2, none⟩ = some (.int .i64 e.lv) := (cell_of_row _ _ 2 _ _ _ HY.out).trans rfl
                  by_cases t5 : e.lv < 1
                  · have f5 : decide (e.lv < 1) = true := decide_eq_true t5
                    have HE : Hid (RW = (noGr, 2)) := Lib.hid (by rw [HRW.out, if_pos (by rw [HLV.out, decide_eq_false (by omega : ¬ 1 ≤ e.lv)]; simp)])
                    clear t5
                    go_wp2_with (refine wpList_store_row rfl 31 (.tmp 4) (.tmp 76) rfl (w.heap.size + 2) #[.int .i64 0, .slice none 0 0, .slice none 0 0] rfl rfl 31 _ HR.out gr_size rfl (by simp [Value.oneCell']) ?_)
                    refine bodyPost_ret (results_ge rfl rfl rfl (setRow_heap _ _ _ #[.int .i64 0, .slice none 0 0, .slice none 0 0] _ _ HR.out) rfl) rfl ?_
                    rw [HE.out]
                    exact ⟨_, rfl, GOwn.none _ _, below_setRow HB.out (by omega) _⟩
                  · have f5 : decide (e.lv < 1) = false := decide_eq_false t5
                    have T5 := Lib.hid t5; clear t5
                    by_cases t6 : e.lv > 3
                    · have f6 : decide (e.lv > 3) = true := decide_eq_true t6
                      have f6' : decide (3 < e.lv) = true := f6
                      have HE : Hid (RW = (noGr, 2)) := Lib.hid (by rw [HRW.out, if_pos (by rw [HLV.out, decide_eq_false (by omega : ¬ e.lv ≤ 3)]; simp)])
                      clear t6
                      go_wp2_with (refine wpList_store_row rfl 31 (.tmp 4) (.tmp 76) rfl (w.heap.size + 2) #[.int .i64 0, .slice none 0 0, .slice none 0 0] rfl rfl 31 _ HR.out gr_size rfl (by simp [Value.oneCell']) ?_)
                      refine bodyPost_ret (results_ge rfl rfl rfl (setRow_heap _ _ _ #[.int .i64 0, .slice none 0 0, .slice none 0 0] _ _ HR.out) rfl) rfl ?_
                      rw [HE.out]
                      exact ⟨_, rfl, GOwn.none _ _, below_setRow HB.out (by omega) _⟩
                    · have f6 : decide (e.lv > 3) = false := decide_eq_false t6
                      have f6' : decide (3 < e.lv) = false := f6
                      have T6 := Lib.hid t6; clear t6
                      replace HRW : Hid (RW = if thereE e G.es then (noGr, 19) else if G.es.length = 500 then (noGr, 3) else (⟨G.sz, G.es.take (idxE e G.es) ++ e :: G.es.drop (idxE e G.es), G.gn⟩, 0)) := Lib.hid (by rw [HRW.out, if_neg (by rw [HLV.out, decide_eq_true (by have := T5.out; omega : 1 ≤ e.lv), decide_eq_true (by have := T6.out; omega : e.lv ≤ 3)]; simp)])
                      clear T5 T6 HLV
                      go_upto_region 8 with fail
                      clear f5 f6 f6' hy2
                      cases hth : thereE e G.es
                      · replace HRW : Hid (RW = if G.es.length = 500 then (noGr, 3) else (⟨G.sz, G.es.take (idxE e G.es) ++ e :: G.es.drop (idxE e G.es), G.gn⟩, 0)) := Lib.hid (by rw [HRW.out, if_neg (by rw [hth]; decide)])
                        rw [HL1.out] at HRW
                        go_upto_region 10 with fail
                        clear hth
                        have hc1 : w4.cell? ⟨w.heap.size, 1, none⟩ = some (.slice A n c) := (cell_of_row _ _ 1 _ _ _ HX.out).trans rfl
                        by_cases t7 : n = 500
                        · have f7 : ((n : Int) == 500) = true := by rw [t7]; rfl
                          have HE : Hid (RW = (noGr, 3)) := Lib.hid (by rw [HRW.out, if_pos t7])
                          clear t7
                          go_wp2_with (refine wpList_store_row rfl 31 (.tmp 4) (.tmp 85) rfl (w.heap.size + 2) #[.int .i64 0, .slice none 0 0, .slice none 0 0] rfl rfl 31 _ HR.out gr_size rfl (by simp [Value.oneCell']) ?_)
                          refine bodyPost_ret (results_ge rfl rfl rfl (setRow_heap _ _ _ #[.int .i64 0, .slice none 0 0, .slice none 0 0] _ _ HR.out) rfl) rfl ?_
                          rw [HE.out]
                          exact ⟨_, rfl, GOwn.none _ _, below_setRow HB.out (by omega) _⟩
                        · have f7 : ((n : Int) == 500) = false := by rw [beq_eq_false_iff_ne]; omega
                          replace HRW : Hid (RW = (⟨G.sz, G.es.take (idxE e G.es) ++ e :: G.es.drop (idxE e G.es), G.gn⟩, 0)) := Lib.hid (by rw [HRW.out, if_neg t7])
                          clear t7
                          go_upto_region 12 with fail
                          clear f7 hc1
                          go_wp2_with (refine wpList_load_row rfl 31 (.tmp 2) rfl w.heap.size rfl 31 #[.int .i64 G.sz, .slice A n c, .slice B m k] (0, 0) _ HX.out Try.underlying31 rfl gr_size ?_)
                          refine (HCP.out w4 HB.out).mono ?_
                          rintro e1 w5 ⟨v5, rfl, ⟨ve, vg, rfl, ho1, ho2⟩, hb⟩
                          have HG2 := Lib.hid ho2
                          have HB45 := Lib.hid HSZ.out
                          have hs3 : w.heap.size + 3 ≤ w4.heap.size := HSZ.out
                          replace HX := Lib.hid ((hb.block _ (by omega)).trans HX.out); replace HY := Lib.hid ((hb.block _ (by omega)).trans HY.out); replace HR := Lib.hid ((hb.block _ (by omega)).trans HR.out)
                          replace HB := Lib.hid (HB.out.trans (hb.mono HB.out.size))
                          replace HSZ : Hid (w.heap.size + 3 ≤ w5.heap.size) := Lib.hid (Nat.le_trans hs3 hb.size)
                          clear hb hs3
                          clear HCP
                          obtain ⟨Ae, ce, rfl, -⟩ := Row.of_own ho1
                          obtain ⟨Ag, cg, rfl, -⟩ := Row.of_own ho2
                          clear ho1 ho2
                          go_upto_region 13 with (refine wpList_store_new rfl 31 (.tmp 8) (.tmp 87) rfl 31 _ #[.int .i64 G.sz, .slice Ae G.es.length ce, .slice Ag G.gn.length cg] rfl rfl gr_size rfl (by simp [Value.oneCell']) ?_)
                          have HN5 := Lib.hid (one_new w5 (.cells #[.int .i64 G.sz, .slice Ae G.es.length ce, .slice Ag G.gn.length cg] 31))
                          have HO8 : Hid ((w5.alloc (.cells #[.int .i64 G.sz, .slice Ae G.es.length ce, .slice Ag G.gn.length cg] 31)).heap[w5.heap.size]? = some (.cells #[.int .i64 G.sz, .slice Ae G.es.length ce, .slice Ag G.gn.length cg] 31 (0, 0))) := Lib.hid (heap_alloc_new _ _)
                          have HG3 := Lib.hid (own_keepL HG2.out fun q hq => HN5.out.block _ (own_lt HG2.out q hq))
                          have HGL : Hid (∀ q, (Value.slice Ag G.gn.length cg).ownBlock = some q → q < w5.heap.size) := Lib.hid fun q hq => own_lt HG2.out q hq
                          have hb := HN5.out
                          clear HN5 HG2
                          have hs3 : w.heap.size + 3 ≤ w5.heap.size := HSZ.out
                          replace HX := Lib.hid ((hb.block _ (by omega)).trans HX.out); replace HY := Lib.hid ((hb.block _ (by omega)).trans HY.out); replace HR := Lib.hid ((hb.block _ (by omega)).trans HR.out)
                          replace HB := Lib.hid (HB.out.trans (hb.mono HB.out.size))
                          clear hb
                          obtain ⟨g8, hg8⟩ : ∃ g8, w5.heap.size = g8 := ⟨_, rfl⟩
                          rw [hg8] at HO8 HGL hs3 ⊢
                          have HS8 : Hid ((w5.alloc (.cells #[.int .i64 G.sz, .slice Ae G.es.length ce, .slice Ag G.gn.length cg] 31)).heap.size = g8 + 1) := Lib.hid (by rw [← hg8]; simp)
                          have HG83 : Hid (w.heap.size + 3 ≤ g8) := Lib.hid hs3
                          clear hg8 hs3 HSZ
                          generalize w5.alloc (.cells #[.int .i64 G.sz, .slice Ae G.es.length ce, .slice Ag G.gn.length cg] 31) = u0 at *
                          have hK : idxE e G.es ≤ n := by rw [← HL1.out]; exact idxE_le e G.es
                          generalize hke : idxE e G.es = K at *
                          clear hke
                          have HVR : Hid (ERow u0 A n c G.es) := Lib.hid (GRow.later H1.out HB.out)
                          have hs1 := fun w' => run_slice_to (P := Try.prog) (t := 29) Try.underlying29 edg_size (w0 := u0) HVR.out (i := (K : Int)) rfl hK .i64 w'
                          have hs2 := fun w' => run_slice_from (P := Try.prog) (t := 29) Try.underlying29 edg_size (A := A) (n := n) (c := c) (k := K) (i := (K : Int)) rfl hK .i64 w'
                          dsimp only [Act.put]
                          refine wp_region_flow (by kernel_rfl) (Below g8) ?_
                          have HBD : Hid (Below w.heap.size w u0.drew) := Lib.hid HB.out.drew
                          have HVD : Hid (ERow u0.drew A n c G.es) := Lib.hid (GRow.later H1.out HBD.out)
                          have HXD : Hid (u0.drew.heap[w.heap.size]? = some (.cells #[.int .i64 G.sz, .slice A n c, .slice B m k] 31 (0, 0))) := Lib.hid HX.out
                          have HYD : Hid (u0.drew.heap[w.heap.size + 1]? = some (.cells e.arr 45 (0, 0))) := Lib.hid HY.out
                          have HRD : Hid (u0.drew.heap[w.heap.size + 2]? = some (.cells #[.int .i64 0, .slice none 0 0, .slice none 0 0] 31 (0, 0))) := Lib.hid HR.out
                          have HOD : Hid (u0.drew.heap[g8]? = some (.cells #[.int .i64 G.sz, .slice Ae G.es.length ce, .slice Ag G.gn.length cg] 31 (0, 0))) := Lib.hid HO8.out
                          have HGD : Hid (u0.drew.ownsRow w4.heap.size 3 1 (.slice Ag G.gn.length cg) G.gn.length (intsV G.gn)) := Lib.hid HG3.out
                          have HN0 : Hid (g8 + 1 ≤ u0.drew.heap.size) := Lib.hid (Nat.le_of_eq HS8.out.symm)
                          have HZ : Hid (Below g8 u0.drew u0.drew) := Lib.hid (Below.refl _ _)
                          have HZN : Hid (Below (g8 + 1) u0.drew u0.drew) := Lib.hid (Below.refl _ _)
                          have HSE : Hid (u0.drew.heap.size = g8 + 1) := Lib.hid HS8.out
                          clear HB HVR HX HY HR HO8 HG3 HS8
                          generalize u0.drew = z0 at *
                          have HLT : Hid (ERow z0 A K c (G.es.take K)) := Lib.hid (GRow.take Edg.len (by decide) HVD.out K hK)
                          have HLD : Hid (ERow z0 (dropA A c K 3) (n - K) (c - K) (G.es.drop K)) := Lib.hid (GRow.drop Edg.len HVD.out K hK)
                          generalize dropA A c K 3 = AD at hs2 HLD
                          generalize G.es.take K = l1 at *
                          generalize G.es.drop K = l2 at *
                          have hk1 : l1.length = K := ERow.len HLT.out
                          have hk2 : l2.length = n - K := ERow.len HLD.out
                          have HK1 := Lib.hid hk1; have HK2 := Lib.hid hk2
                          clear hk1 hk2
                          have hg83 := HG83.out
                          have hf1 : ∀ x, (fut (Below g8) z0 x).cell? ⟨w.heap.size, 1, none⟩ = some (.slice A n c) := fun x => (cell_of_row _ _ 1 _ _ _ (((fut_ok (Below.refl g8) z0 x).block _ (by omega)).trans HXD.out)).trans rfl
                          have hgl : ∀ x, (loadVar 45 ⟨w.heap.size + 1, 0, none⟩).run Try.prog (fut (Below g8) z0 x) = .ok (.agg e.arr) (fut (Below g8) z0 x) := fun x => run_loadVar_cells _ (w.heap.size + 1) 0 45 e.arr _ Try.underlying45 rfl e.info fun i hi => by rw [Nat.zero_add]; exact cell_of_row _ _ i _ _ _ (((fut_ok (Below.refl g8) z0 x).block _ (by omega)).trans HYD.out)
                          refine flow_reads (F := Below g8) (fun _ => Below.refl _ _) (by kernel_rfl) [0, 1, 2, 3, 5, 8, 9, 10, 11] (fuel := 6) (by kernel_rfl) ?_
                          simp only [List.map_cons, List.map_nil, pick, List.getD_cons_zero, List.getD_cons_succ]
                          repeat (first | (refine wpQuiet_load rfl 45 (.tmp 3) rfl ⟨w.heap.size + 1, 0, none⟩ rfl (.agg e.arr) (fun w' h => by obtain ⟨x, rfl⟩ := h; exact hgl x) ?_; simp only [Act.put, List.setIfInBounds_toArray, List.set_cons_succ, List.set_cons_zero]) | go_big_quiet_step (fail))
                          refine wpQuiet_nil ?_
                          clear hf1 hgl hs1 hs2
                          refine flow_two (F := Below g8) (fun _ _ _ => Below.trans) (fun _ => Below.refl _ _) 4 6 (by kernel_rfl) (by decide) (by decide) ?_ ?_ <;> simp only [pick, List.getD_cons_zero, List.getD_cons_succ]
                          · have HZL : Hid (Below z0.heap.size z0 z0) := Lib.hid (by have h := HZN.out; rw [← HSE.out] at h; exact h)
                            go_wp2_with (at_builtin; go_must (refine wpList_app z0 rfl (.const (.slice none 0 0)) (.tmp 91) 29 29 45 rfl (g8 + 1) Try.underlying29 edg_info rfl _ 0 [] (World.ownsRow_nil _ _ _ _) rfl _ K (rowC Edg.cells l1) (Row.src (GRow.later HLT.out HZL.out) Try.underlying29 (rowC_ones Edg.ones _)) rfl (by unfold maxLen; omega) (by omega) HN0.out ?_); intro v1 z1 ho hb; rw [Nat.zero_add, List.nil_append] at ho; have HO1 := Lib.hid ho; have HF : Hid (Below g8 z0 z1) := Lib.hid (hb.mono (Nat.le_succ g8)); replace HZ := Lib.hid (HZ.out.trans (hb.mono (Nat.le_succ g8))); replace HZN := Lib.hid (HZN.out.trans hb); replace HN0 := Lib.hid (Nat.le_trans HN0.out hb.size); clear ho hb)
                            refine pieceEnd_normal ⟨HF.out, ?_⟩
                            clear HF
                            refine flow_one (F := Below g8) (fun _ _ _ => Below.trans) (fun _ => Below.refl _ _) 6 (by kernel_rfl) (by decide) ?_
                            simp only [pick, List.getD_cons_zero, List.getD_cons_succ]
                            have hvs : e.arr.size = 3 := rfl
                            go_wp2_with fail
                            clear hvs
                            (first | rw [fold3n] | rw [fold3])
                            have hb : Below (g8 + 1) z1 (z1.alloc (.cells e.arr 45)) := (one_new z1 _).mono HN0.out
                            have HF : Hid (Below g8 z1 (z1.alloc (.cells e.arr 45))) := Lib.hid (hb.mono (Nat.le_succ g8))
                            refine pieceEnd_normal ⟨HF.out, ?_⟩
                            have HR3 : Hid (Row (z1.alloc (.cells e.arr 45)) (some ⟨z1.heap.size, 0, none⟩) 1 1 3 (rowC Edg.cells [e])) := Lib.hid (Row.of_block (heap_alloc_new _ _) rfl)
                            replace HO1 := Lib.hid (World.ownsRow.alloc HO1.out (.cells e.arr 45))
                            replace HZ := Lib.hid (HZ.out.trans (hb.mono (Nat.le_succ g8))); replace HZN := Lib.hid (HZN.out.trans hb); replace HN0 := Lib.hid (Nat.le_trans HN0.out hb.size)
                            clear HF hb
                            obtain ⟨g3, hg3⟩ : ∃ g3, z1.heap.size = g3 := ⟨_, rfl⟩
                            rw [hg3] at HR3 ⊢
                            clear hg3
                            generalize z1.alloc (.cells e.arr 45) = z2 at *
                            refine flow_one (F := Below g8) (fun _ _ _ => Below.trans) (fun _ => Below.refl _ _) 7 (by kernel_rfl) (by decide) ?_
                            simp only [pick, List.getD_cons_zero, List.getD_cons_succ]
                            go_wp2_with (at_builtin; go_must (refine wpList_app2 z2 rfl (.tmp 92) (.tmp 94) 29 29 45 rfl (g8 + 1) Try.underlying29 edg_info rfl _ K _ HO1.out rfl (.slice (some ⟨g3, 0, none⟩) 1 1) 1 (rowC Edg.cells [e]) (Row.src HR3.out Try.underlying29 (rowC_ones Edg.ones _)) rfl (by unfold maxLen; omega) (by omega) HN0.out ?_); intro v4 z4 ho hb hkp hv; have HO5 := Lib.hid ho; have HF : Hid (Below g8 z2 z4) := Lib.hid (hb.mono (Nat.le_succ g8)); replace HZ := Lib.hid (HZ.out.trans (hb.mono (Nat.le_succ g8))); replace HZN := Lib.hid (HZN.out.trans hb); replace HN0 := Lib.hid (Nat.le_trans HN0.out hb.size); clear ho hb hkp hv)
                            refine pieceEnd_normal ⟨HF.out, ?_⟩
                            clear HF
                            have HZL : Hid (Below z0.heap.size z0 z4) := Lib.hid (by have h := HZN.out; rw [← HSE.out] at h; exact h)
                            have HD4 : Hid (ERow z4 AD (n - K) (c - K) l2) := Lib.hid (GRow.later HLD.out HZL.out)
                            refine flow_one (F := Below g8) (fun _ _ _ => Below.trans) (fun _ => Below.refl _ _) 12 (by kernel_rfl) (by decide) ?_
                            simp only [pick, List.getD_cons_zero, List.getD_cons_succ]
                            go_wp2_with (at_builtin; go_must (refine wpList_app2 z4 rfl (.tmp 95) (.tmp 99) 29 29 45 rfl (g8 + 1) Try.underlying29 edg_info rfl _ (K + 1) _ HO5.out rfl _ (n - K) (rowC Edg.cells l2) (Row.src HD4.out Try.underlying29 (rowC_ones Edg.ones _)) rfl (by unfold maxLen; omega) (by omega) HN0.out ?_); intro v4 z5 ho hb hkp hv; have HO6 := Lib.hid ho; have HF : Hid (Below g8 z4 z5) := Lib.hid (hb.mono (Nat.le_succ g8)); replace HZ := Lib.hid (HZ.out.trans (hb.mono (Nat.le_succ g8))); replace HZN := Lib.hid (HZN.out.trans hb); replace HN0 := Lib.hid (Nat.le_trans HN0.out hb.size); clear ho hb hkp hv)
                            refine pieceEnd_normal ⟨HF.out, ?_⟩
                            clear HF
                            refine flow_reads (F := Below g8) (fun _ => Below.refl _ _) (by kernel_rfl) [13] (fuel := 1) (by kernel_rfl) ?_
                            simp only [List.map_cons, List.map_nil, pick, List.getD_cons_zero, List.getD_cons_succ]
                            repeat (go_big_quiet_step (fail))
                            refine wpQuiet_nil ?_
                            have HO7 : Hid (z5.ownsRow (g8 + 1) 45 3 _ (K + 1 + (n - K)) (rowC Edg.cells (l1 ++ [e] ++ l2))) := Lib.hid (by rw [rowC_app, rowC_app]; exact HO6.out)
                            clear HO6 HO5 HO1 HR3 HD4 HZL
                            obtain ⟨A5, c5, hv5, -⟩ := Row.of_own HO7.out
                            subst hv5
                            have HO85 : Hid (z5.heap[g8]? = some (.cells #[.int .i64 G.sz, .slice Ae G.es.length ce, .slice Ag G.gn.length cg] 31 (0, 0))) := Lib.hid ((HZN.out.block g8 (Nat.lt_succ_self g8)).trans HOD.out)
                            have hz1 : z5.cell? ⟨g8, 1, none⟩ = some (.slice Ae G.es.length ce) := (cell_of_row _ _ 1 _ _ _ HO85.out).trans rfl
                            have hfz : z5.frozen? ⟨g8, 1, none⟩ = false := by unfold World.frozen?; rw [HO85.out]; simp
                            refine flow_one (F := Below g8) (fun _ _ _ => Below.trans) (fun _ => Below.refl _ _) 14 (by kernel_rfl) (by decide) ?_
                            simp only [pick, List.getD_cons_zero, List.getD_cons_succ]
                            go_wp2_with fail
                            have HF : Hid (Below g8 z5 (z5.setCell ⟨g8, 1, none⟩ (.slice A5 (K + 1 + (n - K)) c5))) := Lib.hid ((Below.refl _ _).setCell (p := ⟨g8, 1, none⟩) (Nat.le_refl g8) _)
                            refine pieceEnd_normal ⟨HF.out, ?_⟩
                            refine flow_done (by kernel_rfl) ?_
                            have HO9 : Hid ((z5.setCell ⟨g8, 1, none⟩ (.slice A5 (K + 1 + (n - K)) c5)).heap[g8]? = some (.cells #[.int .i64 G.sz, .slice A5 (K + 1 + (n - K)) c5, .slice Ag G.gn.length cg] 31 (0, 0))) := Lib.hid (heap_setCell_same z5 g8 1 _ _ _ HO85.out)
                            have HKC : Hid (∀ q, q ≠ g8 → (z5.setCell ⟨g8, 1, none⟩ (.slice A5 (K + 1 + (n - K)) c5)).heap[q]? = z5.heap[q]?) := Lib.hid fun q hq => Below.heap_setCell z5 ⟨g8, 1, none⟩ _ q hq
                            have HO10 := Lib.hid (own_keepL HO7.out fun q hq => HKC.out q (by have := own_ge HO7.out q hq; omega))
                            have hgsz : g8 < z5.heap.size := (Array.getElem?_eq_some_iff.1 HO85.out).1
                            have HG10 := Lib.hid (own_keepL HGD.out fun q hq => (HKC.out q (Nat.ne_of_lt (HGL.out q hq))).trans (HZ.out.block q (HGL.out q hq)))
                            have HB10 : Hid (Below w.heap.size w (z5.setCell ⟨g8, 1, none⟩ (.slice A5 (K + 1 + (n - K)) c5))) := Lib.hid (HBD.out.trans ((HZ.out.trans HF.out).mono (by omega)))
                            have HR10 : Hid ((z5.setCell ⟨g8, 1, none⟩ (.slice A5 (K + 1 + (n - K)) c5)).heap[w.heap.size + 2]? = some (.cells #[.int .i64 0, .slice none 0 0, .slice none 0 0] 31 (0, 0))) := Lib.hid ((HKC.out _ (by omega)).trans ((HZ.out.block _ (by omega)).trans HRD.out))
                            clear hz1 hfz HF HO85 HO7 HKC hgsz
                            generalize z5.setCell ⟨g8, 1, none⟩ (.slice A5 (K + 1 + (n - K)) c5) = z6 at *
                            go_wp2_with (first | (refine wpList_load_row rfl 31 (.tmp 8) rfl g8 rfl 31 #[.int .i64 G.sz, .slice A5 (K + 1 + (n - K)) c5, .slice Ag G.gn.length cg] (0, 0) _ HO9.out Try.underlying31 rfl gr_size ?_) | (refine wpList_store_row rfl 31 (.tmp 4) (.tmp 102) rfl (w.heap.size + 2) #[.int .i64 G.sz, .slice A5 (K + 1 + (n - K)) c5, .slice Ag G.gn.length cg] rfl rfl 31 _ HR10.out gr_size rfl (by simp [Value.oneCell']) ?_))
                            refine bodyPost_ret (results_ge rfl rfl rfl (setRow_heap _ _ _ #[.int .i64 G.sz, .slice A5 (K + 1 + (n - K)) c5, .slice Ag G.gn.length cg] _ _ HR10.out) rfl) rfl ?_
                            have HLE : Hid ((l1 ++ e :: l2).length = K + 1 + (n - K)) := Lib.hid (by rw [List.length_append, List.length_cons, HK1.out, HK2.out]; omega)
                            rw [HRW.out]
                            refine ⟨_, rfl, ?_, below_setRow HB10.out (by omega) _⟩
                            refine ⟨_, _, rfl, ?_, ?_⟩
                            · rw [HLE.out, show l1 ++ e :: l2 = l1 ++ [e] ++ l2 by simp]
                              exact own_base (own_keepL HO10.out fun q hq => setRow_other _ _ _ _ (by have := own_ge HO10.out q hq; omega)) (by omega)
                            · exact own_base (own_keepL HG10.out fun q hq => setRow_other _ _ _ _ (by have := own_ge HG10.out q hq; have := HB45.out; omega)) (by have := HB45.out; omega)
                          · skip
                            have hvs : e.arr.size = 3 := rfl
                            go_wp2_with fail
                            clear hvs
                            (first | rw [fold3n] | rw [fold3])
                            have hb : Below (g8 + 1) z0 (z0.alloc (.cells e.arr 45)) := (one_new z0 _).mono HN0.out
                            have HF : Hid (Below g8 z0 (z0.alloc (.cells e.arr 45))) := Lib.hid (hb.mono (Nat.le_succ g8))
                            refine pieceEnd_normal ⟨HF.out, ?_⟩
                            have HR3 : Hid (Row (z0.alloc (.cells e.arr 45)) (some ⟨z0.heap.size, 0, none⟩) 1 1 3 (rowC Edg.cells [e])) := Lib.hid (Row.of_block (heap_alloc_new _ _) rfl)
                            replace HZ := Lib.hid (HZ.out.trans (hb.mono (Nat.le_succ g8))); replace HZN := Lib.hid (HZN.out.trans hb); replace HN0 := Lib.hid (Nat.le_trans HN0.out hb.size)
                            clear HF hb
                            obtain ⟨g3, hg3⟩ : ∃ g3, z0.heap.size = g3 := ⟨_, rfl⟩
                            rw [hg3] at HR3 ⊢
                            clear hg3
                            generalize z0.alloc (.cells e.arr 45) = z1 at *
                            refine flow_one (F := Below g8) (fun _ _ _ => Below.trans) (fun _ => Below.refl _ _) 4 (by kernel_rfl) (by decide) ?_
                            simp only [pick, List.getD_cons_zero, List.getD_cons_succ]
                            have HZL : Hid (Below z0.heap.size z0 z1) := Lib.hid (by have h := HZN.out; rw [← HSE.out] at h; exact h)
                            go_wp2_with (at_builtin; go_must (refine wpList_app2 z1 rfl (.const (.slice none 0 0)) (.tmp 91) 29 29 45 rfl (g8 + 1) Try.underlying29 edg_info rfl _ 0 [] (World.ownsRow_nil _ _ _ _) rfl _ K (rowC Edg.cells l1) (Row.src (GRow.later HLT.out HZL.out) Try.underlying29 (rowC_ones Edg.ones _)) rfl (by unfold maxLen; omega) (by omega) HN0.out ?_); intro v1 z2 ho hb hkp _; rw [Nat.zero_add, List.nil_append] at ho; have HO1 := Lib.hid ho; replace HR3 := Lib.hid (Row.keep HR3.out fun ad _ _ hlt => hkp _ hlt (fun e => by cases e)); have HF : Hid (Below g8 z1 z2) := Lib.hid (hb.mono (Nat.le_succ g8)); replace HZ := Lib.hid (HZ.out.trans (hb.mono (Nat.le_succ g8))); replace HZN := Lib.hid (HZN.out.trans hb); replace HN0 := Lib.hid (Nat.le_trans HN0.out hb.size); clear ho hb hkp)
                            refine pieceEnd_normal ⟨HF.out, ?_⟩
                            clear HF
                            refine flow_one (F := Below g8) (fun _ _ _ => Below.trans) (fun _ => Below.refl _ _) 7 (by kernel_rfl) (by decide) ?_
                            simp only [pick, List.getD_cons_zero, List.getD_cons_succ]
                            go_wp2_with (at_builtin; go_must (refine wpList_app2 z2 rfl (.tmp 92) (.tmp 94) 29 29 45 rfl (g8 + 1) Try.underlying29 edg_info rfl _ K _ HO1.out rfl (.slice (some ⟨g3, 0, none⟩) 1 1) 1 (rowC Edg.cells [e]) (Row.src HR3.out Try.underlying29 (rowC_ones Edg.ones _)) rfl (by unfold maxLen; omega) (by omega) HN0.out ?_); intro v4 z4 ho hb hkp hv; have HO5 := Lib.hid ho; have HF : Hid (Below g8 z2 z4) := Lib.hid (hb.mono (Nat.le_succ g8)); replace HZ := Lib.hid (HZ.out.trans (hb.mono (Nat.le_succ g8))); replace HZN := Lib.hid (HZN.out.trans hb); replace HN0 := Lib.hid (Nat.le_trans HN0.out hb.size); clear ho hb hkp hv)
                            refine pieceEnd_normal ⟨HF.out, ?_⟩
                            clear HF
                            have HZL : Hid (Below z0.heap.size z0 z4) := Lib.hid (by have h := HZN.out; rw [← HSE.out] at h; exact h)
                            have HD4 : Hid (ERow z4 AD (n - K) (c - K) l2) := Lib.hid (GRow.later HLD.out HZL.out)
                            refine flow_one (F := Below g8) (fun _ _ _ => Below.trans) (fun _ => Below.refl _ _) 12 (by kernel_rfl) (by decide) ?_
                            simp only [pick, List.getD_cons_zero, List.getD_cons_succ]
                            go_wp2_with (at_builtin; go_must (refine wpList_app2 z4 rfl (.tmp 95) (.tmp 99) 29 29 45 rfl (g8 + 1) Try.underlying29 edg_info rfl _ (K + 1) _ HO5.out rfl _ (n - K) (rowC Edg.cells l2) (Row.src HD4.out Try.underlying29 (rowC_ones Edg.ones _)) rfl (by unfold maxLen; omega) (by omega) HN0.out ?_); intro v4 z5 ho hb hkp hv; have HO6 := Lib.hid ho; have HF : Hid (Below g8 z4 z5) := Lib.hid (hb.mono (Nat.le_succ g8)); replace HZ := Lib.hid (HZ.out.trans (hb.mono (Nat.le_succ g8))); replace HZN := Lib.hid (HZN.out.trans hb); replace HN0 := Lib.hid (Nat.le_trans HN0.out hb.size); clear ho hb hkp hv)
                            refine pieceEnd_normal ⟨HF.out, ?_⟩
                            clear HF
                            refine flow_reads (F := Below g8) (fun _ => Below.refl _ _) (by kernel_rfl) [13] (fuel := 1) (by kernel_rfl) ?_
                            simp only [List.map_cons, List.map_nil, pick, List.getD_cons_zero, List.getD_cons_succ]
                            repeat (go_big_quiet_step (fail))
                            refine wpQuiet_nil ?_
                            have HO7 : Hid (z5.ownsRow (g8 + 1) 45 3 _ (K + 1 + (n - K)) (rowC Edg.cells (l1 ++ [e] ++ l2))) := Lib.hid (by rw [rowC_app, rowC_app]; exact HO6.out)
                            clear HO6 HO5 HO1 HR3 HD4 HZL
                            obtain ⟨A5, c5, hv5, -⟩ := Row.of_own HO7.out
                            subst hv5
                            have HO85 : Hid (z5.heap[g8]? = some (.cells #[.int .i64 G.sz, .slice Ae G.es.length ce, .slice Ag G.gn.length cg] 31 (0, 0))) := Lib.hid ((HZN.out.block g8 (Nat.lt_succ_self g8)).trans HOD.out)
                            have hz1 : z5.cell? ⟨g8, 1, none⟩ = some (.slice Ae G.es.length ce) := (cell_of_row _ _ 1 _ _ _ HO85.out).trans rfl
                            have hfz : z5.frozen? ⟨g8, 1, none⟩ = false := by unfold World.frozen?; rw [HO85.out]; simp
                            refine flow_one (F := Below g8) (fun _ _ _ => Below.trans) (fun _ => Below.refl _ _) 14 (by kernel_rfl) (by decide) ?_
                            simp only [pick, List.getD_cons_zero, List.getD_cons_succ]
                            go_wp2_with fail
                            have HF : Hid (Below g8 z5 (z5.setCell ⟨g8, 1, none⟩ (.slice A5 (K + 1 + (n - K)) c5))) := Lib.hid ((Below.refl _ _).setCell (p := ⟨g8, 1, none⟩) (Nat.le_refl g8) _)
                            refine pieceEnd_normal ⟨HF.out, ?_⟩
                            refine flow_done (by kernel_rfl) ?_
                            have HO9 : Hid ((z5.setCell ⟨g8, 1, none⟩ (.slice A5 (K + 1 + (n - K)) c5)).heap[g8]? = some (.cells #[.int .i64 G.sz, .slice A5 (K + 1 + (n - K)) c5, .slice Ag G.gn.length cg] 31 (0, 0))) := Lib.hid (heap_setCell_same z5 g8 1 _ _ _ HO85.out)
                            have HKC : Hid (∀ q, q ≠ g8 → (z5.setCell ⟨g8, 1, none⟩ (.slice A5 (K + 1 + (n - K)) c5)).heap[q]? = z5.heap[q]?) := Lib.hid fun q hq => Below.heap_setCell z5 ⟨g8, 1, none⟩ _ q hq
                            have HO10 := Lib.hid (own_keepL HO7.out fun q hq => HKC.out q (by have := own_ge HO7.out q hq; omega))
                            have hgsz : g8 < z5.heap.size := (Array.getElem?_eq_some_iff.1 HO85.out).1
                            have HG10 := Lib.hid (own_keepL HGD.out fun q hq => (HKC.out q (Nat.ne_of_lt (HGL.out q hq))).trans (HZ.out.block q (HGL.out q hq)))
                            have HB10 : Hid (Below w.heap.size w (z5.setCell ⟨g8, 1, none⟩ (.slice A5 (K + 1 + (n - K)) c5))) := Lib.hid (HBD.out.trans ((HZ.out.trans HF.out).mono (by omega)))
                            have HR10 : Hid ((z5.setCell ⟨g8, 1, none⟩ (.slice A5 (K + 1 + (n - K)) c5)).heap[w.heap.size + 2]? = some (.cells #[.int .i64 0, .slice none 0 0, .slice none 0 0] 31 (0, 0))) := Lib.hid ((HKC.out _ (by omega)).trans ((HZ.out.block _ (by omega)).trans HRD.out))
                            clear hz1 hfz HF HO85 HO7 HKC hgsz
                            generalize z5.setCell ⟨g8, 1, none⟩ (.slice A5 (K + 1 + (n - K)) c5) = z6 at *
                            go_wp2_with (first | (refine wpList_load_row rfl 31 (.tmp 8) rfl g8 rfl 31 #[.int .i64 G.sz, .slice A5 (K + 1 + (n - K)) c5, .slice Ag G.gn.length cg] (0, 0) _ HO9.out Try.underlying31 rfl gr_size ?_) | (refine wpList_store_row rfl 31 (.tmp 4) (.tmp 102) rfl (w.heap.size + 2) #[.int .i64 G.sz, .slice A5 (K + 1 + (n - K)) c5, .slice Ag G.gn.length cg] rfl rfl 31 _ HR10.out gr_size rfl (by simp [Value.oneCell']) ?_))
                            refine bodyPost_ret (results_ge rfl rfl rfl (setRow_heap _ _ _ #[.int .i64 G.sz, .slice A5 (K + 1 + (n - K)) c5, .slice Ag G.gn.length cg] _ _ HR10.out) rfl) rfl ?_
                            have HLE : Hid ((l1 ++ e :: l2).length = K + 1 + (n - K)) := Lib.hid (by rw [List.length_append, List.length_cons, HK1.out, HK2.out]; omega)
                            rw [HRW.out]
                            refine ⟨_, rfl, ?_, below_setRow HB10.out (by omega) _⟩
                            refine ⟨_, _, rfl, ?_, ?_⟩
                            · rw [HLE.out, show l1 ++ e :: l2 = l1 ++ [e] ++ l2 by simp]
                              exact own_base (own_keepL HO10.out fun q hq => setRow_other _ _ _ _ (by have := own_ge HO10.out q hq; omega)) (by omega)
                            · exact own_base (own_keepL HG10.out fun q hq => setRow_other _ _ _ _ (by have := own_ge HG10.out q hq; have := HB45.out; omega)) (by have := HB45.out; omega)
                      · replace HRW : Hid (RW = (noGr, 19)) := Lib.hid (by rw [HRW.out, if_pos hth])
                        have HE := HRW
                        clear hth
                        go_wp2_with (refine wpList_store_row rfl 31 (.tmp 4) (.tmp 79) rfl (w.heap.size + 2) #[.int .i64 0, .slice none 0 0, .slice none 0 0] rfl rfl 31 _ HR.out gr_size rfl (by simp [Value.oneCell']) ?_)
                        refine bodyPost_ret (results_ge rfl rfl rfl (setRow_heap _ _ _ #[.int .i64 0, .slice none 0 0, .slice none 0 0] _ _ HR.out) rfl) rfl ?_
                        rw [HE.out]
                        exact ⟨_, rfl, GOwn.none _ _, below_setRow HB.out (by omega) _⟩
                · replace HRW : Hid (RW = (noGr, 4)) := Lib.hid (by rw [HRW.out, if_pos (by rw [HFR.out, hh1]; simp)])
                  have HE := HRW
                  clear hh1
                  go_wp2_with (refine wpList_store_row rfl 31 (.tmp 4) (.tmp 66) rfl (w.heap.size + 2) #[.int .i64 0, .slice none 0 0, .slice none 0 0] rfl rfl 31 _ HR.out gr_size rfl (by simp [Value.oneCell']) ?_)
                  refine bodyPost_ret (results_ge rfl rfl rfl (setRow_heap _ _ _ #[.int .i64 0, .slice none 0 0, .slice none 0 0] _ _ HR.out) rfl) rfl ?_
                  rw [HE.out]
                  exact ⟨_, rfl, GOwn.none _ _, below_setRow HB.out (by omega) _⟩
              · replace HRW : Hid (RW = (noGr, 4)) := Lib.hid (by rw [HRW.out, if_pos (by rw [HFR.out, hh0]; simp)])
                have HE := HRW
                have hc2 : w3.cell? ⟨w.heap.size, 2, none⟩ = some (.slice B m k) := (cell_of_row _ _ 2 _ _ _ HX.out).trans rfl
                clear hh0
                go_wp2_with (refine wpList_store_row rfl 31 (.tmp 4) (.tmp 66) rfl (w.heap.size + 2) #[.int .i64 0, .slice none 0 0, .slice none 0 0] rfl rfl 31 _ HR.out gr_size rfl (by simp [Value.oneCell']) ?_)
                refine bodyPost_ret (results_ge rfl rfl rfl (setRow_heap _ _ _ #[.int .i64 0, .slice none 0 0, .slice none 0 0] _ _ HR.out) rfl) rfl ?_
                rw [HE.out]
                exact ⟨_, rfl, GOwn.none _ _, below_setRow HB.out (by omega) _⟩
end Go.Proofs.Ytdildmfjekdlgaa
