import Derived.Test.YtnmpbjgccbnomaaGreatPackAY
import Derived.Test.YtnmpbjgccbnomaaGreatPackAX
import Derived.Test.YtnmpbjgccbnomaaGreatPackAV
import Derived.Shelf.Abstract
import Derived.Test.YtnmpbjgccbnomaaGreatPackAU
import Derived.Test.YtnmpbjgccbnomaaGreatPackAB
import Derived.WideKeyRuns
import Derived.Laws.StructEq
import Derived.Test.YtnmpbjgccbnomaaGreatPackAW
import Derived.Test.YtnmpbjgccbnomaaGreatPackAC
/- The walk of graph's Without. -/
namespace Go.Proofs.YtnmpbjgccbnomaaGreat
open Go.RowKit
set_option maxRecDepth 100000 in
set_option maxHeartbeats 4000000 in
theorem withoutGr_any (G : Gr) (v : Value) (fr tu : Int) (w : World) (h : GHold w G v) (he : G.es.length ≤ 100000) (hg : G.gn.length ≤ 100000) : Calls Tryz.prog 21 #[v, .int .i64 fr, .int .i64 tu] w (GivesGE w (withoutG G fr tu)) := by
  have HGH := Lib.hid h
  obtain ⟨A, n, c, B, m, k, rfl, h1, h2⟩ := h
  have hn : n ≤ 100000 := by rw [← ERow.len h1]; exact he
  have HL1 : Hid (G.es.length = n) := Lib.hid (ERow.len h1)
  have HB : Hid (Below w.heap.size w ((w.alloc (.cells #[.int .i64 G.sz, .slice A n c, .slice B m k] 35)).alloc (.cells #[.int .i64 0, .slice none 0 0, .slice none 0 0] 35))) := Lib.hid ((one_new w _).trans ((one_new _ _).mono (by simp)))
  have HX : Hid (((w.alloc (.cells #[.int .i64 G.sz, .slice A n c, .slice B m k] 35)).alloc (.cells #[.int .i64 0, .slice none 0 0, .slice none 0 0] 35)).heap[w.heap.size]? = some (.cells #[.int .i64 G.sz, .slice A n c, .slice B m k] 35 (0, 0))) := Lib.hid ((Below.heap_alloc _ _ _ (by simp)).trans (heap_alloc_new _ _))
  have HR : Hid (((w.alloc (.cells #[.int .i64 G.sz, .slice A n c, .slice B m k] 35)).alloc (.cells #[.int .i64 0, .slice none 0 0, .slice none 0 0] 35)).heap[w.heap.size + 1]? = some (.cells #[.int .i64 0, .slice none 0 0, .slice none 0 0] 35 (0, 0))) := Lib.hid (heap_alloc2_new _ _ _)
  have H2 := Lib.hid h2
  have HCK : Hid (∀ y, Below w.heap.size w y → Calls Tryz.prog 16 #[.agg #[.int .i64 G.sz, .slice A n c, .slice B m k]] y (SaysL (.int .i64 (checkG G)) y)) := Lib.hid fun y hy => checkGr_any G _ y (HGH.out.later hy) he hg
  have HIX : Hid (okG G = true → ∀ y, Below w.heap.size w y → Calls Tryz.prog 39 #[.slice A n c, .agg #[.int .i64 fr, .int .i64 tu, .int .i64 0], .func (.func 38) #[] #[]] y (SaysL (.tuple #[.int .i64 (idxE ⟨fr, tu, 0⟩ G.es : Nat), .bool (thereE ⟨fr, tu, 0⟩ G.es)]) y)) := Lib.hid fun hk y hy => bsearchEd_any A n c G.es ⟨fr, tu, 0⟩ y (GRow.later h1 hy) (by omega) ((okG_iff G).1 hk).asc
  have HCL : Hid (∀ y, Below w.heap.size w y → Calls Tryz.prog 34 #[.slice A n c] y fun e w' => ∃ v, e = .returned v ∧ w'.ownsRow y.heap.size 53 3 v G.es.length (rowC Edg.cells G.es) ∧ Below y.heap.size y w') := Lib.hid fun y h => cloneEd_any A n c G.es y (GRow.later h1 h) hn
  have HRW : Hid (withoutG G fr tu = if okG G = false then (noGr, 14) else if thereE ⟨fr, tu, 0⟩ G.es then (⟨G.sz, G.es.take (idxE ⟨fr, tu, 0⟩ G.es) ++ G.es.drop (idxE ⟨fr, tu, 0⟩ G.es + 1), G.gn⟩, 0) else (noGr, 19)) := Lib.hid rfl
  have HTH : Hid (thereE ⟨fr, tu, 0⟩ G.es = true → idxE ⟨fr, tu, 0⟩ G.es < n) := Lib.hid fun q => by
    unfold thereE at q
    rw [Bool.and_eq_true, decide_eq_true_eq, HL1.out] at q
    exact q.1
  have HCG : Hid (checkG G = if okG G then 0 else 14) := Lib.hid rfl
  generalize withoutG G fr tu = RW at *
  generalize checkG G = CG at *
  clear h1 h2 he hg HGH
  go_enter Tryz.func21, Tryz.ntmps21
  go_upto_region 1 with fail
  generalize ((w.alloc (.cells #[.int .i64 G.sz, .slice A n c, .slice B m k] 35)).alloc (.cells #[.int .i64 0, .slice none 0 0, .slice none 0 0] 35)) = y0 at *
  have HSZ : Hid (w.heap.size + 2 ≤ y0.heap.size) := Lib.hid (Array.getElem?_eq_some_iff.1 HR.out).1
  go_wp2_with (refine wpList_load_row rfl 35 (.tmp 3) rfl w.heap.size rfl 35 #[.int .i64 G.sz, .slice A n c, .slice B m k] (0, 0) _ HX.out Tryz.underlying35 rfl gr_size ?_)
  refine (HCK.out y0 HB.out).mono ?_
  rintro e1 w1 ⟨rfl, hb⟩
  have hs2 : w.heap.size + 2 ≤ y0.heap.size := HSZ.out
  replace HX := Lib.hid ((hb.block _ (by omega)).trans HX.out); replace HR := Lib.hid ((hb.block _ (by omega)).trans HR.out)
  replace HB := Lib.hid (HB.out.trans (hb.mono HB.out.size))
  replace HSZ : Hid (w.heap.size + 2 ≤ w1.heap.size) := Lib.hid (Nat.le_trans hs2 hb.size)
  clear hb hs2 HCK
  cases hok : okG G
  · rw [hok] at HCG HRW
    have HCE : Hid (CG = 14) := Lib.hid HCG.out
    rw [HCE.out]
    have HE : Hid (RW = (noGr, 14)) := Lib.hid (by rw [HRW.out]; rfl)
    clear HCE hok HIX
    go_wp2_with (refine wpList_store_row rfl 35 (.tmp 6) (.tmp 15) rfl (w.heap.size + 1) #[.int .i64 0, .slice none 0 0, .slice none 0 0] rfl rfl 35 _ HR.out gr_size rfl (by simp [Value.oneCell']) ?_)
    refine bodyPost_ret (results_ge rfl rfl rfl (setRow_heap _ _ _ #[.int .i64 0, .slice none 0 0, .slice none 0 0] _ _ HR.out) rfl) rfl ?_
    rw [HE.out]
    exact ⟨_, rfl, (GOwn.none _ 0).hold, below_setRow HB.out (by omega) _⟩
  · rw [hok] at HCG HRW
    have HCE : Hid (CG = 0) := Lib.hid HCG.out
    rw [HCE.out]
    replace HRW : Hid (RW = if thereE ⟨fr, tu, 0⟩ G.es then (⟨G.sz, G.es.take (idxE ⟨fr, tu, 0⟩ G.es) ++ G.es.drop (idxE ⟨fr, tu, 0⟩ G.es + 1), G.gn⟩, 0) else (noGr, 19)) := Lib.hid (by rw [HRW.out]; rfl)
    replace HIX := Lib.hid (HIX.out hok)
    clear HCE HCG hok CG
    generalize idxE ⟨fr, tu, 0⟩ G.es = K at *
    generalize thereE ⟨fr, tu, 0⟩ G.es = th at *
    have hc1 : w1.cell? ⟨w.heap.size, 1, none⟩ = some (.slice A n c) := (cell_of_row _ _ 1 _ _ _ HX.out).trans rfl
    go_wp2_with fail
    clear hc1
    refine (HIX.out w1 HB.out).mono ?_
    rintro e1 w2 ⟨rfl, hb⟩
    have hs2 : w.heap.size + 2 ≤ w1.heap.size := HSZ.out
    replace HX := Lib.hid ((hb.block _ (by omega)).trans HX.out); replace HR := Lib.hid ((hb.block _ (by omega)).trans HR.out)
    replace HB := Lib.hid (HB.out.trans (hb.mono HB.out.size))
    replace HSZ : Hid (w.heap.size + 2 ≤ w2.heap.size) := Lib.hid (Nat.le_trans hs2 hb.size)
    clear hb hs2 HIX
    cases th
    · have HE : Hid (RW = (noGr, 19)) := Lib.hid HRW.out
      go_wp2_with (refine wpList_store_row rfl 35 (.tmp 6) (.tmp 28) rfl (w.heap.size + 1) #[.int .i64 0, .slice none 0 0, .slice none 0 0] rfl rfl 35 _ HR.out gr_size rfl (by simp [Value.oneCell']) ?_)
      refine bodyPost_ret (results_ge rfl rfl rfl (setRow_heap _ _ _ #[.int .i64 0, .slice none 0 0, .slice none 0 0] _ _ HR.out) rfl) rfl ?_
      rw [HE.out]
      exact ⟨_, rfl, (GOwn.none _ 0).hold, below_setRow HB.out (by omega) _⟩
    · have hK : K < n := HTH.out rfl
      have HE : Hid (RW = (⟨G.sz, G.es.take K ++ G.es.drop (K + 1), G.gn⟩, 0)) := Lib.hid HRW.out
      clear HRW HTH
      have hc1 : w2.cell? ⟨w.heap.size, 1, none⟩ = some (.slice A n c) := (cell_of_row _ _ 1 _ _ _ HX.out).trans rfl
      go_wp2_with fail
      clear hc1
      refine (HCL.out w2 HB.out).mono ?_
      rintro e1 w3 ⟨v1, rfl, ho, hb⟩
      have hs2 : w.heap.size + 2 ≤ w2.heap.size := HSZ.out
      replace HX := Lib.hid ((hb.block _ (by omega)).trans HX.out); replace HR := Lib.hid ((hb.block _ (by omega)).trans HR.out)
      replace HB := Lib.hid (HB.out.trans (hb.mono HB.out.size))
      obtain ⟨g, cap, T, rfl, hek⟩ := eblk_of_own ho (by rw [HL1.out]; omega)
      rw [HL1.out] at hek ⊢
      have HDL := Lib.hid (deleteEd_any w2.heap.size g n cap K (K + 1) G.es T w3 hek hb.size (Nat.lt_succ_self K) hK)
      rw [show ((K + 1 : Nat) : Int) = (K : Int) + 1 by omega] at HDL
      clear hb ho hek HCL
      obtain ⟨D, hD⟩ : ∃ D, G.es.take K ++ G.es.drop (K + 1) = D := ⟨_, rfl⟩
      rw [hD] at HDL HE
      clear hD
      go_wp2_with fail
      refine HDL.out.mono ?_
      rintro e1 w4 ⟨v2, rfl, ho, hb⟩
      obtain ⟨A2, c2, rfl, -⟩ := Row.of_own ho
      have HO2 := Lib.hid ho
      replace HX := Lib.hid ((hb.block _ (by omega)).trans HX.out); replace HR := Lib.hid ((hb.block _ (by omega)).trans HR.out)
      replace HB := Lib.hid (HB.out.trans (hb.mono (by omega)))
      clear hb ho HDL
      have hfz : w4.frozen? ⟨w.heap.size, 1, none⟩ = false := by unfold World.frozen?; rw [HX.out]; simp
      have hc1 : w4.cell? ⟨w.heap.size, 1, none⟩ = some (.slice A n c) := (cell_of_row _ _ 1 _ _ _ HX.out).trans rfl
      go_upto_region 8 with fail
      have HX3 : Hid ((w4.setCell ⟨w.heap.size, 1, none⟩ (.slice A2 D.length c2)).heap[w.heap.size]? = some (.cells #[.int .i64 G.sz, .slice A2 D.length c2, .slice B m k] 35 (0, 0))) := Lib.hid (heap_setCell_same w4 w.heap.size 1 _ _ _ HX.out)
      have HKC : Hid (∀ q, q ≠ w.heap.size → (w4.setCell ⟨w.heap.size, 1, none⟩ (.slice A2 D.length c2)).heap[q]? = w4.heap[q]?) := Lib.hid fun q hq => Below.heap_setCell w4 ⟨w.heap.size, 1, none⟩ _ q hq
      have HB3 : Hid (Below w.heap.size w (w4.setCell ⟨w.heap.size, 1, none⟩ (.slice A2 D.length c2))) := Lib.hid (HB.out.setCell (p := ⟨w.heap.size, 1, none⟩) (Nat.le_refl _) _)
      have HR3 := Lib.hid ((HKC.out (w.heap.size + 1) (by omega)).trans HR.out)
      have HO3 := Lib.hid (own_keepL HO2.out fun q hq => HKC.out q (by have := own_ge HO2.out q hq; omega))
      clear hfz hc1 HKC HX HR HO2 HB
      generalize w4.setCell ⟨w.heap.size, 1, none⟩ (.slice A2 D.length c2) = w5 at *
      go_wp2_with (first | (refine wpList_load_row rfl 35 (.tmp 3) rfl w.heap.size rfl 35 #[.int .i64 G.sz, .slice A2 D.length c2, .slice B m k] (0, 0) _ HX3.out Tryz.underlying35 rfl gr_size ?_) | (refine wpList_store_row rfl 35 (.tmp 6) (.tmp 37) rfl (w.heap.size + 1) #[.int .i64 G.sz, .slice A2 D.length c2, .slice B m k] rfl rfl 35 _ HR3.out gr_size rfl (by simp [Value.oneCell']) ?_))
      refine bodyPost_ret (results_ge rfl rfl rfl (setRow_heap _ _ _ #[.int .i64 G.sz, .slice A2 D.length c2, .slice B m k] _ _ HR3.out) rfl) rfl ?_
      have hbf : Below w.heap.size w (w5.setRow (w.heap.size + 1) #[.int .i64 G.sz, .slice A2 D.length c2, .slice B m k]) := below_setRow HB3.out (by omega) _
      rw [HE.out]
      refine ⟨_, rfl, ⟨A2, D.length, c2, B, m, k, rfl, ?_, H2.out.later hbf⟩, hbf⟩
      obtain ⟨A4, c4, hv4, hr4⟩ := Row.of_own (own_keepL HO3.out fun q hq => setRow_other w5 (w.heap.size + 1) q #[.int .i64 G.sz, .slice A2 D.length c2, .slice B m k] (by have := own_ge HO3.out q hq; omega))
      injection hv4 with e1 _ e2
      subst e1 e2
      exact hr4
end Go.Proofs.YtnmpbjgccbnomaaGreat
/- The walk of graph's Level. -/
namespace Go.Proofs.YtnmpbjgccbnomaaGreat
open Go.RowKit
set_option maxRecDepth 100000 in
set_option maxHeartbeats 4000000 in
theorem level1Gr_any (lv : Int) (bt : Nat) (p : Edg) (w : World) (ht : w.cell? ⟨bt, 0, none⟩ = some (.int .i64 lv)) (hb : bt < w.heap.size) : Calls Tryz.prog 35 #[.agg p.arr, .pointer (some ⟨bt, 0, none⟩)] w (SaysL (.bool (decide (p.lv < lv))) w) := by
  have ht2 : (w.alloc (.cells p.arr 53)).cell? ⟨bt, 0, none⟩ = some (.int .i64 lv) := (Below.cell (one_new w _) hb).trans ht
  have HN := Lib.hid (one_new w (.cells p.arr 53))
  obtain ⟨-, -, hp⟩ := edg_cells (heap_alloc_new w (.cells p.arr 53))
  clear ht
  go_enter Tryz.func35, Tryz.ntmps35
  go_wp2_with fail
  go_ret
  exact ⟨rfl, HN.out⟩
set_option maxRecDepth 100000 in
set_option maxHeartbeats 4000000 in
theorem levelGr_own (G : Gr) (A : Option Addr) (n c : Nat) (B : Option Addr) (m k : Nat) (lv : Int) (w : World) (h1 : ERow w A n c G.es) (h2 : IRow w B m k G.gn) (he : G.es.length ≤ 100000) : Calls Tryz.prog 15 #[.agg #[.int .i64 G.sz, .slice A n c, .slice B m k], .int .i64 lv] w fun x w' => ∃ A2 c2, x = .returned (.agg #[.int .i64 G.sz, .slice A2 (levelG G lv).es.length c2, .slice B m k]) ∧ w'.ownsRow w.heap.size 53 3 (.slice A2 (levelG G lv).es.length c2) (levelG G lv).es.length (rowC Edg.cells (levelG G lv).es) ∧ Below w.heap.size w w' := by
  have hn : n ≤ 100000 := by rw [← ERow.len h1]; exact he
  have HB : Hid (Below w.heap.size w (((w.alloc (.cells #[.int .i64 G.sz, .slice A n c, .slice B m k] 35)).alloc (.cells #[.int .i64 lv] 3)).alloc (.cells #[.int .i64 0, .slice none 0 0, .slice none 0 0] 35))) := Lib.hid (((one_new w _).trans ((one_new _ _).mono (by simp))).trans ((one_new _ _).mono (by simp; omega)))
  have HX : Hid ((((w.alloc (.cells #[.int .i64 G.sz, .slice A n c, .slice B m k] 35)).alloc (.cells #[.int .i64 lv] 3)).alloc (.cells #[.int .i64 0, .slice none 0 0, .slice none 0 0] 35)).heap[w.heap.size]? = some (.cells #[.int .i64 G.sz, .slice A n c, .slice B m k] 35 (0, 0))) := Lib.hid ((Below.heap_alloc _ _ _ (by simp; omega)).trans ((Below.heap_alloc _ _ _ (by simp)).trans (heap_alloc_new _ _)))
  have HY : Hid ((((w.alloc (.cells #[.int .i64 G.sz, .slice A n c, .slice B m k] 35)).alloc (.cells #[.int .i64 lv] 3)).alloc (.cells #[.int .i64 0, .slice none 0 0, .slice none 0 0] 35)).heap[w.heap.size + 1]? = some (.cells #[.int .i64 lv] 3 (0, 0))) := Lib.hid ((Below.heap_alloc _ _ _ (by simp)).trans (heap_alloc2_new _ _ _))
  have HR : Hid ((((w.alloc (.cells #[.int .i64 G.sz, .slice A n c, .slice B m k] 35)).alloc (.cells #[.int .i64 lv] 3)).alloc (.cells #[.int .i64 0, .slice none 0 0, .slice none 0 0] 35)).heap[w.heap.size + 2]? = some (.cells #[.int .i64 0, .slice none 0 0, .slice none 0 0] 35 (0, 0))) := Lib.hid (by
    have h := heap_alloc_new ((w.alloc (.cells #[.int .i64 G.sz, .slice A n c, .slice B m k] 35)).alloc (.cells #[.int .i64 lv] 3)) (.cells #[.int .i64 0, .slice none 0 0, .slice none 0 0] 35)
    rw [show ((w.alloc (.cells #[.int .i64 G.sz, .slice A n c, .slice B m k] 35)).alloc (.cells #[.int .i64 lv] 3)).heap.size = w.heap.size + 2 by simp] at h
    exact h)
  have H2 := Lib.hid h2
  have HCL : Hid (∀ y, Below w.heap.size w y → Calls Tryz.prog 34 #[.slice A n c] y fun e w' => ∃ v, e = .returned v ∧ w'.ownsRow y.heap.size 53 3 v G.es.length (rowC Edg.cells G.es) ∧ Below y.heap.size y w') := Lib.hid fun y h => cloneEd_any A n c G.es y (GRow.later h1 h) hn
  have HEN : Hid (∀ args w, (callFunc 35 args).run Tryz.prog w = .ok (.enter 35 args) w) := Lib.hid (enters_of Tryz.func35 (by kernel_rfl) rfl)
  have HFL : Hid (G.es.filter (fun e => !decide (e.lv < lv)) = (levelG G lv).es) := Lib.hid (by
    unfold levelG
    show _ = G.es.filter (fun e => decide (lv ≤ e.lv))
    congr 1
    funext e
    by_cases h : lv ≤ e.lv
    · rw [decide_eq_true h, decide_eq_false (by omega)]; rfl
    · rw [decide_eq_false h, decide_eq_true (by omega)]; rfl)
  generalize levelG G lv = K at *
  clear h1 h2
  go_enter Tryz.func15, Tryz.ntmps15
  go_upto_region 1 with fail
  generalize (((w.alloc (.cells #[.int .i64 G.sz, .slice A n c, .slice B m k] 35)).alloc (.cells #[.int .i64 lv] 3)).alloc (.cells #[.int .i64 0, .slice none 0 0, .slice none 0 0] 35)) = y0 at *
  have HSZ : Hid (w.heap.size + 3 ≤ y0.heap.size) := Lib.hid (Array.getElem?_eq_some_iff.1 HR.out).1
  have hc1 : y0.cell? ⟨w.heap.size, 1, none⟩ = some (.slice A n c) := (cell_of_row _ _ 1 _ _ _ HX.out).trans rfl
  go_wp2_with fail
  refine (HCL.out y0 HB.out).mono ?_
  rintro e w1 ⟨v1, rfl, ho, hb⟩
  have HO := Lib.hid ho
  have hs3 : w.heap.size + 3 ≤ y0.heap.size := HSZ.out
  replace HX := Lib.hid ((hb.block _ (by omega)).trans HX.out); replace HY := Lib.hid ((hb.block _ (by omega)).trans HY.out); replace HR := Lib.hid ((hb.block _ (by omega)).trans HR.out)
  replace HB := Lib.hid (HB.out.trans (hb.mono HB.out.size))
  have HDF := Lib.hid (delFuncEd_any (fun e => decide (e.lv < lv)) 35 #[.pointer (some ⟨w.heap.size + 1, 0, none⟩)] y0.heap.size v1 G.es.length G.es w1 ho hb.size he HEN.out fun y p hby => level1Gr_any lv (w.heap.size + 1) p y ((cell_of_row _ _ 0 _ _ _ ((hby.block _ (by omega)).trans HY.out)).trans rfl) (by have h1 := hby.size; have h2 := hb.size; omega))
  have HS1 : Hid (y0.heap.size ≤ w1.heap.size) := Lib.hid hb.size
  clear hb hc1 HCL ho
  go_wp2_with fail
  refine HDF.out.mono ?_
  rintro e w2 ⟨v2, rfl, ho, hb⟩
  rw [HFL.out] at ho
  obtain ⟨A2, c2, rfl, hr2⟩ := Row.of_own ho
  have HR2 : Hid (ERow w2 A2 K.es.length c2 K.es) := Lib.hid hr2
  have HO2 := Lib.hid ho
  replace HX := Lib.hid ((hb.block _ (by omega)).trans HX.out); replace HR := Lib.hid ((hb.block _ (by omega)).trans HR.out)
  replace HB := Lib.hid (HB.out.trans (hb.mono (by omega)))
  clear hb hr2 ho HDF HY HEN
  have hfz : w2.frozen? ⟨w.heap.size, 1, none⟩ = false := by unfold World.frozen?; rw [HX.out]; simp
  have hc1 : w2.cell? ⟨w.heap.size, 1, none⟩ = some (.slice A n c) := (cell_of_row _ _ 1 _ _ _ HX.out).trans rfl
  go_upto_region 2 with fail
  have HX3 : Hid ((w2.setCell ⟨w.heap.size, 1, none⟩ (.slice A2 K.es.length c2)).heap[w.heap.size]? = some (.cells #[.int .i64 G.sz, .slice A2 K.es.length c2, .slice B m k] 35 (0, 0))) := Lib.hid (heap_setCell_same w2 w.heap.size 1 _ _ _ HX.out)
  have HKC : Hid (∀ q, q ≠ w.heap.size → (w2.setCell ⟨w.heap.size, 1, none⟩ (.slice A2 K.es.length c2)).heap[q]? = w2.heap[q]?) := Lib.hid fun q hq => Below.heap_setCell w2 ⟨w.heap.size, 1, none⟩ _ q hq
  have HB3 : Hid (Below w.heap.size w (w2.setCell ⟨w.heap.size, 1, none⟩ (.slice A2 K.es.length c2))) := Lib.hid (HB.out.setCell (p := ⟨w.heap.size, 1, none⟩) (Nat.le_refl _) _)
  have HR3 := Lib.hid ((HKC.out (w.heap.size + 2) (by omega)).trans HR.out)
  have HO3 := Lib.hid (own_keepL HO2.out fun q hq => HKC.out q (by have := own_ge HO2.out q hq; omega))
  clear hfz hc1 HKC HX HR HO2 HR2 HB
  generalize w2.setCell ⟨w.heap.size, 1, none⟩ (.slice A2 K.es.length c2) = w3 at *
  go_wp2_with (first | (refine wpList_load_row rfl 35 (.tmp 2) rfl w.heap.size rfl 35 #[.int .i64 G.sz, .slice A2 K.es.length c2, .slice B m k] (0, 0) _ HX3.out Tryz.underlying35 rfl gr_size ?_) | (refine wpList_store_row rfl 35 (.tmp 4) (.tmp 11) rfl (w.heap.size + 2) #[.int .i64 G.sz, .slice A2 K.es.length c2, .slice B m k] rfl rfl 35 _ HR3.out gr_size rfl (by simp [Value.oneCell']) ?_))
  refine bodyPost_ret (v := .agg #[.int .i64 G.sz, .slice A2 K.es.length c2, .slice B m k]) (results_cell_row rfl _ _ (w.heap.size + 2) 35 #[.int .i64 G.sz, .slice A2 K.es.length c2, .slice B m k] (0, 0) _ rfl (setRow_heap _ _ _ #[.int .i64 G.sz, .slice A2 K.es.length c2, .slice B m k] _ _ HR3.out) Tryz.underlying35 rfl gr_size) rfl ?_
  have hbf : Below w.heap.size w (w3.setRow (w.heap.size + 2) #[.int .i64 G.sz, .slice A2 K.es.length c2, .slice B m k]) := below_setRow HB3.out (by omega) _
  exact ⟨A2, c2, rfl, own_mono (own_keepL HO3.out fun q hq => setRow_other w3 (w.heap.size + 2) q #[.int .i64 G.sz, .slice A2 K.es.length c2, .slice B m k] (by have := own_ge HO3.out q hq; omega)) (by omega), hbf⟩
theorem levelGr_any (G : Gr) (v : Value) (lv : Int) (w : World) (h : GHold w G v) (he : G.es.length ≤ 100000) : Calls Tryz.prog 15 #[v, .int .i64 lv] w (GivesG w (levelG G lv)) := by
  obtain ⟨A, n, c, B, m, k, rfl, h1, h2⟩ := h
  refine (levelGr_own G A n c B m k lv w h1 h2 he).mono ?_
  rintro x w' ⟨A2, c2, rfl, ho, hb⟩
  refine ⟨_, rfl, ⟨A2, _, c2, B, m, k, rfl, ?_, h2.later hb⟩, hb⟩
  obtain ⟨A4, c4, hv4, hr4⟩ := Row.of_own ho
  injection hv4 with e1 _ e2
  subst e1 e2
  exact hr4
end Go.Proofs.YtnmpbjgccbnomaaGreat
/- The walks of graph's Out and In. -/
namespace Go.Proofs.YtnmpbjgccbnomaaGreat
open Go.RowKit
set_option maxRecDepth 100000 in
set_option maxHeartbeats 4000000 in
theorem outGr_any (G : Gr) (v : Value) (key : Int) (w : World) (h : GHold w G v) (he : G.es.length ≤ 100000) : Calls Tryz.prog 18 #[v, .int .i64 key] w (GivesI w (outS G.es key)) := by
  obtain ⟨A, n, c, B, m, k, rfl, h1, -⟩ := h
  have hn : n ≤ 100000 := by rw [← ERow.len h1]; exact he
  have HLN : Hid (G.es.length = n) := Lib.hid (ERow.len h1)
  have HNW := Lib.hid (one_new w (.cells #[.int .i64 G.sz, .slice A n c, .slice B m k] 35))
  have HX : Hid ((w.alloc (.cells #[.int .i64 G.sz, .slice A n c, .slice B m k] 35)).heap[w.heap.size]? = some (.cells #[.int .i64 G.sz, .slice A n c, .slice B m k] 35 (0, 0))) := Lib.hid (heap_alloc_new _ _)
  have HL := Lib.hid (GRow.later h1 HNW.out)
  clear h1 he
  go_enter Tryz.func18, Tryz.ntmps18
  go_upto_region 1 with fail
  generalize w.alloc (.cells #[.int .i64 G.sz, .slice A n c, .slice B m k] 35) = y0 at *
  obtain ⟨g, hgg⟩ : ∃ g, w.heap.size = g := ⟨_, rfl⟩
  rw [hgg] at HX ⊢
  have HGG := Lib.hid hgg
  clear hgg
  have hg1 : y0.cell? ⟨g, 1, none⟩ = some (.slice A n c) := (cell_of_row _ _ 1 _ _ _ HX.out).trans rfl
  generalize G.es = l at *
  go_wp2_with fail
  clear hg1
  go_loopw [5, 11] (fun v i wr => ∃ j : Nat, j ≤ n ∧ i = .int .i64 j ∧ Hid (wr.ownsRow y0.heap.size 3 1 v (outS (l.take j) key).length (intsV (outS (l.take j) key)) ∧ Below y0.heap.size y0 wr)) (fun _ i _ => n - (intOf i).toNat)
  case atStart => exact ⟨0, Nat.zero_le _, rfl, Lib.hid ⟨World.ownsRow_nil _ _ _ _, Below.refl _ _⟩⟩
  case round =>
    obtain ⟨j, hj, rfl, HQ⟩ := hrel
    obtain ⟨A1, c1, hv, -⟩ := Row.of_own HQ.out.1
    subst hv
    have HGL : Hid ((outS (l.take j) key).length ≤ 100000) := Lib.hid (Nat.le_trans (outS_len l key j (by have := HLN.out; omega)) (by omega))
    by_cases hlt : j < n
    · have hlt2 : (j : Int) < (n : Int) := by omega
      have HST := Lib.hid (outS_snoc l key j (by rw [HLN.out]; exact hlt))
      obtain ⟨b, off, hA, hc⟩ := GRow.cells Edg.len (by decide) (GRow.later HL.out HQ.out.2) noEdg j hlt
      subst hA
      generalize l.getD j noEdg = p at *
      have HC : Hid (∀ q, q < p.arr.size → wr.cell? ⟨b, off + j * 3 + q, none⟩ = p.arr[q]?) := Lib.hid fun q hq => (hc q hq).trans (by rw [← Edg.list, Array.getElem?_toList])
      clear hc
      go_upto_region 5 with (first | (refine wpList_load_cells rfl 53 (.tmp 13) rfl b (off + j * 3) rfl p.arr _ Tryz.underlying53 rfl p.info HC.out ?_) | (refine wpList_store_new rfl 53 (.tmp 7) (.tmp 14) rfl 53 _ p.arr rfl rfl p.info rfl p.one ?_))
      have HN3 := Lib.hid (one_new wr (.cells p.arr 53))
      have HY : Hid ((wr.alloc (.cells p.arr 53)).heap[wr.heap.size]? = some (.cells p.arr 53 (0, 0))) := Lib.hid (heap_alloc_new _ _)
      have HO := Lib.hid (own_later HQ.out.1 HN3.out); have HB := Lib.hid (HQ.out.2.trans (HN3.out.mono HQ.out.2.size))
      clear HQ HC HN3
      generalize wr.alloc (.cells p.arr 53) = x2 at *
      generalize wr.heap.size = g4 at *
      obtain ⟨hy0, hy1, -⟩ := edg_cells HY.out
      generalize p.fr = fr at *
      generalize p.tu = tu at *
      generalize hgu : outS (l.take j) key = U at *
      clear hgu
      by_cases hk : fr = key
      · have b0 : (fr == key) = true := by rw [hk]; simp
        rw [if_pos hk] at HST
        clear hk
        have hgl := HGL.out
        have hsz : y0.heap.size ≤ x2.heap.size := HB.out.size
        go_wp2_with (at_builtin; go_must (refine wpList_app_new x2 rfl (.tmp 19) (.tmp 22) 22 3 rfl y0.heap.size Tryz.underlying22 i64_info rfl _ U.length (intsV U) HO.out rfl 1 #[.int .i64 tu] rfl (by simp [Value.oneCell']) rfl rfl (by unfold maxLen; omega) (by omega) hsz ?_); intro v3 w3 ho3 hb3; have HO3 := Lib.hid ho3; have HB3 := Lib.hid (HB.out.trans hb3); clear ho3 hb3)
        exact ⟨⟨j + 1, hlt, by go_num, Lib.hid (by rw [HST.out, List.length_append, intsV_app]; exact ⟨HO3.out, HB3.out⟩)⟩, by simp [intOf]; omega⟩
      · have b0 : (fr == key) = false := by rw [beq_eq_false_iff_ne]; exact hk
        rw [if_neg hk, List.append_nil] at HST
        clear hk
        go_wp2_with fail
        exact ⟨⟨j + 1, hlt, by go_num, Lib.hid ⟨by rw [HST.out]; exact HO.out, HB.out⟩⟩, by simp [intOf]; omega⟩
    · have hlt2 : ¬ (j : Int) < (n : Int) := by omega
      have HE : Hid (outS (l.take j) key = outS l key) := Lib.hid (by rw [List.take_of_length_le (by rw [HLN.out]; omega)])
      obtain ⟨A3, c3, hv3, hr3⟩ := Row.of_own HQ.out.1
      injection hv3 with hv3 _ hc3
      subst hv3 hc3
      have HB3 := Lib.hid HQ.out.2
      clear HQ
      rw [HE.out] at hr3 ⊢
      have HR3 := Lib.hid hr3; clear hr3 HE HGL
      go_wp2_with fail
      go_ret
      exact ⟨_, _, _, rfl, HR3.out, HNW.out.trans (HB3.out.mono HNW.out.size)⟩
set_option maxRecDepth 100000 in
set_option maxHeartbeats 4000000 in
theorem inGr_any (G : Gr) (v : Value) (key : Int) (w : World) (h : GHold w G v) (he : G.es.length ≤ 100000) : Calls Tryz.prog 19 #[v, .int .i64 key] w (GivesI w (inS G.es key)) := by
  obtain ⟨A, n, c, B, m, k, rfl, h1, -⟩ := h
  have hn : n ≤ 100000 := by rw [← ERow.len h1]; exact he
  have HLN : Hid (G.es.length = n) := Lib.hid (ERow.len h1)
  have HNW := Lib.hid (one_new w (.cells #[.int .i64 G.sz, .slice A n c, .slice B m k] 35))
  have HX : Hid ((w.alloc (.cells #[.int .i64 G.sz, .slice A n c, .slice B m k] 35)).heap[w.heap.size]? = some (.cells #[.int .i64 G.sz, .slice A n c, .slice B m k] 35 (0, 0))) := Lib.hid (heap_alloc_new _ _)
  have HL := Lib.hid (GRow.later h1 HNW.out)
  clear h1 he
  go_enter Tryz.func19, Tryz.ntmps19
  go_upto_region 1 with fail
  generalize w.alloc (.cells #[.int .i64 G.sz, .slice A n c, .slice B m k] 35) = y0 at *
  obtain ⟨g, hgg⟩ : ∃ g, w.heap.size = g := ⟨_, rfl⟩
  rw [hgg] at HX ⊢
  have HGG := Lib.hid hgg
  clear hgg
  have hg1 : y0.cell? ⟨g, 1, none⟩ = some (.slice A n c) := (cell_of_row _ _ 1 _ _ _ HX.out).trans rfl
  generalize G.es = l at *
  go_wp2_with fail
  clear hg1
  go_loopw [5, 11] (fun v i wr => ∃ j : Nat, j ≤ n ∧ i = .int .i64 j ∧ Hid (wr.ownsRow y0.heap.size 3 1 v (inS (l.take j) key).length (intsV (inS (l.take j) key)) ∧ Below y0.heap.size y0 wr)) (fun _ i _ => n - (intOf i).toNat)
  case atStart => exact ⟨0, Nat.zero_le _, rfl, Lib.hid ⟨World.ownsRow_nil _ _ _ _, Below.refl _ _⟩⟩
  case round =>
    obtain ⟨j, hj, rfl, HQ⟩ := hrel
    obtain ⟨A1, c1, hv, -⟩ := Row.of_own HQ.out.1
    subst hv
    have HGL : Hid ((inS (l.take j) key).length ≤ 100000) := Lib.hid (Nat.le_trans (inS_len l key j (by have := HLN.out; omega)) (by omega))
    by_cases hlt : j < n
    · have hlt2 : (j : Int) < (n : Int) := by omega
      have HST := Lib.hid (inS_snoc l key j (by rw [HLN.out]; exact hlt))
      obtain ⟨b, off, hA, hc⟩ := GRow.cells Edg.len (by decide) (GRow.later HL.out HQ.out.2) noEdg j hlt
      subst hA
      generalize l.getD j noEdg = p at *
      have HC : Hid (∀ q, q < p.arr.size → wr.cell? ⟨b, off + j * 3 + q, none⟩ = p.arr[q]?) := Lib.hid fun q hq => (hc q hq).trans (by rw [← Edg.list, Array.getElem?_toList])
      clear hc
      go_upto_region 5 with (first | (refine wpList_load_cells rfl 53 (.tmp 13) rfl b (off + j * 3) rfl p.arr _ Tryz.underlying53 rfl p.info HC.out ?_) | (refine wpList_store_new rfl 53 (.tmp 7) (.tmp 14) rfl 53 _ p.arr rfl rfl p.info rfl p.one ?_))
      have HN3 := Lib.hid (one_new wr (.cells p.arr 53))
      have HY : Hid ((wr.alloc (.cells p.arr 53)).heap[wr.heap.size]? = some (.cells p.arr 53 (0, 0))) := Lib.hid (heap_alloc_new _ _)
      have HO := Lib.hid (own_later HQ.out.1 HN3.out); have HB := Lib.hid (HQ.out.2.trans (HN3.out.mono HQ.out.2.size))
      clear HQ HC HN3
      generalize wr.alloc (.cells p.arr 53) = x2 at *
      generalize wr.heap.size = g4 at *
      obtain ⟨hy0, hy1, -⟩ := edg_cells HY.out
      generalize p.fr = tu at *
      generalize p.tu = fr at *
      generalize hgu : inS (l.take j) key = U at *
      clear hgu
      by_cases hk : fr = key
      · have b0 : (fr == key) = true := by rw [hk]; simp
        rw [if_pos hk] at HST
        clear hk
        have hgl := HGL.out
        have hsz : y0.heap.size ≤ x2.heap.size := HB.out.size
        go_wp2_with (at_builtin; go_must (refine wpList_app_new x2 rfl (.tmp 19) (.tmp 22) 22 3 rfl y0.heap.size Tryz.underlying22 i64_info rfl _ U.length (intsV U) HO.out rfl 1 #[.int .i64 tu] rfl (by simp [Value.oneCell']) rfl rfl (by unfold maxLen; omega) (by omega) hsz ?_); intro v3 w3 ho3 hb3; have HO3 := Lib.hid ho3; have HB3 := Lib.hid (HB.out.trans hb3); clear ho3 hb3)
        exact ⟨⟨j + 1, hlt, by go_num, Lib.hid (by rw [HST.out, List.length_append, intsV_app]; exact ⟨HO3.out, HB3.out⟩)⟩, by simp [intOf]; omega⟩
      · have b0 : (fr == key) = false := by rw [beq_eq_false_iff_ne]; exact hk
        rw [if_neg hk, List.append_nil] at HST
        clear hk
        go_wp2_with fail
        exact ⟨⟨j + 1, hlt, by go_num, Lib.hid ⟨by rw [HST.out]; exact HO.out, HB.out⟩⟩, by simp [intOf]; omega⟩
    · have hlt2 : ¬ (j : Int) < (n : Int) := by omega
      have HE : Hid (inS (l.take j) key = inS l key) := Lib.hid (by rw [List.take_of_length_le (by rw [HLN.out]; omega)])
      obtain ⟨A3, c3, hv3, hr3⟩ := Row.of_own HQ.out.1
      injection hv3 with hv3 _ hc3
      subst hv3 hc3
      have HB3 := Lib.hid HQ.out.2
      clear HQ
      rw [HE.out] at hr3 ⊢
      have HR3 := Lib.hid hr3; clear hr3 HE HGL
      go_wp2_with fail
      go_ret
      exact ⟨_, _, _, rfl, HR3.out, HNW.out.trans (HB3.out.mono HNW.out.size)⟩
end Go.Proofs.YtnmpbjgccbnomaaGreat
/- The walks of slices.Equal and of graph's Same. -/
namespace Go.Proofs.YtnmpbjgccbnomaaGreat
open Go.RowKit
end Go.Proofs.YtnmpbjgccbnomaaGreat
/- Graphs: the walk of the reference's Without. -/
namespace Go.Proofs.YtnmpbjgccbnomaaGreat
open Go.RowKit
end Go.Proofs.YtnmpbjgccbnomaaGreat
/- The law of layer 11 on one graph, over any program that gives what layer 11 asks. -/
namespace Go.Proofs.YtnmpbjgccbnomaaGreat
open Go.RowKit
/-- What the program's functions of layer 11 give. -/
structure GraphC : Prop where
  check : ∀ (G : Gr) (v : Value) (w : World), GHold w G v → G.es.length ≤ 100000 → G.gn.length ≤ 100000 → Calls Tryz.prog 16 #[v] w (SaysL (.int .i64 (checkG G)) w)
  with_ : ∀ (G : Gr) (v : Value) (e : Edg) (w : World), GHold w G v → G.es.length ≤ 100000 → G.gn.length ≤ 100000 → Calls Tryz.prog 20 #[v, .agg e.arr] w (GivesGE w (withG G e))
  without : ∀ (G : Gr) (v : Value) (fr tu : Int) (w : World), GHold w G v → G.es.length ≤ 100000 → G.gn.length ≤ 100000 → Calls Tryz.prog 21 #[v, .int .i64 fr, .int .i64 tu] w (GivesGE w (withoutG G fr tu))
  out : ∀ (G : Gr) (v : Value) (key : Int) (w : World), GHold w G v → Good11 G → Calls Tryz.prog 18 #[v, .int .i64 key] w (GivesI w (outS G.es key))
  in_ : ∀ (G : Gr) (v : Value) (key : Int) (w : World), GHold w G v → Good11 G → Calls Tryz.prog 19 #[v, .int .i64 key] w (GivesI w (inS G.es key))
  level : ∀ (G : Gr) (v : Value) (lv : Int) (w : World), GHold w G v → Good11 G → Calls Tryz.prog 15 #[v, .int .i64 lv] w (GivesG w (levelG G lv))
theorem set_at {l : List Int} {z : Int} (h : setB l z = true) {i : Nat} (hi : i < l.length) : 0 ≤ l.getD i 0 ∧ l.getD i 0 < z ∧ (0 < i → l.getD (i - 1) 0 < l.getD i 0) := by
  unfold setB at h
  rw [List.all_eq_true] at h
  have h1 := h i (List.mem_range.2 hi)
  unfold okSet at h1
  rw [Bool.and_eq_true, Bool.and_eq_true, Bool.or_eq_true, decide_eq_true_eq, decide_eq_true_eq, decide_eq_true_eq, decide_eq_true_eq] at h1
  exact ⟨h1.1, h1.2.1, fun h0 => h1.2.2.elim (fun q => by omega) id⟩
theorem set_len {l : List Int} {z : Int} (h : setB l z = true) (hz : z ≤ 64) : l.length ≤ 64 := by
  have hk : ∀ i, i < l.length → (i : Int) ≤ l.getD i 0 ∧ l.getD i 0 < z := by
    intro i
    induction i with
    | zero =>
      intro hi
      have := set_at h hi
      exact ⟨by omega, this.2.1⟩
    | succ i ih =>
      intro hi
      have h1 := ih (by omega)
      have h2 := set_at h hi
      exact ⟨by have := h2.2.2 (by omega); rw [Nat.add_sub_cancel] at this; omega, h2.2.1⟩
  rcases Nat.eq_zero_or_pos l.length with h0 | h0
  · omega
  · have := hk (l.length - 1) (by omega)
    omega
theorem sameEs_self (l : List Edg) : sameEs l l = true := sameEs_yes fun _ _ => (sameE_iff _ _).2 rfl
theorem sameG_self (G : Gr) : sameG G.sz G.es G.gn G.sz G.es G.gn = true := by
  unfold sameG
  rw [if_pos rfl, if_pos rfl, if_pos (sameIB_self _), sameEs_self]
theorem Good11.few {G : Gr} (h : Good11 G) : G.es.length ≤ 100000 ∧ G.gn.length ≤ 100000 := ⟨Nat.le_trans h.len (by decide), Nat.le_trans (set_len h.set h.hi) (by decide)⟩
set_option maxRecDepth 100000 in
set_option maxHeartbeats 4000000 in
theorem same11_any (G : Gr) (v u : Value) (x : Int) (w : World) (h : GHold w G v) (h2 : GHold w G u) (he : G.es.length ≤ 100000) (hg : G.gn.length ≤ 100000) : Calls Tryz.prog 13 #[v, u, .int .i64 x, .int .i64 x] w (SaysL (.bool true) w) := by
  obtain ⟨A, n, c, B, m, k, rfl, ha, hb⟩ := h
  obtain ⟨A2, n2, c2, B2, m2, k2, rfl, ha2, hb2⟩ := h2
  have hn : n ≤ 100000 := by rw [← ERow.len ha]; exact he
  have hm : m ≤ 100000 := by rw [← hb.len]; exact hg
  have HB : Hid (Below w.heap.size w ((w.alloc (.cells #[.int .i64 G.sz, .slice A n c, .slice B m k] 35)).alloc (.cells #[.int .i64 G.sz, .slice A2 n2 c2, .slice B2 m2 k2] 35))) := Lib.hid ((one_new w _).trans ((one_new _ _).mono (by simp)))
  have HX : Hid (((w.alloc (.cells #[.int .i64 G.sz, .slice A n c, .slice B m k] 35)).alloc (.cells #[.int .i64 G.sz, .slice A2 n2 c2, .slice B2 m2 k2] 35)).heap[w.heap.size]? = some (.cells #[.int .i64 G.sz, .slice A n c, .slice B m k] 35 (0, 0))) := Lib.hid ((Below.heap_alloc _ _ _ (by simp)).trans (heap_alloc_new _ _))
  have HY : Hid (((w.alloc (.cells #[.int .i64 G.sz, .slice A n c, .slice B m k] 35)).alloc (.cells #[.int .i64 G.sz, .slice A2 n2 c2, .slice B2 m2 k2] 35)).heap[w.heap.size + 1]? = some (.cells #[.int .i64 G.sz, .slice A2 n2 c2, .slice B2 m2 k2] 35 (0, 0))) := Lib.hid (heap_alloc2_new _ _ _)
  have HS := Lib.hid (gsame_any G.sz A n c G.es B m k G.gn G.sz A2 n2 c2 G.es B2 m2 k2 G.gn ((w.alloc (.cells #[.int .i64 G.sz, .slice A n c, .slice B m k] 35)).alloc (.cells #[.int .i64 G.sz, .slice A2 n2 c2, .slice B2 m2 k2] 35)) (GRow.later ha HB.out) (hb.later HB.out) (GRow.later ha2 HB.out) (hb2.later HB.out) hn hm)
  rw [sameG_self] at HS
  clear ha hb ha2 hb2
  go_enter Tryz.func13, Tryz.ntmps13
  go_upto_region 1 with fail
  generalize ((w.alloc (.cells #[.int .i64 G.sz, .slice A n c, .slice B m k] 35)).alloc (.cells #[.int .i64 G.sz, .slice A2 n2 c2, .slice B2 m2 k2] 35)) = y0 at *
  go_wp2_with (first | (refine wpList_load_rowG rfl 35 (.tmp 4) rfl w.heap.size rfl 35 #[.int .i64 G.sz, .slice A n c, .slice B m k] (0, 0) _ HX.out Tryz.underlying35 rfl gr_size ?_) | (refine wpList_load_rowG rfl 35 (.tmp 5) rfl (w.heap.size + 1) rfl 35 #[.int .i64 G.sz, .slice A2 n2 c2, .slice B2 m2 k2] (0, 0) _ HY.out Tryz.underlying35 rfl gr_size ?_))
  refine HS.out.mono ?_
  rintro e w1 ⟨rfl, hb⟩
  have HB1 := Lib.hid (HB.out.trans (hb.mono HB.out.size))
  clear hb HS
  go_wp2_with fail
  go_ret
  exact ⟨rfl, HB1.out⟩
end Go.Proofs.YtnmpbjgccbnomaaGreat
/- What layer 11 gives is proved of the program's own functions. -/
namespace Go.Proofs.YtnmpbjgccbnomaaGreat
open Go.RowKit
theorem graphC : GraphC where
  check G v w h he hg := checkGr_any G v w h he hg
  with_ G v e w h he hg := withGr_any G v e w h he hg
  without G v fr tu w h he hg := withoutGr_any G v fr tu w h he hg
  out G v key w h hg := outGr_any G v key w h hg.few.1
  in_ G v key w h hg := inGr_any G v key w h hg.few.1
  level G v lv w h hg := levelGr_any G v lv w h hg.few.1
end Go.Proofs.YtnmpbjgccbnomaaGreat
/- Maps whose keys are places (an author, a number) and whose elements are numbers, as the heap holds them: made, filled, looked into. -/
namespace Go.Proofs.YtnmpbjgccbnomaaGreat
open Go.RowKit Go Go.ChangeMaps
def pkV (k : Int × Int) : Value := .agg #[.int .i64 k.1, .int .i64 k.2]
/-- The entries that hold some pairs, laid in their order, none taken away. -/
def pents : List ((Int × Int) × Int) → Nat → List MapEntry
  | [], _ => []
  | p :: l, i => ⟨pkV p.1, .int .i64 p.2, i⟩ :: pents l (i + 1)
theorem pents_app (l m : List ((Int × Int) × Int)) : ∀ i, pents (l ++ m) i = pents l i ++ pents m (i + l.length) := by
  induction l with
  | nil => intro i; rfl
  | cons p l ih =>
    intro i
    simp only [List.cons_append, pents, ih (i + 1), List.length_cons]
    rw [show i + 1 + l.length = i + (l.length + 1) by omega]
/-- The map in block b holds the pairs l. -/
def PMap (w : World) (b : Nat) (l : List ((Int × Int) × Int)) : Prop := w.heap[b]? = some (.map (pents l 0).toArray l.length)
theorem PMap.lt {w : World} {b : Nat} {l : List ((Int × Int) × Int)} (h : PMap w b l) : b < w.heap.size := (Array.getElem?_eq_some_iff.1 h).1
theorem PMap.later {w w' : World} {b : Nat} {l : List ((Int × Int) × Int)} (h : PMap w b l) (hb : Below w.heap.size w w') : PMap w' b l := (hb.block b h.lt).trans h
theorem pmap_new (w : World) : PMap (w.alloc (.map #[] 0)) w.heap.size [] := heap_alloc_new w _
/-- What stands first at a key. -/
def lookP : List ((Int × Int) × Int) → Int × Int → Option Int
  | [], _ => none
  | p :: l, k => if p.1 = k then some p.2 else lookP l k
theorem lookP_app (l m : List ((Int × Int) × Int)) (k : Int × Int) : lookP (l ++ m) k = (lookP l k).or (lookP m k) := by
  induction l with
  | nil => rfl
  | cons p l ih =>
    show (if p.1 = k then some p.2 else lookP (l ++ m) k) = (if p.1 = k then some p.2 else lookP l k).or _
    split
    · rfl
    · exact ih
set_option maxRecDepth 100000 in
theorem run_eqPlace (a b : Int × Int) (w : World) : (Op.equal 109 (pkV a) (pkV b)).run Tryz.prog w = .ok (decide (a = b)) w := by
  obtain ⟨a1, a2⟩ := a
  obtain ⟨b1, b2⟩ := b
  have hs : Tryz.prog.stoodInHeld 109 = false := by kernel_rfl
  have hi := Tryz.underlying3
  unfold Op.equal pkV
  rw [show Op.maxDepth = 9998 + 1 + 1 from rfl, run_equalIn_agg w (9998 + 1) 109 _ _ (by kernel_rfl) hs]
  have hf : (Tryz.prog.fieldsOf 109).toList = [{ name := "author", type := 3, offset := 0, embedded := false, tag := "", pkgPath := "trustflow/vouch", byteOffset := 0 }, { name := "number", type := 3, offset := 1, embedded := false, tag := "", pkgPath := "trustflow/vouch", byteOffset := 8 }] := by kernel_rfl
  rw [hf]
  have hp1 := Tryz.isAgg3
  simp [Op.eqFields, part, Sem.run_bind, hp1, run_equalIn_int w _ _ _ _ _ _ hi, Result.andThen]
  by_cases h : a1 = b1
  · by_cases k : a2 = b2
    · simp [h, k]
    · simp [h, k]
  · simp [h]
set_option maxRecDepth 100000 in
theorem run_checkPlace (e : Bool) (k : Int × Int) (w : World) : (Instr.checkKey e 10000 109 (pkV k)).run Tryz.prog w = .ok () w := by
  have hu := Tryz.underlying109
  have hi := Tryz.underlying3
  unfold pkV
  rw [show (10000 : Nat) = 9998 + 1 + 1 from rfl]
  unfold Instr.checkKey
  have hp1 := Tryz.isAgg3
  have hc : ∀ v : Int, (Instr.checkKey e (9998 + 1) 3 (.int .i64 v)).run Tryz.prog w = .ok () w := fun v => by
    unfold Instr.checkKey
    simp only [Sem.run_bind, run_underlying hi, Result.andThen]
    rfl
  simp only [Sem.run_bind, run_underlying hu, Result.andThen]
  rw [← Array.forIn_toList]
  simp [part, Sem.run_bind, hp1, hc, Result.andThen]
set_option maxRecDepth 100000 in
theorem run_askP (k : Int × Int) (w : World) : ∀ (l : List ((Int × Int) × Int)) (i j : Nat), ∃ m, (Instr.findAsking 109 (pkV k) (pents l i) j).run Tryz.prog w = .ok ((lookP l k).map fun v => (m, Value.int .i64 v)) w
  | [], i, j => ⟨0, by simp [pents, Instr.findAsking, lookP]⟩
  | p :: l, i, j => by
    by_cases h : p.1 = k
    · refine ⟨j, ?_⟩
      simp [pents, Instr.findAsking, lookP, run_eqPlace, Result.andThen, h]
    · obtain ⟨m, hm⟩ := run_askP k w l (i + 1) (j + 1)
      refine ⟨m, ?_⟩
      have h2 : ¬ k = p.1 := fun e => h e.symm
      simp [pents, Instr.findAsking, lookP, run_eqPlace, Result.andThen, h, h2, hm]
set_option maxRecDepth 100000 in
theorem run_findP (k : Int × Int) (w : World) (l : List ((Int × Int) × Int)) : ∃ m, (Instr.findKey 109 (pkV k) (pents l 0)).run Tryz.prog w = .ok ((lookP l k).map fun v => (m, Value.int .i64 v)) w := by
  obtain ⟨m, hm⟩ := run_askP k w l 0 0
  exact ⟨m, (run_findKey_eq w (by rw [Tryz.underlying109]) _ _).trans hm⟩
/-- v, ok := m[k]. -/
theorem run_lookP {w : World} {b : Nat} {l : List ((Int × Int) × Int)} (hm : PMap w b l) (k : Int × Int) :
    (Instr.lookup 106 (.map (some b)) (pkV k) true).run Tryz.prog w = .ok (.tuple #[.int .i64 ((lookP l k).getD 0), .bool (lookP l k).isSome]) w := by
  obtain ⟨m, hf⟩ := run_findP k w l
  have hz := Tryz.zeroValue3 w
  cases h : lookP l k with
  | none =>
    rw [h] at hf
    simp [Instr.lookup, Sem.run_bind, run_underlying Tryz.underlying106, Result.andThen_ok, MapKept.run_getObj_map hm, run_checkPlace, hf, hz]
  | some v =>
    rw [h] at hf
    simp [Instr.lookup, Sem.run_bind, run_underlying Tryz.underlying106, Result.andThen_ok, MapKept.run_getObj_map hm, run_checkPlace, hf]
/-- m[k] = v, k not among the keys. -/
theorem run_putP {w : World} {b : Nat} {l : List ((Int × Int) × Int)} (hm : PMap w b l) (k : Int × Int) (v : Int) (hn : lookP l k = none) :
    (Instr.mapUpdate 106 (.map (some b)) (pkV k) (.int .i64 v)).run Tryz.prog w = .ok () (setBlock w b (.map (pents (l ++ [(k, v)]) 0).toArray (l ++ [(k, v)]).length)) := by
  obtain ⟨m, hf⟩ := run_findP k w l
  rw [hn] at hf
  have hp : (pents l 0).toArray.push ⟨pkV k, .int .i64 v, l.length⟩ = (pents (l ++ [(k, v)]) 0).toArray := by
    rw [pents_app]; simp [pents]
  have hf' : (Instr.findKey 109 (pkV k) (pents l 0)).run Tryz.prog w = .ok none w := hf
  simp only [Instr.mapUpdate, Sem.run_bind, run_underlying Tryz.underlying106, Result.andThen_ok, MapKept.run_getObj_map hm, run_checkPlace, hf', MapKept.run_setObj_map _ hm]
  rw [hp]
  simp [setBlock]
end Go.Proofs.YtnmpbjgccbnomaaGreat
/- What the program's table of revocations holds. Plain facts. -/
namespace Go.Proofs.YtnmpbjgccbnomaaGreat
def stepP (out : List ((Int × Int) × Int)) (s : Stm) : List ((Int × Int) × Int) := if s.kind = 2 ∧ s.a < s.number ∧ lookP out (s.author, s.a) = none then out ++ [((s.author, s.a), s.time)] else out
def revP (l : List Stm) : List ((Int × Int) × Int) := l.foldl stepP []
theorem revP_snoc (l : List Stm) (s : Stm) : revP (l ++ [s]) = stepP (revP l) s := by unfold revP; rw [List.foldl_append]; rfl
theorem look_fold (s : Stm) : ∀ (l : List Stm) (out : List ((Int × Int) × Int)), (lookP (l.foldl stepP out) (s.author, s.number)).getD (-1) = match lookP out (s.author, s.number) with | some v => v | none => revokedS l s
  | [], out => by
    simp only [List.foldl_nil, revokedS]
    cases lookP out (s.author, s.number) <;> rfl
  | x :: l, out => by
    rw [List.foldl_cons, look_fold s l (stepP out x)]
    by_cases hc : x.kind = 2 ∧ x.a < x.number ∧ lookP out (x.author, x.a) = none
    · rw [show stepP out x = out ++ [((x.author, x.a), x.time)] from if_pos hc, lookP_app]
      cases h : lookP out (s.author, s.number) with
      | some v => rfl
      | none =>
        rw [Option.none_or]
        by_cases hk : (x.author, x.a) = (s.author, s.number)
        · rw [show lookP [((x.author, x.a), x.time)] (s.author, s.number) = some x.time from if_pos hk]
          injection hk with h1 h2
          rw [revokedS, if_pos ⟨h1, by omega, hc.1, h2⟩]
        · rw [show lookP [((x.author, x.a), x.time)] (s.author, s.number) = none from if_neg hk]
          rw [revokedS, if_neg (fun q => hk (by rw [q.1, q.2.2.2]))]
    · rw [show stepP out x = out from if_neg hc]
      cases h : lookP out (s.author, s.number) with
      | some v => rfl
      | none =>
        rw [revokedS, if_neg (fun q => hc ⟨q.2.2.1, by omega, by rw [q.1, q.2.2.2]; exact h⟩)]
theorem look_rev (L : List Stm) (s : Stm) : (lookP (revP L) (s.author, s.number)).getD (-1) = revokedS L s := look_fold s L []
end Go.Proofs.YtnmpbjgccbnomaaGreat
/- The walk of vouch's revocations: a table of when what was revoked. -/
namespace Go.Proofs.YtnmpbjgccbnomaaGreat
open Go.RowKit Go Go.ChangeMaps
theorem place_info (a b : Int) : (Tryz.prog.info? 109).map (·.size) = some (#[Value.int .i64 a, Value.int .i64 b]).size := by rw [show (#[Value.int .i64 a, Value.int .i64 b]).size = 2 from rfl]; kernel_rfl
set_option maxRecDepth 100000 in
set_option maxHeartbeats 4000000 in
theorem revs_any (A : Option Addr) (n c : Nat) (l : List Pl) (w : World) (hl : LRow w A n c l) (hn : n ≤ 100000) : Calls Tryz.prog 79 #[.slice A n c] w fun e w' => ∃ b, e = .returned (.map (some b)) ∧ PMap w' b (revP (l.map (·.s))) ∧ Below w.heap.size w w' := by
  have HL := Lib.hid hl; have HLN := Lib.hid hl.len
  clear hl
  have hmk : ∀ w, (Instr.makeMap 106 none).run Tryz.prog w = .ok (.map (some w.heap.size)) (w.alloc (.map #[] 0)) := fun _ => by kernel_rfl
  go_enter Tryz.func79, Tryz.ntmps79
  go_wp2_with fail
  clear hmk
  go_loopw [12] (fun i wr => ∃ j : Nat, j ≤ n ∧ i = .int .i64 j ∧ Hid (PMap wr w.heap.size (revP ((l.take j).map (·.s))) ∧ Below w.heap.size w wr)) (fun i _ => n - (intOf i).toNat)
  case atStart => exact ⟨0, Nat.zero_le _, rfl, Lib.hid ⟨pmap_new w, one_new w _⟩⟩
  case round =>
    obtain ⟨j, hj, rfl, HQ⟩ := hrel
    by_cases hlt : j < n
    · have hlt2 : (j : Int) < (n : Int) := by omega
      obtain ⟨b, off, hA, hc⟩ := (HL.out.later HQ.out.2).cells j hlt
      subst hA
      have HST : Hid (revP ((l.take (j + 1)).map (·.s)) = stepP (revP ((l.take j).map (·.s))) (l.getD j noPl).s) := Lib.hid (by rw [take_snocP l j (by rw [HLN.out]; exact hlt), List.map_append]; exact revP_snoc _ _)
      have HC := Lib.hid hc
      clear hc
      generalize l.getD j noPl = q at *
      generalize revP ((l.take j).map (·.s)) = M at *
      go_upto_region 5 with (first | (refine wpList_load_cells rfl 48 (.tmp 14) rfl b (off + j * 13) rfl q.arr _ Tryz.underlying48 rfl q.info HC.out ?_) | (refine wpList_store_new rfl 48 (.tmp 5) (.tmp 15) rfl 48 _ q.arr rfl rfl q.info rfl q.one ?_))
      have HN2 := Lib.hid (one_new wr (.cells q.arr 48))
      have HX : Hid ((wr.alloc (.cells q.arr 48)).heap[wr.heap.size]? = some (.cells q.arr 48 (0, 0))) := Lib.hid (heap_alloc_new _ _)
      have HM := Lib.hid (HQ.out.1.later HN2.out)
      have HB := Lib.hid (HQ.out.2.trans (HN2.out.mono HQ.out.2.size))
      clear HQ HN2 HC
      generalize wr.alloc (.cells q.arr 48) = x2 at *
      generalize wr.heap.size = g at *
      have hq0 : x2.cell? ⟨g, 0, none⟩ = some (.int .i64 q.s.author) := (cell_of_row _ _ 0 _ _ _ HX.out).trans rfl
      have hq5 : x2.cell? ⟨g, 5, none⟩ = some (.int .i64 q.s.a) := (cell_of_row _ _ 5 _ _ _ HX.out).trans rfl
      go_upto_region 6 with (refine wpList_store_new rfl 109 (.tmp 6) (.tmp 20) rfl 109 _ #[.int .i64 q.s.author, .int .i64 q.s.a] rfl rfl (place_info _ _) rfl rfl ?_)
      clear hq0 hq5
      have HN3 := Lib.hid (one_new x2 (.cells #[.int .i64 q.s.author, .int .i64 q.s.a] 109))
      have HP : Hid ((x2.alloc (.cells #[.int .i64 q.s.author, .int .i64 q.s.a] 109)).heap[x2.heap.size]? = some (.cells #[.int .i64 q.s.author, .int .i64 q.s.a] 109 (0, 0))) := Lib.hid (heap_alloc_new _ _)
      replace HM := Lib.hid (HM.out.later HN3.out)
      replace HB := Lib.hid (HB.out.trans (HN3.out.mono HB.out.size))
      replace HX := Lib.hid ((HN3.out.block _ (Array.getElem?_eq_some_iff.1 HX.out).1).trans HX.out)
      clear HN3
      generalize x2.alloc (.cells #[.int .i64 q.s.author, .int .i64 q.s.a] 109) = z2 at *
      generalize x2.heap.size = g2 at *
      have hq1 : z2.cell? ⟨g, 1, none⟩ = some (.int .i64 q.s.number) := (cell_of_row _ _ 1 _ _ _ HX.out).trans rfl
      have hq3 : z2.cell? ⟨g, 3, none⟩ = some (.int .i64 q.s.time) := (cell_of_row _ _ 3 _ _ _ HX.out).trans rfl
      have hq4 : z2.cell? ⟨g, 4, none⟩ = some (.int .i64 q.s.kind) := (cell_of_row _ _ 4 _ _ _ HX.out).trans rfl
      have hq5 : z2.cell? ⟨g, 5, none⟩ = some (.int .i64 q.s.a) := (cell_of_row _ _ 5 _ _ _ HX.out).trans rfl
      by_cases k0 : q.s.kind = 2
      · have b0 : (q.s.kind != 2) = false := by rw [k0]; rfl
        have K0 := Lib.hid k0; clear k0
        by_cases k1 : q.s.a < q.s.number
        · have b1 : decide (q.s.number ≤ q.s.a) = false := decide_eq_false (by omega)
          have b1' : decide (q.s.a ≥ q.s.number) = false := b1
          have K1 := Lib.hid k1; clear k1
          have hlk := run_lookP HM.out (q.s.author, q.s.a)
          unfold pkV at hlk
          simp only at hlk
          cases hlook : lookP M (q.s.author, q.s.a) with
          | some v =>
            rw [hlook] at hlk
            simp only [Option.getD_some, Option.isSome_some] at hlk
            have HE : Hid (revP ((l.take (j + 1)).map (·.s)) = M) := Lib.hid (by rw [HST.out]; exact if_neg (fun h => by rw [hlook] at h; exact absurd h.2.2 (by simp)))
            clear hlook
            go_wp2_with (refine wpList_load_row rfl 109 (.tmp 6) rfl g2 rfl 109 #[.int .i64 q.s.author, .int .i64 q.s.a] (0, 0) _ HP.out Tryz.underlying109 rfl (place_info _ _) ?_)
            exact ⟨⟨j + 1, hlt, by go_num, Lib.hid ⟨by rw [HE.out]; exact HM.out, HB.out⟩⟩, by simp [intOf]; omega⟩
          | none =>
            rw [hlook] at hlk
            simp only [Option.getD_none, Option.isSome_none] at hlk
            have HE : Hid (revP ((l.take (j + 1)).map (·.s)) = M ++ [((q.s.author, q.s.a), q.s.time)]) := Lib.hid (by rw [HST.out]; exact if_pos ⟨K0.out, K1.out, hlook⟩)
            have hput := run_putP HM.out (q.s.author, q.s.a) q.s.time hlook
            unfold pkV at hput
            simp only at hput
            clear hlook
            go_wp2_with (refine wpList_load_row rfl 109 (.tmp 6) rfl g2 rfl 109 #[.int .i64 q.s.author, .int .i64 q.s.a] (0, 0) _ HP.out Tryz.underlying109 rfl (place_info _ _) ?_)
            refine ⟨⟨j + 1, hlt, by go_num, Lib.hid ⟨?_, HB.out.trans ((setBlock_but z2 w.heap.size _).below (Nat.le_refl _) HB.out.size)⟩⟩, by simp [intOf]; omega⟩
            rw [HE.out]
            unfold PMap
            rw [List.length_append]
            exact setBlock_at HM.out
        · have b1 : decide (q.s.number ≤ q.s.a) = true := decide_eq_true (by omega)
          have b1' : decide (q.s.a ≥ q.s.number) = true := b1
          have HE : Hid (revP ((l.take (j + 1)).map (·.s)) = M) := Lib.hid (by rw [HST.out]; exact if_neg (fun h => k1 h.2.1))
          clear k1
          go_wp2_with fail
          exact ⟨⟨j + 1, hlt, by go_num, Lib.hid ⟨by rw [HE.out]; exact HM.out, HB.out⟩⟩, by simp [intOf]; omega⟩
      · have b0 : (q.s.kind != 2) = true := by rw [bne_iff_ne]; exact k0
        have HE : Hid (revP ((l.take (j + 1)).map (·.s)) = M) := Lib.hid (by rw [HST.out]; exact if_neg (fun h => k0 h.1))
        clear k0
        go_wp2_with fail
        exact ⟨⟨j + 1, hlt, by go_num, Lib.hid ⟨by rw [HE.out]; exact HM.out, HB.out⟩⟩, by simp [intOf]; omega⟩
    · have hlt2 : ¬ (j : Int) < (n : Int) := by omega
      have HE : Hid (j = n) := by unfold Hid; omega
      go_wp2_with fail
      go_ret
      refine ⟨_, rfl, ?_, HQ.out.2⟩
      have h := HQ.out.1
      rw [HE.out, List.take_of_length_le (by rw [HLN.out]; exact Nat.le_refl _)] at h
      exact h
end Go.Proofs.YtnmpbjgccbnomaaGreat
