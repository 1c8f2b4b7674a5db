import Derived.Test.YtnmpbjgccbnomaaPackAI
import Derived.Test.YtnmpbjgccbnomaaPackAH
import Derived.Test.YtnmpbjgccbnomaaPackAG
import Derived.Shelf.Abstract
import Derived.Test.YtnmpbjgccbnomaaGWithP
/- The walk of graph's Without. -/
namespace Go.Proofs.Ytnmpbjgccbnomaa
open Go.RowKit
set_option maxRecDepth 100000 in
set_option maxHeartbeats 4000000 in
theorem withoutGr_any (G : Gr) (v : Value) (fr tu : Int) (w : World) (h : GHold w G v) (he : G.es.length ≤ 100000) (hg : G.gn.length ≤ 100000) : Calls Try.prog 26 #[v, .int .i64 fr, .int .i64 tu] w (GivesGE w (withoutG G fr tu)) := by
  have HGH := Lib.hid h
  obtain ⟨A, n, c, B, m, k, rfl, h1, h2⟩ := h
  have hn : n ≤ 100000 := by rw [← ERow.len h1]; exact he
  have HL1 : Hid (G.es.length = n) := Lib.hid (ERow.len h1)
  have HB : Hid (Below w.heap.size w ((w.alloc (.cells #[.int .i64 G.sz, .slice A n c, .slice B m k] 25)).alloc (.cells #[.int .i64 0, .slice none 0 0, .slice none 0 0] 25))) := Lib.hid ((one_new w _).trans ((one_new _ _).mono (by simp)))
  have HX : Hid (((w.alloc (.cells #[.int .i64 G.sz, .slice A n c, .slice B m k] 25)).alloc (.cells #[.int .i64 0, .slice none 0 0, .slice none 0 0] 25)).heap[w.heap.size]? = some (.cells #[.int .i64 G.sz, .slice A n c, .slice B m k] 25 (0, 0))) := Lib.hid ((Below.heap_alloc _ _ _ (by simp)).trans (heap_alloc_new _ _))
  have HR : Hid (((w.alloc (.cells #[.int .i64 G.sz, .slice A n c, .slice B m k] 25)).alloc (.cells #[.int .i64 0, .slice none 0 0, .slice none 0 0] 25)).heap[w.heap.size + 1]? = some (.cells #[.int .i64 0, .slice none 0 0, .slice none 0 0] 25 (0, 0))) := Lib.hid (heap_alloc2_new _ _ _)
  have H2 := Lib.hid h2
  have HCK : Hid (∀ y, Below w.heap.size w y → Calls Try.prog 27 #[.agg #[.int .i64 G.sz, .slice A n c, .slice B m k]] y (SaysL (.int .i64 (checkG G)) y)) := Lib.hid fun y hy => checkGr_any G _ y (HGH.out.later hy) he hg
  have HIX : Hid (okG G = true → ∀ y, Below w.heap.size w y → Calls Try.prog 39 #[.slice A n c, .agg #[.int .i64 fr, .int .i64 tu, .int .i64 0], .func (.func 40) #[] #[]] y (SaysL (.tuple #[.int .i64 (idxE ⟨fr, tu, 0⟩ G.es : Nat), .bool (thereE ⟨fr, tu, 0⟩ G.es)]) y)) := Lib.hid fun hk y hy => bsearchEd_any A n c G.es ⟨fr, tu, 0⟩ y (GRow.later h1 hy) (by omega) ((okG_iff G).1 hk).asc
  have HCL : Hid (∀ y, Below w.heap.size w y → Calls Try.prog 36 #[.slice A n c] y fun e w' => ∃ v, e = .returned v ∧ w'.ownsRow y.heap.size 27 3 v G.es.length (rowC Edg.cells G.es) ∧ Below y.heap.size y w') := Lib.hid fun y h => cloneEd_any A n c G.es y (GRow.later h1 h) hn
  have HRW : Hid (withoutG G fr tu = if okG G = false then (noGr, 14) else if thereE ⟨fr, tu, 0⟩ G.es then (⟨G.sz, G.es.take (idxE ⟨fr, tu, 0⟩ G.es) ++ G.es.drop (idxE ⟨fr, tu, 0⟩ G.es + 1), G.gn⟩, 0) else (noGr, 19)) := Lib.hid rfl
  have HTH : Hid (thereE ⟨fr, tu, 0⟩ G.es = true → idxE ⟨fr, tu, 0⟩ G.es < n) := Lib.hid fun q => by
    unfold thereE at q
    rw [Bool.and_eq_true, decide_eq_true_eq, HL1.out] at q
    exact q.1
  have HCG : Hid (checkG G = if okG G then 0 else 14) := Lib.hid rfl
  generalize withoutG G fr tu = RW at *
  generalize checkG G = CG at *
  clear h1 h2 he hg HGH
  go_enter Try.func26, Try.ntmps26
  go_upto_region 1 with fail
  generalize ((w.alloc (.cells #[.int .i64 G.sz, .slice A n c, .slice B m k] 25)).alloc (.cells #[.int .i64 0, .slice none 0 0, .slice none 0 0] 25)) = y0 at *
  have HSZ : Hid (w.heap.size + 2 ≤ y0.heap.size) := Lib.hid (Array.getElem?_eq_some_iff.1 HR.out).1
  go_wp2_with (refine wpList_load_row rfl 25 (.tmp 3) rfl w.heap.size rfl 25 #[.int .i64 G.sz, .slice A n c, .slice B m k] (0, 0) _ HX.out Try.underlying25 rfl gr_size ?_)
  refine (HCK.out y0 HB.out).mono ?_
  rintro e1 w1 ⟨rfl, hb⟩
  have hs2 : w.heap.size + 2 ≤ y0.heap.size := HSZ.out
  replace HX := Lib.hid ((hb.block _ (by omega)).trans HX.out); replace HR := Lib.hid ((hb.block _ (by omega)).trans HR.out)
  replace HB := Lib.hid (HB.out.trans (hb.mono HB.out.size))
  replace HSZ : Hid (w.heap.size + 2 ≤ w1.heap.size) := Lib.hid (Nat.le_trans hs2 hb.size)
  clear hb hs2 HCK
  cases hok : okG G
  · rw [hok] at HCG HRW
    have HCE : Hid (CG = 14) := Lib.hid HCG.out
    rw [HCE.out]
    have HE : Hid (RW = (noGr, 14)) := Lib.hid (by rw [HRW.out]; rfl)
    clear HCE hok HIX
    go_wp2_with (refine wpList_store_row rfl 25 (.tmp 6) (.tmp 15) rfl (w.heap.size + 1) #[.int .i64 0, .slice none 0 0, .slice none 0 0] rfl rfl 25 _ HR.out gr_size rfl (by simp [Value.oneCell']) ?_)
    refine bodyPost_ret (results_ge rfl rfl rfl (setRow_heap _ _ _ #[.int .i64 0, .slice none 0 0, .slice none 0 0] _ _ HR.out) rfl) rfl ?_
    rw [HE.out]
    exact ⟨_, rfl, (GOwn.none _ 0).hold, below_setRow HB.out (by omega) _⟩
  · rw [hok] at HCG HRW
    have HCE : Hid (CG = 0) := Lib.hid HCG.out
    rw [HCE.out]
    replace HRW : Hid (RW = if thereE ⟨fr, tu, 0⟩ G.es then (⟨G.sz, G.es.take (idxE ⟨fr, tu, 0⟩ G.es) ++ G.es.drop (idxE ⟨fr, tu, 0⟩ G.es + 1), G.gn⟩, 0) else (noGr, 19)) := Lib.hid (by rw [HRW.out]; rfl)
    replace HIX := Lib.hid (HIX.out hok)
    clear HCE HCG hok CG
    generalize idxE ⟨fr, tu, 0⟩ G.es = K at *
    generalize thereE ⟨fr, tu, 0⟩ G.es = th at *
    have hc1 : w1.cell? ⟨w.heap.size, 1, none⟩ = some (.slice A n c) := (cell_of_row _ _ 1 _ _ _ HX.out).trans rfl
    go_wp2_with fail
    clear hc1
    refine (HIX.out w1 HB.out).mono ?_
    rintro e1 w2 ⟨rfl, hb⟩
    have hs2 : w.heap.size + 2 ≤ w1.heap.size := HSZ.out
    replace HX := Lib.hid ((hb.block _ (by omega)).trans HX.out); replace HR := Lib.hid ((hb.block _ (by omega)).trans HR.out)
    replace HB := Lib.hid (HB.out.trans (hb.mono HB.out.size))
    replace HSZ : Hid (w.heap.size + 2 ≤ w2.heap.size) := Lib.hid (Nat.le_trans hs2 hb.size)
    clear hb hs2 HIX
    cases th
    · have HE : Hid (RW = (noGr, 19)) := Lib.hid HRW.out
      go_wp2_with (refine wpList_store_row rfl 25 (.tmp 6) (.tmp 28) rfl (w.heap.size + 1) #[.int .i64 0, .slice none 0 0, .slice none 0 0] rfl rfl 25 _ HR.out gr_size rfl (by simp [Value.oneCell']) ?_)
      refine bodyPost_ret (results_ge rfl rfl rfl (setRow_heap _ _ _ #[.int .i64 0, .slice none 0 0, .slice none 0 0] _ _ HR.out) rfl) rfl ?_
      rw [HE.out]
      exact ⟨_, rfl, (GOwn.none _ 0).hold, below_setRow HB.out (by omega) _⟩
    · have hK : K < n := HTH.out rfl
      have HE : Hid (RW = (⟨G.sz, G.es.take K ++ G.es.drop (K + 1), G.gn⟩, 0)) := Lib.hid HRW.out
      clear HRW HTH
      have hc1 : w2.cell? ⟨w.heap.size, 1, none⟩ = some (.slice A n c) := (cell_of_row _ _ 1 _ _ _ HX.out).trans rfl
      go_wp2_with fail
      clear hc1
      refine (HCL.out w2 HB.out).mono ?_
      rintro e1 w3 ⟨v1, rfl, ho, hb⟩
      have hs2 : w.heap.size + 2 ≤ w2.heap.size := HSZ.out
      replace HX := Lib.hid ((hb.block _ (by omega)).trans HX.out); replace HR := Lib.hid ((hb.block _ (by omega)).trans HR.out)
      replace HB := Lib.hid (HB.out.trans (hb.mono HB.out.size))
      obtain ⟨g, cap, T, rfl, hek⟩ := eblk_of_own ho (by rw [HL1.out]; omega)
      rw [HL1.out] at hek ⊢
      have HDL := Lib.hid (deleteEd_any w2.heap.size g n cap K (K + 1) G.es T w3 hek hb.size (Nat.lt_succ_self K) hK)
      rw [show ((K + 1 : Nat) : Int) = (K : Int) + 1 by omega] at HDL
      clear hb ho hek HCL
      obtain ⟨D, hD⟩ : ∃ D, G.es.take K ++ G.es.drop (K + 1) = D := ⟨_, rfl⟩
      rw [hD] at HDL HE
      clear hD
      go_wp2_with fail
      refine HDL.out.mono ?_
      rintro e1 w4 ⟨v2, rfl, ho, hb⟩
      obtain ⟨A2, c2, rfl, -⟩ := Row.of_own ho
      have HO2 := Lib.hid ho
      replace HX := Lib.hid ((hb.block _ (by omega)).trans HX.out); replace HR := Lib.hid ((hb.block _ (by omega)).trans HR.out)
      replace HB := Lib.hid (HB.out.trans (hb.mono (by omega)))
      clear hb ho HDL
      have hfz : w4.frozen? ⟨w.heap.size, 1, none⟩ = false := by unfold World.frozen?; rw [HX.out]; simp
      have hc1 : w4.cell? ⟨w.heap.size, 1, none⟩ = some (.slice A n c) := (cell_of_row _ _ 1 _ _ _ HX.out).trans rfl
      go_upto_region 8 with fail
      have HX3 : Hid ((w4.setCell ⟨w.heap.size, 1, none⟩ (.slice A2 D.length c2)).heap[w.heap.size]? = some (.cells #[.int .i64 G.sz, .slice A2 D.length c2, .slice B m k] 25 (0, 0))) := Lib.hid (heap_setCell_same w4 w.heap.size 1 _ _ _ HX.out)
      have HKC : Hid (∀ q, q ≠ w.heap.size → (w4.setCell ⟨w.heap.size, 1, none⟩ (.slice A2 D.length c2)).heap[q]? = w4.heap[q]?) := Lib.hid fun q hq => Below.heap_setCell w4 ⟨w.heap.size, 1, none⟩ _ q hq
      have HB3 : Hid (Below w.heap.size w (w4.setCell ⟨w.heap.size, 1, none⟩ (.slice A2 D.length c2))) := Lib.hid (HB.out.setCell (p := ⟨w.heap.size, 1, none⟩) (Nat.le_refl _) _)
      have HR3 := Lib.hid ((HKC.out (w.heap.size + 1) (by omega)).trans HR.out)
      have HO3 := Lib.hid (own_keepL HO2.out fun q hq => HKC.out q (by have := own_ge HO2.out q hq; omega))
      clear hfz hc1 HKC HX HR HO2 HB
      generalize w4.setCell ⟨w.heap.size, 1, none⟩ (.slice A2 D.length c2) = w5 at *
      go_wp2_with (first | (refine wpList_load_row rfl 25 (.tmp 3) rfl w.heap.size rfl 25 #[.int .i64 G.sz, .slice A2 D.length c2, .slice B m k] (0, 0) _ HX3.out Try.underlying25 rfl gr_size ?_) | (refine wpList_store_row rfl 25 (.tmp 6) (.tmp 37) rfl (w.heap.size + 1) #[.int .i64 G.sz, .slice A2 D.length c2, .slice B m k] rfl rfl 25 _ HR3.out gr_size rfl (by simp [Value.oneCell']) ?_))
      refine bodyPost_ret (results_ge rfl rfl rfl (setRow_heap _ _ _ #[.int .i64 G.sz, .slice A2 D.length c2, .slice B m k] _ _ HR3.out) rfl) rfl ?_
      have hbf : Below w.heap.size w (w5.setRow (w.heap.size + 1) #[.int .i64 G.sz, .slice A2 D.length c2, .slice B m k]) := below_setRow HB3.out (by omega) _
      rw [HE.out]
      refine ⟨_, rfl, ⟨A2, D.length, c2, B, m, k, rfl, ?_, H2.out.later hbf⟩, hbf⟩
      obtain ⟨A4, c4, hv4, hr4⟩ := Row.of_own (own_keepL HO3.out fun q hq => setRow_other w5 (w.heap.size + 1) q #[.int .i64 G.sz, .slice A2 D.length c2, .slice B m k] (by have := own_ge HO3.out q hq; omega))
      injection hv4 with e1 _ e2
      subst e1 e2
      exact hr4
end Go.Proofs.Ytnmpbjgccbnomaa
/- The walk of graph's Level. -/
namespace Go.Proofs.Ytnmpbjgccbnomaa
open Go.RowKit
set_option maxRecDepth 100000 in
set_option maxHeartbeats 4000000 in
theorem level1Gr_any (lv : Int) (bt : Nat) (p : Edg) (w : World) (ht : w.cell? ⟨bt, 0, none⟩ = some (.int .i64 lv)) (hb : bt < w.heap.size) : Calls Try.prog 37 #[.agg p.arr, .pointer (some ⟨bt, 0, none⟩)] w (SaysL (.bool (decide (p.lv < lv))) w) := by
  have ht2 : (w.alloc (.cells p.arr 27)).cell? ⟨bt, 0, none⟩ = some (.int .i64 lv) := (Below.cell (one_new w _) hb).trans ht
  have HN := Lib.hid (one_new w (.cells p.arr 27))
  obtain ⟨-, -, hp⟩ := edg_cells (heap_alloc_new w (.cells p.arr 27))
  clear ht
  go_enter Try.func37, Try.ntmps37
  go_wp2_with fail
  go_ret
  exact ⟨rfl, HN.out⟩
set_option maxRecDepth 100000 in
set_option maxHeartbeats 4000000 in
theorem levelGr_own (G : Gr) (A : Option Addr) (n c : Nat) (B : Option Addr) (m k : Nat) (lv : Int) (w : World) (h1 : ERow w A n c G.es) (h2 : IRow w B m k G.gn) (he : G.es.length ≤ 100000) : Calls Try.prog 20 #[.agg #[.int .i64 G.sz, .slice A n c, .slice B m k], .int .i64 lv] w fun x w' => ∃ A2 c2, x = .returned (.agg #[.int .i64 G.sz, .slice A2 (levelG G lv).es.length c2, .slice B m k]) ∧ w'.ownsRow w.heap.size 27 3 (.slice A2 (levelG G lv).es.length c2) (levelG G lv).es.length (rowC Edg.cells (levelG G lv).es) ∧ Below w.heap.size w w' := by
  have hn : n ≤ 100000 := by rw [← ERow.len h1]; exact he
  have HB : Hid (Below w.heap.size w (((w.alloc (.cells #[.int .i64 G.sz, .slice A n c, .slice B m k] 25)).alloc (.cells #[.int .i64 lv] 3)).alloc (.cells #[.int .i64 0, .slice none 0 0, .slice none 0 0] 25))) := Lib.hid (((one_new w _).trans ((one_new _ _).mono (by simp))).trans ((one_new _ _).mono (by simp; omega)))
  have HX : Hid ((((w.alloc (.cells #[.int .i64 G.sz, .slice A n c, .slice B m k] 25)).alloc (.cells #[.int .i64 lv] 3)).alloc (.cells #[.int .i64 0, .slice none 0 0, .slice none 0 0] 25)).heap[w.heap.size]? = some (.cells #[.int .i64 G.sz, .slice A n c, .slice B m k] 25 (0, 0))) := Lib.hid ((Below.heap_alloc _ _ _ (by simp; omega)).trans ((Below.heap_alloc _ _ _ (by simp)).trans (heap_alloc_new _ _)))
  have HY : Hid ((((w.alloc (.cells #[.int .i64 G.sz, .slice A n c, .slice B m k] 25)).alloc (.cells #[.int .i64 lv] 3)).alloc (.cells #[.int .i64 0, .slice none 0 0, .slice none 0 0] 25)).heap[w.heap.size + 1]? = some (.cells #[.int .i64 lv] 3 (0, 0))) := Lib.hid ((Below.heap_alloc _ _ _ (by simp)).trans (heap_alloc2_new _ _ _))
  have HR : Hid ((((w.alloc (.cells #[.int .i64 G.sz, .slice A n c, .slice B m k] 25)).alloc (.cells #[.int .i64 lv] 3)).alloc (.cells #[.int .i64 0, .slice none 0 0, .slice none 0 0] 25)).heap[w.heap.size + 2]? = some (.cells #[.int .i64 0, .slice none 0 0, .slice none 0 0] 25 (0, 0))) := Lib.hid (by
    have h := heap_alloc_new ((w.alloc (.cells #[.int .i64 G.sz, .slice A n c, .slice B m k] 25)).alloc (.cells #[.int .i64 lv] 3)) (.cells #[.int .i64 0, .slice none 0 0, .slice none 0 0] 25)
    rw [show ((w.alloc (.cells #[.int .i64 G.sz, .slice A n c, .slice B m k] 25)).alloc (.cells #[.int .i64 lv] 3)).heap.size = w.heap.size + 2 by simp] at h
    exact h)
  have H2 := Lib.hid h2
  have HCL : Hid (∀ y, Below w.heap.size w y → Calls Try.prog 36 #[.slice A n c] y fun e w' => ∃ v, e = .returned v ∧ w'.ownsRow y.heap.size 27 3 v G.es.length (rowC Edg.cells G.es) ∧ Below y.heap.size y w') := Lib.hid fun y h => cloneEd_any A n c G.es y (GRow.later h1 h) hn
  have HEN : Hid (∀ args w, (callFunc 37 args).run Try.prog w = .ok (.enter 37 args) w) := Lib.hid (enters_of Try.func37 (by kernel_rfl) rfl)
  have HFL : Hid (G.es.filter (fun e => !decide (e.lv < lv)) = (levelG G lv).es) := Lib.hid (by
    unfold levelG
    show _ = G.es.filter (fun e => decide (lv ≤ e.lv))
    congr 1
    funext e
    by_cases h : lv ≤ e.lv
    · rw [decide_eq_true h, decide_eq_false (by omega)]; rfl
    · rw [decide_eq_false h, decide_eq_true (by omega)]; rfl)
  generalize levelG G lv = K at *
  clear h1 h2
  go_enter Try.func20, Try.ntmps20
  go_upto_region 1 with fail
  generalize (((w.alloc (.cells #[.int .i64 G.sz, .slice A n c, .slice B m k] 25)).alloc (.cells #[.int .i64 lv] 3)).alloc (.cells #[.int .i64 0, .slice none 0 0, .slice none 0 0] 25)) = y0 at *
  have HSZ : Hid (w.heap.size + 3 ≤ y0.heap.size) := Lib.hid (Array.getElem?_eq_some_iff.1 HR.out).1
  have hc1 : y0.cell? ⟨w.heap.size, 1, none⟩ = some (.slice A n c) := (cell_of_row _ _ 1 _ _ _ HX.out).trans rfl
  go_wp2_with fail
  refine (HCL.out y0 HB.out).mono ?_
  rintro e w1 ⟨v1, rfl, ho, hb⟩
  have HO := Lib.hid ho
  have hs3 : w.heap.size + 3 ≤ y0.heap.size := HSZ.out
  replace HX := Lib.hid ((hb.block _ (by omega)).trans HX.out); replace HY := Lib.hid ((hb.block _ (by omega)).trans HY.out); replace HR := Lib.hid ((hb.block _ (by omega)).trans HR.out)
  replace HB := Lib.hid (HB.out.trans (hb.mono HB.out.size))
  have HDF := Lib.hid (delFuncEd_any (fun e => decide (e.lv < lv)) 37 #[.pointer (some ⟨w.heap.size + 1, 0, none⟩)] y0.heap.size v1 G.es.length G.es w1 ho hb.size he HEN.out fun y p hby => level1Gr_any lv (w.heap.size + 1) p y ((cell_of_row _ _ 0 _ _ _ ((hby.block _ (by omega)).trans HY.out)).trans rfl) (by have h1 := hby.size; have h2 := hb.size; omega))
  have HS1 : Hid (y0.heap.size ≤ w1.heap.size) := Lib.hid hb.size
  clear hb hc1 HCL ho
  go_wp2_with fail
  refine HDF.out.mono ?_
  rintro e w2 ⟨v2, rfl, ho, hb⟩
  rw [HFL.out] at ho
  obtain ⟨A2, c2, rfl, hr2⟩ := Row.of_own ho
  have HR2 : Hid (ERow w2 A2 K.es.length c2 K.es) := Lib.hid hr2
  have HO2 := Lib.hid ho
  replace HX := Lib.hid ((hb.block _ (by omega)).trans HX.out); replace HR := Lib.hid ((hb.block _ (by omega)).trans HR.out)
  replace HB := Lib.hid (HB.out.trans (hb.mono (by omega)))
  clear hb hr2 ho HDF HY HEN
  have hfz : w2.frozen? ⟨w.heap.size, 1, none⟩ = false := by unfold World.frozen?; rw [HX.out]; simp
  have hc1 : w2.cell? ⟨w.heap.size, 1, none⟩ = some (.slice A n c) := (cell_of_row _ _ 1 _ _ _ HX.out).trans rfl
  go_upto_region 2 with fail
  have HX3 : Hid ((w2.setCell ⟨w.heap.size, 1, none⟩ (.slice A2 K.es.length c2)).heap[w.heap.size]? = some (.cells #[.int .i64 G.sz, .slice A2 K.es.length c2, .slice B m k] 25 (0, 0))) := Lib.hid (heap_setCell_same w2 w.heap.size 1 _ _ _ HX.out)
  have HKC : Hid (∀ q, q ≠ w.heap.size → (w2.setCell ⟨w.heap.size, 1, none⟩ (.slice A2 K.es.length c2)).heap[q]? = w2.heap[q]?) := Lib.hid fun q hq => Below.heap_setCell w2 ⟨w.heap.size, 1, none⟩ _ q hq
  have HB3 : Hid (Below w.heap.size w (w2.setCell ⟨w.heap.size, 1, none⟩ (.slice A2 K.es.length c2))) := Lib.hid (HB.out.setCell (p := ⟨w.heap.size, 1, none⟩) (Nat.le_refl _) _)
  have HR3 := Lib.hid ((HKC.out (w.heap.size + 2) (by omega)).trans HR.out)
  have HO3 := Lib.hid (own_keepL HO2.out fun q hq => HKC.out q (by have := own_ge HO2.out q hq; omega))
  clear hfz hc1 HKC HX HR HO2 HR2 HB
  generalize w2.setCell ⟨w.heap.size, 1, none⟩ (.slice A2 K.es.length c2) = w3 at *
  go_wp2_with (first | (refine wpList_load_row rfl 25 (.tmp 2) rfl w.heap.size rfl 25 #[.int .i64 G.sz, .slice A2 K.es.length c2, .slice B m k] (0, 0) _ HX3.out Try.underlying25 rfl gr_size ?_) | (refine wpList_store_row rfl 25 (.tmp 4) (.tmp 11) rfl (w.heap.size + 2) #[.int .i64 G.sz, .slice A2 K.es.length c2, .slice B m k] rfl rfl 25 _ HR3.out gr_size rfl (by simp [Value.oneCell']) ?_))
  refine bodyPost_ret (v := .agg #[.int .i64 G.sz, .slice A2 K.es.length c2, .slice B m k]) (results_cell_row rfl _ _ (w.heap.size + 2) 25 #[.int .i64 G.sz, .slice A2 K.es.length c2, .slice B m k] (0, 0) _ rfl (setRow_heap _ _ _ #[.int .i64 G.sz, .slice A2 K.es.length c2, .slice B m k] _ _ HR3.out) Try.underlying25 rfl gr_size) rfl ?_
  have hbf : Below w.heap.size w (w3.setRow (w.heap.size + 2) #[.int .i64 G.sz, .slice A2 K.es.length c2, .slice B m k]) := below_setRow HB3.out (by omega) _
  exact ⟨A2, c2, rfl, own_mono (own_keepL HO3.out fun q hq => setRow_other w3 (w.heap.size + 2) q #[.int .i64 G.sz, .slice A2 K.es.length c2, .slice B m k] (by have := own_ge HO3.out q hq; omega)) (by omega), hbf⟩
theorem levelGr_any (G : Gr) (v : Value) (lv : Int) (w : World) (h : GHold w G v) (he : G.es.length ≤ 100000) : Calls Try.prog 20 #[v, .int .i64 lv] w (GivesG w (levelG G lv)) := by
  obtain ⟨A, n, c, B, m, k, rfl, h1, h2⟩ := h
  refine (levelGr_own G A n c B m k lv w h1 h2 he).mono ?_
  rintro x w' ⟨A2, c2, rfl, ho, hb⟩
  refine ⟨_, rfl, ⟨A2, _, c2, B, m, k, rfl, ?_, h2.later hb⟩, hb⟩
  obtain ⟨A4, c4, hv4, hr4⟩ := Row.of_own ho
  injection hv4 with e1 _ e2
  subst e1 e2
  exact hr4
end Go.Proofs.Ytnmpbjgccbnomaa
/- The walks of graph's Out and In. -/
namespace Go.Proofs.Ytnmpbjgccbnomaa
open Go.RowKit
set_option maxRecDepth 100000 in
set_option maxHeartbeats 4000000 in
theorem outGr_any (G : Gr) (v : Value) (key : Int) (w : World) (h : GHold w G v) (he : G.es.length ≤ 100000) : Calls Try.prog 16 #[v, .int .i64 key] w (GivesI w (outS G.es key)) := by
  obtain ⟨A, n, c, B, m, k, rfl, h1, -⟩ := h
  have hn : n ≤ 100000 := by rw [← ERow.len h1]; exact he
  have HLN : Hid (G.es.length = n) := Lib.hid (ERow.len h1)
  have HNW := Lib.hid (one_new w (.cells #[.int .i64 G.sz, .slice A n c, .slice B m k] 25))
  have HX : Hid ((w.alloc (.cells #[.int .i64 G.sz, .slice A n c, .slice B m k] 25)).heap[w.heap.size]? = some (.cells #[.int .i64 G.sz, .slice A n c, .slice B m k] 25 (0, 0))) := Lib.hid (heap_alloc_new _ _)
  have HL := Lib.hid (GRow.later h1 HNW.out)
  clear h1 he
  go_enter Try.func16, Try.ntmps16
  go_upto_region 1 with fail
  generalize w.alloc (.cells #[.int .i64 G.sz, .slice A n c, .slice B m k] 25) = y0 at *
  obtain ⟨g, hgg⟩ : ∃ g, w.heap.size = g := ⟨_, rfl⟩
  rw [hgg] at HX ⊢
  have HGG := Lib.hid hgg
  clear hgg
  have hg1 : y0.cell? ⟨g, 1, none⟩ = some (.slice A n c) := (cell_of_row _ _ 1 _ _ _ HX.out).trans rfl
  generalize G.es = l at *
  go_wp2_with fail
  clear hg1
  go_loopw [5, 11] (fun v i wr => ∃ j : Nat, j ≤ n ∧ i = .int .i64 j ∧ Hid (wr.ownsRow y0.heap.size 3 1 v (outS (l.take j) key).length (intsV (outS (l.take j) key)) ∧ Below y0.heap.size y0 wr)) (fun _ i _ => n - (intOf i).toNat)
  case atStart => exact ⟨0, Nat.zero_le _, rfl, Lib.hid ⟨World.ownsRow_nil _ _ _ _, Below.refl _ _⟩⟩
  case round =>
    obtain ⟨j, hj, rfl, HQ⟩ := hrel
    obtain ⟨A1, c1, hv, -⟩ := Row.of_own HQ.out.1
    subst hv
    have HGL : Hid ((outS (l.take j) key).length ≤ 100000) := Lib.hid (Nat.le_trans (outS_len l key j (by have := HLN.out; omega)) (by omega))
    by_cases hlt : j < n
    · have hlt2 : (j : Int) < (n : Int) := by omega
      have HST := Lib.hid (outS_snoc l key j (by rw [HLN.out]; exact hlt))
      obtain ⟨b, off, hA, hc⟩ := GRow.cells Edg.len (by decide) (GRow.later HL.out HQ.out.2) noEdg j hlt
      subst hA
      generalize l.getD j noEdg = p at *
      have HC : Hid (∀ q, q < p.arr.size → wr.cell? ⟨b, off + j * 3 + q, none⟩ = p.arr[q]?) := Lib.hid fun q hq => (hc q hq).trans (by rw [← Edg.list, Array.getElem?_toList])
      clear hc
      go_upto_region 5 with (first | (refine wpList_load_cells rfl 27 (.tmp 13) rfl b (off + j * 3) rfl p.arr _ Try.underlying27 rfl p.info HC.out ?_) | (refine wpList_store_new rfl 27 (.tmp 7) (.tmp 14) rfl 27 _ p.arr rfl rfl p.info rfl p.one ?_))
      have HN3 := Lib.hid (one_new wr (.cells p.arr 27))
      have HY : Hid ((wr.alloc (.cells p.arr 27)).heap[wr.heap.size]? = some (.cells p.arr 27 (0, 0))) := Lib.hid (heap_alloc_new _ _)
      have HO := Lib.hid (own_later HQ.out.1 HN3.out); have HB := Lib.hid (HQ.out.2.trans (HN3.out.mono HQ.out.2.size))
      clear HQ HC HN3
      generalize wr.alloc (.cells p.arr 27) = x2 at *
      generalize wr.heap.size = g4 at *
      obtain ⟨hy0, hy1, -⟩ := edg_cells HY.out
      generalize p.fr = fr at *
      generalize p.tu = tu at *
      generalize hgu : outS (l.take j) key = U at *
      clear hgu
      by_cases hk : fr = key
      · have b0 : (fr == key) = true := by rw [hk]; simp
        rw [if_pos hk] at HST
        clear hk
        have hgl := HGL.out
        have hsz : y0.heap.size ≤ x2.heap.size := HB.out.size
        go_wp2_with (at_builtin; go_must (refine wpList_app_new x2 rfl (.tmp 19) (.tmp 22) 23 3 rfl y0.heap.size Try.underlying23 i64_info rfl _ U.length (intsV U) HO.out rfl 1 #[.int .i64 tu] rfl (by simp [Value.oneCell']) rfl rfl (by unfold maxLen; omega) (by omega) hsz ?_); intro v3 w3 ho3 hb3; have HO3 := Lib.hid ho3; have HB3 := Lib.hid (HB.out.trans hb3); clear ho3 hb3)
        exact ⟨⟨j + 1, hlt, by go_num, Lib.hid (by rw [HST.out, List.length_append, intsV_app]; exact ⟨HO3.out, HB3.out⟩)⟩, by simp [intOf]; omega⟩
      · have b0 : (fr == key) = false := by rw [beq_eq_false_iff_ne]; exact hk
        rw [if_neg hk, List.append_nil] at HST
        clear hk
        go_wp2_with fail
        exact ⟨⟨j + 1, hlt, by go_num, Lib.hid ⟨by rw [HST.out]; exact HO.out, HB.out⟩⟩, by simp [intOf]; omega⟩
    · have hlt2 : ¬ (j : Int) < (n : Int) := by omega
      have HE : Hid (outS (l.take j) key = outS l key) := Lib.hid (by rw [List.take_of_length_le (by rw [HLN.out]; omega)])
      obtain ⟨A3, c3, hv3, hr3⟩ := Row.of_own HQ.out.1
      injection hv3 with hv3 _ hc3
      subst hv3 hc3
      have HB3 := Lib.hid HQ.out.2
      clear HQ
      rw [HE.out] at hr3 ⊢
      have HR3 := Lib.hid hr3; clear hr3 HE HGL
      go_wp2_with fail
      go_ret
      exact ⟨_, _, _, rfl, HR3.out, HNW.out.trans (HB3.out.mono HNW.out.size)⟩
set_option maxRecDepth 100000 in
set_option maxHeartbeats 4000000 in
theorem inGr_any (G : Gr) (v : Value) (key : Int) (w : World) (h : GHold w G v) (he : G.es.length ≤ 100000) : Calls Try.prog 18 #[v, .int .i64 key] w (GivesI w (inS G.es key)) := by
  obtain ⟨A, n, c, B, m, k, rfl, h1, -⟩ := h
  have hn : n ≤ 100000 := by rw [← ERow.len h1]; exact he
  have HLN : Hid (G.es.length = n) := Lib.hid (ERow.len h1)
  have HNW := Lib.hid (one_new w (.cells #[.int .i64 G.sz, .slice A n c, .slice B m k] 25))
  have HX : Hid ((w.alloc (.cells #[.int .i64 G.sz, .slice A n c, .slice B m k] 25)).heap[w.heap.size]? = some (.cells #[.int .i64 G.sz, .slice A n c, .slice B m k] 25 (0, 0))) := Lib.hid (heap_alloc_new _ _)
  have HL := Lib.hid (GRow.later h1 HNW.out)
  clear h1 he
  go_enter Try.func18, Try.ntmps18
  go_upto_region 1 with fail
  generalize w.alloc (.cells #[.int .i64 G.sz, .slice A n c, .slice B m k] 25) = y0 at *
  obtain ⟨g, hgg⟩ : ∃ g, w.heap.size = g := ⟨_, rfl⟩
  rw [hgg] at HX ⊢
  have HGG := Lib.hid hgg
  clear hgg
  have hg1 : y0.cell? ⟨g, 1, none⟩ = some (.slice A n c) := (cell_of_row _ _ 1 _ _ _ HX.out).trans rfl
  generalize G.es = l at *
  go_wp2_with fail
  clear hg1
  go_loopw [5, 11] (fun v i wr => ∃ j : Nat, j ≤ n ∧ i = .int .i64 j ∧ Hid (wr.ownsRow y0.heap.size 3 1 v (inS (l.take j) key).length (intsV (inS (l.take j) key)) ∧ Below y0.heap.size y0 wr)) (fun _ i _ => n - (intOf i).toNat)
  case atStart => exact ⟨0, Nat.zero_le _, rfl, Lib.hid ⟨World.ownsRow_nil _ _ _ _, Below.refl _ _⟩⟩
  case round =>
    obtain ⟨j, hj, rfl, HQ⟩ := hrel
    obtain ⟨A1, c1, hv, -⟩ := Row.of_own HQ.out.1
    subst hv
    have HGL : Hid ((inS (l.take j) key).length ≤ 100000) := Lib.hid (Nat.le_trans (inS_len l key j (by have := HLN.out; omega)) (by omega))
    by_cases hlt : j < n
    · have hlt2 : (j : Int) < (n : Int) := by omega
      have HST := Lib.hid (inS_snoc l key j (by rw [HLN.out]; exact hlt))
      obtain ⟨b, off, hA, hc⟩ := GRow.cells Edg.len (by decide) (GRow.later HL.out HQ.out.2) noEdg j hlt
      subst hA
      generalize l.getD j noEdg = p at *
      have HC : Hid (∀ q, q < p.arr.size → wr.cell? ⟨b, off + j * 3 + q, none⟩ = p.arr[q]?) := Lib.hid fun q hq => (hc q hq).trans (by rw [← Edg.list, Array.getElem?_toList])
      clear hc
      go_upto_region 5 with (first | (refine wpList_load_cells rfl 27 (.tmp 13) rfl b (off + j * 3) rfl p.arr _ Try.underlying27 rfl p.info HC.out ?_) | (refine wpList_store_new rfl 27 (.tmp 7) (.tmp 14) rfl 27 _ p.arr rfl rfl p.info rfl p.one ?_))
      have HN3 := Lib.hid (one_new wr (.cells p.arr 27))
      have HY : Hid ((wr.alloc (.cells p.arr 27)).heap[wr.heap.size]? = some (.cells p.arr 27 (0, 0))) := Lib.hid (heap_alloc_new _ _)
      have HO := Lib.hid (own_later HQ.out.1 HN3.out); have HB := Lib.hid (HQ.out.2.trans (HN3.out.mono HQ.out.2.size))
      clear HQ HC HN3
      generalize wr.alloc (.cells p.arr 27) = x2 at *
      generalize wr.heap.size = g4 at *
      obtain ⟨hy0, hy1, -⟩ := edg_cells HY.out
      generalize p.fr = tu at *
      generalize p.tu = fr at *
      generalize hgu : inS (l.take j) key = U at *
      clear hgu
      by_cases hk : fr = key
      · have b0 : (fr == key) = true := by rw [hk]; simp
        rw [if_pos hk] at HST
        clear hk
        have hgl := HGL.out
        have hsz : y0.heap.size ≤ x2.heap.size := HB.out.size
        go_wp2_with (at_builtin; go_must (refine wpList_app_new x2 rfl (.tmp 19) (.tmp 22) 23 3 rfl y0.heap.size Try.underlying23 i64_info rfl _ U.length (intsV U) HO.out rfl 1 #[.int .i64 tu] rfl (by simp [Value.oneCell']) rfl rfl (by unfold maxLen; omega) (by omega) hsz ?_); intro v3 w3 ho3 hb3; have HO3 := Lib.hid ho3; have HB3 := Lib.hid (HB.out.trans hb3); clear ho3 hb3)
        exact ⟨⟨j + 1, hlt, by go_num, Lib.hid (by rw [HST.out, List.length_append, intsV_app]; exact ⟨HO3.out, HB3.out⟩)⟩, by simp [intOf]; omega⟩
      · have b0 : (fr == key) = false := by rw [beq_eq_false_iff_ne]; exact hk
        rw [if_neg hk, List.append_nil] at HST
        clear hk
        go_wp2_with fail
        exact ⟨⟨j + 1, hlt, by go_num, Lib.hid ⟨by rw [HST.out]; exact HO.out, HB.out⟩⟩, by simp [intOf]; omega⟩
    · have hlt2 : ¬ (j : Int) < (n : Int) := by omega
      have HE : Hid (inS (l.take j) key = inS l key) := Lib.hid (by rw [List.take_of_length_le (by rw [HLN.out]; omega)])
      obtain ⟨A3, c3, hv3, hr3⟩ := Row.of_own HQ.out.1
      injection hv3 with hv3 _ hc3
      subst hv3 hc3
      have HB3 := Lib.hid HQ.out.2
      clear HQ
      rw [HE.out] at hr3 ⊢
      have HR3 := Lib.hid hr3; clear hr3 HE HGL
      go_wp2_with fail
      go_ret
      exact ⟨_, _, _, rfl, HR3.out, HNW.out.trans (HB3.out.mono HNW.out.size)⟩
end Go.Proofs.Ytnmpbjgccbnomaa
/- The walks of slices.Equal and of graph's Same. -/
namespace Go.Proofs.Ytnmpbjgccbnomaa
open Go.RowKit
theorem sameIB_ne {l m : List Int} {i : Nat} (hi : i < l.length) (h : l.getD i 0 ≠ m.getD i 0) : sameIB l m = false := by
  unfold sameIB
  rw [Bool.and_eq_false_iff]
  right
  rw [List.all_eq_false]
  exact ⟨i, List.mem_range.2 hi, by simpa using h⟩
theorem sameIB_eq {l m : List Int} (hl : l.length = m.length) (h : ∀ i, i < l.length → l.getD i 0 = m.getD i 0) : sameIB l m = true := by
  unfold sameIB
  rw [decide_eq_true hl, Bool.true_and, List.all_eq_true]
  intro i hi
  rw [h i (List.mem_range.1 hi)]
  simp
theorem sameIB_len {l m : List Int} (h : l.length ≠ m.length) : sameIB l m = false := by
  unfold sameIB
  rw [decide_eq_false h, Bool.false_and]
set_option maxRecDepth 100000 in
set_option maxHeartbeats 4000000 in
theorem equalI_any (B : Option Addr) (m k : Nat) (g1 : List Int) (B2 : Option Addr) (m2 k2 : Nat) (g2 : List Int) (w : World) (h1 : IRow w B m k g1) (h2 : IRow w B2 m2 k2 g2) (hm : m ≤ 100000) : Calls Try.prog 33 #[.slice B m k, .slice B2 m2 k2] w (SaysL (.bool (sameIB g1 g2)) w) := by
  have H1 := Lib.hid h1; have H2 := Lib.hid h2
  have HL1 : Hid (g1.length = m) := Lib.hid h1.len; have HL2 : Hid (g2.length = m2) := Lib.hid h2.len
  clear h1 h2
  by_cases hmm : m = m2
  · have b1 : ((m : Int) != (m2 : Int)) = false := by rw [hmm]; simp
    have HMM := Lib.hid hmm
    clear hmm
    have HNO : Hid (∀ i, i < m → g1.getD i 0 ≠ g2.getD i 0 → sameIB g1 g2 = false) := Lib.hid fun i hi h => sameIB_ne (by rw [HL1.out]; exact hi) h
    have HYES : Hid ((∀ i, i < m → g1.getD i 0 = g2.getD i 0) → sameIB g1 g2 = true) := Lib.hid fun h => sameIB_eq (by rw [HL1.out, HL2.out]; exact HMM.out) fun i hi => h i (by rw [← HL1.out]; exact hi)
    generalize sameIB g1 g2 = bb at *
    go_enter Try.func33, Try.ntmps33
    go_wp2_with fail
    clear b1
    go_loopw [13] (fun i wr => ∃ j : Nat, j ≤ m ∧ i = .int .i64 j ∧ Hid ((∀ q, q < j → g1.getD q 0 = g2.getD q 0) ∧ Below w.heap.size w wr)) (fun i _ => m - (intOf i).toNat)
    case atStart => exact ⟨0, Nat.zero_le _, rfl, Lib.hid ⟨fun q h => absurd h (Nat.not_lt_zero _), Below.refl _ _⟩⟩
    case round =>
      obtain ⟨j, hj, rfl, HQ⟩ := hrel
      by_cases hlt : j < m
      · have hlt2 : (j : Int) < (m : Int) := by omega
        obtain ⟨b1, o1, hA, hx⟩ := IRow.cell (H1.out.later HQ.out.2) j hlt
        obtain ⟨b2, o2, hB, hy⟩ := IRow.cell (H2.out.later HQ.out.2) j (by rw [← HMM.out]; exact hlt)
        subst hA hB
        have hlt3 : (j : Int) < (m2 : Int) := by rw [← HMM.out]; exact hlt2
        have HK := Lib.hid HQ.out.1; have HB7 := Lib.hid HQ.out.2
        clear HQ
        have HN0 := Lib.hid (HNO.out j hlt)
        generalize hxa : g1.getD j 0 = x at *
        generalize hya : g2.getD j 0 = y at *
        have HXA := Lib.hid hxa; have HYA := Lib.hid hya
        clear hxa hya
        by_cases k0 : x = y
        · have b0 : (x == y) = true := by rw [k0]; simp
          have b0' : (x != y) = false := by rw [k0]; simp
          have K0 := Lib.hid k0; clear k0
          go_wp2_with fail
          go_quiet (fail)
          go_wp2
          exact ⟨⟨j + 1, hlt, by go_num, Lib.hid ⟨fun q hq => (Nat.lt_or_ge q j).elim (fun h => HK.out q h) (fun h => by rw [show q = j by omega, HXA.out, HYA.out]; exact K0.out), below_nq HB7.out _⟩⟩, by simp [intOf]; omega⟩
        · have b0 : (x == y) = false := by rw [beq_eq_false_iff_ne]; exact k0
          have b0' : (x != y) = true := by rw [bne_iff_ne]; exact k0
          have HE : Hid (bb = false) := Lib.hid (HN0.out k0)
          clear k0
          go_wp2_with fail
          go_quiet (fail)
          go_wp2
          go_ret
          exact ⟨by rw [HE.out]; rfl, below_nq HB7.out _⟩
      · have hlt2 : ¬ (j : Int) < (m : Int) := by omega
        have HE : Hid (bb = true) := Lib.hid (HYES.out fun q hq => HQ.out.1 q (by omega))
        have HB7 := Lib.hid HQ.out.2
        go_wp2_with fail
        go_ret
        exact ⟨by rw [HE.out]; rfl, HB7.out⟩
  · have b1 : ((m : Int) != (m2 : Int)) = true := by rw [bne_iff_ne]; omega
    have HE : Hid (sameIB g1 g2 = false) := Lib.hid (sameIB_len (by rw [HL1.out, HL2.out]; exact hmm))
    generalize sameIB g1 g2 = bb at *
    clear hmm
    go_enter Try.func33, Try.ntmps33
    go_wp2_with fail
    go_ret
    exact ⟨by rw [HE.out]; rfl, Below.refl _ _⟩
def sameLE (l m : List Edg) : Bool := if l.length = m.length then sameEs l m else false
set_option maxRecDepth 100000 in
set_option maxHeartbeats 4000000 in
theorem equalE_any (A : Option Addr) (n c : Nat) (e1 : List Edg) (A2 : Option Addr) (n2 c2 : Nat) (e2 : List Edg) (w : World) (h1 : ERow w A n c e1) (h2 : ERow w A2 n2 c2 e2) (hn : n ≤ 100000) : Calls Try.prog 32 #[.slice A n c, .slice A2 n2 c2] w (SaysL (.bool (sameLE e1 e2)) w) := by
  have H1 := Lib.hid h1; have H2 := Lib.hid h2
  have HL1 : Hid (e1.length = n) := Lib.hid (ERow.len h1); have HL2 : Hid (e2.length = n2) := Lib.hid (ERow.len h2)
  have HV : Hid (sameLE e1 e2 = if n = n2 then sameEs e1 e2 else false) := Lib.hid (by unfold sameLE; rw [HL1.out, HL2.out])
  generalize sameLE e1 e2 = bb at *
  clear h1 h2
  by_cases hmm : n = n2
  · have b1 : ((n : Int) != (n2 : Int)) = false := by rw [hmm]; simp
    rw [if_pos hmm] at HV
    have HMM := Lib.hid hmm
    clear hmm
    go_enter Try.func32, Try.ntmps32
    go_wp2_with fail
    clear b1
    go_loopw [13] (fun i wr => ∃ j : Nat, j ≤ n ∧ i = .int .i64 j ∧ Hid ((∀ q, q < j → sameE (e1.getD q noEdg) (e2.getD q noEdg) = true) ∧ Below w.heap.size w wr)) (fun i _ => n - (intOf i).toNat)
    case atStart => exact ⟨0, Nat.zero_le _, rfl, Lib.hid ⟨fun q h => absurd h (Nat.not_lt_zero _), Below.refl _ _⟩⟩
    case round =>
      obtain ⟨j, hj, rfl, HQ⟩ := hrel
      by_cases hlt : j < n
      · have hlt2 : (j : Int) < (n : Int) := by omega
        obtain ⟨b1, o1, hA, hx0, hx1, hx2⟩ := ERow.three (GRow.later H1.out HQ.out.2) j hlt
        obtain ⟨b2, o2, hB, hy0, hy1, hy2⟩ := ERow.three (GRow.later H2.out HQ.out.2) j (by rw [← HMM.out]; exact hlt)
        subst hA hB
        have hlt3 : (j : Int) < (n2 : Int) := by rw [← HMM.out]; exact hlt2
        have HK := Lib.hid HQ.out.1; have HB7 := Lib.hid HQ.out.2
        clear HQ
        have HT0 : Hid (sameE (e1.getD j noEdg) (e2.getD j noEdg) = false → bb = false) := Lib.hid fun h => by rw [HV.out]; exact sameEs_no (by rw [HL1.out]; exact hlt) h
        obtain ⟨ok, hok⟩ : ∃ ok, sameE (e1.getD j noEdg) (e2.getD j noEdg) = ok := ⟨_, rfl⟩
        have HOK := Lib.hid hok
        rw [hok] at HT0
        unfold sameE at hok
        generalize (e1.getD j noEdg).fr = x0 at *
        generalize (e1.getD j noEdg).tu = x1 at *
        generalize (e1.getD j noEdg).lv = x2 at *
        generalize (e2.getD j noEdg).fr = y0' at *
        generalize (e2.getD j noEdg).tu = y1 at *
        generalize (e2.getD j noEdg).lv = y2 at *
        by_cases k0 : x0 = y0'
        · subst k0
          by_cases k1 : x1 = y1
          · subst k1
            by_cases k2 : x2 = y2
            · subst k2
              have hok2 : ok = true := by rw [← hok]; simp
              subst hok2
              clear hok
              go_wp2_with fail
              go_quiet (fail)
              go_wp2
              exact ⟨⟨j + 1, hlt, by go_num, Lib.hid ⟨fun q hq => (by by_cases hqj : q = j; · rw [hqj]; exact HOK.out
                                                                      · exact HK.out q (by omega)), below_nq HB7.out _⟩⟩, by simp [intOf]; omega⟩
            · have b0 : (x2 == y2) = false := by rw [beq_eq_false_iff_ne]; exact k2
              have HT := Lib.hid (HT0.out (by rw [← hok, b0]; simp))
              clear hok k2
              go_wp2_with fail
              go_quiet (fail)
              go_wp2
              go_ret
              exact ⟨by rw [HT.out]; rfl, below_nq HB7.out _⟩
          · have b0 : (x1 == y1) = false := by rw [beq_eq_false_iff_ne]; exact k1
            have HT := Lib.hid (HT0.out (by rw [← hok, b0]; simp))
            clear hok k1
            go_wp2_with fail
            go_quiet (fail)
            go_wp2
            go_ret
            exact ⟨by rw [HT.out]; rfl, below_nq HB7.out _⟩
        · have b0 : (x0 == y0') = false := by rw [beq_eq_false_iff_ne]; exact k0
          have HT := Lib.hid (HT0.out (by rw [← hok, b0]; simp))
          clear hok k0
          go_wp2_with fail
          go_quiet (fail)
          go_wp2
          go_ret
          exact ⟨by rw [HT.out]; rfl, below_nq HB7.out _⟩
      · have hlt2 : ¬ (j : Int) < (n : Int) := by omega
        have HE : Hid (bb = true) := Lib.hid (by rw [HV.out]; exact sameEs_yes fun q hq => HQ.out.1 q (by have := HL1.out; omega))
        have HB7 := Lib.hid HQ.out.2
        go_wp2_with fail
        go_ret
        exact ⟨by rw [HE.out]; rfl, HB7.out⟩
  · have b1 : ((n : Int) != (n2 : Int)) = true := by rw [bne_iff_ne]; omega
    rw [if_neg hmm] at HV
    clear hmm
    go_enter Try.func32, Try.ntmps32
    go_wp2_with fail
    go_ret
    exact ⟨by rw [HV.out]; rfl, Below.refl _ _⟩
set_option maxRecDepth 100000 in
set_option maxHeartbeats 4000000 in
theorem sameGr_any (G K : Gr) (v u : Value) (w : World) (h : GHold w G v) (h' : GHold w K u) (he : G.es.length ≤ 100000) (hg : G.gn.length ≤ 100000) : Calls Try.prog 8 #[v, u] w (SaysL (.bool (sameG G.sz G.es G.gn K.sz K.es K.gn)) w) := by
  obtain ⟨A, n, c, B, m, k, rfl, h1, h2⟩ := h
  obtain ⟨A2, n2, c2, B2, m2, k2, rfl, h3, h4⟩ := h'
  have hn : n ≤ 100000 := by rw [← ERow.len h1]; exact he
  have hm : m ≤ 100000 := by rw [← h2.len]; exact hg
  have HV : Hid (sameG G.sz G.es G.gn K.sz K.es K.gn = if G.sz = K.sz then (sameLE G.es K.es && sameIB G.gn K.gn) else false) := Lib.hid (by
    unfold sameG sameLE
    split
    · split
      · cases sameIB G.gn K.gn
        · rw [Bool.and_false]; rfl
        · rw [Bool.and_true]; rfl
      · rfl
    · rfl)
  generalize sameG G.sz G.es G.gn K.sz K.es K.gn = bb at *
  have HB0 : Hid (Below w.heap.size w ((w.alloc (.cells #[.int .i64 G.sz, .slice A n c, .slice B m k] 25)).alloc (.cells #[.int .i64 K.sz, .slice A2 n2 c2, .slice B2 m2 k2] 25))) := Lib.hid ((one_new w _).trans ((one_new _ _).mono (by simp)))
  have HX : Hid (((w.alloc (.cells #[.int .i64 G.sz, .slice A n c, .slice B m k] 25)).alloc (.cells #[.int .i64 K.sz, .slice A2 n2 c2, .slice B2 m2 k2] 25)).heap[w.heap.size]? = some (.cells #[.int .i64 G.sz, .slice A n c, .slice B m k] 25 (0, 0))) := Lib.hid ((Below.heap_alloc _ _ _ (by simp)).trans (heap_alloc_new _ _))
  have HY : Hid (((w.alloc (.cells #[.int .i64 G.sz, .slice A n c, .slice B m k] 25)).alloc (.cells #[.int .i64 K.sz, .slice A2 n2 c2, .slice B2 m2 k2] 25)).heap[w.heap.size + 1]? = some (.cells #[.int .i64 K.sz, .slice A2 n2 c2, .slice B2 m2 k2] 25 (0, 0))) := Lib.hid (heap_alloc2_new _ _ _)
  have HE : Hid (∀ y, Below w.heap.size w y → Calls Try.prog 32 #[.slice A n c, .slice A2 n2 c2] y (SaysL (.bool (sameLE G.es K.es)) y)) := Lib.hid fun y h => equalE_any A n c G.es A2 n2 c2 K.es y (GRow.later h1 h) (GRow.later h3 h) hn
  have HI : Hid (∀ y, Below w.heap.size w y → Calls Try.prog 33 #[.slice B m k, .slice B2 m2 k2] y (SaysL (.bool (sameIB G.gn K.gn)) y)) := Lib.hid fun y h => equalI_any B m k G.gn B2 m2 k2 K.gn y (h2.later h) (h4.later h) hm
  generalize sameLE G.es K.es = le at *
  generalize sameIB G.gn K.gn = li at *
  clear h1 h2 h3 h4 he hg
  go_enter Try.func8, Try.ntmps8
  go_upto_region 1 with fail
  generalize ((w.alloc (.cells #[.int .i64 G.sz, .slice A n c, .slice B m k] 25)).alloc (.cells #[.int .i64 K.sz, .slice A2 n2 c2, .slice B2 m2 k2] 25)) = y0 at *
  have hc0 : y0.cell? ⟨w.heap.size, 0, none⟩ = some (.int .i64 G.sz) := (cell_of_row _ _ 0 _ _ _ HX.out).trans rfl
  have hc1 : y0.cell? ⟨w.heap.size, 1, none⟩ = some (.slice A n c) := (cell_of_row _ _ 1 _ _ _ HX.out).trans rfl
  have hd0 : y0.cell? ⟨w.heap.size + 1, 0, none⟩ = some (.int .i64 K.sz) := (cell_of_row _ _ 0 _ _ _ HY.out).trans rfl
  have hd1 : y0.cell? ⟨w.heap.size + 1, 1, none⟩ = some (.slice A2 n2 c2) := (cell_of_row _ _ 1 _ _ _ HY.out).trans rfl
  generalize G.sz = s1 at *
  generalize K.sz = s2 at *
  by_cases hs : s1 = s2
  · have b0 : (s1 == s2) = true := by rw [hs]; simp
    rw [if_pos hs] at HV
    clear hs
    go_wp2_with fail
    refine (HE.out y0 HB0.out).mono ?_
    rintro e w1 ⟨rfl, hb⟩
    have HX1 := Lib.hid ((hb.block _ (Array.getElem?_eq_some_iff.1 HX.out).1).trans HX.out)
    have HY1 := Lib.hid ((hb.block _ (Array.getElem?_eq_some_iff.1 HY.out).1).trans HY.out)
    have HB := Lib.hid (HB0.out.trans (hb.mono HB0.out.size))
    clear hb hc0 hc1 hd0 hd1 HX HY b0
    have hc2 : w1.cell? ⟨w.heap.size, 2, none⟩ = some (.slice B m k) := (cell_of_row _ _ 2 _ _ _ HX1.out).trans rfl
    have hd2 : w1.cell? ⟨w.heap.size + 1, 2, none⟩ = some (.slice B2 m2 k2) := (cell_of_row _ _ 2 _ _ _ HY1.out).trans rfl
    cases le
    · go_wp2_with fail
      go_ret
      exact ⟨by rw [HV.out]; rfl, HB.out⟩
    · go_wp2_with fail
      refine (HI.out w1 HB.out).mono ?_
      rintro e w2 ⟨rfl, hb⟩
      have HB2 := Lib.hid (HB.out.trans (hb.mono HB.out.size))
      clear hb hc2 hd2
      go_wp2_with fail
      go_ret
      exact ⟨by rw [HV.out, Bool.true_and]; rfl, HB2.out⟩
  · have b0 : (s1 == s2) = false := by rw [beq_eq_false_iff_ne]; exact hs
    rw [if_neg hs] at HV
    clear hs
    go_wp2_with fail
    go_ret
    exact ⟨by rw [HV.out]; rfl, HB0.out⟩
end Go.Proofs.Ytnmpbjgccbnomaa
/- Graphs: the walk of the reference's Without. -/
namespace Go.Proofs.Ytnmpbjgccbnomaa
open Go.RowKit
set_option maxRecDepth 100000 in
set_option maxHeartbeats 4000000 in
theorem gwithout_any (G : Gr) (v : Value) (fr tu : Int) (w : World) (h : GHold w G v) (he : G.es.length ≤ 100000) (hg : G.gn.length ≤ 100000) : Calls Try.prog 29 #[v, .int .i64 fr, .int .i64 tu] w (GivesGOE w (withoutG G fr tu)) := by
  have HGH := Lib.hid h
  obtain ⟨A, n, c, B, m, k, rfl, h1, h2⟩ := h
  have hn : n ≤ 100000 := by rw [← ERow.len h1]; exact he
  have HL1 : Hid (G.es.length = n) := Lib.hid (ERow.len h1)
  have HB : Hid (Below w.heap.size w ((w.alloc (.cells #[.int .i64 G.sz, .slice A n c, .slice B m k] 25)).alloc (.cells #[.int .i64 0, .slice none 0 0, .slice none 0 0] 25))) := Lib.hid ((one_new w _).trans ((one_new _ _).mono (by simp)))
  have HX : Hid (((w.alloc (.cells #[.int .i64 G.sz, .slice A n c, .slice B m k] 25)).alloc (.cells #[.int .i64 0, .slice none 0 0, .slice none 0 0] 25)).heap[w.heap.size]? = some (.cells #[.int .i64 G.sz, .slice A n c, .slice B m k] 25 (0, 0))) := Lib.hid ((Below.heap_alloc _ _ _ (by simp)).trans (heap_alloc_new _ _))
  have HR : Hid (((w.alloc (.cells #[.int .i64 G.sz, .slice A n c, .slice B m k] 25)).alloc (.cells #[.int .i64 0, .slice none 0 0, .slice none 0 0] 25)).heap[w.heap.size + 1]? = some (.cells #[.int .i64 0, .slice none 0 0, .slice none 0 0] 25 (0, 0))) := Lib.hid (heap_alloc2_new _ _ _)
  have H1 := Lib.hid h1
  have HCK : Hid (∀ y, Below w.heap.size w y → Calls Try.prog 30 #[.agg #[.int .i64 G.sz, .slice A n c, .slice B m k]] y (SaysL (.int .i64 (checkG G)) y)) := Lib.hid fun y hy => gcheck_any G _ y (HGH.out.later hy) he hg
  have HIX : Hid (∀ y, Below w.heap.size w y → Calls Try.prog 38 #[.agg #[.int .i64 G.sz, .slice A n c, .slice B m k], .int .i64 fr, .int .i64 tu] y fun e2 w' => e2 = .returned (.tuple #[.int .i64 (idxE ⟨fr, tu, 0⟩ G.es : Nat), .bool (thereE ⟨fr, tu, 0⟩ G.es)]) ∧ Below y.heap.size y w') := Lib.hid fun y hy => gindex_any G _ fr tu y (HGH.out.later hy) he
  have HCP : Hid (∀ y, Below w.heap.size w y → Calls Try.prog 22 #[.agg #[.int .i64 G.sz, .slice A n c, .slice B m k]] y (GivesGO y G)) := Lib.hid fun y hy => gcopy_any G _ y (HGH.out.later hy) he hg
  have HRW : Hid (withoutG G fr tu = if okG G = false then (noGr, 14) else if thereE ⟨fr, tu, 0⟩ G.es then (⟨G.sz, G.es.take (idxE ⟨fr, tu, 0⟩ G.es) ++ G.es.drop (idxE ⟨fr, tu, 0⟩ G.es + 1), G.gn⟩, 0) else (noGr, 19)) := Lib.hid rfl
  have HTH : Hid (thereE ⟨fr, tu, 0⟩ G.es = true → idxE ⟨fr, tu, 0⟩ G.es < n) := Lib.hid fun q => by
    unfold thereE at q
    rw [Bool.and_eq_true, decide_eq_true_eq, HL1.out] at q
    exact q.1
  have HCG : Hid (checkG G = if okG G then 0 else 14) := Lib.hid rfl
  generalize withoutG G fr tu = RW at *
  generalize checkG G = CG at *
  clear h1 h2 he hg HGH
  go_enter Try.func29, Try.ntmps29
  go_upto_region 1 with fail
  generalize ((w.alloc (.cells #[.int .i64 G.sz, .slice A n c, .slice B m k] 25)).alloc (.cells #[.int .i64 0, .slice none 0 0, .slice none 0 0] 25)) = y0 at *
  have HSZ : Hid (w.heap.size + 2 ≤ y0.heap.size) := Lib.hid (Array.getElem?_eq_some_iff.1 HR.out).1
  go_wp2_with (refine wpList_load_row rfl 25 (.tmp 3) rfl w.heap.size rfl 25 #[.int .i64 G.sz, .slice A n c, .slice B m k] (0, 0) _ HX.out Try.underlying25 rfl gr_size ?_)
  refine (HCK.out y0 HB.out).mono ?_
  rintro e1 w1 ⟨rfl, hb⟩
  have hs2 : w.heap.size + 2 ≤ y0.heap.size := HSZ.out
  replace HX := Lib.hid ((hb.block _ (by omega)).trans HX.out); replace HR := Lib.hid ((hb.block _ (by omega)).trans HR.out)
  replace HB := Lib.hid (HB.out.trans (hb.mono HB.out.size))
  replace HSZ : Hid (w.heap.size + 2 ≤ w1.heap.size) := Lib.hid (Nat.le_trans hs2 hb.size)
  clear hb hs2
  clear HCK
  cases hok : okG G
  · rw [hok] at HCG HRW
    have HCE : Hid (CG = 14) := Lib.hid HCG.out
    rw [HCE.out]
    have HE : Hid (RW = (noGr, 14)) := Lib.hid (by rw [HRW.out]; rfl)
    clear HCE hok
    go_wp2_with (refine wpList_store_row rfl 25 (.tmp 6) (.tmp 14) rfl (w.heap.size + 1) #[.int .i64 0, .slice none 0 0, .slice none 0 0] rfl rfl 25 _ HR.out gr_size rfl (by simp [Value.oneCell']) ?_)
    refine bodyPost_ret (results_ge rfl rfl rfl (setRow_heap _ _ _ #[.int .i64 0, .slice none 0 0, .slice none 0 0] _ _ HR.out) rfl) rfl ?_
    rw [HE.out]
    exact ⟨_, rfl, GOwn.none _ _, below_setRow HB.out (by omega) _⟩
  · rw [hok] at HCG HRW
    have HCE : Hid (CG = 0) := Lib.hid HCG.out
    rw [HCE.out]
    replace HRW : Hid (RW = if thereE ⟨fr, tu, 0⟩ G.es then (⟨G.sz, G.es.take (idxE ⟨fr, tu, 0⟩ G.es) ++ G.es.drop (idxE ⟨fr, tu, 0⟩ G.es + 1), G.gn⟩, 0) else (noGr, 19)) := Lib.hid (by rw [HRW.out]; rfl)
    clear HCE HCG hok CG
    go_wp2_with (refine wpList_load_row rfl 25 (.tmp 3) rfl w.heap.size rfl 25 #[.int .i64 G.sz, .slice A n c, .slice B m k] (0, 0) _ HX.out Try.underlying25 rfl gr_size ?_)
    refine (HIX.out w1 HB.out).mono ?_
    rintro e1 w2 ⟨rfl, hb⟩
    have hs2 : w.heap.size + 2 ≤ w1.heap.size := HSZ.out
    replace HX := Lib.hid ((hb.block _ (by omega)).trans HX.out); replace HR := Lib.hid ((hb.block _ (by omega)).trans HR.out)
    replace HB := Lib.hid (HB.out.trans (hb.mono HB.out.size))
    replace HSZ : Hid (w.heap.size + 2 ≤ w2.heap.size) := Lib.hid (Nat.le_trans hs2 hb.size)
    clear hb hs2
    clear HIX
    cases hth : thereE ⟨fr, tu, 0⟩ G.es
    · have HE : Hid (RW = (noGr, 19)) := Lib.hid (by rw [HRW.out, if_neg (by rw [hth]; decide)])
      clear hth
      go_wp2_with (refine wpList_store_row rfl 25 (.tmp 6) (.tmp 24) rfl (w.heap.size + 1) #[.int .i64 0, .slice none 0 0, .slice none 0 0] rfl rfl 25 _ HR.out gr_size rfl (by simp [Value.oneCell']) ?_)
      refine bodyPost_ret (results_ge rfl rfl rfl (setRow_heap _ _ _ #[.int .i64 0, .slice none 0 0, .slice none 0 0] _ _ HR.out) rfl) rfl ?_
      rw [HE.out]
      exact ⟨_, rfl, GOwn.none _ _, below_setRow HB.out (by omega) _⟩
    · have hK : idxE ⟨fr, tu, 0⟩ G.es < n := HTH.out hth
      replace HRW : Hid (RW = (⟨G.sz, G.es.take (idxE ⟨fr, tu, 0⟩ G.es) ++ G.es.drop (idxE ⟨fr, tu, 0⟩ G.es + 1), G.gn⟩, 0)) := Lib.hid (by rw [HRW.out, if_pos hth])
      clear hth HTH
      go_wp2_with (refine wpList_load_row rfl 25 (.tmp 3) rfl w.heap.size rfl 25 #[.int .i64 G.sz, .slice A n c, .slice B m k] (0, 0) _ HX.out Try.underlying25 rfl gr_size ?_)
      refine (HCP.out w2 HB.out).mono ?_
      rintro e1 w5 ⟨v5, rfl, ⟨ve, vg, rfl, ho1, ho2⟩, hb⟩
      have HG2 := Lib.hid ho2
      have HB45 := Lib.hid HSZ.out
      have hs2 : w.heap.size + 2 ≤ w2.heap.size := HSZ.out
      replace HX := Lib.hid ((hb.block _ (by omega)).trans HX.out); replace HR := Lib.hid ((hb.block _ (by omega)).trans HR.out)
      replace HB := Lib.hid (HB.out.trans (hb.mono HB.out.size))
      replace HSZ : Hid (w.heap.size + 2 ≤ w5.heap.size) := Lib.hid (Nat.le_trans hs2 hb.size)
      clear hb hs2
      clear HCP
      obtain ⟨Ae, ce, rfl, -⟩ := Row.of_own ho1
      obtain ⟨Ag, cg, rfl, -⟩ := Row.of_own ho2
      clear ho1 ho2
      go_upto_region 7 with (refine wpList_store_new rfl 25 (.tmp 10) (.tmp 26) rfl 25 _ #[.int .i64 G.sz, .slice Ae G.es.length ce, .slice Ag G.gn.length cg] rfl rfl gr_size rfl (by simp [Value.oneCell']) ?_)
      have HN5 := Lib.hid (one_new w5 (.cells #[.int .i64 G.sz, .slice Ae G.es.length ce, .slice Ag G.gn.length cg] 25))
      have HO8 : Hid ((w5.alloc (.cells #[.int .i64 G.sz, .slice Ae G.es.length ce, .slice Ag G.gn.length cg] 25)).heap[w5.heap.size]? = some (.cells #[.int .i64 G.sz, .slice Ae G.es.length ce, .slice Ag G.gn.length cg] 25 (0, 0))) := Lib.hid (heap_alloc_new _ _)
      have HG3 := Lib.hid (own_keepL HG2.out fun q hq => HN5.out.block _ (own_lt HG2.out q hq))
      have HGL : Hid (∀ q, (Value.slice Ag G.gn.length cg).ownBlock = some q → q < w5.heap.size) := Lib.hid fun q hq => own_lt HG2.out q hq
      have hb := HN5.out
      clear HN5 HG2
      have hs3 : w.heap.size + 2 ≤ w5.heap.size := HSZ.out
      replace HX := Lib.hid ((hb.block _ (by omega)).trans HX.out); replace HR := Lib.hid ((hb.block _ (by omega)).trans HR.out)
      replace HB := Lib.hid (HB.out.trans (hb.mono HB.out.size))
      clear hb
      obtain ⟨g8, hg8⟩ : ∃ g8, w5.heap.size = g8 := ⟨_, rfl⟩
      rw [hg8] at HO8 HGL hs3 ⊢
      have HS8 : Hid ((w5.alloc (.cells #[.int .i64 G.sz, .slice Ae G.es.length ce, .slice Ag G.gn.length cg] 25)).heap.size = g8 + 1) := Lib.hid (by rw [← hg8]; simp)
      have HG83 : Hid (w.heap.size + 2 ≤ g8) := Lib.hid hs3
      clear hg8 hs3 HSZ
      generalize w5.alloc (.cells #[.int .i64 G.sz, .slice Ae G.es.length ce, .slice Ag G.gn.length cg] 25) = u0 at *
      generalize hke : idxE ⟨fr, tu, 0⟩ G.es = K at *
      clear hke
      have HVR : Hid (ERow u0 A n c G.es) := Lib.hid (GRow.later H1.out HB.out)
      have hs1 := fun w' => run_slice_to (P := Try.prog) (t := 22) Try.underlying22 edg_size (w0 := u0) HVR.out (i := (K : Int)) rfl (Nat.le_of_lt hK) .i64 w'
      have hs2 := fun w' => run_slice_from (P := Try.prog) (t := 22) Try.underlying22 edg_size (A := A) (n := n) (c := c) (k := K + 1) (i := (K : Int) + 1) (by omega) hK .i64 w'
      dsimp only [Act.put]
      refine wp_region_grow (by kernel_rfl) (Below g8) (Below.refl g8) (fun _ _ _ => Below.trans) [] [([0, 1, 2, 3, 5, 6, 7, 8, 9], 4), ([], 10), ([11], 12)] (by kernel_rfl) (by kernel_rfl) (by kernel_rfl) ?_
      simp only [List.map_cons, List.map_nil, pick, List.getD_cons_zero, List.getD_cons_succ]
      have HBD : Hid (Below w.heap.size w u0.drew) := Lib.hid HB.out.drew
      have HVD : Hid (ERow u0.drew A n c G.es) := Lib.hid (GRow.later H1.out HBD.out)
      have HXD : Hid (u0.drew.heap[w.heap.size]? = some (.cells #[.int .i64 G.sz, .slice A n c, .slice B m k] 25 (0, 0))) := Lib.hid HX.out
      have HRD : Hid (u0.drew.heap[w.heap.size + 1]? = some (.cells #[.int .i64 0, .slice none 0 0, .slice none 0 0] 25 (0, 0))) := Lib.hid HR.out
      have HOD : Hid (u0.drew.heap[g8]? = some (.cells #[.int .i64 G.sz, .slice Ae G.es.length ce, .slice Ag G.gn.length cg] 25 (0, 0))) := Lib.hid HO8.out
      have HGD : Hid (u0.drew.ownsRow w2.heap.size 3 1 (.slice Ag G.gn.length cg) G.gn.length (intsV G.gn)) := Lib.hid HG3.out
      have HN0 : Hid (g8 + 1 ≤ u0.drew.heap.size) := Lib.hid (Nat.le_of_eq HS8.out.symm)
      have HSE : Hid (u0.drew.heap.size = g8 + 1) := Lib.hid HS8.out
      clear HB HVR HX HR HO8 HG3 HS8
      generalize u0.drew = z0 at *
      have HLT : Hid (ERow z0 A K c (G.es.take K)) := Lib.hid (GRow.take Edg.len (by decide) HVD.out K (Nat.le_of_lt hK))
      have HLD : Hid (ERow z0 (dropA A c (K + 1) 3) (n - (K + 1)) (c - (K + 1)) (G.es.drop (K + 1))) := Lib.hid (GRow.drop Edg.len HVD.out (K + 1) hK)
      generalize dropA A c (K + 1) 3 = AD at hs2 HLD
      generalize G.es.take K = l1 at *
      generalize G.es.drop (K + 1) = l2 at *
      have HK1 : Hid (l1.length = K) := Lib.hid (ERow.len HLT.out)
      have HK2 : Hid (l2.length = n - (K + 1)) := Lib.hid (ERow.len HLD.out)
      have hg83 := HG83.out
      have hf1 : ∀ x, (fut (Below g8) z0 x).cell? ⟨w.heap.size, 1, none⟩ = some (.slice A n c) := fun x => (cell_of_row _ _ 1 _ _ _ (((fut_ok (Below.refl g8) z0 x).block _ (by omega)).trans HXD.out)).trans rfl
      refine wpGrow_cons ?_
      repeat (go_big_quiet_step (fail))
      refine wpQuiet_nil ?_
      clear hf1 hs1 hs2
      go_wp2_with (at_builtin; go_must (refine wpList_app z0 rfl (.const (.slice none 0 0)) (.tmp 30) 22 22 27 rfl (g8 + 1) Try.underlying22 edg_info rfl _ 0 [] (World.ownsRow_nil _ _ _ _) rfl _ K (rowC Edg.cells l1) (Row.src HLT.out Try.underlying22 (rowC_ones Edg.ones _)) rfl (by unfold maxLen; omega) (by omega) HN0.out ?_); intro v1 z1 ho hb; rw [Nat.zero_add, List.nil_append] at ho; have HO1 := Lib.hid ho; have HZN : Hid (Below (g8 + 1) z0 z1) := Lib.hid hb; clear ho hb)
      refine pieceEnd_normal ⟨HZN.out.mono (Nat.le_succ g8), ?_⟩
      have HN1 : Hid (g8 + 1 ≤ z1.heap.size) := Lib.hid (Nat.le_trans HN0.out HZN.out.size)
      have HD1 : Hid (ERow z1 AD (n - (K + 1)) (c - (K + 1)) l2) := Lib.hid (GRow.later HLD.out (by have h := HZN.out; rw [← HSE.out] at h; exact h))
      refine wpGrow_cons ?_
      refine wpQuiet_nil ?_
      go_wp2_with (at_builtin; go_must (refine wpList_app2 z1 rfl (.tmp 31) (.tmp 36) 22 22 27 rfl (g8 + 1) Try.underlying22 edg_info rfl _ K _ HO1.out rfl _ (n - (K + 1)) (rowC Edg.cells l2) (Row.src HD1.out Try.underlying22 (rowC_ones Edg.ones _)) rfl (by unfold maxLen; omega) (by omega) HN1.out ?_); intro v2 z5 ho hb _ _; have HO2 := Lib.hid ho; have HZ2 : Hid (Below (g8 + 1) z1 z5) := Lib.hid hb; clear ho hb)
      refine pieceEnd_normal ⟨HZ2.out.mono (Nat.le_succ g8), ?_⟩
      replace HZN : Hid (Below (g8 + 1) z0 z5) := Lib.hid (HZN.out.trans HZ2.out)
      have HZ : Hid (Below g8 z0 z5) := Lib.hid (HZN.out.mono (Nat.le_succ g8))
      have HO7 : Hid (z5.ownsRow (g8 + 1) 27 3 v2 (K + (n - (K + 1))) (rowC Edg.cells (l1 ++ l2))) := Lib.hid (by rw [rowC_app]; exact HO2.out)
      clear HO1 HO2 HD1 HZ2 HN1
      obtain ⟨A5, c5, rfl, -⟩ := Row.of_own HO7.out
      have HO85 : Hid (z5.heap[g8]? = some (.cells #[.int .i64 G.sz, .slice Ae G.es.length ce, .slice Ag G.gn.length cg] 25 (0, 0))) := Lib.hid ((HZN.out.block g8 (Nat.lt_succ_self g8)).trans HOD.out)
      refine wpGrow_cons ?_
      repeat (go_big_quiet_step (fail))
      refine wpQuiet_nil ?_
      have hz1 : z5.cell? ⟨g8, 1, none⟩ = some (.slice Ae G.es.length ce) := (cell_of_row _ _ 1 _ _ _ HO85.out).trans rfl
      have hfz : z5.frozen? ⟨g8, 1, none⟩ = false := by unfold World.frozen?; rw [HO85.out]; simp
      go_wp2_with fail
      have HF : Hid (Below g8 z5 (z5.setCell ⟨g8, 1, none⟩ (.slice A5 (K + (n - (K + 1))) c5))) := Lib.hid ((Below.refl _ _).setCell (p := ⟨g8, 1, none⟩) (Nat.le_refl g8) _)
      refine pieceEnd_normal ⟨HF.out, ?_⟩
      have HO9 : Hid ((z5.setCell ⟨g8, 1, none⟩ (.slice A5 (K + (n - (K + 1))) c5)).heap[g8]? = some (.cells #[.int .i64 G.sz, .slice A5 (K + (n - (K + 1))) c5, .slice Ag G.gn.length cg] 25 (0, 0))) := Lib.hid (heap_setCell_same z5 g8 1 _ _ _ HO85.out)
      have HKC : Hid (∀ q, q ≠ g8 → (z5.setCell ⟨g8, 1, none⟩ (.slice A5 (K + (n - (K + 1))) c5)).heap[q]? = z5.heap[q]?) := Lib.hid fun q hq => Below.heap_setCell z5 ⟨g8, 1, none⟩ _ q hq
      have HO10 := Lib.hid (own_keepL HO7.out fun q hq => HKC.out q (by have := own_ge HO7.out q hq; omega))
      have HG10 := Lib.hid (own_keepL HGD.out fun q hq => (HKC.out q (Nat.ne_of_lt (HGL.out q hq))).trans (HZ.out.block q (HGL.out q hq)))
      have HB10 : Hid (Below w.heap.size w (z5.setCell ⟨g8, 1, none⟩ (.slice A5 (K + (n - (K + 1))) c5))) := Lib.hid (HBD.out.trans ((HZ.out.trans HF.out).mono (by omega)))
      have HR10 : Hid ((z5.setCell ⟨g8, 1, none⟩ (.slice A5 (K + (n - (K + 1))) c5)).heap[w.heap.size + 1]? = some (.cells #[.int .i64 0, .slice none 0 0, .slice none 0 0] 25 (0, 0))) := Lib.hid ((HKC.out _ (by omega)).trans ((HZ.out.block _ (by omega)).trans HRD.out))
      clear hz1 hfz HF HO85 HO7 HKC
      generalize z5.setCell ⟨g8, 1, none⟩ (.slice A5 (K + (n - (K + 1))) c5) = z6 at *
      refine wpGrow_nil ?_
      repeat (go_big_quiet_step (fail))
      refine wpQuiet_nil ?_
      go_wp2_with (first | (refine wpList_load_row rfl 25 (.tmp 10) rfl g8 rfl 25 #[.int .i64 G.sz, .slice A5 (K + (n - (K + 1))) c5, .slice Ag G.gn.length cg] (0, 0) _ HO9.out Try.underlying25 rfl gr_size ?_) | (refine wpList_store_row rfl 25 (.tmp 6) (.tmp 39) rfl (w.heap.size + 1) #[.int .i64 G.sz, .slice A5 (K + (n - (K + 1))) c5, .slice Ag G.gn.length cg] rfl rfl 25 _ HR10.out gr_size rfl (by simp [Value.oneCell']) ?_))
      refine bodyPost_ret (results_ge rfl rfl rfl (setRow_heap _ _ _ #[.int .i64 G.sz, .slice A5 (K + (n - (K + 1))) c5, .slice Ag G.gn.length cg] _ _ HR10.out) rfl) rfl ?_
      have HLE : Hid ((l1 ++ l2).length = K + (n - (K + 1))) := Lib.hid (by rw [List.length_append, HK1.out, HK2.out])
      rw [HRW.out]
      refine ⟨_, rfl, ?_, below_setRow HB10.out (by omega) _⟩
      refine ⟨_, _, rfl, ?_, ?_⟩
      · rw [HLE.out]
        exact own_base (own_keepL HO10.out fun q hq => setRow_other _ _ _ _ (by have := own_ge HO10.out q hq; omega)) (by omega)
      · exact own_base (own_keepL HG10.out fun q hq => setRow_other _ _ _ _ (by have := own_ge HG10.out q hq; have := HB45.out; omega)) (by have := HB45.out; omega)
end Go.Proofs.Ytnmpbjgccbnomaa
