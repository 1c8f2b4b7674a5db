import Derived.Test.YtdildmfjekdlgaaPackBD
import Derived.Test.YtdildmfjekdlgaaPackAQ
import Derived.Shelf.Abstract
import Derived.Test.YtdildmfjekdlgaaPackBC
import Derived.Test.YtdildmfjekdlgaaCaAllP
import Derived.Test.YtdildmfjekdlgaaPackAP
import Derived.Test.YtdildmfjekdlgaaPackAN
import Derived.Test.YtdildmfjekdlgaaCaBoundP
/- The walk of graph's Level. -/
namespace Go.Proofs.Ytdildmfjekdlgaa
open Go.RowKit
set_option maxRecDepth 100000 in
set_option maxHeartbeats 4000000 in
theorem level1Gr_any (lv : Int) (bt : Nat) (p : Edg) (w : World) (ht : w.cell? ⟨bt, 0, none⟩ = some (.int .i64 lv)) (hb : bt < w.heap.size) : Calls Try.prog 56 #[.agg p.arr, .pointer (some ⟨bt, 0, none⟩)] w (SaysL (.bool (decide (p.lv < lv))) w) := by
  have ht2 : (w.alloc (.cells p.arr 45)).cell? ⟨bt, 0, none⟩ = some (.int .i64 lv) := (Below.cell (one_new w _) hb).trans ht
  have HN := Lib.hid (one_new w (.cells p.arr 45))
  obtain ⟨-, -, hp⟩ := edg_cells (heap_alloc_new w (.cells p.arr 45))
  clear ht
  go_enter Try.func56, Try.ntmps56
  go_wp2_with fail
  go_ret
  exact ⟨rfl, HN.out⟩
set_option maxRecDepth 100000 in
set_option maxHeartbeats 4000000 in
theorem levelGr_own (G : Gr) (A : Option Addr) (n c : Nat) (B : Option Addr) (m k : Nat) (lv : Int) (w : World) (h1 : ERow w A n c G.es) (h2 : IRow w B m k G.gn) (he : G.es.length ≤ 100000) : Calls Try.prog 36 #[.agg #[.int .i64 G.sz, .slice A n c, .slice B m k], .int .i64 lv] w fun x w' => ∃ A2 c2, x = .returned (.agg #[.int .i64 G.sz, .slice A2 (levelG G lv).es.length c2, .slice B m k]) ∧ w'.ownsRow w.heap.size 45 3 (.slice A2 (levelG G lv).es.length c2) (levelG G lv).es.length (rowC Edg.cells (levelG G lv).es) ∧ Below w.heap.size w w' := by
  have hn : n ≤ 100000 := by rw [← ERow.len h1]; exact he
  have HB : Hid (Below w.heap.size w (((w.alloc (.cells #[.int .i64 G.sz, .slice A n c, .slice B m k] 31)).alloc (.cells #[.int .i64 lv] 3)).alloc (.cells #[.int .i64 0, .slice none 0 0, .slice none 0 0] 31))) := Lib.hid (((one_new w _).trans ((one_new _ _).mono (by simp))).trans ((one_new _ _).mono (by simp; omega)))
  have HX : Hid ((((w.alloc (.cells #[.int .i64 G.sz, .slice A n c, .slice B m k] 31)).alloc (.cells #[.int .i64 lv] 3)).alloc (.cells #[.int .i64 0, .slice none 0 0, .slice none 0 0] 31)).heap[w.heap.size]? = some (.cells #[.int .i64 G.sz, .slice A n c, .slice B m k] 31 (0, 0))) := Lib.hid ((Below.heap_alloc _ _ _ (by simp; omega)).trans ((Below.heap_alloc _ _ _ (by simp)).trans (heap_alloc_new _ _)))
  have HY : Hid ((((w.alloc (.cells #[.int .i64 G.sz, .slice A n c, .slice B m k] 31)).alloc (.cells #[.int .i64 lv] 3)).alloc (.cells #[.int .i64 0, .slice none 0 0, .slice none 0 0] 31)).heap[w.heap.size + 1]? = some (.cells #[.int .i64 lv] 3 (0, 0))) := Lib.hid ((Below.heap_alloc _ _ _ (by simp)).trans (heap_alloc2_new _ _ _))
  have HR : Hid ((((w.alloc (.cells #[.int .i64 G.sz, .slice A n c, .slice B m k] 31)).alloc (.cells #[.int .i64 lv] 3)).alloc (.cells #[.int .i64 0, .slice none 0 0, .slice none 0 0] 31)).heap[w.heap.size + 2]? = some (.cells #[.int .i64 0, .slice none 0 0, .slice none 0 0] 31 (0, 0))) := Lib.hid (by
    have h := heap_alloc_new ((w.alloc (.cells #[.int .i64 G.sz, .slice A n c, .slice B m k] 31)).alloc (.cells #[.int .i64 lv] 3)) (.cells #[.int .i64 0, .slice none 0 0, .slice none 0 0] 31)
    rw [show ((w.alloc (.cells #[.int .i64 G.sz, .slice A n c, .slice B m k] 31)).alloc (.cells #[.int .i64 lv] 3)).heap.size = w.heap.size + 2 by simp] at h
    exact h)
  have H2 := Lib.hid h2
  have HCL : Hid (∀ y, Below w.heap.size w y → Calls Try.prog 55 #[.slice A n c] y fun e w' => ∃ v, e = .returned v ∧ w'.ownsRow y.heap.size 45 3 v G.es.length (rowC Edg.cells G.es) ∧ Below y.heap.size y w') := Lib.hid fun y h => cloneEd_any A n c G.es y (GRow.later h1 h) hn
  have HEN : Hid (∀ args w, (callFunc 56 args).run Try.prog w = .ok (.enter 56 args) w) := Lib.hid (enters_of Try.func56 (by kernel_rfl) rfl)
  have HFL : Hid (G.es.filter (fun e => !decide (e.lv < lv)) = (levelG G lv).es) := Lib.hid (by
    unfold levelG
    show _ = G.es.filter (fun e => decide (lv ≤ e.lv))
    congr 1
    funext e
    by_cases h : lv ≤ e.lv
    · rw [decide_eq_true h, decide_eq_false (by omega)]; rfl
    · rw [decide_eq_false h, decide_eq_true (by omega)]; rfl)
  generalize levelG G lv = K at *
  clear h1 h2
  go_enter Try.func36, Try.ntmps36
  go_upto_region 1 with fail
  generalize (((w.alloc (.cells #[.int .i64 G.sz, .slice A n c, .slice B m k] 31)).alloc (.cells #[.int .i64 lv] 3)).alloc (.cells #[.int .i64 0, .slice none 0 0, .slice none 0 0] 31)) = y0 at *
  have HSZ : Hid (w.heap.size + 3 ≤ y0.heap.size) := Lib.hid (Array.getElem?_eq_some_iff.1 HR.out).1
  have hc1 : y0.cell? ⟨w.heap.size, 1, none⟩ = some (.slice A n c) := (cell_of_row _ _ 1 _ _ _ HX.out).trans rfl
  go_wp2_with fail
  refine (HCL.out y0 HB.out).mono ?_
  rintro e w1 ⟨v1, rfl, ho, hb⟩
  have HO := Lib.hid ho
  have hs3 : w.heap.size + 3 ≤ y0.heap.size := HSZ.out
  replace HX := Lib.hid ((hb.block _ (by omega)).trans HX.out); replace HY := Lib.hid ((hb.block _ (by omega)).trans HY.out); replace HR := Lib.hid ((hb.block _ (by omega)).trans HR.out)
  replace HB := Lib.hid (HB.out.trans (hb.mono HB.out.size))
  have HDF := Lib.hid (delFuncEd_any (fun e => decide (e.lv < lv)) 56 #[.pointer (some ⟨w.heap.size + 1, 0, none⟩)] y0.heap.size v1 G.es.length G.es w1 ho hb.size he HEN.out fun y p hby => level1Gr_any lv (w.heap.size + 1) p y ((cell_of_row _ _ 0 _ _ _ ((hby.block _ (by omega)).trans HY.out)).trans rfl) (by have h1 := hby.size; have h2 := hb.size; omega))
  have HS1 : Hid (y0.heap.size ≤ w1.heap.size) := Lib.hid hb.size
  clear hb hc1 HCL ho
  go_wp2_with fail
  refine HDF.out.mono ?_
  rintro e w2 ⟨v2, rfl, ho, hb⟩
  rw [HFL.out] at ho
  obtain ⟨A2, c2, rfl, hr2⟩ := Row.of_own ho
  have HR2 : Hid (ERow w2 A2 K.es.length c2 K.es) := Lib.hid hr2
  have HO2 := Lib.hid ho
  replace HX := Lib.hid ((hb.block _ (by omega)).trans HX.out); replace HR := Lib.hid ((hb.block _ (by omega)).trans HR.out)
  replace HB := Lib.hid (HB.out.trans (hb.mono (by omega)))
  clear hb hr2 ho HDF HY HEN
  have hfz : w2.frozen? ⟨w.heap.size, 1, none⟩ = false := by unfold World.frozen?; rw [HX.out]; simp
  have hc1 : w2.cell? ⟨w.heap.size, 1, none⟩ = some (.slice A n c) := (cell_of_row _ _ 1 _ _ _ HX.out).trans rfl
  go_upto_region 2 with fail
  have HX3 : Hid ((w2.setCell ⟨w.heap.size, 1, none⟩ (.slice A2 K.es.length c2)).heap[w.heap.size]? = some (.cells #[.int .i64 G.sz, .slice A2 K.es.length c2, .slice B m k] 31 (0, 0))) := Lib.hid (heap_setCell_same w2 w.heap.size 1 _ _ _ HX.out)
  have HKC : Hid (∀ q, q ≠ w.heap.size → (w2.setCell ⟨w.heap.size, 1, none⟩ (.slice A2 K.es.length c2)).heap[q]? = w2.heap[q]?) := Lib.hid fun q hq => Below.heap_setCell w2 ⟨w.heap.size, 1, none⟩ _ q hq
  have HB3 : Hid (Below w.heap.size w (w2.setCell ⟨w.heap.size, 1, none⟩ (.slice A2 K.es.length c2))) := Lib.hid (HB.out.setCell (p := ⟨w.heap.size, 1, none⟩) (Nat.le_refl _) _)
  have HR3 := Lib.hid ((HKC.out (w.heap.size + 2) (by omega)).trans HR.out)
  have HO3 := Lib.hid (own_keepL HO2.out fun q hq => HKC.out q (by have := own_ge HO2.out q hq; omega))
  clear hfz hc1 HKC HX HR HO2 HR2 HB
  generalize w2.setCell ⟨w.heap.size, 1, none⟩ (.slice A2 K.es.length c2) = w3 at *
  go_wp2_with (first | (refine wpList_load_row rfl 31 (.tmp 2) rfl w.heap.size rfl 31 #[.int .i64 G.sz, .slice A2 K.es.length c2, .slice B m k] (0, 0) _ HX3.out Try.underlying31 rfl gr_size ?_) | (refine wpList_store_row rfl 31 (.tmp 4) (.tmp 11) rfl (w.heap.size + 2) #[.int .i64 G.sz, .slice A2 K.es.length c2, .slice B m k] rfl rfl 31 _ HR3.out gr_size rfl (by simp [Value.oneCell']) ?_))
  refine bodyPost_ret (v := .agg #[.int .i64 G.sz, .slice A2 K.es.length c2, .slice B m k]) (results_cell_row rfl _ _ (w.heap.size + 2) 31 #[.int .i64 G.sz, .slice A2 K.es.length c2, .slice B m k] (0, 0) _ rfl (setRow_heap _ _ _ #[.int .i64 G.sz, .slice A2 K.es.length c2, .slice B m k] _ _ HR3.out) Try.underlying31 rfl gr_size) rfl ?_
  have hbf : Below w.heap.size w (w3.setRow (w.heap.size + 2) #[.int .i64 G.sz, .slice A2 K.es.length c2, .slice B m k]) := below_setRow HB3.out (by omega) _
  exact ⟨A2, c2, rfl, own_mono (own_keepL HO3.out fun q hq => setRow_other w3 (w.heap.size + 2) q #[.int .i64 G.sz, .slice A2 K.es.length c2, .slice B m k] (by have := own_ge HO3.out q hq; omega)) (by omega), hbf⟩
theorem levelGr_any (G : Gr) (v : Value) (lv : Int) (w : World) (h : GHold w G v) (he : G.es.length ≤ 100000) : Calls Try.prog 36 #[v, .int .i64 lv] w (GivesG w (levelG G lv)) := by
  obtain ⟨A, n, c, B, m, k, rfl, h1, h2⟩ := h
  refine (levelGr_own G A n c B m k lv w h1 h2 he).mono ?_
  rintro x w' ⟨A2, c2, rfl, ho, hb⟩
  refine ⟨_, rfl, ⟨A2, _, c2, B, m, k, rfl, ?_, h2.later hb⟩, hb⟩
  obtain ⟨A4, c4, hv4, hr4⟩ := Row.of_own ho
  injection hv4 with e1 _ e2
  subst e1 e2
  exact hr4
end Go.Proofs.Ytdildmfjekdlgaa
/- The walk of capacity's All. -/
namespace Go.Proofs.Ytdildmfjekdlgaa
open Go.RowKit
set_option maxRecDepth 100000 in
set_option maxHeartbeats 4000000 in
theorem capAll_any (G : Gr) (gv : Value) (p : Pol) (v : Value) (w : World) (hg : GHold w G gv) (hgd : Good11 G) (h : PHold w p v) (hs : p.sd.length ≤ 100000) : Calls Try.prog 20 #[gv, v] w (GivesOI w (capsG G p)) := by
  have HGH := Lib.hid hg; have HPH := Lib.hid h
  obtain ⟨A9, n9, c9, B9, m9, k9, rfl, g1, g2⟩ := hg
  obtain ⟨A, n, c, B, m, k, rfl, h1, h2⟩ := h
  have HN := Lib.hid ((one_new w (.cells #[.int .i64 G.sz, .slice A9 n9 c9, .slice B9 m9 k9] 31)).trans ((one_new (w.alloc (.cells #[.int .i64 G.sz, .slice A9 n9 c9, .slice B9 m9 k9] 31)) (.cells #[.slice A n c, .slice B m k, .int .i64 p.lv] 24)).mono (by simp)))
  have HG : Hid (((w.alloc (.cells #[.int .i64 G.sz, .slice A9 n9 c9, .slice B9 m9 k9] 31)).alloc (.cells #[.slice A n c, .slice B m k, .int .i64 p.lv] 24)).heap[w.heap.size]? = some (.cells #[.int .i64 G.sz, .slice A9 n9 c9, .slice B9 m9 k9] 31 (0, 0))) := Lib.hid ((Below.heap_alloc _ _ _ (by simp)).trans (heap_alloc_new _ _))
  have HX : Hid (((w.alloc (.cells #[.int .i64 G.sz, .slice A9 n9 c9, .slice B9 m9 k9] 31)).alloc (.cells #[.slice A n c, .slice B m k, .int .i64 p.lv] 24)).heap[w.heap.size + 1]? = some (.cells #[.slice A n c, .slice B m k, .int .i64 p.lv] 24 (0, 0))) := Lib.hid (heap_alloc2_new _ _ _)
  have H1 := Lib.hid h1; have H2 := Lib.hid h2
  have hn : n ≤ 100000 := by rw [← h1.len]; exact hs
  have hlo := hgd.lo
  have hhi := hgd.hi
  obtain ⟨z, hz⟩ : ∃ z : Nat, G.sz.toNat = z := ⟨_, rfl⟩
  have hz64 : z ≤ 64 := by omega
  have HCL : Hid ((capsG G p).length = z) := Lib.hid (by rw [capsG_len hgd p, hz])
  have HDL : Hid ((distP G p).length = z) := Lib.hid (by rw [(distP_dist hgd p).len, hz])
  have HSN : Hid (∀ j, j < z → (capsG G p).take (j + 1) = (capsG G p).take j ++ [capT p.tb (dAt (distP G p) (j : Int))]) := Lib.hid fun j hj => capsG_snoc hgd p j (by rw [hz]; exact hj)
  have HCK : Hid (∀ y, Below w.heap.size w y → Calls Try.prog 34 #[.agg #[.int .i64 G.sz, .slice A9 n9 c9, .slice B9 m9 k9]] y (SaysL (.int .i64 0) y)) := Lib.hid fun y hb => by
    have h := checkGr_any G _ y (HGH.out.later hb) hgd.few.1 hgd.few.2
    rw [show checkG G = 0 by unfold checkG; rw [(okG_iff G).2 hgd]; rfl] at h
    exact h
  have HLV : Hid (∀ y, Below w.heap.size w y → Calls Try.prog 36 #[.agg #[.int .i64 G.sz, .slice A9 n9 c9, .slice B9 m9 k9], .int .i64 p.lv] y (GivesG y (levelG G p.lv))) := Lib.hid fun y hb => levelGr_any G _ p.lv y (HGH.out.later hb) hgd.few.1
  have HAL : Hid (∀ y v2, GHold y (levelG G p.lv) v2 → Below w.heap.size w y → Calls Try.prog 35 #[v2, .slice A n c] y fun e w' => ∃ gd, e = .returned (.slice (some ⟨gd, 0, none⟩) z z) ∧ IRow w' (some ⟨gd, 0, none⟩) z z (distP G p) ∧ Below y.heap.size y w') := Lib.hid fun y v2 h2 hb => (all_any (levelG G p.lv) v2 A n c p.sd y h2 (good_level hgd _) (h1.later hb) hn).mono (by
    rintro e w' ⟨gd, rfl, hd, -, hb⟩
    have he : (levelG G p.lv).sz.toNat = z := hz
    rw [he]
    exact ⟨gd, rfl, hd.row' (by rw [← hz]; exact (distP_dist hgd p).len), hb⟩)
  have HOF : Hid (∀ y d, Below w.heap.size w y → Calls Try.prog 11 #[.agg #[.slice A n c, .slice B m k, .int .i64 p.lv], .int .i64 d] y (SaysL (.int .i64 (capT p.tb d)) y)) := Lib.hid fun y d hb => capOf_any p _ d y (HPH.out.later hb)
  generalize capsG G p = CS at *
  generalize distP G p = DL at *
  generalize levelG G p.lv = GL at *
  clear hlo hhi hz g1 g2 h1 h2 hs hgd HGH HPH hn
  go_enter Try.func20, Try.ntmps20
  go_upto_region 1 with fail
  generalize ((w.alloc (.cells #[.int .i64 G.sz, .slice A9 n9 c9, .slice B9 m9 k9] 31)).alloc (.cells #[.slice A n c, .slice B m k, .int .i64 p.lv] 24)) = y0 at *
  obtain ⟨gb, hgb⟩ : ∃ gb, w.heap.size = gb := ⟨_, rfl⟩
  obtain ⟨pb, hpb⟩ : ∃ pb, gb + 1 = pb := ⟨_, rfl⟩
  rw [hgb] at HX HG ⊢
  rw [hpb] at HX ⊢
  clear hgb hpb
  have HCC := Lib.hid (HCK.out y0 HN.out)
  go_wp2_with (refine wpList_load_row rfl 31 (.tmp 2) rfl gb rfl 31 #[.int .i64 G.sz, .slice A9 n9 c9, .slice B9 m9 k9] (0, 0) _ HG.out Try.underlying31 rfl gr_size ?_)
  refine HCC.out.mono ?_
  rintro e w1 ⟨rfl, hb⟩
  replace HX : Hid (w1.heap[pb]? = _) := Lib.hid ((hb.block _ (Array.getElem?_eq_some_iff.1 HX.out).1).trans HX.out)
  replace HG : Hid (w1.heap[gb]? = _) := Lib.hid ((hb.block _ (Array.getElem?_eq_some_iff.1 HG.out).1).trans HG.out)
  replace HN : Hid (Below w.heap.size w w1) := Lib.hid (HN.out.trans (hb.mono HN.out.size))
  clear hb HCC HCK
  have HPS : Hid (pb < w1.heap.size ∧ gb < w1.heap.size) := Lib.hid ⟨(Array.getElem?_eq_some_iff.1 HX.out).1, (Array.getElem?_eq_some_iff.1 HG.out).1⟩
  go_upto_region 4 with fail
  refine wp_region_grow (by kernel_rfl) Later Later.refl (fun _ _ _ => Later.trans) [7] [([0, 1, 2, 4, 5, 8], 3), ([], 6)] (by kernel_rfl) (by kernel_rfl) (by kernel_rfl) ?_
  simp only [List.map_cons, List.map_nil, pick, List.getD_cons_zero, List.getD_cons_succ]
  replace HN : Hid (Below w.heap.size w w1.drew) := Lib.hid HN.out.drew
  replace HX : Hid (w1.drew.heap[pb]? = _) := HX
  replace HG : Hid (w1.drew.heap[gb]? = _) := HG
  replace HPS : Hid (pb < w1.drew.heap.size ∧ gb < w1.drew.heap.size) := HPS
  generalize w1.drew = z0 at *
  have hfg : ∀ x, (loadVar 31 ⟨gb, 0, none⟩).run Try.prog (fut Later z0 x) = .ok (.agg #[.int .i64 G.sz, .slice A9 n9 c9, .slice B9 m9 k9]) (fut Later z0 x) := fun x => run_loadVar_row _ gb 31 31 #[.int .i64 G.sz, .slice A9 n9 c9, .slice B9 m9 k9] (0, 0) _ (((fut_ok Later.refl z0 x).block gb HPS.out.2).trans HG.out) Try.underlying31 rfl gr_size
  have hf0 : ∀ x, (fut Later z0 x).cell? ⟨pb, 0, none⟩ = some (.slice A n c) := fun x => (cell_of_row _ _ 0 _ _ _ (((fut_ok Later.refl z0 x).block pb HPS.out.1).trans HX.out)).trans rfl
  have hf2 : ∀ x, (fut Later z0 x).cell? ⟨pb, 2, none⟩ = some (.int .i64 p.lv) := fun x => (cell_of_row _ _ 2 _ _ _ (((fut_ok Later.refl z0 x).block pb HPS.out.1).trans HX.out)).trans rfl
  refine wpGrow_cons ?_
  repeat (first | (refine wpQuiet_load rfl 31 (.tmp 2) rfl ⟨gb, 0, none⟩ rfl (.agg #[.int .i64 G.sz, .slice A9 n9 c9, .slice B9 m9 k9]) (fun w' h => by obtain ⟨x, rfl⟩ := h; exact hfg x) ?_; simp only [Act.put, List.setIfInBounds_toArray, List.set_cons_succ, List.set_cons_zero]) | go_big_quiet_step (fail))
  refine wpQuiet_nil ?_
  clear hfg hf0 hf2
  have HCC := Lib.hid (HLV.out z0 HN.out)
  go_wp2_with fail
  refine HCC.out.mono ?_
  rintro e z1 ⟨v2, rfl, ho, hb⟩
  have HGL := Lib.hid ho
  have HF := Lib.hid hb
  replace HX : Hid (z1.heap[pb]? = _) := Lib.hid ((hb.block _ HPS.out.1).trans HX.out)
  replace HN : Hid (Below w.heap.size w z1) := Lib.hid (HN.out.trans (hb.mono HN.out.size))
  clear ho hb HCC HG HPS
  go_wp2_with fail
  refine pieceEnd_normal ⟨HF.out, ?_⟩
  clear HF
  refine wpGrow_cons ?_
  refine wpQuiet_nil ?_
  have HCC := Lib.hid (HAL.out z1 v2 HGL.out HN.out)
  go_wp2_with fail
  refine HCC.out.mono ?_
  rintro e z2 ⟨bd, rfl, hr, hb⟩
  have HF := Lib.hid hb
  have HD : Hid (IRow z2 (some ⟨bd, 0, none⟩) z z DL) := Lib.hid hr
  replace HX : Hid (z2.heap[pb]? = _) := Lib.hid ((hb.block _ (Array.getElem?_eq_some_iff.1 HX.out).1).trans HX.out)
  replace HN : Hid (Below w.heap.size w z2) := Lib.hid (HN.out.trans (hb.mono HN.out.size))
  clear hb hr HCC HGL
  go_wp2_with fail
  refine pieceEnd_normal ⟨HF.out, ?_⟩
  clear HF
  refine wpGrow_nil ?_
  repeat (go_big_quiet_step (fail))
  refine wpQuiet_nil ?_
  obtain ⟨B0, hB0⟩ : ∃ B0, z2.heap.size = B0 := ⟨_, rfl⟩
  have HLD : Hid (∀ y, Below B0 z2 y → IRow y (some ⟨bd, 0, none⟩) z z DL) := Lib.hid fun y hb => HD.out.later (by rw [← hB0] at hb; exact hb)
  have HB0 := Lib.hid hB0
  have hpb : pb < B0 := by rw [← hB0]; exact (Array.getElem?_eq_some_iff.1 HX.out).1
  have hgB : w.heap.size ≤ B0 := by rw [← hB0]; exact HN.out.size
  clear hB0 HD HAL HLV
  go_wp2_with fail
  go_loopw [5, 19] (fun v6 i wr => ∃ j : Nat, j ≤ z ∧ i = .int .i64 j ∧ Hid (wr.ownsRow B0 3 1 v6 j (intsV (CS.take j)) ∧ Below B0 z2 wr)) (fun _ i _ => z - (intOf i).toNat)
  case atStart => exact ⟨0, Nat.zero_le _, rfl, Lib.hid ⟨World.ownsRow_nil _ _ _ _, Below.refl _ _⟩⟩
  case round =>
    obtain ⟨j, hj, rfl, HQ⟩ := hrel
    by_cases hlt : j < z
    · have hlt2 : (j : Int) < (z : Int) := by omega
      have HSJ := Lib.hid (HSN.out j hlt)
      obtain ⟨A1, c1, hv, -⟩ := Row.of_own HQ.out.1
      subst hv
      have HO := Lib.hid HQ.out.1
      have HBz := Lib.hid HQ.out.2
      clear HQ
      have HX3 : Hid (wr.heap[pb]? = _) := Lib.hid ((HBz.out.block _ hpb).trans HX.out)
      have HN3 : Hid (Below w.heap.size w wr) := Lib.hid (HN.out.trans (HBz.out.mono hgB))
      have hsz3 : B0 ≤ wr.heap.size := by rw [← HB0.out]; exact HBz.out.size
      generalize CS.take j = U at *
      obtain ⟨b2, o2, hA2, hc2⟩ := IRow.cell (HLD.out wr HBz.out) j hlt
      injection hA2 with hA2
      injection hA2 with i1 i2
      subst i1 i2
      rw [Nat.zero_add, dAt_cell (by rw [HDL.out]; exact hlt)] at hc2
      generalize dAt DL (j : Int) = dj at *
      have HCC := Lib.hid (HOF.out wr dj HN3.out)
      generalize capT p.tb dj = cj at *
      go_wp2_with (refine wpList_load_row rfl 24 (.tmp 3) rfl pb rfl 24 #[.slice A n c, .slice B m k, .int .i64 p.lv] (0, 0) _ HX3.out Try.underlying24 rfl po_size ?_)
      refine HCC.out.mono ?_
      rintro e z4 ⟨rfl, hb⟩
      have HF : Hid (Below B0 wr z4) := Lib.hid (hb.mono hsz3)
      replace HO := Lib.hid (own_later HO.out hb)
      have hsz4 : B0 ≤ z4.heap.size := Nat.le_trans hsz3 hb.size
      replace HBz : Hid (Below B0 z2 z4) := Lib.hid (HBz.out.trans HF.out)
      clear hb HCC HX3 HN3 HF hc2
      go_wp2_with (at_builtin; go_must (refine wpList_app_new z4 rfl (.tmp 23) (.tmp 27) 22 3 rfl B0 Try.underlying22 i64_info rfl _ j (intsV U) HO.out rfl 1 #[.int .i64 cj] rfl (by simp [Value.oneCell']) rfl rfl (by unfold maxLen; omega) (by omega) hsz4 ?_); intro v5 z5 ho hb; have HO5 := Lib.hid ho; have HB5 := Lib.hid (HBz.out.trans hb); clear ho hb)
      exact ⟨⟨j + 1, hlt, by go_num, Lib.hid ⟨by rw [HSJ.out, intsV_app]; exact HO5.out, HB5.out⟩⟩, by simp [intOf]; omega⟩
    · have hlt2 : ¬ (j : Int) < (z : Int) := by omega
      have hjz : j = z := by omega
      subst hjz
      have HO := Lib.hid HQ.out.1
      have HBz := Lib.hid HQ.out.2
      rw [List.take_of_length_le (by rw [HCL.out]; exact Nat.le_refl _)] at HO
      clear HQ
      go_wp2_with fail
      go_ret
      refine ⟨_, rfl, ?_, ?_⟩
      · rw [HCL.out]
        exact own_base HO.out hgB
      · exact HN.out.trans (HBz.out.mono hgB)
end Go.Proofs.Ytdildmfjekdlgaa
/- The walks of graph's Out and In. -/
namespace Go.Proofs.Ytdildmfjekdlgaa
open Go.RowKit
set_option maxRecDepth 100000 in
set_option maxHeartbeats 4000000 in
theorem outGr_any (G : Gr) (v : Value) (key : Int) (w : World) (h : GHold w G v) (he : G.es.length ≤ 100000) : Calls Try.prog 40 #[v, .int .i64 key] w (GivesI w (outS G.es key)) := by
  obtain ⟨A, n, c, B, m, k, rfl, h1, -⟩ := h
  have hn : n ≤ 100000 := by rw [← ERow.len h1]; exact he
  have HLN : Hid (G.es.length = n) := Lib.hid (ERow.len h1)
  have HNW := Lib.hid (one_new w (.cells #[.int .i64 G.sz, .slice A n c, .slice B m k] 31))
  have HX : Hid ((w.alloc (.cells #[.int .i64 G.sz, .slice A n c, .slice B m k] 31)).heap[w.heap.size]? = some (.cells #[.int .i64 G.sz, .slice A n c, .slice B m k] 31 (0, 0))) := Lib.hid (heap_alloc_new _ _)
  have HL := Lib.hid (GRow.later h1 HNW.out)
  clear h1 he
  go_enter Try.func40, Try.ntmps40
  go_upto_region 1 with fail
  generalize w.alloc (.cells #[.int .i64 G.sz, .slice A n c, .slice B m k] 31) = y0 at *
  obtain ⟨g, hgg⟩ : ∃ g, w.heap.size = g := ⟨_, rfl⟩
  rw [hgg] at HX ⊢
  have HGG := Lib.hid hgg
  clear hgg
  have hg1 : y0.cell? ⟨g, 1, none⟩ = some (.slice A n c) := (cell_of_row _ _ 1 _ _ _ HX.out).trans rfl
  generalize G.es = l at *
  go_wp2_with fail
  clear hg1
  go_loopw [5, 11] (fun v i wr => ∃ j : Nat, j ≤ n ∧ i = .int .i64 j ∧ Hid (wr.ownsRow y0.heap.size 3 1 v (outS (l.take j) key).length (intsV (outS (l.take j) key)) ∧ Below y0.heap.size y0 wr)) (fun _ i _ => n - (intOf i).toNat)
  case atStart => exact ⟨0, Nat.zero_le _, rfl, Lib.hid ⟨World.ownsRow_nil _ _ _ _, Below.refl _ _⟩⟩
  case round =>
    obtain ⟨j, hj, rfl, HQ⟩ := hrel
    obtain ⟨A1, c1, hv, -⟩ := Row.of_own HQ.out.1
    subst hv
    have HGL : Hid ((outS (l.take j) key).length ≤ 100000) := Lib.hid (Nat.le_trans (outS_len l key j (by have := HLN.out; omega)) (by omega))
    by_cases hlt : j < n
    · have hlt2 : (j : Int) < (n : Int) := by omega
      have HST := Lib.hid (outS_snoc l key j (by rw [HLN.out]; exact hlt))
      obtain ⟨b, off, hA, hc⟩ := GRow.cells Edg.len (by decide) (GRow.later HL.out HQ.out.2) noEdg j hlt
      subst hA
      generalize l.getD j noEdg = p at *
      have HC : Hid (∀ q, q < p.arr.size → wr.cell? ⟨b, off + j * 3 + q, none⟩ = p.arr[q]?) := Lib.hid fun q hq => (hc q hq).trans (by rw [← Edg.list, Array.getElem?_toList])
      clear hc
      go_upto_region 5 with (first | (refine wpList_load_cells rfl 45 (.tmp 13) rfl b (off + j * 3) rfl p.arr _ Try.underlying45 rfl p.info HC.out ?_) | (refine wpList_store_new rfl 45 (.tmp 7) (.tmp 14) rfl 45 _ p.arr rfl rfl p.info rfl p.one ?_))
      have HN3 := Lib.hid (one_new wr (.cells p.arr 45))
      have HY : Hid ((wr.alloc (.cells p.arr 45)).heap[wr.heap.size]? = some (.cells p.arr 45 (0, 0))) := Lib.hid (heap_alloc_new _ _)
      have HO := Lib.hid (own_later HQ.out.1 HN3.out); have HB := Lib.hid (HQ.out.2.trans (HN3.out.mono HQ.out.2.size))
      clear HQ HC HN3
      generalize wr.alloc (.cells p.arr 45) = x2 at *
      generalize wr.heap.size = g4 at *
      obtain ⟨hy0, hy1, -⟩ := edg_cells HY.out
      generalize p.fr = fr at *
      generalize p.tu = tu at *
      generalize hgu : outS (l.take j) key = U at *
      clear hgu
      by_cases hk : fr = key
      · have b0 : (fr == key) = true := by rw [hk]; simp
        rw [if_pos hk] at HST
        clear hk
        have hgl := HGL.out
        have hsz : y0.heap.size ≤ x2.heap.size := HB.out.size
        go_wp2_with (at_builtin; go_must (refine wpList_app_new x2 rfl (.tmp 19) (.tmp 22) 22 3 rfl y0.heap.size Try.underlying22 i64_info rfl _ U.length (intsV U) HO.out rfl 1 #[.int .i64 tu] rfl (by simp [Value.oneCell']) rfl rfl (by unfold maxLen; omega) (by omega) hsz ?_); intro v3 w3 ho3 hb3; have HO3 := Lib.hid ho3; have HB3 := Lib.hid (HB.out.trans hb3); clear ho3 hb3)
        exact ⟨⟨j + 1, hlt, by go_num, Lib.hid (by rw [HST.out, List.length_append, intsV_app]; exact ⟨HO3.out, HB3.out⟩)⟩, by simp [intOf]; omega⟩
      · have b0 : (fr == key) = false := by rw [beq_eq_false_iff_ne]; exact hk
        rw [if_neg hk, List.append_nil] at HST
        clear hk
        go_wp2_with fail
        exact ⟨⟨j + 1, hlt, by go_num, Lib.hid ⟨by rw [HST.out]; exact HO.out, HB.out⟩⟩, by simp [intOf]; omega⟩
    · have hlt2 : ¬ (j : Int) < (n : Int) := by omega
      have HE : Hid (outS (l.take j) key = outS l key) := Lib.hid (by rw [List.take_of_length_le (by rw [HLN.out]; omega)])
      obtain ⟨A3, c3, hv3, hr3⟩ := Row.of_own HQ.out.1
      injection hv3 with hv3 _ hc3
      subst hv3 hc3
      have HB3 := Lib.hid HQ.out.2
      clear HQ
      rw [HE.out] at hr3 ⊢
      have HR3 := Lib.hid hr3; clear hr3 HE HGL
      go_wp2_with fail
      go_ret
      exact ⟨_, _, _, rfl, HR3.out, HNW.out.trans (HB3.out.mono HNW.out.size)⟩
end Go.Proofs.Ytdildmfjekdlgaa
/- The walks of capacity's marks, slices.ContainsFunc over numbers, the function literal of Bound. -/
namespace Go.Proofs.Ytdildmfjekdlgaa
open Go.RowKit
def boolsW (l : List Bool) : List Value := l.map Value.bool
theorem boolsW_len (l : List Bool) : (boolsW l).length = l.length := by unfold boolsW; rw [List.length_map]
theorem bool_info13 : (Try.prog.info? 4).map (fun i => (i.zero, i.size, i.bytes)) = some (some (.bool false), 1, 1) := by kernel_rfl
theorem own_b13 {w : World} {B g n cap : Nat} {xs : List Bool} (h : w.ownsRow B 4 1 (.slice (some ⟨g, 0, none⟩) n cap) n (boolsW xs)) {i : Nat} (hi : i < n) : w.cell? ⟨g, i, none⟩ = some (.bool (onAt xs (i : Int))) ∧ w.frozen? ⟨g, i, none⟩ = false := by
  have hl : xs.length = n := by have := h.1; rw [boolsW_len, Nat.mul_one] at this; exact this
  refine ⟨?_, h.frozenAt i⟩
  rw [h.cellAt i (by omega)]
  unfold boolsW onAt
  rw [List.getElem?_map, List.getElem?_eq_getElem (by omega), Int.toNat_natCast, List.getD_eq_getElem?_getD, List.getElem?_eq_getElem (by omega)]
  rfl
theorem own_setb13 {w : World} {B g n cap : Nat} {xs : List Bool} (h : w.ownsRow B 4 1 (.slice (some ⟨g, 0, none⟩) n cap) n (boolsW xs)) (i : Nat) (u : Bool) : (w.setCell ⟨g, i, none⟩ (.bool u)).ownsRow B 4 1 (.slice (some ⟨g, 0, none⟩) n cap) n (boolsW (xs.set i u)) := by
  have h1 := (h.stored i (.bool u)).1
  unfold boolsW at h1 ⊢
  rw [List.map_set]
  exact h1
/-- The marks of a list of keys. -/
def setM (z : Nat) (m : List Bool) (x : Int) : List Bool := if 0 ≤ x ∧ x < (z : Int) then m.set x.toNat true else m
def markL (z : Nat) (l : List Int) : List Bool := l.foldl (setM z) (List.replicate z false)
theorem markL_snoc (z : Nat) (l : List Int) (j : Nat) (h : j < l.length) : markL z (l.take (j + 1)) = setM z (markL z (l.take j)) (l.getD j 0) := by
  unfold markL
  rw [List.take_add_one, List.getElem?_eq_getElem h, List.foldl_append, List.getD_eq_getElem?_getD, List.getElem?_eq_getElem h]
  rfl
theorem setM_len (z : Nat) (m : List Bool) (x : Int) : (setM z m x).length = m.length := by
  unfold setM
  split
  · rw [List.length_set]
  · rfl
theorem onAt_setM {z : Nat} {m : List Bool} (hm : m.length = z) {x k : Int} (h0 : 0 ≤ k) (h1 : k < (z : Int)) : onAt (setM z m x) k = (onAt m k || decide (x = k)) := by
  unfold setM onAt
  by_cases hx : x = k
  · subst hx
    rw [if_pos ⟨h0, h1⟩, List.getD_eq_getElem?_getD, List.getElem?_set_self (by omega), decide_eq_true rfl, Bool.or_true]
    rfl
  · rw [decide_eq_false hx, Bool.or_false]
    split
    · rw [List.getD_eq_getElem?_getD, List.getElem?_set_ne (by omega), List.getD_eq_getElem?_getD]
    · rfl
theorem onAt_fold {z : Nat} {k : Int} (h0 : 0 ≤ k) (h1 : k < (z : Int)) : ∀ (l : List Int) (m : List Bool), m.length = z → onAt (l.foldl (setM z) m) k = (onAt m k || hasI l k)
  | [], m, _ => by rw [List.foldl_nil]; unfold hasI; rw [Bool.or_false]
  | a :: l, m, hm => by
    rw [List.foldl_cons, onAt_fold h0 h1 l _ (by rw [setM_len]; exact hm), onAt_setM hm h0 h1]
    unfold hasI
    by_cases ha : a = k
    · rw [if_pos ha, decide_eq_true ha]; simp
    · rw [if_neg ha, decide_eq_false ha, Bool.or_false]; cases l <;> rfl
theorem onAt_mark {z : Nat} {k : Int} (l : List Int) (h0 : 0 ≤ k) (h1 : k < (z : Int)) : onAt (markL z l) k = hasI l k := by
  unfold markL
  rw [onAt_fold h0 h1 l _ List.length_replicate]
  unfold onAt
  rw [List.getD_eq_getElem?_getD, List.getElem?_replicate, if_pos (by omega)]
  rfl
theorem dece_out (G : Gr) (lv : Int) (keys : List Int) (k : Int) : (outS (levelG G lv).es k).any (hasI keys) = deceB G.es lv keys k := by
  rw [Bool.eq_iff_iff, List.any_eq_true]
  unfold deceB
  rw [List.any_eq_true]
  constructor
  · rintro ⟨x, hx, h⟩
    obtain ⟨e, he, h1, h2⟩ := outS_mem.1 hx
    have he2 : e ∈ G.es.filter (fun e => decide (lv ≤ e.lv)) := he
    rw [List.mem_filter] at he2
    exact ⟨e, he2.1, by rw [decide_eq_true h1, he2.2, h2, h]; rfl⟩
  · rintro ⟨e, he, h⟩
    simp only [Bool.and_eq_true, decide_eq_true_eq] at h
    exact ⟨e.tu, outS_mem.2 ⟨e, List.mem_filter.2 ⟨he, decide_eq_true h.2.1⟩, h.1, rfl⟩, h.2.2⟩
set_option maxRecDepth 100000 in
set_option maxHeartbeats 4000000 in
theorem marks13_any (A : Option Addr) (n c : Nat) (l : List Int) (z : Nat) (w : World) (hl : IRow w A n c l) (hn : n ≤ 100000) (hz : z ≤ 100000) : Calls Try.prog 37 #[.slice A n c, .int .i64 (z : Int)] w fun e w' => e = .returned (.slice (some ⟨w.heap.size, 0, none⟩) z z) ∧ w'.ownsRow w.heap.size 4 1 (.slice (some ⟨w.heap.size, 0, none⟩) z z) z (boolsW (markL z l)) ∧ Below w.heap.size w w' := by
  have HL := Lib.hid hl; have HLN : Hid (l.length = n) := Lib.hid hl.len
  clear hl
  have HM0 : Hid (boolsW (markL z (l.take 0)) = List.replicate z (.bool false)) := Lib.hid (by unfold markL boolsW; rw [List.take_zero, List.foldl_nil, List.map_replicate])
  go_enter Try.func37, Try.ntmps37
  go_wp2_with (at_make; go_must (refine wpList_make _ rfl (.tmp 8) (.tmp 8) 62 4 rfl w.heap.size Try.underlying62 bool_info13 rfl z z rfl rfl rfl rfl (Nat.le_refl _) (by omega) (by unfold maxLen; omega) (Nat.le_refl _) ?_); intro w2 ho hb; have HO2 : Hid (w2.ownsRow w.heap.size 4 1 (.slice (some ⟨w.heap.size, 0, none⟩) z z) z (boolsW (markL z (l.take 0)))) := Lib.hid (by rw [HM0.out]; exact ho); clear ho; have HB2 : Hid (Below w.heap.size w w2) := Lib.hid hb; clear hb)
  obtain ⟨gm, hgm⟩ : ∃ gm, w.heap.size = gm := ⟨_, rfl⟩
  have HGM := Lib.hid hgm
  rw [hgm] at HO2 HB2 ⊢
  clear hgm
  go_loopw [12] (fun i wr => ∃ j : Nat, j ≤ n ∧ i = .int .i64 j ∧ Hid (wr.ownsRow gm 4 1 (.slice (some ⟨gm, 0, none⟩) z z) z (boolsW (markL z (l.take j))) ∧ Below gm w wr)) (fun i _ => n - (intOf i).toNat)
  case atStart => exact ⟨0, Nat.zero_le _, rfl, Lib.hid ⟨HO2.out, HB2.out⟩⟩
  case round =>
    clear HO2 HB2
    obtain ⟨j, hj, rfl, HQ⟩ := hrel
    have HO := Lib.hid HQ.out.1; have HB := Lib.hid HQ.out.2
    clear HQ
    by_cases hlt : j < n
    · have hlt2 : (j : Int) < (n : Int) := by omega
      have HSN := Lib.hid (markL_snoc z l j (by rw [HLN.out]; exact hlt))
      obtain ⟨b, off, hA, hc⟩ := IRow.cell (HL.out.later (by have h := HB.out; rw [← HGM.out] at h; exact h)) j hlt
      subst hA
      generalize markL z (l.take j) = U at *
      generalize l.getD j 0 = a at *
      by_cases g1 : 0 ≤ a
      · have d1 : decide (0 ≤ a) = true := decide_eq_true g1
        by_cases g2 : a < (z : Int)
        · have d2 : decide (a < (z : Int)) = true := decide_eq_true g2
          obtain ⟨q, rfl⟩ : ∃ q : Nat, a = (q : Int) := ⟨a.toNat, by omega⟩
          have d2n : decide (q < z) = true := decide_eq_true (by omega)
          have hqz : q < z := by omega
          obtain ⟨hoc, hof⟩ := own_b13 HO.out hqz
          have HO3 := Lib.hid (own_setb13 HO.out q true)
          have HB3 : Hid (Below gm w (wr.setCell ⟨gm, q, none⟩ (.bool true))) := Lib.hid (HB.out.setCell (p := ⟨gm, q, none⟩) (Nat.le_refl _) _)
          have HE : Hid (setM z U (q : Int) = U.set q true) := Lib.hid (by unfold setM; rw [if_pos ⟨g1, g2⟩, Int.toNat_natCast])
          generalize onAt U (q : Int) = ob at *
          clear HO HB g1
          go_wp2_with fail
          exact ⟨⟨j + 1, hlt, by go_num, Lib.hid ⟨by rw [HSN.out, HE.out]; exact HO3.out, HB3.out⟩⟩, by simp [intOf]; omega⟩
        · have d2 : decide (a < (z : Int)) = false := decide_eq_false g2
          have HE : Hid (setM z U a = U) := Lib.hid (by unfold setM; rw [if_neg (fun h => g2 h.2)])
          clear g1 g2
          go_wp2_with fail
          exact ⟨⟨j + 1, hlt, by go_num, Lib.hid ⟨by rw [HSN.out, HE.out]; exact HO.out, HB.out⟩⟩, by simp [intOf]; omega⟩
      · have d1 : decide (0 ≤ a) = false := decide_eq_false g1
        have HE : Hid (setM z U a = U) := Lib.hid (by unfold setM; rw [if_neg (fun h => g1 h.1)])
        clear g1
        go_wp2_with fail
        exact ⟨⟨j + 1, hlt, by go_num, Lib.hid ⟨by rw [HSN.out, HE.out]; exact HO.out, HB.out⟩⟩, by simp [intOf]; omega⟩
    · have hlt2 : ¬ (j : Int) < (n : Int) := by omega
      have HO3 := HO.out
      rw [List.take_of_length_le (by rw [HLN.out]; omega)] at HO3
      have HO4 := Lib.hid HO3
      clear HO3 HO
      go_wp2_with fail
      go_ret
      rw [HGM.out]
      exact ⟨rfl, HO4.out, HB.out⟩
set_option maxRecDepth 100000 in
set_option maxHeartbeats 4000000 in
theorem indexFI_any (f : Int → Bool) (fn : Nat) (cb : Array Value) (A : Option Addr) (n c : Nat) (l : List Int) (w : World) (hl : IRow w A n c l) (hn : n ≤ 100000)
    (eg : ∀ args w, (callFunc fn args).run Try.prog w = .ok (.enter fn args) w) (hf : ∀ y (x : Int), x ∈ l → Below w.heap.size w y → Calls Try.prog fn (#[.int .i64 x] ++ cb) y (SaysL (.bool (f x)) y)) :
    Calls Try.prog 58 #[.slice A n c, .func (.func fn) #[] cb] w fun e w' => (∃ r : Int, e = .returned (.int .i64 r) ∧ decide (0 ≤ r) = l.any f) ∧ Below w.heap.size w w' := by
  have HL := Lib.hid hl; have HF := Lib.hid hf; have HLN : Hid (l.length = n) := Lib.hid hl.len
  clear hl hf
  go_enter Try.func58, Try.ntmps58
  go_wp2_with fail
  go_loopw [8] (fun i wr => ∃ j : Nat, j ≤ n ∧ i = .int .i64 j ∧ Hid ((∀ q, q < j → f (l.getD q 0) = false) ∧ Below w.heap.size w wr)) (fun i _ => n - (intOf i).toNat)
  case atStart => exact ⟨0, Nat.zero_le _, rfl, Lib.hid ⟨fun q h => absurd h (Nat.not_lt_zero _), Below.refl _ _⟩⟩
  case round =>
    obtain ⟨j, hj, rfl, HQ⟩ := hrel
    by_cases hlt : j < n
    · have hlt2 : (j : Int) < (n : Int) := by omega
      obtain ⟨b, off, hA, hc⟩ := IRow.cell (HL.out.later HQ.out.2) j hlt
      subst hA
      obtain ⟨p, hp⟩ : ∃ p, l.getD j 0 = p := ⟨_, rfl⟩
      have hmem : p ∈ l := by rw [← hp, List.getD_eq_getElem?_getD, List.getElem?_eq_getElem (by rw [HLN.out]; exact hlt)]; exact List.getElem_mem _
      rw [hp] at hc
      have HP := Lib.hid hp
      have HM := Lib.hid hmem
      have HFC := Lib.hid (HF.out wr p hmem HQ.out.2)
      have HK := Lib.hid HQ.out.1; have HB := Lib.hid HQ.out.2
      clear hp HQ hmem
      cases hfp : f p
      · rw [hfp] at HFC
        have HT : Hid (f p = false) := Lib.hid hfp
        clear hfp
        go_wp2_with fail
        refine HFC.out.mono ?_
        rintro e w1 ⟨rfl, hb⟩
        have HB1 := Lib.hid (HB.out.trans (hb.mono HB.out.size))
        clear hb HFC hc
        go_wp2_with fail
        exact ⟨⟨j + 1, hlt, by go_num, Lib.hid ⟨fun q hq => (Nat.lt_or_ge q j).elim (fun h => HK.out q h) (fun h => by rw [show q = j by omega, HP.out]; exact HT.out), HB1.out⟩⟩, by simp [intOf]; omega⟩
      · rw [hfp] at HFC
        have HT : Hid (f p = true) := Lib.hid hfp
        clear hfp
        go_wp2_with fail
        refine HFC.out.mono ?_
        rintro e w1 ⟨rfl, hb⟩
        have HB1 := Lib.hid (HB.out.trans (hb.mono HB.out.size))
        clear hb HFC hc
        go_wp2_with fail
        go_ret
        exact ⟨⟨_, rfl, by rw [decide_eq_true (Int.natCast_nonneg j)]; exact (List.any_eq_true.2 ⟨p, HM.out, HT.out⟩).symm⟩, HB1.out⟩
    · have hlt2 : ¬ (j : Int) < (n : Int) := by omega
      have HK := Lib.hid HQ.out.1; have HB := Lib.hid HQ.out.2
      clear HQ
      go_wp2_with fail
      go_ret
      refine ⟨⟨_, rfl, ?_⟩, HB.out⟩
      rw [decide_eq_false (by decide)]
      symm
      rw [List.any_eq_false]
      intro x hx
      obtain ⟨i, hi, rfl⟩ := List.mem_iff_getElem.1 hx
      have h := HK.out i (by have := HLN.out; omega)
      rw [List.getD_eq_getElem?_getD, List.getElem?_eq_getElem hi] at h
      simpa using h
set_option maxRecDepth 100000 in
set_option maxHeartbeats 4000000 in
theorem containsFI_any (f : Int → Bool) (fn : Nat) (cb : Array Value) (A : Option Addr) (n c : Nat) (l : List Int) (w : World) (hl : IRow w A n c l) (hn : n ≤ 100000)
    (eg : ∀ args w, (callFunc fn args).run Try.prog w = .ok (.enter fn args) w) (hf : ∀ y (x : Int), x ∈ l → Below w.heap.size w y → Calls Try.prog fn (#[.int .i64 x] ++ cb) y (SaysL (.bool (f x)) y)) :
    Calls Try.prog 39 #[.slice A n c, .func (.func fn) #[] cb] w (SaysL (.bool (l.any f)) w) := by
  have HI := Lib.hid (indexFI_any f fn cb A n c l w hl hn eg hf)
  generalize l.any f = r at *
  clear hl hf
  go_enter Try.func39, Try.ntmps39
  go_wp2_with fail
  refine HI.out.mono ?_
  rintro e w1 ⟨⟨q, rfl, hd⟩, hb⟩
  have HB := Lib.hid hb
  clear hb HI
  cases r
  · go_wp2_with fail
    go_ret
    exact ⟨rfl, HB.out⟩
  · go_wp2_with fail
    go_ret
    exact ⟨rfl, HB.out⟩
set_option maxRecDepth 100000 in
set_option maxHeartbeats 4000000 in
theorem bound1_any (z gm ga B : Nat) (U : List Bool) (x : Int) (w : World) (ha : w.heap[ga]? = some (.cells #[.slice (some ⟨gm, 0, none⟩) z z] 62 (0, 0))) (hm : w.ownsRow B 4 1 (.slice (some ⟨gm, 0, none⟩) z z) z (boolsW U)) (h0 : 0 ≤ x) (h1 : x < (z : Int)) : Calls Try.prog 41 #[.int .i64 x, .pointer (some ⟨ga, 0, none⟩)] w (SaysL (.bool (onAt U x)) w) := by
  obtain ⟨q, rfl⟩ : ∃ q : Nat, x = (q : Int) := ⟨x.toNat, by omega⟩
  have hqz : q < z := by omega
  obtain ⟨hoc, -⟩ := own_b13 hm hqz
  have hca : w.cell? ⟨ga, 0, none⟩ = some (.slice (some ⟨gm, 0, none⟩) z z) := (cell_of_row _ _ 0 _ _ _ ha).trans rfl
  generalize onAt U (q : Int) = ob at *
  clear ha hm
  go_enter Try.func41, Try.ntmps41
  go_wp2_with fail
  go_ret
  exact ⟨rfl, Below.refl _ _⟩
end Go.Proofs.Ytdildmfjekdlgaa
/- The walk of capacity's Bound. -/
namespace Go.Proofs.Ytdildmfjekdlgaa
open Go.RowKit
set_option maxRecDepth 100000 in
set_option maxHeartbeats 4000000 in
theorem capBound_any (G : Gr) (gv : Value) (p : Pol) (v : Value) (A2 : Option Addr) (n2 c2 : Nat) (keys : List Int) (w : World) (hg : GHold w G gv) (hgd : Good11 G) (h : PHold w p v) (hgt : GoodT p.tb) (hs : p.sd.length ≤ 100000) (hk : IRow w A2 n2 c2 keys) (hn2 : n2 ≤ 100000) : Calls Try.prog 23 #[gv, v, .slice A2 n2 c2] w (SaysL (.int .i64 (boundG G p keys)) w) := by
  have HGH := Lib.hid hg; have HPH := Lib.hid h
  obtain ⟨A9, n9, c9, B9, m9, k9, rfl, g1, g2⟩ := hg
  obtain ⟨A, n, c, B, m, k, rfl, h1, h2⟩ := h
  have HN := Lib.hid ((one_new w (.cells #[.int .i64 G.sz, .slice A9 n9 c9, .slice B9 m9 k9] 31)).trans ((one_new (w.alloc (.cells #[.int .i64 G.sz, .slice A9 n9 c9, .slice B9 m9 k9] 31)) (.cells #[.slice A n c, .slice B m k, .int .i64 p.lv] 24)).mono (by simp)))
  have HG : Hid (((w.alloc (.cells #[.int .i64 G.sz, .slice A9 n9 c9, .slice B9 m9 k9] 31)).alloc (.cells #[.slice A n c, .slice B m k, .int .i64 p.lv] 24)).heap[w.heap.size]? = some (.cells #[.int .i64 G.sz, .slice A9 n9 c9, .slice B9 m9 k9] 31 (0, 0))) := Lib.hid ((Below.heap_alloc _ _ _ (by simp)).trans (heap_alloc_new _ _))
  have HX : Hid (((w.alloc (.cells #[.int .i64 G.sz, .slice A9 n9 c9, .slice B9 m9 k9] 31)).alloc (.cells #[.slice A n c, .slice B m k, .int .i64 p.lv] 24)).heap[w.heap.size + 1]? = some (.cells #[.slice A n c, .slice B m k, .int .i64 p.lv] 24 (0, 0))) := Lib.hid (heap_alloc2_new _ _ _)
  have H1 := Lib.hid h1; have H2 := Lib.hid h2
  have hn : n ≤ 100000 := by rw [← h1.len]; exact hs
  have hlo := hgd.lo
  have hhi := hgd.hi
  obtain ⟨z, hz⟩ : ∃ z : Nat, G.sz.toNat = z := ⟨_, rfl⟩
  have hz64 : z ≤ 64 := by omega
  have HBG : Hid (boundG G p keys = sumB G p keys z) := Lib.hid (by unfold boundG; rw [hz])
  have HS0 : Hid (sumB G p keys 0 = 0) := Lib.hid rfl
  have HSN : Hid (∀ j : Nat, sumB G p keys (j + 1) = sumB G p keys j + (if hasI keys (j : Int) then (if hasI p.sd (j : Int) then capAt G p (j : Int) else 0) else if deceB G.es p.lv keys (j : Int) then max 0 (capAt G p (j : Int) - 1) else 0)) := Lib.hid fun j => rfl
  have HSB : Hid (∀ j, 0 ≤ sumB G p keys j ∧ sumB G p keys j ≤ 1000 * (j : Int)) := Lib.hid fun j => sumB_bd hgt keys j
  have HCB : Hid (∀ j : Int, 0 ≤ capAt G p j ∧ capAt G p j ≤ 1000) := Lib.hid fun j => capT_bd hgt _
  have HCL : Hid ((capsG G p).length = z) := Lib.hid (by rw [capsG_len hgd p, hz])
  have HCA : Hid (∀ j : Nat, j < z → (capsG G p).getD j 0 = capAt G p (j : Int)) := Lib.hid fun j hj => capsG_at hgd p (by rw [hz]; exact hj)
  have HAL : Hid (∀ y, Below w.heap.size w y → Calls Try.prog 20 #[.agg #[.int .i64 G.sz, .slice A9 n9 c9, .slice B9 m9 k9], .agg #[.slice A n c, .slice B m k, .int .i64 p.lv]] y (GivesOI y (capsG G p))) := Lib.hid fun y hb => capAll_any G _ p _ y (HGH.out.later hb) hgd (HPH.out.later hb) hs
  have HMK : Hid (∀ y, Below w.heap.size w y → Calls Try.prog 37 #[.slice A2 n2 c2, .int .i64 (z : Int)] y fun e w' => e = .returned (.slice (some ⟨y.heap.size, 0, none⟩) z z) ∧ w'.ownsRow y.heap.size 4 1 (.slice (some ⟨y.heap.size, 0, none⟩) z z) z (boolsW (markL z keys)) ∧ Below y.heap.size y w') := Lib.hid fun y hb => marks13_any A2 n2 c2 keys z y (hk.later hb) hn2 (by omega)
  have HLV : Hid (∀ y, Below w.heap.size w y → Calls Try.prog 36 #[.agg #[.int .i64 G.sz, .slice A9 n9 c9, .slice B9 m9 k9], .int .i64 p.lv] y (GivesG y (levelG G p.lv))) := Lib.hid fun y hb => levelGr_any G _ p.lv y (HGH.out.later hb) hgd.few.1
  have HSD : Hid (∀ y (x : Int), Below w.heap.size w y → Calls Try.prog 38 #[.slice A n c, .int .i64 x] y (SaysL (.bool (hasI p.sd x)) y)) := Lib.hid fun y x hb => contains_anyI A n c p.sd x y (h1.later hb) hn
  have hgl := good_level hgd p.lv
  have HOL : Hid (∀ k, (outS (levelG G p.lv).es k).length ≤ 500) := Lib.hid fun k => by
    have h1 := outS_len (levelG G p.lv).es k (levelG G p.lv).es.length (Nat.le_refl _)
    rw [List.take_length] at h1
    exact Nat.le_trans h1 hgl.len
  have HOI : Hid (∀ k x, x ∈ outS (levelG G p.lv).es k → 0 ≤ x ∧ x < (z : Int)) := Lib.hid fun k x hx => by
    obtain ⟨e, he, -, h2⟩ := outS_mem.1 hx
    have h3 := good_inZ hgl e he
    have h4 : (levelG G p.lv).sz.toNat = z := hz
    rw [h4] at h3
    unfold InZ at h3
    rw [← h2]
    omega
  have HDO : Hid (∀ k, (outS (levelG G p.lv).es k).any (hasI keys) = deceB G.es p.lv keys k) := Lib.hid fun k => dece_out G p.lv keys k
  have HLF : Hid ((levelG G p.lv).es.length ≤ 100000) := Lib.hid hgl.few.1
  have HEN : Hid (∀ args w, (callFunc 41 args).run Try.prog w = .ok (.enter 41 args) w) := Lib.hid (enters_of Try.func41 (by kernel_rfl) rfl)
  generalize hSU : sumB G p keys = SU at *
  clear hSU
  generalize hCA : capAt G p = CA at *
  clear hCA
  generalize boundG G p keys = BG at *
  generalize capsG G p = CS at *
  clear hgl
  generalize levelG G p.lv = TG at *
  generalize hDB : deceB G.es p.lv keys = DB at *
  clear hDB
  clear hlo hhi hz g1 g2 h1 h2 hs hgd hgt HGH HPH hn hk
  go_enter Try.func23, Try.ntmps23
  go_upto_region 1 with fail
  generalize ((w.alloc (.cells #[.int .i64 G.sz, .slice A9 n9 c9, .slice B9 m9 k9] 31)).alloc (.cells #[.slice A n c, .slice B m k, .int .i64 p.lv] 24)) = y0 at *
  obtain ⟨gb, hgb⟩ : ∃ gb, w.heap.size = gb := ⟨_, rfl⟩
  obtain ⟨pb, hpb⟩ : ∃ pb, gb + 1 = pb := ⟨_, rfl⟩
  rw [hgb] at HX HG ⊢
  rw [hpb] at HX ⊢
  clear hgb hpb
  have HCC := Lib.hid (HAL.out y0 HN.out)
  go_wp2_with (first | (refine wpList_load_row rfl 31 (.tmp 3) rfl gb rfl 31 #[.int .i64 G.sz, .slice A9 n9 c9, .slice B9 m9 k9] (0, 0) _ HG.out Try.underlying31 rfl gr_size ?_) | (refine wpList_load_row rfl 24 (.tmp 4) rfl pb rfl 24 #[.slice A n c, .slice B m k, .int .i64 p.lv] (0, 0) _ HX.out Try.underlying24 rfl po_size ?_))
  refine HCC.out.mono ?_
  rintro e y1 ⟨v1, rfl, ho, hb⟩
  obtain ⟨Ac, cc, rfl, hr⟩ := Row.of_own ho
  rw [HCL.out] at hr ⊢
  have HCR : Hid (IRow y1 Ac z cc CS) := Lib.hid hr
  replace HX : Hid (y1.heap[pb]? = _) := Lib.hid ((hb.block _ (Array.getElem?_eq_some_iff.1 HX.out).1).trans HX.out)
  replace HG : Hid (y1.heap[gb]? = _) := Lib.hid ((hb.block _ (Array.getElem?_eq_some_iff.1 HG.out).1).trans HG.out)
  replace HN : Hid (Below w.heap.size w y1) := Lib.hid (HN.out.trans (hb.mono HN.out.size))
  clear ho hb hr HCC HAL y0
  have HCC := Lib.hid (HMK.out y1 HN.out)
  go_wp2_with fail
  refine HCC.out.mono ?_
  rintro e y2 ⟨rfl, hm, hb⟩
  have HM := Lib.hid hm
  replace HCR := Lib.hid (HCR.out.later hb)
  replace HX : Hid (y2.heap[pb]? = _) := Lib.hid ((hb.block _ (Array.getElem?_eq_some_iff.1 HX.out).1).trans HX.out)
  replace HG : Hid (y2.heap[gb]? = _) := Lib.hid ((hb.block _ (Array.getElem?_eq_some_iff.1 HG.out).1).trans HG.out)
  replace HN : Hid (Below w.heap.size w y2) := Lib.hid (HN.out.trans (hb.mono HN.out.size))
  clear hm hb HCC HMK
  generalize y1.heap.size = gm at *
  have HXA : Hid ((y2.alloc (.cells #[.slice (some ⟨gm, 0, none⟩) z z] 62)).heap[y2.heap.size]? = some (.cells #[.slice (some ⟨gm, 0, none⟩) z z] 62 (0, 0))) := Lib.hid (heap_alloc_new _ _)
  have hb := one_new y2 (.cells #[.slice (some ⟨gm, 0, none⟩) z z] 62)
  go_upto_region 3 with fail
  generalize y2.alloc (.cells #[.slice (some ⟨gm, 0, none⟩) z z] 62) = y3 at *
  replace HM := Lib.hid (own_later HM.out hb)
  replace HCR := Lib.hid (HCR.out.later hb)
  replace HX : Hid (y3.heap[pb]? = _) := Lib.hid ((hb.block _ (Array.getElem?_eq_some_iff.1 HX.out).1).trans HX.out)
  replace HG : Hid (y3.heap[gb]? = _) := Lib.hid ((hb.block _ (Array.getElem?_eq_some_iff.1 HG.out).1).trans HG.out)
  replace HN : Hid (Below w.heap.size w y3) := Lib.hid (HN.out.trans (hb.mono HN.out.size))
  clear hb
  generalize y2.heap.size = ga at *
  have HCC := Lib.hid (HLV.out y3 HN.out)
  have hp2 : y3.cell? ⟨pb, 2, none⟩ = some (.int .i64 p.lv) := (cell_of_row _ _ 2 _ _ _ HX.out).trans rfl
  go_wp2_with (refine wpList_load_row rfl 31 (.tmp 3) rfl gb rfl 31 #[.int .i64 G.sz, .slice A9 n9 c9, .slice B9 m9 k9] (0, 0) _ HG.out Try.underlying31 rfl gr_size ?_)
  refine HCC.out.mono ?_
  rintro e y4 ⟨v2, rfl, ho, hb⟩
  obtain ⟨AL, nL, cL, BL, mL, kL, rfl, e1, e2⟩ := ho
  have HE1 := Lib.hid e1; have HE2 := Lib.hid e2
  replace HM := Lib.hid (own_later HM.out hb)
  replace HCR := Lib.hid (HCR.out.later hb)
  replace HXA : Hid (y4.heap[ga]? = _) := Lib.hid ((hb.block _ (Array.getElem?_eq_some_iff.1 HXA.out).1).trans HXA.out)
  replace HX : Hid (y4.heap[pb]? = _) := Lib.hid ((hb.block _ (Array.getElem?_eq_some_iff.1 HX.out).1).trans HX.out)
  replace HN : Hid (Below w.heap.size w y4) := Lib.hid (HN.out.trans (hb.mono HN.out.size))
  clear e1 e2 hb HCC HLV hp2 HG
  go_upto_region 4 with (refine wpList_store_new rfl 31 (.tmp 9) (.tmp 23) rfl 31 _ #[.int .i64 TG.sz, .slice AL nL cL, .slice BL mL kL] rfl rfl gr_size rfl (by simp [Value.oneCell']) ?_)
  have hb := one_new y4 (.cells #[.int .i64 TG.sz, .slice AL nL cL, .slice BL mL kL] 31)
  have HXT : Hid ((y4.alloc (.cells #[.int .i64 TG.sz, .slice AL nL cL, .slice BL mL kL] 31)).heap[y4.heap.size]? = some (.cells #[.int .i64 TG.sz, .slice AL nL cL, .slice BL mL kL] 31 (0, 0))) := Lib.hid (heap_alloc_new _ _)
  replace HM := Lib.hid (own_later HM.out hb)
  replace HCR := Lib.hid (HCR.out.later hb)
  replace HE1 := Lib.hid (GRow.later HE1.out hb); replace HE2 := Lib.hid (HE2.out.later hb)
  replace HXA := Lib.hid ((hb.block _ (Array.getElem?_eq_some_iff.1 HXA.out).1).trans HXA.out)
  replace HX := Lib.hid ((hb.block _ (Array.getElem?_eq_some_iff.1 HX.out).1).trans HX.out)
  replace HN := Lib.hid (HN.out.trans (hb.mono HN.out.size))
  clear hb
  generalize y4.alloc (.cells #[.int .i64 TG.sz, .slice AL nL cL, .slice BL mL kL] 31) = y5 at *
  generalize y4.heap.size = gt at *
  try dsimp only [Act.put]
  obtain ⟨B1, hB1⟩ : ∃ B1, y5.heap.size = B1 := ⟨_, rfl⟩
  have HLT : Hid (∀ y, Below B1 y5 y → (Below w.heap.size w y ∧ B1 ≤ y.heap.size) ∧ IRow y Ac z cc CS ∧ y.heap[pb]? = some (.cells #[.slice A n c, .slice B m k, .int .i64 p.lv] 24 (0, 0)) ∧ y.heap[ga]? = some (.cells #[.slice (some ⟨gm, 0, none⟩) z z] 62 (0, 0)) ∧ y.heap[gt]? = some (.cells #[.int .i64 TG.sz, .slice AL nL cL, .slice BL mL kL] 31 (0, 0)) ∧ GHold y TG (.agg #[.int .i64 TG.sz, .slice AL nL cL, .slice BL mL kL]) ∧ y.ownsRow gm 4 1 (.slice (some ⟨gm, 0, none⟩) z z) z (boolsW (markL z keys))) := Lib.hid fun y hb => by
    rw [← hB1] at hb ⊢
    exact ⟨⟨HN.out.trans (hb.mono HN.out.size), hb.size⟩, HCR.out.later hb, (hb.block _ (Array.getElem?_eq_some_iff.1 HX.out).1).trans HX.out, (hb.block _ (Array.getElem?_eq_some_iff.1 HXA.out).1).trans HXA.out, (hb.block _ (Array.getElem?_eq_some_iff.1 HXT.out).1).trans HXT.out, ⟨_, _, _, _, _, _, rfl, GRow.later HE1.out hb, HE2.out.later hb⟩, own_later HM.out hb⟩
  clear hB1 HCR HX HXA HXT HE1 HE2 HM HN H1 H2
  go_wp2_with fail
  go_loopw [10, 26] (fun o i wr => ∃ j : Nat, j ≤ z ∧ o = .int .i64 (SU j) ∧ i = .int .i64 j ∧ Hid (Below B1 y5 wr)) (fun _ i _ => z - (intOf i).toNat)
  case atStart => exact ⟨0, Nat.zero_le _, by rw [HS0.out], rfl, Lib.hid (Below.refl _ _)⟩
  case round =>
    obtain ⟨j, hj, rfl, rfl, HB⟩ := hrel
    by_cases hlt : j < z
    · have hlt2 : (j : Int) < (z : Int) := by omega
      obtain ⟨⟨q1, q0⟩, q2, q3, q4, q5, q6, q7⟩ := HLT.out wr HB.out
      have HSJ := Lib.hid (HSN.out j)
      have hs0 := (HSB.out j).1
      have hs1 := (HSB.out j).2
      have hc0 := (HCB.out (j : Int)).1
      have hc1 := (HCB.out (j : Int)).2
      obtain ⟨bc, oc, hAc, hcc⟩ := IRow.cell q2 j hlt
      subst hAc
      rw [HCA.out j hlt] at hcc
      obtain ⟨hmk, -⟩ := own_b13 q7 hlt
      rw [onAt_mark keys (by omega) hlt2] at hmk
      have hca : wr.cell? ⟨ga, 0, none⟩ = some (.slice (some ⟨gm, 0, none⟩) z z) := (cell_of_row _ _ 0 _ _ _ q4).trans rfl
      have hp0 : wr.cell? ⟨pb, 0, none⟩ = some (.slice A n c) := (cell_of_row _ _ 0 _ _ _ q3).trans rfl
      have HCC := Lib.hid (HSD.out wr (j : Int) q1)
      have HCO := Lib.hid (outGr_any TG _ (j : Int) wr q6 HLF.out)
      have HXT : Hid (wr.heap[gt]? = some (.cells #[.int .i64 TG.sz, .slice AL nL cL, .slice BL mL kL] 31 (0, 0))) := Lib.hid q5
      have hsz : B1 ≤ wr.heap.size := q0
      clear q1 q0 q2 q3 q4 q5 q6 q7
      cases hbk : hasI keys (j : Int)
      · rw [hbk] at hmk
        rw [hbk, if_neg (by decide)] at HSJ
        clear hbk HCC hp0
        have HDJ := Lib.hid (HDO.out (j : Int))
        have HLJ := Lib.hid (HOL.out (j : Int)); have HIJ := Lib.hid (HOI.out (j : Int))
        generalize outS TG.es (j : Int) = OU at *
        generalize hSJ : SU j = s at *
        generalize CA (j : Int) = cj at *
        generalize DB (j : Int) = db at *
        go_wp2_with (refine wpList_load_rowG rfl 31 (.tmp 9) rfl gt rfl 31 #[.int .i64 TG.sz, .slice AL nL cL, .slice BL mL kL] (0, 0) _ HXT.out Try.underlying31 rfl gr_size ?_)
        refine HCO.out.mono ?_
        rintro e w1 ⟨Ao, no, co, rfl, hr, hb⟩
        have hno : no ≤ 500 := by rw [← hr.len]; exact HLJ.out
        have HB2 : Hid (Below B1 y5 w1) := Lib.hid (HB.out.trans (hb.mono hsz))
        have HCF := Lib.hid (containsFI_any (hasI keys) 41 #[.pointer (some ⟨ga, 0, none⟩)] Ao no co OU w1 hr (by omega) HEN.out fun y x hx hby => by
          obtain ⟨⟨r1, r0⟩, r2, r3, r4, r5, r6, r7⟩ := HLT.out y (HB2.out.trans (hby.mono (HLT.out w1 HB2.out).1.2))
          obtain ⟨x0, x1⟩ := HIJ.out x hx
          have h := bound1_any z gm ga gm (markL z keys) x y r4 r7 x0 x1
          rw [onAt_mark keys x0 x1] at h
          exact h)
        rw [HDJ.out] at HCF
        have hsz1 : B1 ≤ w1.heap.size := (HLT.out w1 HB2.out).1.2
        clear hr hb HCO HXT hca hmk HB hsz
        go_wp2_with fail
        refine HCF.out.mono ?_
        rintro e w2 ⟨rfl, hb⟩
        have HB3 : Hid (Below B1 y5 w2) := Lib.hid (HB2.out.trans (hb.mono hsz1))
        clear hb HCF HB2 hsz1
        cases db
        · rw [if_neg (by decide), Int.add_zero] at HSJ
          go_wp2_with fail
          exact ⟨⟨j + 1, hlt, by rw [HSJ.out], by go_num, HB3⟩, by simp [intOf]; omega⟩
        · rw [if_pos rfl] at HSJ
          have m0 : IntKind.i64.wrap (cj - 1) = cj - 1 := by rw [IntKind.wrap_i64]; omega
          have m1 : RowKit.wrap64 (cj - 1) = cj - 1 := IntWalk.wrap64_in _ (by omega)
          have m2 : IntKind.i64.wrap (s + max 0 (cj - 1)) = s + max 0 (cj - 1) := by rw [IntKind.wrap_i64]; omega
          have m3 : RowKit.wrap64 (s + max 0 (cj - 1)) = s + max 0 (cj - 1) := IntWalk.wrap64_in _ (by omega)
          go_wp2_with fail
          exact ⟨⟨j + 1, hlt, by rw [HSJ.out], by go_num, HB3⟩, by simp [intOf]; omega⟩
      · rw [hbk] at hmk
        rw [hbk, if_pos rfl] at HSJ
        have HBK := Lib.hid hbk
        clear hbk HCO HXT
        generalize hSJ : SU j = s at *
        generalize CA (j : Int) = cj at *
        generalize hasI p.sd (j : Int) = bs at *
        go_wp2_with fail
        refine HCC.out.mono ?_
        rintro e w1 ⟨rfl, hb⟩
        have HB2 : Hid (Below B1 y5 w1) := Lib.hid (HB.out.trans (hb.mono hsz))
        clear hb HCC hp0 hca hmk HB hsz
        cases bs
        · rw [if_neg (by decide), Int.add_zero] at HSJ
          obtain ⟨⟨q1, q0⟩, q2, q3, q4, q5, q6, q7⟩ := HLT.out w1 HB2.out
          obtain ⟨hmk, -⟩ := own_b13 q7 hlt
          rw [onAt_mark keys (by omega) hlt2] at hmk
          have hca : w1.cell? ⟨ga, 0, none⟩ = some (.slice (some ⟨gm, 0, none⟩) z z) := (cell_of_row _ _ 0 _ _ _ q4).trans rfl
          clear q1 q0 q2 q3 q4 q5 q6 q7
          rw [HBK.out] at hmk
          go_wp2_with fail
          exact ⟨⟨j + 1, hlt, by rw [HSJ.out], by go_num, HB2⟩, by simp [intOf]; omega⟩
        · rw [if_pos rfl] at HSJ
          have m2 : IntKind.i64.wrap (s + cj) = s + cj := by rw [IntKind.wrap_i64]; omega
          have m3 : RowKit.wrap64 (s + cj) = s + cj := IntWalk.wrap64_in _ (by omega)
          go_wp2_with fail
          exact ⟨⟨j + 1, hlt, by rw [HSJ.out], by go_num, HB2⟩, by simp [intOf]; omega⟩
    · have hlt2 : ¬ (j : Int) < (z : Int) := by omega
      have hjz : j = z := by omega
      subst hjz
      have HW := Lib.hid (HLT.out wr HB.out).1.1
      go_wp2_with fail
      go_ret
      exact ⟨by rw [HBG.out]; rfl, HW.out⟩
end Go.Proofs.Ytdildmfjekdlgaa
