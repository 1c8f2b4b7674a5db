import Derived.Test.YtdildmfjekdlgaaPackAP
import Derived.Test.YtdildmfjekdlgaaCaBoundP
import Derived.Test.YtdildmfjekdlgaaPackAN
/- What the laws of layer 13 want of capacity; agree. -/
namespace Go.Proofs.Ytdildmfjekdlgaa
open Go.RowKit
/-- What the laws want of package capacity. -/
structure CapC : Prop where
  chk : ∀ (G : Gr) (gv : Value) (p : Pol) (v : Value) (w : World), GHold w G gv → PHold w p v → G.es.length ≤ 100000 → G.gn.length ≤ 100000 → p.sd.length ≤ 100000 → p.tb.length ≤ 100000 → Calls Try.prog 24 #[gv, v] w (SaysL (.int .i64 (checkP G p)) w)
  of_ : ∀ (p : Pol) (v : Value) (d : Int) (w : World), PHold w p v → p.tb.length ≤ 100000 → Calls Try.prog 11 #[v, .int .i64 d] w (SaysL (.int .i64 (capT p.tb d)) w)
  all : ∀ (G : Gr) (gv : Value) (p : Pol) (v : Value) (w : World), GHold w G gv → Good11 G → PHold w p v → GoodP G.sz p → Calls Try.prog 20 #[gv, v] w (GivesI w (capsG G p))
  bnd : ∀ (G : Gr) (gv : Value) (p : Pol) (v : Value) (A : Option Addr) (n c : Nat) (keys : List Int) (w : World), GHold w G gv → Good11 G → PHold w p v → GoodP G.sz p → IRow w A n c keys → n ≤ 100000 → Calls Try.prog 23 #[gv, v, .slice A n c] w (SaysL (.int .i64 (boundG G p keys)) w)
theorem GoodP.few {z : Int} {p : Pol} (h : GoodP z p) (hz : z ≤ 64) : p.sd.length ≤ 100000 := Nat.le_trans (set_len h.set hz) (by decide)
set_option maxRecDepth 100000 in
set_option maxHeartbeats 4000000 in
theorem agree13_any (C : CapC) (G : Gr) (gv : Value) (p : Pol) (v : Value) (A2 : Option Addr) (n2 c2 : Nat) (keys : List Int) (w : World) (hg : GHold w G gv) (h : PHold w p v) (he : G.es.length ≤ 100000) (hgn : G.gn.length ≤ 100000) (hs : p.sd.length ≤ 100000) (ht : p.tb.length ≤ 100000) (hk : IRow w A2 n2 c2 keys) (hn2 : n2 ≤ 100000) : Calls Try.prog 13 #[gv, v, .slice A2 n2 c2] w (SaysL (.bool true) w) := by
  have HGH := Lib.hid hg; have HPH := Lib.hid h
  obtain ⟨A9, n9, c9, B9, m9, k9, rfl, g1, g2⟩ := hg
  obtain ⟨A, n, c, B, m, k, rfl, h1, h2⟩ := h
  have HN := Lib.hid ((one_new w (.cells #[.int .i64 G.sz, .slice A9 n9 c9, .slice B9 m9 k9] 31)).trans ((one_new (w.alloc (.cells #[.int .i64 G.sz, .slice A9 n9 c9, .slice B9 m9 k9] 31)) (.cells #[.slice A n c, .slice B m k, .int .i64 p.lv] 24)).mono (by simp)))
  have HG : Hid (((w.alloc (.cells #[.int .i64 G.sz, .slice A9 n9 c9, .slice B9 m9 k9] 31)).alloc (.cells #[.slice A n c, .slice B m k, .int .i64 p.lv] 24)).heap[w.heap.size]? = some (.cells #[.int .i64 G.sz, .slice A9 n9 c9, .slice B9 m9 k9] 31 (0, 0))) := Lib.hid ((Below.heap_alloc _ _ _ (by simp)).trans (heap_alloc_new _ _))
  have HX : Hid (((w.alloc (.cells #[.int .i64 G.sz, .slice A9 n9 c9, .slice B9 m9 k9] 31)).alloc (.cells #[.slice A n c, .slice B m k, .int .i64 p.lv] 24)).heap[w.heap.size + 1]? = some (.cells #[.slice A n c, .slice B m k, .int .i64 p.lv] 24 (0, 0))) := Lib.hid (heap_alloc2_new _ _ _)
  have H1 := Lib.hid h1; have H2 := Lib.hid h2
  have HK1 : Hid (∀ y, Below w.heap.size w y → Calls Try.prog 24 #[.agg #[.int .i64 G.sz, .slice A9 n9 c9, .slice B9 m9 k9], .agg #[.slice A n c, .slice B m k, .int .i64 p.lv]] y (SaysL (.int .i64 (checkP G p)) y)) := Lib.hid fun y hb => C.chk G _ p _ y (HGH.out.later hb) (HPH.out.later hb) he hgn hs ht
  have HK2 : Hid (∀ y, Below w.heap.size w y → Calls Try.prog 26 #[.agg #[.int .i64 G.sz, .slice A9 n9 c9, .slice B9 m9 k9], .agg #[.slice A n c, .slice B m k, .int .i64 p.lv]] y (SaysL (.int .i64 (checkP G p)) y)) := Lib.hid fun y hb => refChkP_any G _ p _ y (HGH.out.later hb) (HPH.out.later hb) he hgn hs ht
  have HA1 : Hid (checkP G p = 0 → ∀ y, Below w.heap.size w y → Calls Try.prog 20 #[.agg #[.int .i64 G.sz, .slice A9 n9 c9, .slice B9 m9 k9], .agg #[.slice A n c, .slice B m k, .int .i64 p.lv]] y (GivesI y (capsG G p))) := Lib.hid fun h0 y hb => C.all G _ p _ y (HGH.out.later hb) (checkP_iff.1 h0).1 (HPH.out.later hb) (checkP_iff.1 h0).2
  have HA2 : Hid (checkP G p = 0 → ∀ y, Below w.heap.size w y → Calls Try.prog 28 #[.agg #[.int .i64 G.sz, .slice A9 n9 c9, .slice B9 m9 k9], .agg #[.slice A n c, .slice B m k, .int .i64 p.lv]] y (GivesOI y (capsG G p))) := Lib.hid fun h0 y hb => refCaps_any G _ p _ y (HGH.out.later hb) (checkP_iff.1 h0).1 (HPH.out.later hb) hs
  have HB1 : Hid (checkP G p = 0 → ∀ y, Below w.heap.size w y → Calls Try.prog 23 #[.agg #[.int .i64 G.sz, .slice A9 n9 c9, .slice B9 m9 k9], .agg #[.slice A n c, .slice B m k, .int .i64 p.lv], .slice A2 n2 c2] y (SaysL (.int .i64 (boundG G p keys)) y)) := Lib.hid fun h0 y hb => C.bnd G _ p _ A2 n2 c2 keys y (HGH.out.later hb) (checkP_iff.1 h0).1 (HPH.out.later hb) (checkP_iff.1 h0).2 (hk.later hb) hn2
  have HB2 : Hid (checkP G p = 0 → ∀ y, Below w.heap.size w y → Calls Try.prog 29 #[.agg #[.int .i64 G.sz, .slice A9 n9 c9, .slice B9 m9 k9], .agg #[.slice A n c, .slice B m k, .int .i64 p.lv], .slice A2 n2 c2] y (SaysL (.int .i64 (boundG G p keys)) y)) := Lib.hid fun h0 y hb => refBound_any G _ p _ A2 n2 c2 keys y (HGH.out.later hb) (checkP_iff.1 h0).1 (HPH.out.later hb) (checkP_iff.1 h0).2.tab hs (hk.later hb) hn2
  have HCL : Hid (checkP G p = 0 → (capsG G p).length ≤ 100) := Lib.hid fun h0 => by
    have h1 := (checkP_iff.1 h0).1
    have := h1.lo
    have := h1.hi
    rw [capsG_len h1 p]
    omega
  generalize checkP G p = CP at *
  generalize capsG G p = CS at *
  generalize boundG G p keys = BG at *
  clear g1 g2 h1 h2 hs ht he hgn hk HGH HPH H1 H2 C
  go_enter Try.func13, Try.ntmps13
  go_upto_region 1 with fail
  generalize ((w.alloc (.cells #[.int .i64 G.sz, .slice A9 n9 c9, .slice B9 m9 k9] 31)).alloc (.cells #[.slice A n c, .slice B m k, .int .i64 p.lv] 24)) = y0 at *
  obtain ⟨gb, hgb⟩ : ∃ gb, w.heap.size = gb := ⟨_, rfl⟩
  obtain ⟨pb, hpb⟩ : ∃ pb, gb + 1 = pb := ⟨_, rfl⟩
  rw [hgb] at HX HG ⊢
  rw [hpb] at HX ⊢
  clear hgb hpb
  refine wp_region_grow (by kernel_rfl) Later Later.refl (fun _ _ _ => Later.trans) [6] [([0, 1, 3, 4], 2), ([], 5)] (by kernel_rfl) (by kernel_rfl) (by kernel_rfl) ?_
  simp only [List.map_cons, List.map_nil, pick, List.getD_cons_zero, List.getD_cons_succ]
  replace HN : Hid (Below w.heap.size w y0.drew) := Lib.hid HN.out.drew
  replace HX : Hid (y0.drew.heap[pb]? = _) := HX
  replace HG : Hid (y0.drew.heap[gb]? = _) := HG
  generalize y0.drew = z0 at *
  have hfg : ∀ x, (loadVar 31 ⟨gb, 0, none⟩).run Try.prog (fut Later z0 x) = .ok (.agg #[.int .i64 G.sz, .slice A9 n9 c9, .slice B9 m9 k9]) (fut Later z0 x) := fun x => run_loadVar_row _ gb 31 31 #[.int .i64 G.sz, .slice A9 n9 c9, .slice B9 m9 k9] (0, 0) _ (((fut_ok Later.refl z0 x).block gb (Array.getElem?_eq_some_iff.1 HG.out).1).trans HG.out) Try.underlying31 rfl gr_size
  have hfp : ∀ x, (loadVar 24 ⟨pb, 0, none⟩).run Try.prog (fut Later z0 x) = .ok (.agg #[.slice A n c, .slice B m k, .int .i64 p.lv]) (fut Later z0 x) := fun x => run_loadVar_row _ pb 24 24 #[.slice A n c, .slice B m k, .int .i64 p.lv] (0, 0) _ (((fut_ok Later.refl z0 x).block pb (Array.getElem?_eq_some_iff.1 HX.out).1).trans HX.out) Try.underlying24 rfl po_size
  refine wpGrow_cons ?_
  repeat (first | (refine wpQuiet_load rfl 31 (.tmp 3) rfl ⟨gb, 0, none⟩ rfl (.agg #[.int .i64 G.sz, .slice A9 n9 c9, .slice B9 m9 k9]) (fun w' h => by obtain ⟨x, rfl⟩ := h; exact hfg x) ?_; simp only [Act.put, List.setIfInBounds_toArray, List.set_cons_succ, List.set_cons_zero]) | (refine wpQuiet_load rfl 24 (.tmp 4) rfl ⟨pb, 0, none⟩ rfl (.agg #[.slice A n c, .slice B m k, .int .i64 p.lv]) (fun w' h => by obtain ⟨x, rfl⟩ := h; exact hfp x) ?_; simp only [Act.put, List.setIfInBounds_toArray, List.set_cons_succ, List.set_cons_zero]) | go_big_quiet_step (fail))
  refine wpQuiet_nil ?_
  clear hfg hfp
  have HCC := Lib.hid (HK1.out z0 HN.out)
  go_wp2_with fail
  refine HCC.out.mono ?_
  rintro e z1 ⟨rfl, hb⟩
  have HF := Lib.hid hb
  replace HX : Hid (z1.heap[pb]? = _) := Lib.hid ((hb.block _ (Array.getElem?_eq_some_iff.1 HX.out).1).trans HX.out)
  replace HG : Hid (z1.heap[gb]? = _) := Lib.hid ((hb.block _ (Array.getElem?_eq_some_iff.1 HG.out).1).trans HG.out)
  replace HN : Hid (Below w.heap.size w z1) := Lib.hid (HN.out.trans (hb.mono HN.out.size))
  clear hb HCC
  go_wp2_with fail
  refine pieceEnd_normal ⟨HF.out, ?_⟩
  clear HF
  refine wpGrow_cons ?_
  refine wpQuiet_nil ?_
  have HCC := Lib.hid (HK2.out z1 HN.out)
  go_wp2_with fail
  refine HCC.out.mono ?_
  rintro e z2 ⟨rfl, hb⟩
  have HF := Lib.hid hb
  replace HX : Hid (z2.heap[pb]? = _) := Lib.hid ((hb.block _ (Array.getElem?_eq_some_iff.1 HX.out).1).trans HX.out)
  replace HG : Hid (z2.heap[gb]? = _) := Lib.hid ((hb.block _ (Array.getElem?_eq_some_iff.1 HG.out).1).trans HG.out)
  replace HN : Hid (Below w.heap.size w z2) := Lib.hid (HN.out.trans (hb.mono HN.out.size))
  clear hb HCC
  go_wp2_with fail
  refine pieceEnd_normal ⟨HF.out, ?_⟩
  clear HF
  have b0 : (CP != CP) = false := by simp
  refine wpGrow_nil ?_
  repeat (go_big_quiet_step (fail))
  refine wpQuiet_nil ?_
  have HCC := Lib.hid (HK2.out z2 HN.out)
  go_wp2_with (first | (refine wpList_load_row rfl 31 (.tmp 3) rfl gb rfl 31 #[.int .i64 G.sz, .slice A9 n9 c9, .slice B9 m9 k9] (0, 0) _ HG.out Try.underlying31 rfl gr_size ?_) | (refine wpList_load_row rfl 24 (.tmp 4) rfl pb rfl 24 #[.slice A n c, .slice B m k, .int .i64 p.lv] (0, 0) _ HX.out Try.underlying24 rfl po_size ?_))
  clear b0
  refine HCC.out.mono ?_
  rintro e z3 ⟨rfl, hb⟩
  replace HX : Hid (z3.heap[pb]? = _) := Lib.hid ((hb.block _ (Array.getElem?_eq_some_iff.1 HX.out).1).trans HX.out)
  replace HG : Hid (z3.heap[gb]? = _) := Lib.hid ((hb.block _ (Array.getElem?_eq_some_iff.1 HG.out).1).trans HG.out)
  replace HN : Hid (Below w.heap.size w z3) := Lib.hid (HN.out.trans (hb.mono HN.out.size))
  clear hb HCC
  by_cases h0 : CP = 0
  · have b1 : (CP != 0) = false := by rw [h0]; rfl
    have b1' : decide (CP = 0) = true := decide_eq_true h0
    replace HA1 := Lib.hid (HA1.out h0)
    replace HA2 := Lib.hid (HA2.out h0)
    replace HB1 := Lib.hid (HB1.out h0)
    replace HB2 := Lib.hid (HB2.out h0)
    have hcl := HCL.out h0
    clear HK1 HK2 HCL
    subst h0
    go_upto_region 5 with fail
    clear b1 b1'
    refine wp_region_grow (by kernel_rfl) Later Later.refl (fun _ _ _ => Later.trans) [16, 17, 18] [([0, 1, 3, 4], 2), ([], 5), ([], 6), ([7, 8, 9, 10, 12, 13, 14], 11), ([], 15)] (by kernel_rfl) (by kernel_rfl) (by kernel_rfl) ?_
    simp only [List.map_cons, List.map_nil, pick, List.getD_cons_zero, List.getD_cons_succ]
    replace HN : Hid (Below w.heap.size w z3.drew) := Lib.hid HN.out.drew
    replace HX : Hid (z3.drew.heap[pb]? = _) := HX
    replace HG : Hid (z3.drew.heap[gb]? = _) := HG
    generalize z3.drew = x0 at *
    have hfg : ∀ x, (loadVar 31 ⟨gb, 0, none⟩).run Try.prog (fut Later x0 x) = .ok (.agg #[.int .i64 G.sz, .slice A9 n9 c9, .slice B9 m9 k9]) (fut Later x0 x) := fun x => run_loadVar_row _ gb 31 31 #[.int .i64 G.sz, .slice A9 n9 c9, .slice B9 m9 k9] (0, 0) _ (((fut_ok Later.refl x0 x).block gb (Array.getElem?_eq_some_iff.1 HG.out).1).trans HG.out) Try.underlying31 rfl gr_size
    have hfp : ∀ x, (loadVar 24 ⟨pb, 0, none⟩).run Try.prog (fut Later x0 x) = .ok (.agg #[.slice A n c, .slice B m k, .int .i64 p.lv]) (fut Later x0 x) := fun x => run_loadVar_row _ pb 24 24 #[.slice A n c, .slice B m k, .int .i64 p.lv] (0, 0) _ (((fut_ok Later.refl x0 x).block pb (Array.getElem?_eq_some_iff.1 HX.out).1).trans HX.out) Try.underlying24 rfl po_size
    refine wpGrow_cons ?_
    repeat (first | (refine wpQuiet_load rfl 31 (.tmp 3) rfl ⟨gb, 0, none⟩ rfl (.agg #[.int .i64 G.sz, .slice A9 n9 c9, .slice B9 m9 k9]) (fun w' h => by obtain ⟨x, rfl⟩ := h; exact hfg x) ?_; simp only [Act.put, List.setIfInBounds_toArray, List.set_cons_succ, List.set_cons_zero]) | (refine wpQuiet_load rfl 24 (.tmp 4) rfl ⟨pb, 0, none⟩ rfl (.agg #[.slice A n c, .slice B m k, .int .i64 p.lv]) (fun w' h => by obtain ⟨x, rfl⟩ := h; exact hfp x) ?_; simp only [Act.put, List.setIfInBounds_toArray, List.set_cons_succ, List.set_cons_zero]) | go_big_quiet_step (fail))
    refine wpQuiet_nil ?_
    clear hfg hfp
    have HCC := Lib.hid (HA1.out x0 HN.out)
    go_wp2_with fail
    refine HCC.out.mono ?_
    rintro e x1 ⟨A4, n4, c4, rfl, hr, hb⟩
    have HF := Lib.hid hb
    have HR1 := Lib.hid hr
    clear hr
    replace HX : Hid (x1.heap[pb]? = _) := Lib.hid ((hb.block _ (Array.getElem?_eq_some_iff.1 HX.out).1).trans HX.out)
    replace HG : Hid (x1.heap[gb]? = _) := Lib.hid ((hb.block _ (Array.getElem?_eq_some_iff.1 HG.out).1).trans HG.out)
    replace HN : Hid (Below w.heap.size w x1) := Lib.hid (HN.out.trans (hb.mono HN.out.size))
    clear hb HCC
    go_wp2_with fail
    refine pieceEnd_normal ⟨HF.out, ?_⟩
    clear HF
    refine wpGrow_cons ?_
    refine wpQuiet_nil ?_
    have HCC := Lib.hid (HA2.out x1 HN.out)
    go_wp2_with fail
    refine HCC.out.mono ?_
    rintro e x2 ⟨v5, rfl, ho, hb⟩
    obtain ⟨A5, c5, rfl, hr⟩ := Row.of_own ho
    have HF := Lib.hid hb
    have HR2 : Hid (IRow x2 A5 CS.length c5 CS) := Lib.hid hr
    replace HR1 := Lib.hid (HR1.out.later hb)
    clear hr ho
    replace HX : Hid (x2.heap[pb]? = _) := Lib.hid ((hb.block _ (Array.getElem?_eq_some_iff.1 HX.out).1).trans HX.out)
    replace HG : Hid (x2.heap[gb]? = _) := Lib.hid ((hb.block _ (Array.getElem?_eq_some_iff.1 HG.out).1).trans HG.out)
    replace HN : Hid (Below w.heap.size w x2) := Lib.hid (HN.out.trans (hb.mono HN.out.size))
    clear hb HCC
    go_wp2_with fail
    refine pieceEnd_normal ⟨HF.out, ?_⟩
    clear HF
    refine wpGrow_cons ?_
    refine wpQuiet_nil ?_
    have HCC := Lib.hid (sameI_self A4 n4 c4 A5 _ c5 CS x2 HR1.out HR2.out (by rw [← HR1.out.len]; omega))
    clear HR1 HR2
    go_wp2_with fail
    refine HCC.out.mono ?_
    rintro e x3 ⟨rfl, hb⟩
    have HF := Lib.hid hb
    replace HX : Hid (x3.heap[pb]? = _) := Lib.hid ((hb.block _ (Array.getElem?_eq_some_iff.1 HX.out).1).trans HX.out)
    replace HG : Hid (x3.heap[gb]? = _) := Lib.hid ((hb.block _ (Array.getElem?_eq_some_iff.1 HG.out).1).trans HG.out)
    replace HN : Hid (Below w.heap.size w x3) := Lib.hid (HN.out.trans (hb.mono HN.out.size))
    clear hb HCC
    go_wp2_with fail
    refine pieceEnd_normal ⟨HF.out, ?_⟩
    clear HF
    have hfg : ∀ x, (loadVar 31 ⟨gb, 0, none⟩).run Try.prog (fut Later x3 x) = .ok (.agg #[.int .i64 G.sz, .slice A9 n9 c9, .slice B9 m9 k9]) (fut Later x3 x) := fun x => run_loadVar_row _ gb 31 31 #[.int .i64 G.sz, .slice A9 n9 c9, .slice B9 m9 k9] (0, 0) _ (((fut_ok Later.refl x3 x).block gb (Array.getElem?_eq_some_iff.1 HG.out).1).trans HG.out) Try.underlying31 rfl gr_size
    have hfp : ∀ x, (loadVar 24 ⟨pb, 0, none⟩).run Try.prog (fut Later x3 x) = .ok (.agg #[.slice A n c, .slice B m k, .int .i64 p.lv]) (fut Later x3 x) := fun x => run_loadVar_row _ pb 24 24 #[.slice A n c, .slice B m k, .int .i64 p.lv] (0, 0) _ (((fut_ok Later.refl x3 x).block pb (Array.getElem?_eq_some_iff.1 HX.out).1).trans HX.out) Try.underlying24 rfl po_size
    refine wpGrow_cons ?_
    repeat (first | (refine wpQuiet_load rfl 31 (.tmp 3) rfl ⟨gb, 0, none⟩ rfl (.agg #[.int .i64 G.sz, .slice A9 n9 c9, .slice B9 m9 k9]) (fun w' h => by obtain ⟨x, rfl⟩ := h; exact hfg x) ?_; simp only [Act.put, List.setIfInBounds_toArray, List.set_cons_succ, List.set_cons_zero]) | (refine wpQuiet_load rfl 24 (.tmp 4) rfl ⟨pb, 0, none⟩ rfl (.agg #[.slice A n c, .slice B m k, .int .i64 p.lv]) (fun w' h => by obtain ⟨x, rfl⟩ := h; exact hfp x) ?_; simp only [Act.put, List.setIfInBounds_toArray, List.set_cons_succ, List.set_cons_zero]) | go_big_quiet_step (fail))
    refine wpQuiet_nil ?_
    clear hfg hfp
    have HCC := Lib.hid (HB1.out x3 HN.out)
    go_wp2_with fail
    refine HCC.out.mono ?_
    rintro e x4 ⟨rfl, hb⟩
    have HF := Lib.hid hb
    replace HX : Hid (x4.heap[pb]? = _) := Lib.hid ((hb.block _ (Array.getElem?_eq_some_iff.1 HX.out).1).trans HX.out)
    replace HG : Hid (x4.heap[gb]? = _) := Lib.hid ((hb.block _ (Array.getElem?_eq_some_iff.1 HG.out).1).trans HG.out)
    replace HN : Hid (Below w.heap.size w x4) := Lib.hid (HN.out.trans (hb.mono HN.out.size))
    clear hb HCC
    go_wp2_with fail
    refine pieceEnd_normal ⟨HF.out, ?_⟩
    clear HF
    refine wpGrow_cons ?_
    refine wpQuiet_nil ?_
    have HCC := Lib.hid (HB2.out x4 HN.out)
    go_wp2_with fail
    refine HCC.out.mono ?_
    rintro e x5 ⟨rfl, hb⟩
    have HF := Lib.hid hb
    replace HX : Hid (x5.heap[pb]? = _) := Lib.hid ((hb.block _ (Array.getElem?_eq_some_iff.1 HX.out).1).trans HX.out)
    replace HG : Hid (x5.heap[gb]? = _) := Lib.hid ((hb.block _ (Array.getElem?_eq_some_iff.1 HG.out).1).trans HG.out)
    replace HN : Hid (Below w.heap.size w x5) := Lib.hid (HN.out.trans (hb.mono HN.out.size))
    clear hb HCC
    go_wp2_with fail
    refine pieceEnd_normal ⟨HF.out, ?_⟩
    clear HF
    have b2 : (BG == BG) = true := by simp
    refine wpGrow_nil ?_
    repeat (go_big_quiet_step (fail))
    refine wpQuiet_nil ?_
    go_wp2_with fail
    go_ret
    exact ⟨rfl, HN.out⟩
  · have b1 : (CP != 0) = true := by rw [bne_iff_ne]; exact h0
    have b1' : decide (CP = 0) = false := decide_eq_false h0
    clear h0
    go_wp2_with fail
    go_ret
    exact ⟨rfl, HN.out⟩
end Go.Proofs.Ytdildmfjekdlgaa
