import Derived.Test.YtdildmfjekdlgaaCaAgreeP
import Derived.Test.YtdildmfjekdlgaaPackAQ
/- The sanity check of the laws of layer 13. -/
namespace Go.Proofs.Ytdildmfjekdlgaa
open Go.RowKit
def grA13 : Gr := ⟨4, [⟨0, 1, 1⟩, ⟨1, 2, 1⟩], []⟩
def poA13 : Pol := ⟨[0], [5, 3], 1⟩
theorem chk_A13 : checkP grA13 poA13 = 0 := by kernel_rfl
theorem good_A13 : Good11 grA13 ∧ GoodP grA13.sz poA13 := checkP_iff.1 chk_A13
theorem caps_A13 : capsG grA13 poA13 = [5, 3, 1, 0] := by kernel_rfl
theorem bound_A13 : boundG grA13 poA13 [2, 3] = 2 := by kernel_rfl
set_option maxRecDepth 100000 in
set_option maxHeartbeats 4000000 in
theorem awake13_any (C : CapC) (w : World) : Calls Try.prog 8 #[] w (SaysL (.bool true) w) := by
  have HK := Lib.hid chk_A13; have HGD := Lib.hid good_A13; have HCA := Lib.hid caps_A13; have HBO := Lib.hid bound_A13
  have HC := Lib.hid C
  clear C
  go_enter Try.func8, Try.ntmps8
  go_upto_region 2 with (refine wpList_store_new rfl 31 (.tmp 1) (.tmp 7) rfl 31 _ #[.int .i64 4, .slice (some ⟨w.heap.size, 0, none⟩) 2 2, .slice none 0 0] rfl rfl gr_size rfl (by simp [Value.oneCell']) ?_)
  have hb0 : Below w.heap.size w ((w.alloc (.cells #[.int .i64 0, .int .i64 1, .int .i64 1, .int .i64 1, .int .i64 2, .int .i64 1] 45)).alloc (.cells #[.int .i64 4, .slice (some ⟨w.heap.size, 0, none⟩) 2 2, .slice none 0 0] 31)) := (one_new w _).trans ((one_new _ _).mono (by simp))
  have hx : ((w.alloc (.cells #[.int .i64 0, .int .i64 1, .int .i64 1, .int .i64 1, .int .i64 2, .int .i64 1] 45)).alloc (.cells #[.int .i64 4, .slice (some ⟨w.heap.size, 0, none⟩) 2 2, .slice none 0 0] 31)).heap[w.heap.size + 1]? = some (.cells #[.int .i64 4, .slice (some ⟨w.heap.size, 0, none⟩) 2 2, .slice none 0 0] 31 (0, 0)) := heap_alloc2_new _ _ _
  have he : ((w.alloc (.cells #[.int .i64 0, .int .i64 1, .int .i64 1, .int .i64 1, .int .i64 2, .int .i64 1] 45)).alloc (.cells #[.int .i64 4, .slice (some ⟨w.heap.size, 0, none⟩) 2 2, .slice none 0 0] 31)).heap[w.heap.size]? = some (.cells #[.int .i64 0, .int .i64 1, .int .i64 1, .int .i64 1, .int .i64 2, .int .i64 1] 45 (0, 0)) := (Below.heap_alloc _ _ _ (by simp)).trans (heap_alloc_new _ _)
  generalize ((w.alloc (.cells #[.int .i64 0, .int .i64 1, .int .i64 1, .int .i64 1, .int .i64 2, .int .i64 1] 45)).alloc (.cells #[.int .i64 4, .slice (some ⟨w.heap.size, 0, none⟩) 2 2, .slice none 0 0] 31)) = y0 at *
  have HER : Hid (ERow y0 (some ⟨w.heap.size, 0, none⟩) 2 2 grA13.es) := Lib.hid (Row.of_block (n := 2) (sz := 3) he rfl)
  have HN := Lib.hid hb0
  have HG := Lib.hid hx
  clear hb0 hx he
  generalize hge0 : w.heap.size = ge at *
  have HGE := Lib.hid hge0
  clear hge0
  go_upto_region 3 with (refine wpList_store_new rfl 24 (.tmp 2) (.tmp 10) rfl 24 _ #[.slice (some ⟨y0.heap.size, 0, none⟩) 1 1, .slice (some ⟨y0.heap.size + 1, 0, none⟩) 2 2, .int .i64 1] rfl rfl po_size rfl (by simp [Value.oneCell']) ?_)
  have hb1 : Below y0.heap.size y0 (((y0.alloc (.cells #[.int .i64 0] 3)).alloc (.cells #[.int .i64 5, .int .i64 3] 3)).alloc (.cells #[.slice (some ⟨y0.heap.size, 0, none⟩) 1 1, .slice (some ⟨y0.heap.size + 1, 0, none⟩) 2 2, .int .i64 1] 24)) := (one_new y0 _).trans (((one_new _ _).trans ((one_new _ _).mono (by simp))).mono (by simp))
  have hx : (((y0.alloc (.cells #[.int .i64 0] 3)).alloc (.cells #[.int .i64 5, .int .i64 3] 3)).alloc (.cells #[.slice (some ⟨y0.heap.size, 0, none⟩) 1 1, .slice (some ⟨y0.heap.size + 1, 0, none⟩) 2 2, .int .i64 1] 24)).heap[y0.heap.size + 1 + 1]? = some (.cells #[.slice (some ⟨y0.heap.size, 0, none⟩) 1 1, .slice (some ⟨y0.heap.size + 1, 0, none⟩) 2 2, .int .i64 1] 24 (0, 0)) := (by
    have h := heap_alloc_new ((y0.alloc (.cells #[.int .i64 0] 3)).alloc (.cells #[.int .i64 5, .int .i64 3] 3)) (.cells #[.slice (some ⟨y0.heap.size, 0, none⟩) 1 1, .slice (some ⟨y0.heap.size + 1, 0, none⟩) 2 2, .int .i64 1] 24)
    rwa [show ((y0.alloc (.cells #[.int .i64 0] 3)).alloc (.cells #[.int .i64 5, .int .i64 3] 3)).heap.size = y0.heap.size + 1 + 1 by simp] at h)
  have he : (((y0.alloc (.cells #[.int .i64 0] 3)).alloc (.cells #[.int .i64 5, .int .i64 3] 3)).alloc (.cells #[.slice (some ⟨y0.heap.size, 0, none⟩) 1 1, .slice (some ⟨y0.heap.size + 1, 0, none⟩) 2 2, .int .i64 1] 24)).heap[y0.heap.size]? = some (.cells #[.int .i64 0] 3 (0, 0)) := (Below.heap_alloc _ _ _ (by simp; omega)).trans ((Below.heap_alloc _ _ _ (by simp)).trans (heap_alloc_new _ _))
  have he2 : (((y0.alloc (.cells #[.int .i64 0] 3)).alloc (.cells #[.int .i64 5, .int .i64 3] 3)).alloc (.cells #[.slice (some ⟨y0.heap.size, 0, none⟩) 1 1, .slice (some ⟨y0.heap.size + 1, 0, none⟩) 2 2, .int .i64 1] 24)).heap[y0.heap.size + 1]? = some (.cells #[.int .i64 5, .int .i64 3] 3 (0, 0)) := (Below.heap_alloc _ _ _ (by simp)).trans (heap_alloc2_new _ _ _)
  have HR1 : Hid (IRow (((y0.alloc (.cells #[.int .i64 0] 3)).alloc (.cells #[.int .i64 5, .int .i64 3] 3)).alloc (.cells #[.slice (some ⟨y0.heap.size, 0, none⟩) 1 1, .slice (some ⟨y0.heap.size + 1, 0, none⟩) 2 2, .int .i64 1] 24)) (some ⟨y0.heap.size, 0, none⟩) 1 1 [0]) := Lib.hid (IBlk.row (D := [0]) he)
  have HR2 : Hid (IRow (((y0.alloc (.cells #[.int .i64 0] 3)).alloc (.cells #[.int .i64 5, .int .i64 3] 3)).alloc (.cells #[.slice (some ⟨y0.heap.size, 0, none⟩) 1 1, .slice (some ⟨y0.heap.size + 1, 0, none⟩) 2 2, .int .i64 1] 24)) (some ⟨y0.heap.size + 1, 0, none⟩) 2 2 [5, 3]) := Lib.hid (IBlk.row (D := [5, 3]) he2)
  replace HER := Lib.hid (GRow.later HER.out hb1)
  replace HG := Lib.hid ((hb1.block _ (Array.getElem?_eq_some_iff.1 HG.out).1).trans HG.out)
  have HX := Lib.hid hx
  have HN2 : Hid (Below w.heap.size w (((y0.alloc (.cells #[.int .i64 0] 3)).alloc (.cells #[.int .i64 5, .int .i64 3] 3)).alloc (.cells #[.slice (some ⟨y0.heap.size, 0, none⟩) 1 1, .slice (some ⟨y0.heap.size + 1, 0, none⟩) 2 2, .int .i64 1] 24))) := Lib.hid (by
    have h := HN.out
    rw [← HGE.out] at h
    exact h.trans (hb1.mono h.size))
  clear hb1 hx he he2 HN
  generalize (((y0.alloc (.cells #[.int .i64 0] 3)).alloc (.cells #[.int .i64 5, .int .i64 3] 3)).alloc (.cells #[.slice (some ⟨y0.heap.size, 0, none⟩) 1 1, .slice (some ⟨y0.heap.size + 1, 0, none⟩) 2 2, .int .i64 1] 24)) = y1 at *
  generalize y0.heap.size = s0 at *
  have HGH : Hid (∀ y, Below y1.heap.size y1 y → GHold y grA13 (.agg #[.int .i64 4, .slice (some ⟨ge, 0, none⟩) 2 2, .slice none 0 0])) := Lib.hid fun y hy => ⟨_, _, _, _, _, _, rfl, GRow.later HER.out hy, Row.nilRow _ _⟩
  have HPH : Hid (∀ y, Below y1.heap.size y1 y → PHold y poA13 (.agg #[.slice (some ⟨s0, 0, none⟩) 1 1, .slice (some ⟨s0 + 1, 0, none⟩) 2 2, .int .i64 1])) := Lib.hid fun y hy => ⟨_, _, _, _, _, _, rfl, HR1.out.later hy, HR2.out.later hy⟩
  have HALL : Hid (∀ y, Below y1.heap.size y1 y → Calls Try.prog 20 #[.agg #[.int .i64 4, .slice (some ⟨ge, 0, none⟩) 2 2, .slice none 0 0], .agg #[.slice (some ⟨s0, 0, none⟩) 1 1, .slice (some ⟨s0 + 1, 0, none⟩) 2 2, .int .i64 1]] y (GivesI y [5, 3, 1, 0])) := Lib.hid fun y hy => by
    have h := HC.out.all grA13 _ poA13 _ y (HGH.out y hy) HGD.out.1 (HPH.out y hy) HGD.out.2
    rw [HCA.out] at h
    exact h
  have HCHK : Hid (∀ y, Below y1.heap.size y1 y → Calls Try.prog 24 #[.agg #[.int .i64 4, .slice (some ⟨ge, 0, none⟩) 2 2, .slice none 0 0], .agg #[.slice (some ⟨s0, 0, none⟩) 1 1, .slice (some ⟨s0 + 1, 0, none⟩) 2 2, .int .i64 1]] y (SaysL (.int .i64 0) y)) := Lib.hid fun y hy => by
    have h := HC.out.chk grA13 _ poA13 _ y (HGH.out y hy) (HPH.out y hy) (by decide) (by decide) (by decide) (by decide)
    rw [HK.out] at h
    exact h
  have HBND : Hid (∀ y A c, Below y1.heap.size y1 y → IRow y A 2 c [2, 3] → Calls Try.prog 23 #[.agg #[.int .i64 4, .slice (some ⟨ge, 0, none⟩) 2 2, .slice none 0 0], .agg #[.slice (some ⟨s0, 0, none⟩) 1 1, .slice (some ⟨s0 + 1, 0, none⟩) 2 2, .int .i64 1], .slice A 2 c] y (SaysL (.int .i64 2) y)) := Lib.hid fun y A c hy hr => by
    have h := HC.out.bnd grA13 _ poA13 _ A 2 c [2, 3] y (HGH.out y hy) HGD.out.1 (HPH.out y hy) HGD.out.2 hr (by decide)
    rw [HBO.out] at h
    exact h
  have HOF : Hid (∀ y, Below y1.heap.size y1 y → Calls Try.prog 11 #[.agg #[.slice (some ⟨s0, 0, none⟩) 1 1, .slice (some ⟨s0 + 1, 0, none⟩) 2 2, .int .i64 1], .int .i64 (-1)] y (SaysL (.int .i64 0) y)) := Lib.hid fun y hy => HC.out.of_ poA13 _ (-1) y (HPH.out y hy) (by decide)
  clear HGH HPH HER HR1 HR2 HC HK HGD HCA HBO
  have HCC := Lib.hid (HALL.out y1 (Below.refl _ _))
  go_wp2_with (first | (refine wpList_load_row rfl 31 (.tmp 1) rfl (ge + 1) rfl 31 #[.int .i64 4, .slice (some ⟨ge, 0, none⟩) 2 2, .slice none 0 0] (0, 0) _ HG.out Try.underlying31 rfl gr_size ?_) | (refine wpList_load_row rfl 24 (.tmp 2) rfl (s0 + 1 + 1) rfl 24 #[.slice (some ⟨s0, 0, none⟩) 1 1, .slice (some ⟨s0 + 1, 0, none⟩) 2 2, .int .i64 1] (0, 0) _ HX.out Try.underlying24 rfl po_size ?_))
  refine HCC.out.mono ?_
  rintro e y2 ⟨A3, n3, c3, rfl, hr, hb⟩
  have hn3 : n3 = 4 := by rw [← hr.len]; rfl
  subst hn3
  obtain ⟨b3, o3, hA3, hcc0⟩ := IRow.cell hr 0 (by decide)
  subst hA3
  have HR3 := Lib.hid hr
  have HB2 := Lib.hid hb
  replace HX : Hid (y2.heap[s0 + 1 + 1]? = _) := Lib.hid ((hb.block _ (Array.getElem?_eq_some_iff.1 HX.out).1).trans HX.out)
  replace HG : Hid (y2.heap[ge + 1]? = _) := Lib.hid ((hb.block _ (Array.getElem?_eq_some_iff.1 HG.out).1).trans HG.out)
  clear hr hb hcc0 HCC HALL
  have HCC := Lib.hid (HCHK.out y2 HB2.out)
  go_wp2_with (first | (refine wpList_load_row rfl 31 (.tmp 1) rfl (ge + 1) rfl 31 #[.int .i64 4, .slice (some ⟨ge, 0, none⟩) 2 2, .slice none 0 0] (0, 0) _ HG.out Try.underlying31 rfl gr_size ?_) | (refine wpList_load_row rfl 24 (.tmp 2) rfl (s0 + 1 + 1) rfl 24 #[.slice (some ⟨s0, 0, none⟩) 1 1, .slice (some ⟨s0 + 1, 0, none⟩) 2 2, .int .i64 1] (0, 0) _ HX.out Try.underlying24 rfl po_size ?_))
  refine HCC.out.mono ?_
  rintro e y3 ⟨rfl, hb⟩
  have HB3 := Lib.hid (HB2.out.trans (hb.mono HB2.out.size))
  replace HX : Hid (y3.heap[s0 + 1 + 1]? = _) := Lib.hid ((hb.block _ (Array.getElem?_eq_some_iff.1 HX.out).1).trans HX.out)
  replace HG : Hid (y3.heap[ge + 1]? = _) := Lib.hid ((hb.block _ (Array.getElem?_eq_some_iff.1 HG.out).1).trans HG.out)
  have hcell : ∀ i, i < 4 → y3.cell? ⟨b3, o3 + i, none⟩ = some (.int .i64 (([5, 3, 1, 0] : List Int).getD i 0)) := fun i hi => by
    obtain ⟨b, o, hA, hc⟩ := IRow.cell (HR3.out.later hb) i hi
    injection hA with hA
    injection hA with i1 i2
    subst i1 i2
    exact hc
  have hc0 : y3.cell? ⟨b3, o3, none⟩ = some (.int .i64 5) := hcell 0 (by decide)
  have hc1 : y3.cell? ⟨b3, o3 + 1, none⟩ = some (.int .i64 3) := hcell 1 (by decide)
  have hc2 : y3.cell? ⟨b3, o3 + 2, none⟩ = some (.int .i64 1) := hcell 2 (by decide)
  have hc3 : y3.cell? ⟨b3, o3 + 3, none⟩ = some (.int .i64 0) := hcell 3 (by decide)
  have hb4 := one_new y3 (.cells #[.int .i64 2, .int .i64 3] 3)
  have HB4 := Lib.hid (HB3.out.trans (hb4.mono HB3.out.size))
  have HCB := Lib.hid (HBND.out (y3.alloc (.cells #[.int .i64 2, .int .i64 3] 3)) (some ⟨y3.heap.size, 0, none⟩) 2 HB4.out (IBlk.row (D := [2, 3]) (heap_alloc_new _ _)))
  have HX4 : Hid ((y3.alloc (.cells #[.int .i64 2, .int .i64 3] 3)).heap[s0 + 1 + 1]? = _) := Lib.hid ((hb4.block _ (Array.getElem?_eq_some_iff.1 HX.out).1).trans HX.out)
  have hlg0 : y3.cell? ⟨ge + 1, 0, none⟩ = some (.int .i64 4) := (cell_of_row _ _ 0 _ _ _ HG.out).trans rfl
  have hlg1 : y3.cell? ⟨ge + 1, 1, none⟩ = some (.slice (some ⟨ge, 0, none⟩) 2 2) := (cell_of_row _ _ 1 _ _ _ HG.out).trans rfl
  have hlg2 : y3.cell? ⟨ge + 1, 2, none⟩ = some (.slice none 0 0) := (cell_of_row _ _ 2 _ _ _ HG.out).trans rfl
  have hlp0 : y3.cell? ⟨s0 + 1 + 1, 0, none⟩ = some (.slice (some ⟨s0, 0, none⟩) 1 1) := (cell_of_row _ _ 0 _ _ _ HX.out).trans rfl
  have hlp1 : y3.cell? ⟨s0 + 1 + 1, 1, none⟩ = some (.slice (some ⟨s0 + 1, 0, none⟩) 2 2) := (cell_of_row _ _ 1 _ _ _ HX.out).trans rfl
  have hlp2 : y3.cell? ⟨s0 + 1 + 1, 2, none⟩ = some (.int .i64 1) := (cell_of_row _ _ 2 _ _ _ HX.out).trans rfl
  clear hb hb4 hcell HCC HBND HCHK HB2 HB3 HR3
  go_wp2_with (first | (refine wpList_load_row rfl 31 (.tmp 1) rfl (ge + 1) rfl 31 #[.int .i64 4, .slice (some ⟨ge, 0, none⟩) 2 2, .slice none 0 0] (0, 0) _ HG.out Try.underlying31 rfl gr_size ?_) | (refine wpList_load_row rfl 24 (.tmp 2) rfl (s0 + 1 + 1) rfl 24 #[.slice (some ⟨s0, 0, none⟩) 1 1, .slice (some ⟨s0 + 1, 0, none⟩) 2 2, .int .i64 1] (0, 0) _ HX.out Try.underlying24 rfl po_size ?_))
  refine HCB.out.mono ?_
  rintro e y5 ⟨rfl, hb⟩
  have HB5 := Lib.hid (HB4.out.trans (hb.mono HB4.out.size))
  replace HX4 : Hid (y5.heap[s0 + 1 + 1]? = _) := Lib.hid ((hb.block _ (Array.getElem?_eq_some_iff.1 HX4.out).1).trans HX4.out)
  clear hb HCB hc0 hc1 hc2 hc3 HG HX HB4 hlg0 hlg1 hlg2 hlp0 hlp1 hlp2
  have HCC := Lib.hid (HOF.out y5 HB5.out)
  have hlp0 : y5.cell? ⟨s0 + 1 + 1, 0, none⟩ = some (.slice (some ⟨s0, 0, none⟩) 1 1) := (cell_of_row _ _ 0 _ _ _ HX4.out).trans rfl
  have hlp1 : y5.cell? ⟨s0 + 1 + 1, 1, none⟩ = some (.slice (some ⟨s0 + 1, 0, none⟩) 2 2) := (cell_of_row _ _ 1 _ _ _ HX4.out).trans rfl
  have hlp2 : y5.cell? ⟨s0 + 1 + 1, 2, none⟩ = some (.int .i64 1) := (cell_of_row _ _ 2 _ _ _ HX4.out).trans rfl
  go_wp2_with (refine wpList_load_row rfl 24 (.tmp 2) rfl (s0 + 1 + 1) rfl 24 #[.slice (some ⟨s0, 0, none⟩) 1 1, .slice (some ⟨s0 + 1, 0, none⟩) 2 2, .int .i64 1] (0, 0) _ HX4.out Try.underlying24 rfl po_size ?_)
  refine HCC.out.mono ?_
  rintro e y6 ⟨rfl, hb⟩
  have HB6 := Lib.hid (HB5.out.trans (hb.mono HB5.out.size))
  clear hb HCC HB5
  go_wp2_with fail
  go_ret
  refine ⟨rfl, ?_⟩
  exact HN2.out.trans (HB6.out.mono HN2.out.size)
end Go.Proofs.Ytdildmfjekdlgaa
