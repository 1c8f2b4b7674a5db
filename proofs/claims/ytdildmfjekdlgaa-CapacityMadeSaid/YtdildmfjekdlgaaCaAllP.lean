import Derived.Test.YtdildmfjekdlgaaPackAP
import Derived.Test.YtdildmfjekdlgaaDrAllP
/- The reference's All. -/
namespace Go.Proofs.Ytdildmfjekdlgaa
open Go.RowKit
/-- A call that gives a list in memory of its own. -/
def GivesOI (w : World) (l : List Int) (e : Ending) (w' : World) : Prop := ∃ v, e = .returned v ∧ w'.ownsRow w.heap.size 3 1 v l.length (intsV l) ∧ Below w.heap.size w w'
theorem capsG_snoc {G : Gr} (h : Good11 G) (p : Pol) (j : Nat) (hj : j < G.sz.toNat) : (capsG G p).take (j + 1) = (capsG G p).take j ++ [capAt G p (j : Int)] := by
  have hl := capsG_len h p
  rw [List.take_add_one, List.getElem?_eq_getElem (by rw [hl]; exact hj), ← capsG_at h p hj, List.getD_eq_getElem?_getD, List.getElem?_eq_getElem (by rw [hl]; exact hj)]
  rfl
set_option maxRecDepth 100000 in
set_option maxHeartbeats 4000000 in
theorem refCaps_any (G : Gr) (gv : Value) (p : Pol) (v : Value) (w : World) (hg : GHold w G gv) (hgd : Good11 G) (h : PHold w p v) (hs : p.sd.length ≤ 100000) : Calls Try.prog 28 #[gv, v] w (GivesOI w (capsG G p)) := by
  have HGH := Lib.hid hg; have HPH := Lib.hid h
  obtain ⟨A9, n9, c9, B9, m9, k9, rfl, g1, g2⟩ := hg
  obtain ⟨A, n, c, B, m, k, rfl, h1, h2⟩ := h
  have HN := Lib.hid ((one_new w (.cells #[.int .i64 G.sz, .slice A9 n9 c9, .slice B9 m9 k9] 31)).trans ((one_new (w.alloc (.cells #[.int .i64 G.sz, .slice A9 n9 c9, .slice B9 m9 k9] 31)) (.cells #[.slice A n c, .slice B m k, .int .i64 p.lv] 24)).mono (by simp)))
  have HG : Hid (((w.alloc (.cells #[.int .i64 G.sz, .slice A9 n9 c9, .slice B9 m9 k9] 31)).alloc (.cells #[.slice A n c, .slice B m k, .int .i64 p.lv] 24)).heap[w.heap.size]? = some (.cells #[.int .i64 G.sz, .slice A9 n9 c9, .slice B9 m9 k9] 31 (0, 0))) := Lib.hid ((Below.heap_alloc _ _ _ (by simp)).trans (heap_alloc_new _ _))
  have HX : Hid (((w.alloc (.cells #[.int .i64 G.sz, .slice A9 n9 c9, .slice B9 m9 k9] 31)).alloc (.cells #[.slice A n c, .slice B m k, .int .i64 p.lv] 24)).heap[w.heap.size + 1]? = some (.cells #[.slice A n c, .slice B m k, .int .i64 p.lv] 24 (0, 0))) := Lib.hid (heap_alloc2_new _ _ _)
  have H1 := Lib.hid h1; have H2 := Lib.hid h2
  have hn : n ≤ 100000 := by rw [← h1.len]; exact hs
  have HGD := Lib.hid hgd
  have hlo := hgd.lo
  have hhi := hgd.hi
  obtain ⟨z, hz⟩ : ∃ z : Nat, G.sz.toNat = z := ⟨_, rfl⟩
  have hz64 : z ≤ 64 := by omega
  have HCL : Hid ((capsG G p).length = z) := Lib.hid (by rw [capsG_len hgd p, hz])
  have HDL : Hid ((distP G p).length = z) := Lib.hid (by rw [(distP_dist hgd p).len, hz])
  have HSN : Hid (∀ j, j < z → (capsG G p).take (j + 1) = (capsG G p).take j ++ [capT p.tb (dAt (distP G p) (j : Int))]) := Lib.hid fun j hj => capsG_snoc hgd p j (by rw [hz]; exact hj)
  have HLV : Hid (∀ y, Below w.heap.size w y → Calls Try.prog 46 #[.agg #[.int .i64 G.sz, .slice A9 n9 c9, .slice B9 m9 k9], .int .i64 p.lv] y (GivesGO y (levelG G p.lv))) := Lib.hid fun y hb => glevel_any G _ p.lv y (HGH.out.later hb) hgd.few.1 hgd.few.2
  have HAL : Hid (∀ y v2, GHold y (levelG G p.lv) v2 → Below w.heap.size w y → Calls Try.prog 45 #[v2, .slice A n c] y fun e w' => ∃ v', e = .returned v' ∧ w'.ownsRow y.heap.size 3 1 v' z (intsV (distP G p)) ∧ Below y.heap.size y w') := Lib.hid fun y v2 h2 hb => (refAll_any (levelG G p.lv) v2 A n c p.sd y h2 (good_level hgd _) (h1.later hb) hn).mono (by
    rintro e w' ⟨v', rfl, ho, hb⟩
    refine ⟨v', rfl, ?_, hb⟩
    rw [← hz]
    exact ho)
  have HOF : Hid (∀ y d, Below w.heap.size w y → Calls Try.prog 12 #[.agg #[.slice A n c, .slice B m k, .int .i64 p.lv], .int .i64 d] y (SaysL (.int .i64 (capT p.tb d)) y)) := Lib.hid fun y d hb => refOf_any p _ d y (HPH.out.later hb)
  generalize capsG G p = CS at *
  generalize distP G p = DL at *
  generalize levelG G p.lv = GL at *
  clear hlo hhi hz g1 g2 h1 h2 hs hgd HGH HPH hn
  go_enter Try.func28, Try.ntmps28
  go_upto_region 1 with fail
  generalize ((w.alloc (.cells #[.int .i64 G.sz, .slice A9 n9 c9, .slice B9 m9 k9] 31)).alloc (.cells #[.slice A n c, .slice B m k, .int .i64 p.lv] 24)) = y0 at *
  obtain ⟨gb, hgb⟩ : ∃ gb, w.heap.size = gb := ⟨_, rfl⟩
  obtain ⟨pb, hpb⟩ : ∃ pb, gb + 1 = pb := ⟨_, rfl⟩
  rw [hgb] at HX HG ⊢
  rw [hpb] at HX ⊢
  have HPS : Hid (pb < y0.heap.size ∧ gb < y0.heap.size) := Lib.hid ⟨(Array.getElem?_eq_some_iff.1 HX.out).1, (Array.getElem?_eq_some_iff.1 HG.out).1⟩
  clear hgb hpb
  refine wp_region_grow (by kernel_rfl) Later Later.refl (fun _ _ _ => Later.trans) [7] [([0, 1, 2, 4, 5], 3), ([], 6)] (by kernel_rfl) (by kernel_rfl) (by kernel_rfl) ?_
  simp only [List.map_cons, List.map_nil, pick, List.getD_cons_zero, List.getD_cons_succ]
  replace HN : Hid (Below w.heap.size w y0.drew) := Lib.hid HN.out.drew
  replace HX : Hid (y0.drew.heap[pb]? = _) := HX
  replace HG : Hid (y0.drew.heap[gb]? = _) := HG
  replace HPS : Hid (pb < y0.drew.heap.size ∧ gb < y0.drew.heap.size) := HPS
  generalize y0.drew = z0 at *
  have hfg : ∀ x, (loadVar 31 ⟨gb, 0, none⟩).run Try.prog (fut Later z0 x) = .ok (.agg #[.int .i64 G.sz, .slice A9 n9 c9, .slice B9 m9 k9]) (fut Later z0 x) := fun x => run_loadVar_row _ gb 31 31 #[.int .i64 G.sz, .slice A9 n9 c9, .slice B9 m9 k9] (0, 0) _ (((fut_ok Later.refl z0 x).block gb HPS.out.2).trans HG.out) Try.underlying31 rfl gr_size
  have hf0 : ∀ x, (fut Later z0 x).cell? ⟨pb, 0, none⟩ = some (.slice A n c) := fun x => (cell_of_row _ _ 0 _ _ _ (((fut_ok Later.refl z0 x).block pb HPS.out.1).trans HX.out)).trans rfl
  have hf2 : ∀ x, (fut Later z0 x).cell? ⟨pb, 2, none⟩ = some (.int .i64 p.lv) := fun x => (cell_of_row _ _ 2 _ _ _ (((fut_ok Later.refl z0 x).block pb HPS.out.1).trans HX.out)).trans rfl
  refine wpGrow_cons ?_
  repeat (first | (refine wpQuiet_load rfl 31 (.tmp 2) rfl ⟨gb, 0, none⟩ rfl (.agg #[.int .i64 G.sz, .slice A9 n9 c9, .slice B9 m9 k9]) (fun w' h => by obtain ⟨x, rfl⟩ := h; exact hfg x) ?_; simp only [Act.put, List.setIfInBounds_toArray, List.set_cons_succ, List.set_cons_zero]) | go_big_quiet_step (fail))
  refine wpQuiet_nil ?_
  clear hfg hf0 hf2
  have HCC := Lib.hid (HLV.out z0 HN.out)
  go_wp2_with fail
  refine HCC.out.mono ?_
  rintro e z1 ⟨v2, rfl, ho, hb⟩
  have HGL := Lib.hid ho.hold
  have HF := Lib.hid hb
  replace HX : Hid (z1.heap[pb]? = _) := Lib.hid ((hb.block _ HPS.out.1).trans HX.out)
  replace HN : Hid (Below w.heap.size w z1) := Lib.hid (HN.out.trans (hb.mono HN.out.size))
  clear ho hb HCC HG HPS
  go_wp2_with fail
  refine pieceEnd_normal ⟨HF.out, ?_⟩
  clear HF
  refine wpGrow_cons ?_
  refine wpQuiet_nil ?_
  have HCC := Lib.hid (HAL.out z1 v2 HGL.out HN.out)
  go_wp2_with fail
  refine HCC.out.mono ?_
  rintro e z2 ⟨v3, rfl, ho, hb⟩
  obtain ⟨Ad, cd, rfl, hr⟩ := Row.of_own ho
  have HF := Lib.hid hb
  have HD : Hid (IRow z2 Ad z cd DL) := Lib.hid hr
  replace HX : Hid (z2.heap[pb]? = _) := Lib.hid ((hb.block _ (Array.getElem?_eq_some_iff.1 HX.out).1).trans HX.out)
  replace HN : Hid (Below w.heap.size w z2) := Lib.hid (HN.out.trans (hb.mono HN.out.size))
  clear ho hb hr HCC HGL
  go_wp2_with fail
  refine pieceEnd_normal ⟨HF.out, ?_⟩
  clear HF
  refine wpGrow_nil ?_
  repeat (go_big_quiet_step (fail))
  refine wpQuiet_nil ?_
  obtain ⟨B0, hB0⟩ : ∃ B0, z2.heap.size = B0 := ⟨_, rfl⟩
  have HLD : Hid (∀ y, Below B0 z2 y → IRow y Ad z cd DL) := Lib.hid fun y hb => HD.out.later (by rw [← hB0] at hb; exact hb)
  have HB0 := Lib.hid hB0
  have hpb : pb < B0 := by rw [← hB0]; exact (Array.getElem?_eq_some_iff.1 HX.out).1
  have hgB : w.heap.size ≤ B0 := by rw [← hB0]; exact HN.out.size
  clear hB0 HD HAL HLV
  go_wp2_with fail
  go_loopw [6, 7] (fun v6 i wr => ∃ j : Nat, j ≤ z ∧ i = .int .i64 j ∧ Hid (wr.ownsRow B0 3 1 v6 j (intsV (CS.take j)) ∧ Below B0 z2 wr)) (fun _ i _ => z - (intOf i).toNat)
  case atStart => exact ⟨0, Nat.zero_le _, rfl, Lib.hid ⟨World.ownsRow_nil _ _ _ _, Below.refl _ _⟩⟩
  case round =>
    obtain ⟨j, hj, rfl, HQ⟩ := hrel
    by_cases hlt : j < z
    · have hlt2 : (j : Int) < (z : Int) := by omega
      have HSJ := Lib.hid (HSN.out j hlt)
      obtain ⟨A1, c1, hv, -⟩ := Row.of_own HQ.out.1
      subst hv
      have HO := Lib.hid (own_later HQ.out.1 (Below.refl _ _).drew)
      have HBz : Hid (Below B0 z2 wr.drew) := Lib.hid HQ.out.2.drew
      clear HQ
      go_upto_region 6 with fail
      refine wp_region_grow (by kernel_rfl) (Below B0) (Below.refl B0) (fun _ _ _ => Below.trans) [9] [([0, 1, 2, 3, 4, 5], 6), ([], 7), ([], 8)] (by kernel_rfl) (by kernel_rfl) (by kernel_rfl) ?_
      simp only [List.map_cons, List.map_nil, pick, List.getD_cons_zero, List.getD_cons_succ]
      generalize wr.drew = z3 at *
      have HX3 : Hid (z3.heap[pb]? = _) := Lib.hid ((HBz.out.block _ hpb).trans HX.out)
      have HN3 : Hid (Below w.heap.size w z3) := Lib.hid (HN.out.trans (HBz.out.mono hgB))
      have hsz3 : B0 ≤ z3.heap.size := by rw [← HB0.out]; exact HBz.out.size
      generalize CS.take j = U at *
      obtain ⟨bd, od, hAd, -⟩ := IRow.cell (HLD.out z3 HBz.out) j hlt
      subst hAd
      have hfd : ∀ x, (fut (Below B0) z3 x).cell? ⟨bd, od + j, none⟩ = some (.int .i64 (dAt DL (j : Int))) := fun x => by
        obtain ⟨b2, o2, hA2, hc2⟩ := IRow.cell (HLD.out _ (HBz.out.trans (fut_ok (Below.refl B0) z3 x))) j hlt
        injection hA2 with hA2
        injection hA2 with i1 i2
        subst i1 i2
        rw [dAt_cell (by rw [HDL.out]; exact hlt)] at hc2
        exact hc2
      generalize dAt DL (j : Int) = dj at *
      have hfp : ∀ x, (loadVar 24 ⟨pb, 0, none⟩).run Try.prog (fut (Below B0) z3 x) = .ok (.agg #[.slice A n c, .slice B m k, .int .i64 p.lv]) (fut (Below B0) z3 x) := fun x => run_loadVar_row _ pb 24 24 #[.slice A n c, .slice B m k, .int .i64 p.lv] (0, 0) _ (((fut_ok (Below.refl B0) z3 x).block pb hpb).trans HX3.out) Try.underlying24 rfl po_size
      have HCC := Lib.hid (HOF.out z3 dj HN3.out)
      generalize capT p.tb dj = cj at *
      refine wpGrow_cons ?_
      repeat (first | (refine wpQuiet_load rfl 24 (.tmp 3) rfl ⟨pb, 0, none⟩ rfl (.agg #[.slice A n c, .slice B m k, .int .i64 p.lv]) (fun w' h => by obtain ⟨x, rfl⟩ := h; exact hfp x) ?_; simp only [Act.put, List.setIfInBounds_toArray, List.set_cons_succ, List.set_cons_zero]) | go_big_quiet_step (fail))
      refine wpQuiet_nil ?_
      clear hfd hfp
      go_wp2_with fail
      refine HCC.out.mono ?_
      rintro e z4 ⟨rfl, hb⟩
      have HF : Hid (Below B0 z3 z4) := Lib.hid (hb.mono hsz3)
      replace HO := Lib.hid (own_later HO.out hb)
      have hsz4 : B0 ≤ z4.heap.size := Nat.le_trans hsz3 hb.size
      replace HBz : Hid (Below B0 z2 z4) := Lib.hid (HBz.out.trans HF.out)
      clear hb HCC HX3 HN3
      go_wp2_with fail
      refine pieceEnd_normal ⟨HF.out, ?_⟩
      clear HF
      refine wpGrow_cons ?_
      refine wpQuiet_nil ?_
      go_wp2_with fail
      have hb : Below B0 z4 (z4.alloc (.cells #[.int .i64 cj] 3)) := (one_new z4 _).mono hsz4
      refine pieceEnd_normal ⟨hb, ?_⟩
      have HR3 : Hid (Row (z4.alloc (.cells #[.int .i64 cj] 3)) (some ⟨z4.heap.size, 0, none⟩) 1 1 1 (intsV [cj])) := Lib.hid (Row.of_block (heap_alloc_new _ _) rfl)
      replace HO := Lib.hid (World.ownsRow.alloc HO.out (.cells #[.int .i64 cj] 3))
      have hsz6 : B0 ≤ (z4.alloc (.cells #[.int .i64 cj] 3)).heap.size := Nat.le_trans hsz4 hb.size
      replace HBz : Hid (Below B0 z2 (z4.alloc (.cells #[.int .i64 cj] 3))) := Lib.hid (HBz.out.trans hb)
      clear hb
      obtain ⟨g3, hg3⟩ : ∃ g3, z4.heap.size = g3 := ⟨_, rfl⟩
      rw [hg3] at HR3 ⊢
      clear hg3 hsz4
      generalize z4.alloc (.cells #[.int .i64 cj] 3) = z6 at *
      refine wpGrow_cons ?_
      refine wpQuiet_nil ?_
      go_wp2_with (at_builtin; go_must (refine wpList_app2 z6 rfl (.tmp 21) (.tmp 28) 22 22 3 rfl B0 Try.underlying22 i64_info rfl _ j (intsV U) HO.out rfl _ 1 (intsV [cj]) (Row.src HR3.out Try.underlying22 (intsV_one _)) rfl (by unfold maxLen; omega) (by omega) hsz6 ?_); intro v5 z5 ho hb hkp hv; have HO5 := Lib.hid ho; have HB5 := Lib.hid hb; clear ho hb hkp hv)
      obtain ⟨A5, c5, hv5, -⟩ := Row.of_own HO5.out
      subst hv5
      refine pieceEnd_normal ⟨HB5.out, ?_⟩
      refine wpGrow_nil ?_
      repeat (go_big_quiet_step (fail))
      refine wpQuiet_nil ?_
      go_wp2_with fail
      exact ⟨⟨j + 1, hlt, by go_num, Lib.hid ⟨by rw [HSJ.out, intsV_app]; exact HO5.out, HBz.out.trans HB5.out⟩⟩, by simp [intOf]; omega⟩
    · have hlt2 : ¬ (j : Int) < (z : Int) := by omega
      have hjz : j = z := by omega
      subst hjz
      have HO := Lib.hid HQ.out.1
      have HBz := Lib.hid HQ.out.2
      rw [List.take_of_length_le (by rw [HCL.out]; exact Nat.le_refl _)] at HO
      clear HQ
      go_wp2_with fail
      go_ret
      refine ⟨_, rfl, ?_, ?_⟩
      · rw [HCL.out]
        exact own_base HO.out hgB
      · exact HN.out.trans (HBz.out.mono hgB)
end Go.Proofs.Ytdildmfjekdlgaa
