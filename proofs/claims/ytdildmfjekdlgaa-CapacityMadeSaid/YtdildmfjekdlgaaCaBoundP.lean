import Derived.Test.YtdildmfjekdlgaaCaAllP
/- The reference's Bound. -/
namespace Go.Proofs.Ytdildmfjekdlgaa
open Go.RowKit
set_option maxRecDepth 100000 in
set_option maxHeartbeats 4000000 in
theorem refBound_any (G : Gr) (gv : Value) (p : Pol) (v : Value) (A2 : Option Addr) (n2 c2 : Nat) (keys : List Int) (w : World) (hg : GHold w G gv) (hgd : Good11 G) (h : PHold w p v) (hgt : GoodT p.tb) (hs : p.sd.length ≤ 100000) (hk : IRow w A2 n2 c2 keys) (hn2 : n2 ≤ 100000) : Calls Try.prog 29 #[gv, v, .slice A2 n2 c2] w (SaysL (.int .i64 (boundG G p keys)) w) := by
  have HGH := Lib.hid hg; have HPH := Lib.hid h
  obtain ⟨A9, n9, c9, B9, m9, k9, rfl, g1, g2⟩ := hg
  obtain ⟨A, n, c, B, m, k, rfl, h1, h2⟩ := h
  have HN := Lib.hid ((one_new w (.cells #[.int .i64 G.sz, .slice A9 n9 c9, .slice B9 m9 k9] 31)).trans ((one_new (w.alloc (.cells #[.int .i64 G.sz, .slice A9 n9 c9, .slice B9 m9 k9] 31)) (.cells #[.slice A n c, .slice B m k, .int .i64 p.lv] 24)).mono (by simp)))
  have HG : Hid (((w.alloc (.cells #[.int .i64 G.sz, .slice A9 n9 c9, .slice B9 m9 k9] 31)).alloc (.cells #[.slice A n c, .slice B m k, .int .i64 p.lv] 24)).heap[w.heap.size]? = some (.cells #[.int .i64 G.sz, .slice A9 n9 c9, .slice B9 m9 k9] 31 (0, 0))) := Lib.hid ((Below.heap_alloc _ _ _ (by simp)).trans (heap_alloc_new _ _))
  have HX : Hid (((w.alloc (.cells #[.int .i64 G.sz, .slice A9 n9 c9, .slice B9 m9 k9] 31)).alloc (.cells #[.slice A n c, .slice B m k, .int .i64 p.lv] 24)).heap[w.heap.size + 1]? = some (.cells #[.slice A n c, .slice B m k, .int .i64 p.lv] 24 (0, 0))) := Lib.hid (heap_alloc2_new _ _ _)
  have H1 := Lib.hid h1; have H2 := Lib.hid h2
  have hn : n ≤ 100000 := by rw [← h1.len]; exact hs
  have hlo := hgd.lo
  have hhi := hgd.hi
  have HNL : Hid (G.es.length = n9) := Lib.hid (ERow.len g1)
  have HES := Lib.hid g1
  have hn9 : n9 ≤ 500 := by rw [← HNL.out]; exact hgd.len
  obtain ⟨z, hz⟩ : ∃ z : Nat, G.sz.toNat = z := ⟨_, rfl⟩
  have HGZ : Hid (G.sz = (z : Int)) := Lib.hid (by omega)
  have hz64 : z ≤ 64 := by omega
  have HBG : Hid (boundG G p keys = sumB G p keys z) := Lib.hid (by unfold boundG; rw [hz])
  have HS0 : Hid (sumB G p keys 0 = 0) := Lib.hid rfl
  have HSN : Hid (∀ j : Nat, sumB G p keys (j + 1) = sumB G p keys j + (if hasI keys (j : Int) then (if hasI p.sd (j : Int) then capAt G p (j : Int) else 0) else if deceB G.es p.lv keys (j : Int) then max 0 (capAt G p (j : Int) - 1) else 0)) := Lib.hid fun j => rfl
  have HSB : Hid (∀ j, 0 ≤ sumB G p keys j ∧ sumB G p keys j ≤ 1000 * (j : Int)) := Lib.hid fun j => sumB_bd hgt keys j
  have HCB : Hid (∀ j : Int, 0 ≤ capAt G p j ∧ capAt G p j ≤ 1000) := Lib.hid fun j => capT_bd hgt _
  have HCL : Hid ((capsG G p).length = z) := Lib.hid (by rw [capsG_len hgd p, hz])
  have HCA : Hid (∀ j : Nat, j < z → (capsG G p).getD j 0 = capAt G p (j : Int)) := Lib.hid fun j hj => capsG_at hgd p (by rw [hz]; exact hj)
  have HH1 : Hid (∀ y (x : Int), Below w.heap.size w y → Calls Try.prog 22 #[.slice A2 n2 c2, .int .i64 x] y (SaysL (.bool (hasI keys x)) y)) := Lib.hid fun y x hb => has_any11 A2 n2 c2 keys x y (hk.later hb) hn2
  have HH2 : Hid (∀ y (x : Int), Below w.heap.size w y → Calls Try.prog 22 #[.slice A n c, .int .i64 x] y (SaysL (.bool (hasI p.sd x)) y)) := Lib.hid fun y x hb => has_any11 A n c p.sd x y (h1.later hb) hn
  have HAL : Hid (∀ y, Below w.heap.size w y → Calls Try.prog 28 #[.agg #[.int .i64 G.sz, .slice A9 n9 c9, .slice B9 m9 k9], .agg #[.slice A n c, .slice B m k, .int .i64 p.lv]] y (GivesOI y (capsG G p))) := Lib.hid fun y hb => refCaps_any G _ p _ y (HGH.out.later hb) hgd (HPH.out.later hb) hs
  have HDE : Hid (∀ (k : Int) (j : Nat), j < n9 → deceB (G.es.take (j + 1)) p.lv keys k = (deceB (G.es.take j) p.lv keys k || (decide ((G.es.getD j noEdg).fr = k) && (decide (p.lv ≤ (G.es.getD j noEdg).lv) && hasI keys (G.es.getD j noEdg).tu)))) := Lib.hid fun k j hj => deceB_snoc _ _ _ k j (by rw [HNL.out]; exact hj)
  have HD0 : Hid (∀ k, deceB (G.es.take 0) p.lv keys k = false) := Lib.hid fun k => rfl
  have HDN : Hid (∀ k, deceB (G.es.take n9) p.lv keys k = deceB G.es p.lv keys k) := Lib.hid fun k => by rw [List.take_of_length_le (by rw [HNL.out]; exact Nat.le_refl _)]
  generalize hSU : sumB G p keys = SU at *
  clear hSU
  generalize hCA : capAt G p = CA at *
  clear hCA
  generalize boundG G p keys = BG at *
  generalize capsG G p = CS at *
  clear hlo hhi hz g1 g2 h1 h2 hs hgd hgt HGH HPH hn hk
  go_enter Try.func29, Try.ntmps29
  go_upto_region 1 with fail
  generalize ((w.alloc (.cells #[.int .i64 G.sz, .slice A9 n9 c9, .slice B9 m9 k9] 31)).alloc (.cells #[.slice A n c, .slice B m k, .int .i64 p.lv] 24)) = y0 at *
  obtain ⟨gb, hgb⟩ : ∃ gb, w.heap.size = gb := ⟨_, rfl⟩
  obtain ⟨pb, hpb⟩ : ∃ pb, gb + 1 = pb := ⟨_, rfl⟩
  rw [hgb] at HX HG ⊢
  rw [hpb] at HX ⊢
  clear hgb hpb
  have HCC := Lib.hid (HAL.out y0 HN.out)
  go_wp2_with (first | (refine wpList_load_row rfl 31 (.tmp 3) rfl gb rfl 31 #[.int .i64 G.sz, .slice A9 n9 c9, .slice B9 m9 k9] (0, 0) _ HG.out Try.underlying31 rfl gr_size ?_) | (refine wpList_load_row rfl 24 (.tmp 4) rfl pb rfl 24 #[.slice A n c, .slice B m k, .int .i64 p.lv] (0, 0) _ HX.out Try.underlying24 rfl po_size ?_))
  refine HCC.out.mono ?_
  rintro e y1 ⟨v1, rfl, ho, hb⟩
  obtain ⟨Ac, cc, rfl, hr⟩ := Row.of_own ho
  rw [HCL.out] at hr ⊢
  have HCR : Hid (IRow y1 Ac z cc CS) := Lib.hid hr
  replace HX : Hid (y1.heap[pb]? = _) := Lib.hid ((hb.block _ (Array.getElem?_eq_some_iff.1 HX.out).1).trans HX.out)
  replace HG : Hid (y1.heap[gb]? = _) := Lib.hid ((hb.block _ (Array.getElem?_eq_some_iff.1 HG.out).1).trans HG.out)
  replace HN : Hid (Below w.heap.size w y1) := Lib.hid (HN.out.trans (hb.mono HN.out.size))
  clear ho hb hr HCC HAL y0
  obtain ⟨B1, hB1⟩ : ∃ B1, y1.heap.size = B1 := ⟨_, rfl⟩
  have HLT : Hid (∀ y, Below B1 y1 y → Below w.heap.size w y ∧ IRow y Ac z cc CS ∧ y.heap[pb]? = some (.cells #[.slice A n c, .slice B m k, .int .i64 p.lv] 24 (0, 0)) ∧ y.heap[gb]? = some (.cells #[.int .i64 G.sz, .slice A9 n9 c9, .slice B9 m9 k9] 31 (0, 0)) ∧ ERow y A9 n9 c9 G.es ∧ B1 ≤ y.heap.size) := Lib.hid fun y hb => by
    rw [← hB1] at hb ⊢
    have h3 := HN.out.trans (hb.mono HN.out.size)
    exact ⟨h3, HCR.out.later hb, (hb.block _ (Array.getElem?_eq_some_iff.1 HX.out).1).trans HX.out, (hb.block _ (Array.getElem?_eq_some_iff.1 HG.out).1).trans HG.out, GRow.later HES.out h3, hb.size⟩
  clear hB1 HCR HX HG HN HES H1 H2
  go_wp2_with fail
  go_loopw [8, 9] (fun o i wr => ∃ j : Nat, j ≤ z ∧ o = .int .i64 (SU j) ∧ i = .int .i64 j ∧ Hid (Below B1 y1 wr)) (fun _ i _ => z - (intOf i).toNat)
  case atStart => exact ⟨0, Nat.zero_le _, by rw [HS0.out], rfl, Lib.hid (Below.refl _ _)⟩
  case round =>
    obtain ⟨j, hj, rfl, rfl, HB⟩ := hrel
    obtain ⟨q1, q2, q3, q4, q5, q6⟩ := HLT.out wr HB.out
    have hg0 : wr.cell? ⟨gb, 0, none⟩ = some (.int .i64 (z : Int)) := by rw [← HGZ.out]; exact (cell_of_row _ _ 0 _ _ _ q4).trans rfl
    have HW := Lib.hid q1
    clear q1 q2 q3 q4 q5 q6
    by_cases hlt : j < z
    · have hlt2 : (j : Int) < (z : Int) := by omega
      have HSJ := Lib.hid (HSN.out j)
      have hs0 := (HSB.out j).1
      have hs1 := (HSB.out j).2
      have hc0 := (HCB.out (j : Int)).1
      have hc1 := (HCB.out (j : Int)).2
      have HCJ := Lib.hid (HCA.out j hlt)
      have HCC := Lib.hid (HH1.out wr (j : Int) HW.out)
      generalize hasI keys (j : Int) = bk at *
      generalize hSJ : SU j = s at *
      generalize CA (j : Int) = cj at *
      go_wp2_with fail
      clear hg0
      refine HCC.out.mono ?_
      rintro e w2 ⟨rfl, hb⟩
      have HB2 : Hid (Below B1 y1 w2) := Lib.hid (HB.out.trans (hb.mono (HLT.out wr HB.out).2.2.2.2.2))
      clear hb HCC HW HB
      obtain ⟨q1, q2, q3, q4, q5, q6⟩ := HLT.out w2 HB2.out
      have hsz2 := q6
      have HW := Lib.hid q1
      have hp0 : w2.cell? ⟨pb, 0, none⟩ = some (.slice A n c) := (cell_of_row _ _ 0 _ _ _ q3).trans rfl
      cases bk
      · rw [if_neg (by decide)] at HSJ
        clear hp0 q1 q2 q3 q4 q5 q6 HW
        go_wp2_with fail
        go_loopw [10, 11] (fun dv i wr => ∃ r : Nat, r ≤ n9 ∧ dv = .bool (deceB (G.es.take r) p.lv keys (j : Int)) ∧ i = .int .i64 r ∧ Hid (Below B1 y1 wr)) (fun _ i _ => n9 - (intOf i).toNat)
        case atStart => exact ⟨0, Nat.zero_le _, by rw [HD0.out], rfl, HB2⟩
        case round =>
          clear HB2 hsz2
          obtain ⟨r, hr, rfl, rfl, HB⟩ := hrel
          obtain ⟨q1, q2, q3, q4, q5, q6⟩ := HLT.out wr HB.out
          have hg1 : wr.cell? ⟨gb, 1, none⟩ = some (.slice A9 n9 c9) := (cell_of_row _ _ 1 _ _ _ q4).trans rfl
          by_cases hlr : r < n9
          · have hlr2 : (r : Int) < (n9 : Int) := by omega
            have HDJ := Lib.hid (HDE.out (j : Int) r hlr)
            obtain ⟨b, off, hA, hc⟩ := GRow.cells Edg.len (by decide) q5 noEdg r hlr
            subst hA
            generalize G.es.getD r noEdg = pe at *
            generalize deceB (G.es.take r) p.lv keys (j : Int) = dc at *
            have HC : Hid (∀ q, q < pe.arr.size → wr.cell? ⟨b, off + r * 3 + q, none⟩ = pe.arr[q]?) := Lib.hid fun q hq => (hc q hq).trans (by rw [← Edg.list, Array.getElem?_toList])
            clear hc q1 q2 q3 q4 q5
            go_upto_region 14 with (first | (refine wpList_load_cells rfl 45 (.tmp 45) rfl b (off + r * 3) rfl pe.arr _ Try.underlying45 rfl pe.info HC.out ?_) | (refine wpList_store_new rfl 45 (.tmp 12) (.tmp 46) rfl 45 _ pe.arr rfl rfl pe.info rfl pe.one ?_))
            have hb := one_new wr (.cells pe.arr 45)
            have HYC : Hid ((wr.alloc (.cells pe.arr 45)).heap[wr.heap.size]? = some (.cells pe.arr 45 (0, 0))) := Lib.hid (heap_alloc_new _ _)
            have HB3 : Hid (Below B1 y1 (wr.alloc (.cells pe.arr 45))) := Lib.hid (HB.out.trans (hb.mono q6))
            clear hb HC HB hg1 q6
            generalize wr.alloc (.cells pe.arr 45) = x2 at *
            generalize wr.heap.size = g4 at *
            obtain ⟨hy0, hy1, hy2⟩ := edg_cells HYC.out
            obtain ⟨q1, q2, q3, q4, q5, q6⟩ := HLT.out x2 HB3.out
            have hp2 : x2.cell? ⟨pb, 2, none⟩ = some (.int .i64 p.lv) := (cell_of_row _ _ 2 _ _ _ q3).trans rfl
            have HW := Lib.hid q1
            clear q1 q2 q3 q4 q5 HYC
            cases dc
            · rw [Bool.false_or] at HDJ
              by_cases hfr : pe.fr = (j : Int)
              · have f0 : (pe.fr == (j : Int)) = true := by rw [hfr]; simp
                have f0' : decide (pe.fr = (j : Int)) = true := decide_eq_true hfr
                rw [f0', Bool.true_and] at HDJ
                by_cases hlv : p.lv ≤ pe.lv
                · have f1 : decide (pe.lv ≥ p.lv) = true := decide_eq_true hlv
                  have f1' : decide (p.lv ≤ pe.lv) = true := f1
                  rw [f1', Bool.true_and] at HDJ
                  have HCC := Lib.hid (HH1.out x2 pe.tu HW.out)
                  rw [← HDJ.out] at HCC
                  clear hfr hlv
                  go_wp2_with fail
                  refine HCC.out.mono ?_
                  rintro e x3 ⟨rfl, hb⟩
                  have HB4 : Hid (Below B1 y1 x3) := Lib.hid (HB3.out.trans (hb.mono q6))
                  clear hb HCC hy0 hy1 hy2 hp2
                  go_wp2_with fail
                  exact ⟨⟨r + 1, hlr, rfl, by go_num, HB4⟩, by simp [intOf]; omega⟩
                · have f1 : decide (pe.lv ≥ p.lv) = false := decide_eq_false hlv
                  have f1' : decide (p.lv ≤ pe.lv) = false := f1
                  rw [f1', Bool.false_and] at HDJ
                  clear hfr hlv
                  go_wp2_with fail
                  exact ⟨⟨r + 1, hlr, by rw [HDJ.out], by go_num, HB3⟩, by simp [intOf]; omega⟩
              · have f0 : (pe.fr == (j : Int)) = false := by rw [beq_eq_false_iff_ne]; exact hfr
                have f0' : decide (pe.fr = (j : Int)) = false := decide_eq_false hfr
                rw [f0', Bool.false_and] at HDJ
                clear hfr
                go_wp2_with fail
                exact ⟨⟨r + 1, hlr, by rw [HDJ.out], by go_num, HB3⟩, by simp [intOf]; omega⟩
            · rw [Bool.true_or] at HDJ
              go_wp2_with fail
              exact ⟨⟨r + 1, hlr, by rw [HDJ.out], by go_num, HB3⟩, by simp [intOf]; omega⟩
          · have hlr2 : ¬ (r : Int) < (n9 : Int) := by omega
            have hrn : r = n9 := by omega
            have HDD := Lib.hid (HDN.out (j : Int))
            rw [hrn, HDD.out]
            clear hrn HDD q1 q3 q4 q5 q6
            obtain ⟨bc, oc, hAc, hcc⟩ := IRow.cell q2 j hlt
            rw [HCJ.out] at hcc
            subst hAc
            clear q2
            generalize deceB G.es p.lv keys (j : Int) = db at *
            cases db
            · rw [if_neg (by decide), Int.add_zero] at HSJ
              go_wp2_with fail
              exact ⟨⟨j + 1, hlt, by rw [HSJ.out], by go_num, HB⟩, by simp [intOf]; omega⟩
            · rw [if_pos rfl] at HSJ
              have m0 : IntKind.i64.wrap (cj - 1) = cj - 1 := by rw [IntKind.wrap_i64]; omega
              have m1 : RowKit.wrap64 (cj - 1) = cj - 1 := IntWalk.wrap64_in _ (by omega)
              have m2 : IntKind.i64.wrap (s + max 0 (cj - 1)) = s + max 0 (cj - 1) := by rw [IntKind.wrap_i64]; omega
              have m3 : RowKit.wrap64 (s + max 0 (cj - 1)) = s + max 0 (cj - 1) := IntWalk.wrap64_in _ (by omega)
              go_wp2_with fail
              exact ⟨⟨j + 1, hlt, by rw [HSJ.out], by go_num, HB⟩, by simp [intOf]; omega⟩
      · rw [if_pos rfl] at HSJ
        have HCC := Lib.hid (HH2.out w2 (j : Int) HW.out)
        generalize hasI p.sd (j : Int) = bs at *
        clear q1 q2 q3 q4 q5 q6
        go_wp2_with fail
        refine HCC.out.mono ?_
        rintro e w3 ⟨rfl, hb⟩
        have HB3 : Hid (Below B1 y1 w3) := Lib.hid (HB2.out.trans (hb.mono hsz2))
        clear hb HCC hp0 HW hsz2 HB2
        cases bs
        · rw [if_neg (by decide), Int.add_zero] at HSJ
          go_wp2_with fail
          exact ⟨⟨j + 1, hlt, by rw [HSJ.out], by go_num, HB3⟩, by simp [intOf]; omega⟩
        · rw [if_pos rfl] at HSJ
          obtain ⟨bc, oc, hAc, hcc⟩ := IRow.cell (HLT.out w3 HB3.out).2.1 j hlt
          rw [HCJ.out] at hcc
          subst hAc
          have m2 : IntKind.i64.wrap (s + cj) = s + cj := by rw [IntKind.wrap_i64]; omega
          have m3 : RowKit.wrap64 (s + cj) = s + cj := IntWalk.wrap64_in _ (by omega)
          go_wp2_with fail
          exact ⟨⟨j + 1, hlt, by rw [HSJ.out], by go_num, HB3⟩, by simp [intOf]; omega⟩
    · have hlt2 : ¬ (j : Int) < (z : Int) := by omega
      have hjz : j = z := by omega
      subst hjz
      go_wp2_with fail
      go_ret
      exact ⟨by rw [HBG.out]; rfl, HW.out⟩
end Go.Proofs.Ytdildmfjekdlgaa
