import Derived.Test.YtdildmfjekdlgaaPackAR
import Derived.Test.YtdildmfjekdlgaaGCheckP
/- The walk of the reference's All. -/
namespace Go.Proofs.Ytdildmfjekdlgaa
open Go.RowKit
theorem initD_snoc (j : Nat) (sd : Int → Bool) : initD (j + 1) sd = initD j sd ++ [if sd (j : Int) then 0 else -1] := by
  unfold initD
  rw [List.range_succ, List.map_append]; rfl
theorem initD_len (j : Nat) (sd : Int → Bool) : (initD j sd).length = j := by unfold initD; rw [List.length_map, List.length_range]
theorem set_last (l : List Int) (a b : Int) (j : Nat) (h : l.length = j) : (l ++ [a]).set j b = l ++ [b] := by
  subst h
  rw [List.set_append_right _ _ (Nat.le_refl _), Nat.sub_self]; rfl
theorem stepD_len (n : Nat) (d : List Int) (e : Edg) : (stepD n d e).length = d.length := by
  unfold stepD
  split
  · rw [List.length_set]
  · rfl
theorem stepsD_len (n : Nat) : ∀ (q : List Edg) (d : List Int), (q.foldl (stepD n) d).length = d.length
  | [], _ => rfl
  | e :: q, d => by rw [List.foldl_cons, stepsD_len n q, stepD_len]
theorem roundsD_len (es : List Edg) : ∀ (n : Nat) (d : List Int), (roundsD es n d).length = d.length
  | 0, _ => rfl
  | n + 1, d => by unfold roundsD roundD; rw [stepsD_len, roundsD_len es n]
theorem steps_snoc (n : Nat) (es : List Edg) (d : List Int) (i : Nat) (h : i < es.length) : (es.take (i + 1)).foldl (stepD n) d = stepD n ((es.take i).foldl (stepD n) d) (es.getD i noEdg) := by
  rw [List.take_add_one, List.getElem?_eq_getElem h, List.foldl_append, List.getD_eq_getElem?_getD, List.getElem?_eq_getElem h]; rfl
set_option maxRecDepth 100000 in
set_option maxHeartbeats 4000000 in
theorem refAll_any (G : Gr) (v : Value) (A2 : Option Addr) (n2 c2 : Nat) (seeds : List Int) (w : World) (h : GHold w G v) (hgd : Good11 G) (hs : IRow w A2 n2 c2 seeds) (hn2 : n2 ≤ 100000) : Calls Try.prog 45 #[v, .slice A2 n2 c2] w fun e w' => ∃ v', e = .returned v' ∧ w'.ownsRow w.heap.size 3 1 v' G.sz.toNat (intsV (allD G seeds)) ∧ Below w.heap.size w w' := by
  obtain ⟨A, n, c, B, m, k, rfl, h1, h2⟩ := h
  have HNW := Lib.hid (one_new w (.cells #[.int .i64 G.sz, .slice A n c, .slice B m k] 31))
  have HX : Hid ((w.alloc (.cells #[.int .i64 G.sz, .slice A n c, .slice B m k] 31)).heap[w.heap.size]? = some (.cells #[.int .i64 G.sz, .slice A n c, .slice B m k] 31 (0, 0))) := Lib.hid (heap_alloc_new _ _)
  have hn : n ≤ 100000 := by rw [← ERow.len h1]; exact hgd.few.1
  have hm : m ≤ 100000 := by rw [← h2.len]; exact hgd.few.2
  have HL := Lib.hid (GRow.later h1 HNW.out)
  have HLN : Hid (G.es.length = n) := Lib.hid (ERow.len h1)
  have HG2 := Lib.hid (h2.later HNW.out)
  have HS2 := Lib.hid (hs.later HNW.out)
  have HIZ := Lib.hid (good_inZ hgd)
  have hlo := hgd.lo
  have hhi := hgd.hi
  obtain ⟨z, hz⟩ : ∃ z : Nat, G.sz.toNat = z := ⟨_, rfl⟩
  have HGZ : Hid (G.sz = (z : Int)) := Lib.hid (by omega)
  have hz64 : z ≤ 64 := by omega
  have HAL : Hid (allD G seeds = roundsD G.es z (initD z (seedB G.gn seeds))) := Lib.hid (by unfold allD; rw [hz])
  have HSB : Hid (∀ x, seedB G.gn seeds x = (hasI seeds x && !hasI G.gn x)) := Lib.hid fun x => rfl
  rw [hz] at HIZ ⊢
  have HH1 : Hid (∀ y (x : Int), Below (w.alloc (.cells #[.int .i64 G.sz, .slice A n c, .slice B m k] 31)).heap.size (w.alloc (.cells #[.int .i64 G.sz, .slice A n c, .slice B m k] 31)) y → Calls Try.prog 22 #[.slice A2 n2 c2, .int .i64 x] y (SaysL (.bool (hasI seeds x)) y)) := Lib.hid fun y x hy => has_any11 A2 n2 c2 seeds x y (HS2.out.later hy) hn2
  have HH2 : Hid (∀ y (x : Int), Below (w.alloc (.cells #[.int .i64 G.sz, .slice A n c, .slice B m k] 31)).heap.size (w.alloc (.cells #[.int .i64 G.sz, .slice A n c, .slice B m k] 31)) y → Calls Try.prog 22 #[.slice B m k, .int .i64 x] y (SaysL (.bool (hasI G.gn x)) y)) := Lib.hid fun y x hy => has_any11 B m k G.gn x y (HG2.out.later hy) hm
  generalize allD G seeds = AD at *
  generalize seedB G.gn seeds = sd at *
  generalize G.es = es at *
  clear hz hlo hhi h1 h2 hs hgd
  go_enter Try.func45, Try.ntmps45
  go_wp2_with fail
  have HSZ : Hid (w.heap.size + 1 = (w.alloc (.cells #[.int .i64 G.sz, .slice A n c, .slice B m k] 31)).heap.size) := Lib.hid (by simp)
  generalize w.alloc (.cells #[.int .i64 G.sz, .slice A n c, .slice B m k] 31) = y0 at *
  obtain ⟨g, hgg⟩ : ∃ g, w.heap.size = g := ⟨_, rfl⟩
  rw [hgg] at HX HSZ ⊢
  have HGG := Lib.hid hgg
  clear hgg
  go_loopw [5, 6] (fun v i wr => ∃ j : Nat, j ≤ z ∧ i = .int .i64 j ∧ Hid (wr.ownsRow y0.heap.size 3 1 v j (intsV (initD j sd)) ∧ Below y0.heap.size y0 wr)) (fun _ i _ => z - (intOf i).toNat)
  case atStart => exact ⟨0, Nat.zero_le _, rfl, Lib.hid ⟨World.ownsRow_nil _ _ _ _, Below.refl _ _⟩⟩
  case round =>
    obtain ⟨j, hj, rfl, HQ⟩ := hrel
    have HO := Lib.hid HQ.out.1
    have HBr := Lib.hid HQ.out.2
    clear HQ
    have HXr : Hid (wr.heap[g]? = some (.cells #[.int .i64 G.sz, .slice A n c, .slice B m k] 31 (0, 0))) := Lib.hid ((HBr.out.block _ (by have := HSZ.out; omega)).trans HX.out)
    have hg0 : wr.cell? ⟨g, 0, none⟩ = some (.int .i64 G.sz) := (cell_of_row _ _ 0 _ _ _ HXr.out).trans rfl
    rw [HGZ.out] at hg0
    by_cases hlt : j < z
    · have hlt2 : (j : Int) < (z : Int) := by omega
      have hsz : y0.heap.size ≤ wr.heap.size := HBr.out.size
      obtain ⟨A1, c1, hv, -⟩ := Row.of_own HO.out
      subst hv
      have HIS := Lib.hid (initD_snoc j sd)
      have HIL := Lib.hid (initD_len j sd)
      have HSBj := Lib.hid (HSB.out (j : Int))
      generalize sd (j : Int) = sj at *
      generalize initD j sd = U at *
      go_upto_region 6 with (at_builtin; go_must (refine wpList_app_new wr rfl (.tmp 16) (.tmp 17) 22 3 rfl y0.heap.size Try.underlying22 i64_info rfl _ j (intsV U) HO.out rfl 1 #[.int .i64 (-1)] rfl (by simp [Value.oneCell']) rfl rfl (by unfold maxLen; omega) (by omega) hsz ?_); intro v3 w3 ho3 hb3; have HO3 : Hid (w3.ownsRow y0.heap.size 3 1 v3 (j + 1) (intsV (U ++ [-1]))) := Lib.hid (by rw [intsV_app]; exact ho3); have HB3 := Lib.hid (HBr.out.trans hb3); clear ho3 hb3)
      clear hg0 HXr HO HBr hsz
      go_wp2_with fail
      refine (HH1.out w3 (j : Int) HB3.out).mono ?_
      rintro e w4 ⟨rfl, hb⟩
      have HO4 := Lib.hid (own_later HO3.out hb)
      have HB4 := Lib.hid (HB3.out.trans (hb.mono HB3.out.size))
      clear hb HO3 HB3
      have HX4 : Hid (w4.heap[g]? = some (.cells #[.int .i64 G.sz, .slice A n c, .slice B m k] 31 (0, 0))) := Lib.hid ((HB4.out.block _ (by have := HSZ.out; omega)).trans HX.out)
      generalize hasI seeds (j : Int) = b1 at *
      cases b1
      · rw [HSBj.out, Bool.false_and, if_neg (by decide)] at HIS
        go_wp2_with fail
        exact ⟨⟨j + 1, hlt, by go_num, Lib.hid ⟨by rw [HIS.out]; exact HO4.out, HB4.out⟩⟩, by simp [intOf]; omega⟩
      · have hg2 : w4.cell? ⟨g, 2, none⟩ = some (.slice B m k) := (cell_of_row _ _ 2 _ _ _ HX4.out).trans rfl
        go_wp2_with fail
        refine (HH2.out w4 (j : Int) HB4.out).mono ?_
        rintro e w5 ⟨rfl, hb⟩
        have HO5 := Lib.hid (own_later HO4.out hb)
        have HB5 := Lib.hid (HB4.out.trans (hb.mono HB4.out.size))
        clear hb HO4 HB4 hg2 HX4
        generalize hasI G.gn (j : Int) = b2 at *
        cases b2
        · rw [HSBj.out, if_pos (by decide)] at HIS
          obtain ⟨gd, cd, hv⟩ := own_someI HO5.out (Nat.succ_pos j)
          subst hv
          obtain ⟨hdc, hdf⟩ := own_i HO5.out (Nat.lt_succ_self j)
          have HO6 := Lib.hid (own_seti HO5.out j 0)
          rw [set_last U (-1) 0 j HIL.out] at HO6
          have HB6 : Hid (Below y0.heap.size y0 (w5.setCell ⟨gd, j, none⟩ (.int .i64 0))) := Lib.hid (HB5.out.setCell (p := ⟨gd, j, none⟩) (own_ge HO5.out gd rfl) _)
          have hjj : (j : Int) < (j : Int) + 1 := by omega
          generalize (U ++ [-1]).getD j 0 = old at *
          clear HO5 HB5
          go_wp2_with fail
          exact ⟨⟨j + 1, hlt, by go_num, Lib.hid ⟨by rw [HIS.out]; exact HO6.out, HB6.out⟩⟩, by simp [intOf]; omega⟩
        · rw [HSBj.out, if_neg (by decide)] at HIS
          go_wp2_with fail
          exact ⟨⟨j + 1, hlt, by go_num, Lib.hid ⟨by rw [HIS.out]; exact HO5.out, HB5.out⟩⟩, by simp [intOf]; omega⟩
    · have hlt2 : ¬ (j : Int) < (z : Int) := by omega
      have hjz : j = z := by omega
      subst hjz
      have HIL := Lib.hid (initD_len j sd)
      generalize initD j sd = D0 at *
      obtain ⟨A1, c1, hv, -⟩ := Row.of_own HO.out
      subst hv
      have HOB : Hid (wr.ownsRow y0.heap.size 3 1 (.slice A1 j c1) j (intsV (roundsD es 0 D0)) ∧ Below y0.heap.size y0 wr) := Lib.hid ⟨HO.out, HBr.out⟩
      clear HXr hlt hlt2 hj HO HBr
      go_wp2_with fail
      go_loopw [7] (fun i wr => ∃ q : Nat, q ≤ j ∧ i = .int .i64 q ∧ Hid (wr.ownsRow y0.heap.size 3 1 (.slice A1 j c1) j (intsV (roundsD es q D0)) ∧ Below y0.heap.size y0 wr)) (fun i _ => j - (intOf i).toNat)
      case atStart => exact ⟨0, Nat.zero_le _, rfl, HOB⟩
      case round =>
        clear HOB
        obtain ⟨q, hq, rfl, HQ⟩ := hrel
        have HXr : Hid (wr.heap[g]? = some (.cells #[.int .i64 G.sz, .slice A n c, .slice B m k] 31 (0, 0))) := Lib.hid ((HQ.out.2.block _ (by have := HSZ.out; omega)).trans HX.out)
        have hg0 : wr.cell? ⟨g, 0, none⟩ = some (.int .i64 G.sz) := (cell_of_row _ _ 0 _ _ _ HXr.out).trans rfl
        rw [HGZ.out] at hg0
        by_cases hlt : q < j
        · have hlt2 : (q : Int) < (j : Int) := by omega
          have HXL : Hid ((roundsD es q D0).length = j) := Lib.hid (by rw [roundsD_len]; exact HIL.out)
          have HRS : Hid (roundsD es (q + 1) D0 = es.foldl (stepD q) (roundsD es q D0)) := Lib.hid rfl
          generalize roundsD es q D0 = X0 at *
          have HOB : Hid (wr.ownsRow y0.heap.size 3 1 (.slice A1 j c1) j (intsV ((es.take 0).foldl (stepD q) X0)) ∧ Below y0.heap.size y0 wr) := HQ
          clear HQ
          go_wp2_with fail
          clear hg0 HXr
          go_loopw [8] (fun i wr => ∃ r : Nat, r ≤ n ∧ i = .int .i64 r ∧ Hid (wr.ownsRow y0.heap.size 3 1 (.slice A1 j c1) j (intsV ((es.take r).foldl (stepD q) X0)) ∧ Below y0.heap.size y0 wr)) (fun i _ => n - (intOf i).toNat)
          case atStart => exact ⟨0, Nat.zero_le _, rfl, HOB⟩
          case round =>
            clear HOB
            obtain ⟨r, hr, rfl, HQ⟩ := hrel
            have HO := Lib.hid HQ.out.1
            have HBr := Lib.hid HQ.out.2
            clear HQ
            have HXr : Hid (wr.heap[g]? = some (.cells #[.int .i64 G.sz, .slice A n c, .slice B m k] 31 (0, 0))) := Lib.hid ((HBr.out.block _ (by have := HSZ.out; omega)).trans HX.out)
            have hg1 : wr.cell? ⟨g, 1, none⟩ = some (.slice A n c) := (cell_of_row _ _ 1 _ _ _ HXr.out).trans rfl
            by_cases hlr : r < n
            · have hlr2 : (r : Int) < (n : Int) := by omega
              have hre : r < es.length := by rw [HLN.out]; exact hlr
              have HST := Lib.hid (steps_snoc q es X0 r hre)
              have HYL : Hid (((es.take r).foldl (stepD q) X0).length = j) := Lib.hid (by rw [stepsD_len]; exact HXL.out)
              obtain ⟨b, off, hA, hc⟩ := GRow.cells Edg.len (by decide) (GRow.later HL.out HBr.out) noEdg r hlr
              subst hA
              have hpm : es.getD r noEdg ∈ es := by rw [List.getD_eq_getElem?_getD, List.getElem?_eq_getElem hre]; exact List.getElem_mem hre
              have hin := HIZ.out _ hpm
              clear hpm hre
              generalize (es.take r).foldl (stepD q) X0 = Y at *
              generalize es.getD r noEdg = p at *
              have HC : Hid (∀ q, q < p.arr.size → wr.cell? ⟨b, off + r * 3 + q, none⟩ = p.arr[q]?) := Lib.hid fun q hq => (hc q hq).trans (by rw [← Edg.list, Array.getElem?_toList])
              clear hc
              go_upto_region 15 with (first | (refine wpList_load_cells rfl 45 (.tmp 48) rfl b (off + r * 3) rfl p.arr _ Try.underlying45 rfl p.info HC.out ?_) | (refine wpList_store_new rfl 45 (.tmp 9) (.tmp 49) rfl 45 _ p.arr rfl rfl p.info rfl p.one ?_))
              have HN3 := Lib.hid (one_new wr (.cells p.arr 45))
              have HYC : Hid ((wr.alloc (.cells p.arr 45)).heap[wr.heap.size]? = some (.cells p.arr 45 (0, 0))) := Lib.hid (heap_alloc_new _ _)
              have HO3 := Lib.hid (own_later HO.out HN3.out); have HB3 := Lib.hid (HBr.out.trans (HN3.out.mono HBr.out.size))
              clear HO HBr HC HN3 hg1 HXr
              generalize wr.alloc (.cells p.arr 45) = x2 at *
              generalize wr.heap.size = g4 at *
              obtain ⟨hy0, hy1, -⟩ := edg_cells HYC.out
              obtain ⟨nf, hnf⟩ : ∃ nf : Nat, p.fr = (nf : Int) := ⟨p.fr.toNat, by have := hin.1; omega⟩
              obtain ⟨nt, hnt⟩ : ∃ nt : Nat, p.tu = (nt : Int) := ⟨p.tu.toNat, by have := hin.2.2.1; omega⟩
              have hfz : (nf : Int) < (j : Int) := by rw [← hnf]; exact hin.2.1
              have htz : (nt : Int) < (j : Int) := by rw [← hnt]; exact hin.2.2.2
              have HSD : Hid (stepD q Y p = if dAt Y (nf : Int) = (q : Int) ∧ dAt Y (nt : Int) = -1 then Y.set nt ((q : Int) + 1) else Y) := Lib.hid (by unfold stepD; rw [hnf, hnt, Int.toNat_natCast])
              rw [hnf] at hy0
              rw [hnt] at hy1
              clear hnf hnt hin
              obtain ⟨gd, cd, hv⟩ := own_someI HO3.out (by omega)
              injection hv with e1 e2 e3
              subst e1 e3
              clear e2
              obtain ⟨hfc, -⟩ := own_i HO3.out (show nf < j by omega)
              obtain ⟨htc, htf⟩ := own_i HO3.out (show nt < j by omega)
              rw [dAt_cell (by have := HYL.out; omega)] at hfc htc
              have HO4 := Lib.hid (own_seti HO3.out nt ((q : Int) + 1))
              have HB4 : Hid (Below y0.heap.size y0 (x2.setCell ⟨gd, nt, none⟩ (.int .i64 ((q : Int) + 1)))) := Lib.hid (HB3.out.setCell (p := ⟨gd, nt, none⟩) (own_ge HO3.out gd rfl) _)
              clear HYC
              generalize dAt Y (nf : Int) = df at *
              generalize dAt Y (nt : Int) = dt at *
              by_cases hdf : df = (q : Int)
              · have b0 : (df == (q : Int)) = true := by rw [hdf]; simp
                by_cases hdt : dt = -1
                · have b1 : (dt == -1) = true := by rw [hdt]; rfl
                  rw [HSD.out, if_pos ⟨hdf, hdt⟩] at HST
                  clear hdf hdt HSD HO3 HB3
                  go_wp2_with fail
                  exact ⟨⟨r + 1, hlr, by go_num, Lib.hid ⟨by rw [HST.out]; exact HO4.out, HB4.out⟩⟩, by simp [intOf]; omega⟩
                · have b1 : (dt == -1) = false := by rw [beq_eq_false_iff_ne]; exact hdt
                  rw [HSD.out, if_neg (fun h => hdt h.2)] at HST
                  clear hdf hdt HSD HO4 HB4
                  go_wp2_with fail
                  exact ⟨⟨r + 1, hlr, by go_num, Lib.hid ⟨by rw [HST.out]; exact HO3.out, HB3.out⟩⟩, by simp [intOf]; omega⟩
              · have b0 : (df == (q : Int)) = false := by rw [beq_eq_false_iff_ne]; exact hdf
                rw [HSD.out, if_neg (fun h => hdf h.1)] at HST
                clear hdf HSD HO4 HB4
                go_wp2_with fail
                exact ⟨⟨r + 1, hlr, by go_num, Lib.hid ⟨by rw [HST.out]; exact HO3.out, HB3.out⟩⟩, by simp [intOf]; omega⟩
            · have hlr2 : ¬ (r : Int) < (n : Int) := by omega
              have HEN : Hid (wr.ownsRow y0.heap.size 3 1 (.slice A1 j c1) j (intsV (roundsD es (q + 1) D0)) ∧ Below y0.heap.size y0 wr) := Lib.hid (by
                have h := HO.out
                rw [List.take_of_length_le (by have := HLN.out; omega)] at h
                rw [HRS.out]
                exact ⟨h, HBr.out⟩)
              clear HO HBr HXr
              go_wp2_with fail
              exact ⟨⟨q + 1, hlt, by go_num, HEN⟩, by simp [intOf]; omega⟩
        · have hlt2 : ¬ (q : Int) < (j : Int) := by omega
          have hqj : q = j := by omega
          have HO := HQ.out.1
          have HBr := HQ.out.2
          rw [hqj, ← HAL.out] at HO
          have HO5 := Lib.hid HO
          have HB5 := Lib.hid HBr
          clear HQ HO HBr hqj HXr
          go_wp2_with fail
          go_ret
          exact ⟨_, rfl, own_mono HO5.out (by have := HSZ.out; have := HGG.out; omega), HNW.out.trans (HB5.out.mono (by have := HSZ.out; have := HGG.out; omega))⟩
end Go.Proofs.Ytdildmfjekdlgaa
