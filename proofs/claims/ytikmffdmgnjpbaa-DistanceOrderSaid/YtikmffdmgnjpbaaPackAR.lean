import Derived.Test.YtikmffdmgnjpbaaPackAQ
import Derived.Test.YtikmffdmgnjpbaaGCheckP
import Derived.Test.YtikmffdmgnjpbaaPackAN
import Derived.Test.YtikmffdmgnjpbaaPackAP
import Derived.Test.YtikmffdmgnjpbaaPackAB
/- The walk of the reference's All. -/
namespace Go.Proofs.Ytikmffdmgnjpbaa
open Go.RowKit
theorem initD_snoc (j : Nat) (sd : Int → Bool) : initD (j + 1) sd = initD j sd ++ [if sd (j : Int) then 0 else -1] := by
  unfold initD
  rw [List.range_succ, List.map_append]; rfl
theorem initD_len (j : Nat) (sd : Int → Bool) : (initD j sd).length = j := by unfold initD; rw [List.length_map, List.length_range]
theorem set_last (l : List Int) (a b : Int) (j : Nat) (h : l.length = j) : (l ++ [a]).set j b = l ++ [b] := by
  subst h
  rw [List.set_append_right _ _ (Nat.le_refl _), Nat.sub_self]; rfl
theorem stepD_len (n : Nat) (d : List Int) (e : Edg) : (stepD n d e).length = d.length := by
  unfold stepD
  split
  · rw [List.length_set]
  · rfl
theorem stepsD_len (n : Nat) : ∀ (q : List Edg) (d : List Int), (q.foldl (stepD n) d).length = d.length
  | [], _ => rfl
  | e :: q, d => by rw [List.foldl_cons, stepsD_len n q, stepD_len]
theorem roundsD_len (es : List Edg) : ∀ (n : Nat) (d : List Int), (roundsD es n d).length = d.length
  | 0, _ => rfl
  | n + 1, d => by unfold roundsD roundD; rw [stepsD_len, roundsD_len es n]
theorem steps_snoc (n : Nat) (es : List Edg) (d : List Int) (i : Nat) (h : i < es.length) : (es.take (i + 1)).foldl (stepD n) d = stepD n ((es.take i).foldl (stepD n) d) (es.getD i noEdg) := by
  rw [List.take_add_one, List.getElem?_eq_getElem h, List.foldl_append, List.getD_eq_getElem?_getD, List.getElem?_eq_getElem h]; rfl
set_option maxRecDepth 100000 in
set_option maxHeartbeats 4000000 in
theorem refAll_any (G : Gr) (v : Value) (A2 : Option Addr) (n2 c2 : Nat) (seeds : List Int) (w : World) (h : GHold w G v) (hgd : Good11 G) (hs : IRow w A2 n2 c2 seeds) (hn2 : n2 ≤ 100000) : Calls Try.prog 25 #[v, .slice A2 n2 c2] w fun e w' => ∃ v', e = .returned v' ∧ w'.ownsRow w.heap.size 3 1 v' G.sz.toNat (intsV (allD G seeds)) ∧ Below w.heap.size w w' := by
  obtain ⟨A, n, c, B, m, k, rfl, h1, h2⟩ := h
  have HNW := Lib.hid (one_new w (.cells #[.int .i64 G.sz, .slice A n c, .slice B m k] 29))
  have HX : Hid ((w.alloc (.cells #[.int .i64 G.sz, .slice A n c, .slice B m k] 29)).heap[w.heap.size]? = some (.cells #[.int .i64 G.sz, .slice A n c, .slice B m k] 29 (0, 0))) := Lib.hid (heap_alloc_new _ _)
  have hn : n ≤ 100000 := by rw [← ERow.len h1]; exact hgd.few.1
  have hm : m ≤ 100000 := by rw [← h2.len]; exact hgd.few.2
  have HL := Lib.hid (GRow.later h1 HNW.out)
  have HLN : Hid (G.es.length = n) := Lib.hid (ERow.len h1)
  have HG2 := Lib.hid (h2.later HNW.out)
  have HS2 := Lib.hid (hs.later HNW.out)
  have HIZ := Lib.hid (good_inZ hgd)
  have hlo := hgd.lo
  have hhi := hgd.hi
  obtain ⟨z, hz⟩ : ∃ z : Nat, G.sz.toNat = z := ⟨_, rfl⟩
  have HGZ : Hid (G.sz = (z : Int)) := Lib.hid (by omega)
  have hz64 : z ≤ 64 := by omega
  have HAL : Hid (allD G seeds = roundsD G.es z (initD z (seedB G.gn seeds))) := Lib.hid (by unfold allD; rw [hz])
  have HSB : Hid (∀ x, seedB G.gn seeds x = (hasI seeds x && !hasI G.gn x)) := Lib.hid fun x => rfl
  rw [hz] at HIZ ⊢
  have HH1 : Hid (∀ y (x : Int), Below (w.alloc (.cells #[.int .i64 G.sz, .slice A n c, .slice B m k] 29)).heap.size (w.alloc (.cells #[.int .i64 G.sz, .slice A n c, .slice B m k] 29)) y → Calls Try.prog 17 #[.slice A2 n2 c2, .int .i64 x] y (SaysL (.bool (hasI seeds x)) y)) := Lib.hid fun y x hy => has_any11 A2 n2 c2 seeds x y (HS2.out.later hy) hn2
  have HH2 : Hid (∀ y (x : Int), Below (w.alloc (.cells #[.int .i64 G.sz, .slice A n c, .slice B m k] 29)).heap.size (w.alloc (.cells #[.int .i64 G.sz, .slice A n c, .slice B m k] 29)) y → Calls Try.prog 17 #[.slice B m k, .int .i64 x] y (SaysL (.bool (hasI G.gn x)) y)) := Lib.hid fun y x hy => has_any11 B m k G.gn x y (HG2.out.later hy) hm
  generalize allD G seeds = AD at *
  generalize seedB G.gn seeds = sd at *
  generalize G.es = es at *
  clear hz hlo hhi h1 h2 hs hgd
  go_enter Try.func25, Try.ntmps25
  go_wp2_with fail
  have HSZ : Hid (w.heap.size + 1 = (w.alloc (.cells #[.int .i64 G.sz, .slice A n c, .slice B m k] 29)).heap.size) := Lib.hid (by simp)
  generalize w.alloc (.cells #[.int .i64 G.sz, .slice A n c, .slice B m k] 29) = y0 at *
  obtain ⟨g, hgg⟩ : ∃ g, w.heap.size = g := ⟨_, rfl⟩
  rw [hgg] at HX HSZ ⊢
  have HGG := Lib.hid hgg
  clear hgg
  go_loopw [5, 6] (fun v i wr => ∃ j : Nat, j ≤ z ∧ i = .int .i64 j ∧ Hid (wr.ownsRow y0.heap.size 3 1 v j (intsV (initD j sd)) ∧ Below y0.heap.size y0 wr)) (fun _ i _ => z - (intOf i).toNat)
  case atStart => exact ⟨0, Nat.zero_le _, rfl, Lib.hid ⟨World.ownsRow_nil _ _ _ _, Below.refl _ _⟩⟩
  case round =>
    obtain ⟨j, hj, rfl, HQ⟩ := hrel
    have HO := Lib.hid HQ.out.1
    have HBr := Lib.hid HQ.out.2
    clear HQ
    have HXr : Hid (wr.heap[g]? = some (.cells #[.int .i64 G.sz, .slice A n c, .slice B m k] 29 (0, 0))) := Lib.hid ((HBr.out.block _ (by have := HSZ.out; omega)).trans HX.out)
    have hg0 : wr.cell? ⟨g, 0, none⟩ = some (.int .i64 G.sz) := (cell_of_row _ _ 0 _ _ _ HXr.out).trans rfl
    rw [HGZ.out] at hg0
    by_cases hlt : j < z
    · have hlt2 : (j : Int) < (z : Int) := by omega
      have hsz : y0.heap.size ≤ wr.heap.size := HBr.out.size
      obtain ⟨A1, c1, hv, -⟩ := Row.of_own HO.out
      subst hv
      have HIS := Lib.hid (initD_snoc j sd)
      have HIL := Lib.hid (initD_len j sd)
      have HSBj := Lib.hid (HSB.out (j : Int))
      generalize sd (j : Int) = sj at *
      generalize initD j sd = U at *
      go_upto_region 6 with (at_builtin; go_must (refine wpList_app_new wr rfl (.tmp 16) (.tmp 17) 22 3 rfl y0.heap.size Try.underlying22 i64_info rfl _ j (intsV U) HO.out rfl 1 #[.int .i64 (-1)] rfl (by simp [Value.oneCell']) rfl rfl (by unfold maxLen; omega) (by omega) hsz ?_); intro v3 w3 ho3 hb3; have HO3 : Hid (w3.ownsRow y0.heap.size 3 1 v3 (j + 1) (intsV (U ++ [-1]))) := Lib.hid (by rw [intsV_app]; exact ho3); have HB3 := Lib.hid (HBr.out.trans hb3); clear ho3 hb3)
      clear hg0 HXr HO HBr hsz
      go_wp2_with fail
      refine (HH1.out w3 (j : Int) HB3.out).mono ?_
      rintro e w4 ⟨rfl, hb⟩
      have HO4 := Lib.hid (own_later HO3.out hb)
      have HB4 := Lib.hid (HB3.out.trans (hb.mono HB3.out.size))
      clear hb HO3 HB3
      have HX4 : Hid (w4.heap[g]? = some (.cells #[.int .i64 G.sz, .slice A n c, .slice B m k] 29 (0, 0))) := Lib.hid ((HB4.out.block _ (by have := HSZ.out; omega)).trans HX.out)
      generalize hasI seeds (j : Int) = b1 at *
      cases b1
      · rw [HSBj.out, Bool.false_and, if_neg (by decide)] at HIS
        go_wp2_with fail
        exact ⟨⟨j + 1, hlt, by go_num, Lib.hid ⟨by rw [HIS.out]; exact HO4.out, HB4.out⟩⟩, by simp [intOf]; omega⟩
      · have hg2 : w4.cell? ⟨g, 2, none⟩ = some (.slice B m k) := (cell_of_row _ _ 2 _ _ _ HX4.out).trans rfl
        go_wp2_with fail
        refine (HH2.out w4 (j : Int) HB4.out).mono ?_
        rintro e w5 ⟨rfl, hb⟩
        have HO5 := Lib.hid (own_later HO4.out hb)
        have HB5 := Lib.hid (HB4.out.trans (hb.mono HB4.out.size))
        clear hb HO4 HB4 hg2 HX4
        generalize hasI G.gn (j : Int) = b2 at *
        cases b2
        · rw [HSBj.out, if_pos (by decide)] at HIS
          obtain ⟨gd, cd, hv⟩ := own_someI HO5.out (Nat.succ_pos j)
          subst hv
          obtain ⟨hdc, hdf⟩ := own_i HO5.out (Nat.lt_succ_self j)
          have HO6 := Lib.hid (own_seti HO5.out j 0)
          rw [set_last U (-1) 0 j HIL.out] at HO6
          have HB6 : Hid (Below y0.heap.size y0 (w5.setCell ⟨gd, j, none⟩ (.int .i64 0))) := Lib.hid (HB5.out.setCell (p := ⟨gd, j, none⟩) (own_ge HO5.out gd rfl) _)
          have hjj : (j : Int) < (j : Int) + 1 := by omega
          generalize (U ++ [-1]).getD j 0 = old at *
          clear HO5 HB5
          go_wp2_with fail
          exact ⟨⟨j + 1, hlt, by go_num, Lib.hid ⟨by rw [HIS.out]; exact HO6.out, HB6.out⟩⟩, by simp [intOf]; omega⟩
        · rw [HSBj.out, if_neg (by decide)] at HIS
          go_wp2_with fail
          exact ⟨⟨j + 1, hlt, by go_num, Lib.hid ⟨by rw [HIS.out]; exact HO5.out, HB5.out⟩⟩, by simp [intOf]; omega⟩
    · have hlt2 : ¬ (j : Int) < (z : Int) := by omega
      have hjz : j = z := by omega
      subst hjz
      have HIL := Lib.hid (initD_len j sd)
      generalize initD j sd = D0 at *
      obtain ⟨A1, c1, hv, -⟩ := Row.of_own HO.out
      subst hv
      have HOB : Hid (wr.ownsRow y0.heap.size 3 1 (.slice A1 j c1) j (intsV (roundsD es 0 D0)) ∧ Below y0.heap.size y0 wr) := Lib.hid ⟨HO.out, HBr.out⟩
      clear HXr hlt hlt2 hj HO HBr
      go_wp2_with fail
      go_loopw [7] (fun i wr => ∃ q : Nat, q ≤ j ∧ i = .int .i64 q ∧ Hid (wr.ownsRow y0.heap.size 3 1 (.slice A1 j c1) j (intsV (roundsD es q D0)) ∧ Below y0.heap.size y0 wr)) (fun i _ => j - (intOf i).toNat)
      case atStart => exact ⟨0, Nat.zero_le _, rfl, HOB⟩
      case round =>
        clear HOB
        obtain ⟨q, hq, rfl, HQ⟩ := hrel
        have HXr : Hid (wr.heap[g]? = some (.cells #[.int .i64 G.sz, .slice A n c, .slice B m k] 29 (0, 0))) := Lib.hid ((HQ.out.2.block _ (by have := HSZ.out; omega)).trans HX.out)
        have hg0 : wr.cell? ⟨g, 0, none⟩ = some (.int .i64 G.sz) := (cell_of_row _ _ 0 _ _ _ HXr.out).trans rfl
        rw [HGZ.out] at hg0
        by_cases hlt : q < j
        · have hlt2 : (q : Int) < (j : Int) := by omega
          have HXL : Hid ((roundsD es q D0).length = j) := Lib.hid (by rw [roundsD_len]; exact HIL.out)
          have HRS : Hid (roundsD es (q + 1) D0 = es.foldl (stepD q) (roundsD es q D0)) := Lib.hid rfl
          generalize roundsD es q D0 = X0 at *
          have HOB : Hid (wr.ownsRow y0.heap.size 3 1 (.slice A1 j c1) j (intsV ((es.take 0).foldl (stepD q) X0)) ∧ Below y0.heap.size y0 wr) := HQ
          clear HQ
          go_wp2_with fail
          clear hg0 HXr
          go_loopw [8] (fun i wr => ∃ r : Nat, r ≤ n ∧ i = .int .i64 r ∧ Hid (wr.ownsRow y0.heap.size 3 1 (.slice A1 j c1) j (intsV ((es.take r).foldl (stepD q) X0)) ∧ Below y0.heap.size y0 wr)) (fun i _ => n - (intOf i).toNat)
          case atStart => exact ⟨0, Nat.zero_le _, rfl, HOB⟩
          case round =>
            clear HOB
            obtain ⟨r, hr, rfl, HQ⟩ := hrel
            have HO := Lib.hid HQ.out.1
            have HBr := Lib.hid HQ.out.2
            clear HQ
            have HXr : Hid (wr.heap[g]? = some (.cells #[.int .i64 G.sz, .slice A n c, .slice B m k] 29 (0, 0))) := Lib.hid ((HBr.out.block _ (by have := HSZ.out; omega)).trans HX.out)
            have hg1 : wr.cell? ⟨g, 1, none⟩ = some (.slice A n c) := (cell_of_row _ _ 1 _ _ _ HXr.out).trans rfl
            by_cases hlr : r < n
            · have hlr2 : (r : Int) < (n : Int) := by omega
              have hre : r < es.length := by rw [HLN.out]; exact hlr
              have HST := Lib.hid (steps_snoc q es X0 r hre)
              have HYL : Hid (((es.take r).foldl (stepD q) X0).length = j) := Lib.hid (by rw [stepsD_len]; exact HXL.out)
              obtain ⟨b, off, hA, hc⟩ := GRow.cells Edg.len (by decide) (GRow.later HL.out HBr.out) noEdg r hlr
              subst hA
              have hpm : es.getD r noEdg ∈ es := by rw [List.getD_eq_getElem?_getD, List.getElem?_eq_getElem hre]; exact List.getElem_mem hre
              have hin := HIZ.out _ hpm
              clear hpm hre
              generalize (es.take r).foldl (stepD q) X0 = Y at *
              generalize es.getD r noEdg = p at *
              have HC : Hid (∀ q, q < p.arr.size → wr.cell? ⟨b, off + r * 3 + q, none⟩ = p.arr[q]?) := Lib.hid fun q hq => (hc q hq).trans (by rw [← Edg.list, Array.getElem?_toList])
              clear hc
              go_upto_region 15 with (first | (refine wpList_load_cells rfl 38 (.tmp 48) rfl b (off + r * 3) rfl p.arr _ Try.underlying38 rfl p.info HC.out ?_) | (refine wpList_store_new rfl 38 (.tmp 9) (.tmp 49) rfl 38 _ p.arr rfl rfl p.info rfl p.one ?_))
              have HN3 := Lib.hid (one_new wr (.cells p.arr 38))
              have HYC : Hid ((wr.alloc (.cells p.arr 38)).heap[wr.heap.size]? = some (.cells p.arr 38 (0, 0))) := Lib.hid (heap_alloc_new _ _)
              have HO3 := Lib.hid (own_later HO.out HN3.out); have HB3 := Lib.hid (HBr.out.trans (HN3.out.mono HBr.out.size))
              clear HO HBr HC HN3 hg1 HXr
              generalize wr.alloc (.cells p.arr 38) = x2 at *
              generalize wr.heap.size = g4 at *
              obtain ⟨hy0, hy1, -⟩ := edg_cells HYC.out
              obtain ⟨nf, hnf⟩ : ∃ nf : Nat, p.fr = (nf : Int) := ⟨p.fr.toNat, by have := hin.1; omega⟩
              obtain ⟨nt, hnt⟩ : ∃ nt : Nat, p.tu = (nt : Int) := ⟨p.tu.toNat, by have := hin.2.2.1; omega⟩
              have hfz : (nf : Int) < (j : Int) := by rw [← hnf]; exact hin.2.1
              have htz : (nt : Int) < (j : Int) := by rw [← hnt]; exact hin.2.2.2
              have HSD : Hid (stepD q Y p = if dAt Y (nf : Int) = (q : Int) ∧ dAt Y (nt : Int) = -1 then Y.set nt ((q : Int) + 1) else Y) := Lib.hid (by unfold stepD; rw [hnf, hnt, Int.toNat_natCast])
              rw [hnf] at hy0
              rw [hnt] at hy1
              clear hnf hnt hin
              obtain ⟨gd, cd, hv⟩ := own_someI HO3.out (by omega)
              injection hv with e1 e2 e3
              subst e1 e3
              clear e2
              obtain ⟨hfc, -⟩ := own_i HO3.out (show nf < j by omega)
              obtain ⟨htc, htf⟩ := own_i HO3.out (show nt < j by omega)
              rw [dAt_cell (by have := HYL.out; omega)] at hfc htc
              have HO4 := Lib.hid (own_seti HO3.out nt ((q : Int) + 1))
              have HB4 : Hid (Below y0.heap.size y0 (x2.setCell ⟨gd, nt, none⟩ (.int .i64 ((q : Int) + 1)))) := Lib.hid (HB3.out.setCell (p := ⟨gd, nt, none⟩) (own_ge HO3.out gd rfl) _)
              clear HYC
              generalize dAt Y (nf : Int) = df at *
              generalize dAt Y (nt : Int) = dt at *
              by_cases hdf : df = (q : Int)
              · have b0 : (df == (q : Int)) = true := by rw [hdf]; simp
                by_cases hdt : dt = -1
                · have b1 : (dt == -1) = true := by rw [hdt]; rfl
                  rw [HSD.out, if_pos ⟨hdf, hdt⟩] at HST
                  clear hdf hdt HSD HO3 HB3
                  go_wp2_with fail
                  exact ⟨⟨r + 1, hlr, by go_num, Lib.hid ⟨by rw [HST.out]; exact HO4.out, HB4.out⟩⟩, by simp [intOf]; omega⟩
                · have b1 : (dt == -1) = false := by rw [beq_eq_false_iff_ne]; exact hdt
                  rw [HSD.out, if_neg (fun h => hdt h.2)] at HST
                  clear hdf hdt HSD HO4 HB4
                  go_wp2_with fail
                  exact ⟨⟨r + 1, hlr, by go_num, Lib.hid ⟨by rw [HST.out]; exact HO3.out, HB3.out⟩⟩, by simp [intOf]; omega⟩
              · have b0 : (df == (q : Int)) = false := by rw [beq_eq_false_iff_ne]; exact hdf
                rw [HSD.out, if_neg (fun h => hdf h.1)] at HST
                clear hdf HSD HO4 HB4
                go_wp2_with fail
                exact ⟨⟨r + 1, hlr, by go_num, Lib.hid ⟨by rw [HST.out]; exact HO3.out, HB3.out⟩⟩, by simp [intOf]; omega⟩
            · have hlr2 : ¬ (r : Int) < (n : Int) := by omega
              have HEN : Hid (wr.ownsRow y0.heap.size 3 1 (.slice A1 j c1) j (intsV (roundsD es (q + 1) D0)) ∧ Below y0.heap.size y0 wr) := Lib.hid (by
                have h := HO.out
                rw [List.take_of_length_le (by have := HLN.out; omega)] at h
                rw [HRS.out]
                exact ⟨h, HBr.out⟩)
              clear HO HBr HXr
              go_wp2_with fail
              exact ⟨⟨q + 1, hlt, by go_num, HEN⟩, by simp [intOf]; omega⟩
        · have hlt2 : ¬ (q : Int) < (j : Int) := by omega
          have hqj : q = j := by omega
          have HO := HQ.out.1
          have HBr := HQ.out.2
          rw [hqj, ← HAL.out] at HO
          have HO5 := Lib.hid HO
          have HB5 := Lib.hid HBr
          clear HQ HO HBr hqj HXr
          go_wp2_with fail
          go_ret
          exact ⟨_, rfl, own_mono HO5.out (by have := HSZ.out; have := HGG.out; omega), HNW.out.trans (HB5.out.mono (by have := HSZ.out; have := HGG.out; omega))⟩
end Go.Proofs.Ytikmffdmgnjpbaa
/- The walk of the reference's Order. -/
namespace Go.Proofs.Ytikmffdmgnjpbaa
open Go.RowKit
/-- The keys of the first distances; those of a distance among the first keys. -/
def ordP (d : List Int) (z n : Nat) : List Int := (List.range n).flatMap (levelD d z)
def levP (d : List Int) (n j : Nat) : List Int := ((List.range j).filter fun k : Nat => decide (dAt d (k : Int) = (n : Int))).map fun k : Nat => (k : Int)
theorem ordP_snoc (d : List Int) (z n : Nat) : ordP d z (n + 1) = ordP d z n ++ levP d n z := by
  unfold ordP
  rw [List.range_succ, List.flatMap_append]
  simp [levelD, levP]
theorem levP_snoc (d : List Int) (n j : Nat) : levP d n (j + 1) = levP d n j ++ (if dAt d (j : Int) = (n : Int) then [(j : Int)] else []) := by
  unfold levP
  rw [List.range_succ, List.filter_append, List.map_append]
  congr 1
  by_cases h : dAt d (j : Int) = (n : Int)
  · rw [if_pos h]; simp [h]
  · rw [if_neg h]; simp [h]
theorem levP_len (d : List Int) (n j : Nat) : (levP d n j).length ≤ j := by
  unfold levP
  rw [List.length_map]
  exact Nat.le_trans (List.length_filter_le _ _) (by rw [List.length_range]; exact Nat.le_refl _)
theorem ordP_len (d : List Int) (z : Nat) : ∀ n, (ordP d z n).length ≤ n * z
  | 0 => by simp [ordP]
  | n + 1 => by
    rw [ordP_snoc, List.length_append, Nat.add_mul, Nat.one_mul]
    have := ordP_len d z n
    have := levP_len d n z
    omega
set_option maxRecDepth 100000 in
set_option maxHeartbeats 4000000 in
theorem refOrder_any12 (G : Gr) (v : Value) (A2 : Option Addr) (n2 c2 : Nat) (seeds : List Int) (w : World) (h : GHold w G v) (hgd : Good11 G) (hs : IRow w A2 n2 c2 seeds) (hn2 : n2 ≤ 100000) : Calls Try.prog 26 #[v, .slice A2 n2 c2] w (GivesI w (orderD (allD G seeds) G.sz.toNat)) := by
  have HGH := Lib.hid h
  obtain ⟨A, n, c, B, m, k, rfl, h1, h2⟩ := h
  have HNW := Lib.hid (one_new w (.cells #[.int .i64 G.sz, .slice A n c, .slice B m k] 29))
  have HX : Hid ((w.alloc (.cells #[.int .i64 G.sz, .slice A n c, .slice B m k] 29)).heap[w.heap.size]? = some (.cells #[.int .i64 G.sz, .slice A n c, .slice B m k] 29 (0, 0))) := Lib.hid (heap_alloc_new _ _)
  have HAC : Hid (∀ y, Below w.heap.size w y → Calls Try.prog 25 #[.agg #[.int .i64 G.sz, .slice A n c, .slice B m k], .slice A2 n2 c2] y fun e w' => ∃ v', e = .returned v' ∧ w'.ownsRow y.heap.size 3 1 v' G.sz.toNat (intsV (allD G seeds)) ∧ Below y.heap.size y w') := Lib.hid fun y hy => refAll_any G _ A2 n2 c2 seeds y (HGH.out.later hy) hgd (hs.later hy) hn2
  have HAD := Lib.hid (allD_dist hgd seeds)
  have hlo := hgd.lo
  have hhi := hgd.hi
  obtain ⟨z, hz⟩ : ∃ z : Nat, G.sz.toNat = z := ⟨_, rfl⟩
  have HGZ : Hid (G.sz = (z : Int)) := Lib.hid (by omega)
  have hz64 : z ≤ 64 := by omega
  rw [hz] at HAC HAD
  rw [hz]
  have HDL : Hid ((allD G seeds).length = z) := Lib.hid HAD.out.len
  generalize allD G seeds = d at *
  have HEN : Hid (orderD d z = ordP d z z) := Lib.hid rfl
  have HPS := Lib.hid (ordP_snoc d z)
  have HLS := Lib.hid (levP_snoc d)
  have HPL : Hid (∀ n, n ≤ z → (ordP d z n).length ≤ 4096) := Lib.hid fun n hn => Nat.le_trans (ordP_len d z n) (Nat.mul_le_mul (Nat.le_trans hn hz64) hz64)
  have HLL := Lib.hid (levP_len d)
  have HP0 : Hid (ordP d z 0 = []) := Lib.hid rfl
  have HL0 : Hid (∀ n, levP d n 0 = []) := Lib.hid fun n => rfl
  generalize ordP d z = OP at *
  generalize levP d = LP at *
  clear hz hlo hhi h1 h2 hs hgd HGH HAD
  go_enter Try.func26, Try.ntmps26
  go_upto_region 1 with fail
  have HSZ : Hid (w.heap.size + 1 = (w.alloc (.cells #[.int .i64 G.sz, .slice A n c, .slice B m k] 29)).heap.size) := Lib.hid (by simp)
  generalize w.alloc (.cells #[.int .i64 G.sz, .slice A n c, .slice B m k] 29) = y0 at *
  go_wp2_with (refine wpList_load_row rfl 29 (.tmp 2) rfl w.heap.size rfl 29 #[.int .i64 G.sz, .slice A n c, .slice B m k] (0, 0) _ HX.out Try.underlying29 rfl gr_size ?_)
  refine (HAC.out y0 HNW.out).mono ?_
  rintro e w1 ⟨v5, rfl, ho, hb⟩
  obtain ⟨A5, c5, rfl, hr5⟩ := Row.of_own ho
  have HR5 : Hid (IRow w1 A5 z c5 d) := Lib.hid hr5
  have HB1 : Hid (Below w.heap.size w w1) := Lib.hid (HNW.out.trans (hb.mono HNW.out.size))
  have HX1 : Hid (w1.heap[w.heap.size]? = some (.cells #[.int .i64 G.sz, .slice A n c, .slice B m k] 29 (0, 0))) := Lib.hid ((hb.block _ (by have := HSZ.out; omega)).trans HX.out)
  have HGW : Hid (w.heap.size < w1.heap.size) := Lib.hid (by have := hb.size; have := HSZ.out; omega)
  clear ho hb hr5 HAC HX
  obtain ⟨g, hgg⟩ : ∃ g, w.heap.size = g := ⟨_, rfl⟩
  rw [hgg] at HX1 HGW ⊢
  have HGG := Lib.hid hgg
  clear hgg
  go_wp2_with fail
  go_loopw [6, 7] (fun v i wr => ∃ q : Nat, q ≤ z ∧ i = .int .i64 q ∧ Hid (wr.ownsRow w1.heap.size 3 1 v (OP q).length (intsV (OP q)) ∧ Below w1.heap.size w1 wr)) (fun _ i _ => z - (intOf i).toNat)
  case atStart => exact ⟨0, Nat.zero_le _, rfl, Lib.hid ⟨by rw [HP0.out]; exact World.ownsRow_nil _ _ _ _, Below.refl _ _⟩⟩
  case round =>
    obtain ⟨q, hq, rfl, HQ⟩ := hrel
    have HXr : Hid (wr.heap[g]? = some (.cells #[.int .i64 G.sz, .slice A n c, .slice B m k] 29 (0, 0))) := Lib.hid ((HQ.out.2.block _ HGW.out).trans HX1.out)
    have hg0 : wr.cell? ⟨g, 0, none⟩ = some (.int .i64 G.sz) := (cell_of_row _ _ 0 _ _ _ HXr.out).trans rfl
    rw [HGZ.out] at hg0
    by_cases hlt : q < z
    · have hlt2 : (q : Int) < (z : Int) := by omega
      have HOB : Hid (wr.ownsRow w1.heap.size 3 1 _ (OP q ++ LP q 0).length (intsV (OP q ++ LP q 0)) ∧ Below w1.heap.size w1 wr) := Lib.hid (by rw [HL0.out q, List.append_nil]; exact HQ.out)
      clear HQ HXr
      go_wp2_with fail
      clear hg0
      go_loopw [6, 8] (fun v i wr => ∃ j : Nat, j ≤ z ∧ i = .int .i64 j ∧ Hid (wr.ownsRow w1.heap.size 3 1 v (OP q ++ LP q j).length (intsV (OP q ++ LP q j)) ∧ Below w1.heap.size w1 wr)) (fun _ i _ => z - (intOf i).toNat)
      case atStart => exact ⟨0, Nat.zero_le _, rfl, HOB⟩
      case round =>
        clear HOB
        obtain ⟨j, hj, rfl, HQ⟩ := hrel
        have HO := Lib.hid HQ.out.1
        have HBr := Lib.hid HQ.out.2
        clear HQ
        have HXr : Hid (wr.heap[g]? = some (.cells #[.int .i64 G.sz, .slice A n c, .slice B m k] 29 (0, 0))) := Lib.hid ((HBr.out.block _ HGW.out).trans HX1.out)
        have hg0 : wr.cell? ⟨g, 0, none⟩ = some (.int .i64 G.sz) := (cell_of_row _ _ 0 _ _ _ HXr.out).trans rfl
        rw [HGZ.out] at hg0
        by_cases hlj : j < z
        · have hlj2 : (j : Int) < (z : Int) := by omega
          obtain ⟨b, off, hA, hc⟩ := IRow.cell (l := d) (HR5.out.later HBr.out) j hlj
          subst hA
          rw [dAt_cell (by rw [HDL.out]; exact hlj)] at hc
          have HST := Lib.hid (HLS.out q j)
          have HLE : Hid ((OP q ++ LP q j).length ≤ 5000) := Lib.hid (by rw [List.length_append]; have := HPL.out q hq; have := HLL.out q j; omega)
          generalize dAt d (j : Int) = dv at *
          by_cases hdv : dv = (q : Int)
          · have b0 : (dv == (q : Int)) = true := by rw [hdv]; simp
            rw [if_pos hdv] at HST
            have HST2 : Hid (OP q ++ LP q (j + 1) = (OP q ++ LP q j) ++ [(j : Int)]) := Lib.hid (by rw [HST.out, List.append_assoc])
            clear hdv HST
            have hgl := HLE.out
            have hsz : w1.heap.size ≤ wr.heap.size := HBr.out.size
            obtain ⟨A6, c6, hv, -⟩ := Row.of_own HO.out
            subst hv
            generalize OP q ++ LP q j = U at *
            go_wp2_with (at_builtin; go_must (refine wpList_app_new wr rfl (.tmp 30) (.tmp 32) 22 3 rfl w1.heap.size Try.underlying22 i64_info rfl _ U.length (intsV U) HO.out rfl 1 #[.int .i64 (j : Int)] rfl (by simp [Value.oneCell']) rfl rfl (by unfold maxLen; omega) (by omega) hsz ?_); intro v3 w3 ho3 hb3; have HO3 := Lib.hid ho3; have HB3 := Lib.hid (HBr.out.trans hb3); clear ho3 hb3)
            exact ⟨⟨j + 1, hlj, by go_num, Lib.hid (by rw [HST2.out, List.length_append, intsV_app]; exact ⟨HO3.out, HB3.out⟩)⟩, by simp [intOf]; omega⟩
          · have b0 : (dv == (q : Int)) = false := by rw [beq_eq_false_iff_ne]; exact hdv
            rw [if_neg hdv, List.append_nil] at HST
            clear hdv
            go_wp2_with fail
            exact ⟨⟨j + 1, hlj, by go_num, Lib.hid ⟨by rw [HST.out]; exact HO.out, HBr.out⟩⟩, by simp [intOf]; omega⟩
        · have hlj2 : ¬ (j : Int) < (z : Int) := by omega
          have hjz : j = z := by omega
          have HEND : Hid (OP q ++ LP q j = OP (q + 1)) := Lib.hid (by rw [HPS.out q, hjz])
          rw [HEND.out] at HO
          clear hjz HXr HEND
          go_wp2_with fail
          exact ⟨⟨q + 1, hlt, by go_num, Lib.hid ⟨HO.out, HBr.out⟩⟩, by simp [intOf]; omega⟩
    · have hlt2 : ¬ (q : Int) < (z : Int) := by omega
      have hqz : q = z := by omega
      have HO := Lib.hid HQ.out.1
      have HBr := Lib.hid HQ.out.2
      clear HQ HXr
      rw [hqz, ← HEN.out] at HO
      clear hqz
      obtain ⟨A6, c6, hv, hr⟩ := Row.of_own HO.out
      subst hv
      have HR6 := Lib.hid hr
      clear hr HO
      go_wp2_with fail
      go_ret
      exact ⟨_, _, _, rfl, HR6.out, HB1.out.trans (HBr.out.mono HB1.out.size)⟩
end Go.Proofs.Ytikmffdmgnjpbaa
/- What vouch looks for in Active, and that it comes to the same. Plain facts. -/
namespace Go.Proofs.Ytikmffdmgnjpbaa
open Go.RowKit
end Go.Proofs.Ytikmffdmgnjpbaa
/- The walk of vouch's compare, and its order. -/
namespace Go.Proofs.Ytikmffdmgnjpbaa
open Go.RowKit
end Go.Proofs.Ytikmffdmgnjpbaa
/- The walks of vouch's holds and of slices.Contains over numbers. -/
namespace Go.Proofs.Ytikmffdmgnjpbaa
open Go.RowKit
set_option maxRecDepth 100000 in
set_option maxHeartbeats 4000000 in
theorem indexI_any (A : Option Addr) (n c : Nat) (l : List Int) (x : Int) (w : World) (hl : IRow w A n c l) (hn : n ≤ 100000) : Calls Try.prog 57 #[.slice A n c, .int .i64 x] w fun e w' => (∃ r : Int, e = .returned (.int .i64 r) ∧ decide (0 ≤ r) = hasI l x) ∧ Below w.heap.size w w' := by
  have HL := Lib.hid hl; have HLN : Hid (l.length = n) := Lib.hid hl.len
  clear hl
  go_enter Try.func57, Try.ntmps57
  go_wp2_with fail
  go_loopw [8] (fun i wr => ∃ j : Nat, j ≤ n ∧ i = .int .i64 j ∧ Hid (hasI (l.drop j) x = hasI l x ∧ Below w.heap.size w wr)) (fun i _ => n - (intOf i).toNat)
  case atStart => exact ⟨0, Nat.zero_le _, rfl, Lib.hid ⟨rfl, Below.refl _ _⟩⟩
  case round =>
    obtain ⟨j, hj, rfl, HQ⟩ := hrel
    by_cases hlt : j < n
    · have hlt2 : (j : Int) < (n : Int) := by omega
      obtain ⟨b, off, hA, hc⟩ := IRow.cell (HL.out.later HQ.out.2) j hlt
      subst hA
      have HD : Hid (hasI (l.drop j) x = if l.getD j 0 = x then true else hasI (l.drop (j + 1)) x) := Lib.hid (by
        rw [List.drop_eq_getElem_cons (by rw [HLN.out]; exact hlt), hasI, List.getD_eq_getElem?_getD, List.getElem?_eq_getElem (by rw [HLN.out]; exact hlt)]; rfl)
      generalize l.getD j 0 = a at *
      by_cases hax : x = a
      · have b0 : (x == a) = true := by rw [hax]; simp
        have HT : Hid (hasI l x = true) := Lib.hid (by rw [← HQ.out.1, HD.out, if_pos hax.symm])
        clear hax
        go_wp2_with fail
        go_ret
        exact ⟨⟨_, rfl, by rw [HT.out]; exact decide_eq_true (by omega)⟩, HQ.out.2⟩
      · have b0 : (x == a) = false := by rw [beq_eq_false_iff_ne]; exact hax
        have HT : Hid (hasI (l.drop (j + 1)) x = hasI l x) := Lib.hid (by rw [← HQ.out.1, HD.out, if_neg (fun q => hax q.symm)])
        clear hax
        go_wp2_with fail
        exact ⟨⟨j + 1, hlt, by go_num, Lib.hid ⟨HT.out, HQ.out.2⟩⟩, by simp [intOf]; omega⟩
    · have hlt2 : ¬ (j : Int) < (n : Int) := by omega
      have HT : Hid (hasI l x = false) := Lib.hid (by rw [← HQ.out.1, List.drop_eq_nil_of_le (by rw [HLN.out]; omega)]; rfl)
      go_wp2_with fail
      go_ret
      exact ⟨⟨_, rfl, by rw [HT.out]; decide⟩, HQ.out.2⟩
set_option maxRecDepth 100000 in
theorem containsI_any (A : Option Addr) (n c : Nat) (l : List Int) (x : Int) (w : World) (hl : IRow w A n c l) (hn : n ≤ 100000) : Calls Try.prog 49 #[.slice A n c, .int .i64 x] w (SaysL (.bool (hasI l x)) w) := by
  have HI := Lib.hid (indexI_any A n c l x w hl hn)
  clear hl
  go_enter Try.func49, Try.ntmps49
  go_wp2_with fail
  refine HI.out.mono ?_
  rintro e w1 ⟨⟨r, rfl, hr⟩, hb⟩
  have HR : Hid (decide (r ≥ 0) = hasI l x) := Lib.hid hr
  have HB := Lib.hid hb
  clear hr hb HI
  go_wp2_with fail
  go_ret
  exact ⟨by rw [← HR.out]; rfl, HB.out⟩
end Go.Proofs.Ytikmffdmgnjpbaa
/- The walks of graph's isLevel, isKey, isEnd, joins. -/
namespace Go.Proofs.Ytikmffdmgnjpbaa
open Go.RowKit
set_option maxRecDepth 100000 in
set_option maxHeartbeats 4000000 in
theorem levGr_any (x : Int) (w : World) : Calls Try.prog 45 #[.int .i64 x] w fun e w' => e = .returned (.bool (decide (1 ≤ x) && decide (x ≤ 3))) ∧ w' = w := by
  go_enter Try.func45, Try.ntmps45
  by_cases h1 : 1 ≤ x
  · have d1 : decide (1 ≤ x) = true := decide_eq_true h1
    rw [d1]
    clear h1
    by_cases h2 : x ≤ 3
    · have d2 : decide (x ≤ 3) = true := decide_eq_true h2
      rw [d2]
      clear h2
      go_wp2_with fail
      go_ret
      exact ⟨rfl, rfl⟩
    · have d2 : decide (x ≤ 3) = false := decide_eq_false h2
      rw [d2]
      clear h2
      go_wp2_with fail
      go_ret
      exact ⟨rfl, rfl⟩
  · have d1 : decide (1 ≤ x) = false := decide_eq_false h1
    rw [d1]
    clear h1
    go_wp2_with fail
    go_ret
    exact ⟨rfl, rfl⟩
set_option maxRecDepth 100000 in
set_option maxHeartbeats 4000000 in
theorem keyGr_any (G : Gr) (A : Option Addr) (n c : Nat) (B : Option Addr) (m k : Nat) (x : Int) (w : World) : Calls Try.prog 52 #[.agg #[.int .i64 G.sz, .slice A n c, .slice B m k], .int .i64 x] w (SaysL (.bool (keyB G.sz x)) w) := by
  have HN := Lib.hid (one_new w (.cells #[.int .i64 G.sz, .slice A n c, .slice B m k] 29))
  have HX : Hid ((w.alloc (.cells #[.int .i64 G.sz, .slice A n c, .slice B m k] 29)).heap[w.heap.size]? = some (.cells #[.int .i64 G.sz, .slice A n c, .slice B m k] 29 (0, 0))) := Lib.hid (heap_alloc_new _ _)
  have HV : Hid (keyB G.sz x = (decide (0 ≤ x) && decide (x < G.sz))) := Lib.hid rfl
  generalize keyB G.sz x = kb at *
  go_enter Try.func52, Try.ntmps52
  go_upto_region 1 with fail
  generalize w.alloc (.cells #[.int .i64 G.sz, .slice A n c, .slice B m k] 29) = y at *
  have hc0 : y.cell? ⟨w.heap.size, 0, none⟩ = some (.int .i64 G.sz) := (cell_of_row _ _ 0 _ _ _ HX.out).trans rfl
  by_cases h1 : 0 ≤ x
  · have d1 : decide (0 ≤ x) = true := decide_eq_true h1
    have D1 := Lib.hid d1
    clear h1
    by_cases h2 : x < G.sz
    · have d2 : decide (x < G.sz) = true := decide_eq_true h2
      have HE : Hid (kb = true) := Lib.hid (by rw [HV.out, d1, d2]; rfl)
      clear h2
      go_wp2_with fail
      go_ret
      exact ⟨by rw [HE.out]; rfl, HN.out⟩
    · have d2 : decide (x < G.sz) = false := decide_eq_false h2
      have HE : Hid (kb = false) := Lib.hid (by rw [HV.out, d1, d2]; rfl)
      clear h2
      go_wp2_with fail
      go_ret
      exact ⟨by rw [HE.out]; rfl, HN.out⟩
  · have d1 : decide (0 ≤ x) = false := decide_eq_false h1
    have HE : Hid (kb = false) := Lib.hid (by rw [HV.out, d1]; rfl)
    clear h1
    go_wp2_with fail
    go_ret
    exact ⟨by rw [HE.out]; rfl, HN.out⟩
def endB (G : Gr) (x : Int) : Bool := keyB G.sz x && !hasI G.gn x
set_option maxRecDepth 100000 in
set_option maxHeartbeats 4000000 in
theorem endGr_any (G : Gr) (A : Option Addr) (n c : Nat) (B : Option Addr) (m k : Nat) (x : Int) (w : World) (h2 : IRow w B m k G.gn) (hm : m ≤ 100000) : Calls Try.prog 53 #[.agg #[.int .i64 G.sz, .slice A n c, .slice B m k], .int .i64 x] w (SaysL (.bool (endB G x)) w) := by
  have HN := Lib.hid (one_new w (.cells #[.int .i64 G.sz, .slice A n c, .slice B m k] 29))
  have HX : Hid ((w.alloc (.cells #[.int .i64 G.sz, .slice A n c, .slice B m k] 29)).heap[w.heap.size]? = some (.cells #[.int .i64 G.sz, .slice A n c, .slice B m k] 29 (0, 0))) := Lib.hid (heap_alloc_new _ _)
  have H2 := Lib.hid (h2.later HN.out)
  have HV : Hid (endB G x = (keyB G.sz x && !hasI G.gn x)) := Lib.hid rfl
  generalize endB G x = kb at *
  clear h2
  go_enter Try.func53, Try.ntmps53
  go_upto_region 1 with fail
  generalize w.alloc (.cells #[.int .i64 G.sz, .slice A n c, .slice B m k] 29) = y at *
  have HK := Lib.hid (keyGr_any G A n c B m k x y)
  have HC : Hid (∀ z, Below y.heap.size y z → Calls Try.prog 49 #[.slice B m k, .int .i64 x] z (SaysL (.bool (hasI G.gn x)) z)) := Lib.hid fun z h => containsI_any B m k G.gn x z (H2.out.later h) hm
  generalize keyB G.sz x = kk at *
  generalize hasI G.gn x = hi at *
  go_wp2_with (refine wpList_load_row rfl 29 (.tmp 2) rfl w.heap.size rfl 29 #[.int .i64 G.sz, .slice A n c, .slice B m k] (0, 0) _ HX.out Try.underlying29 rfl gr_size ?_)
  refine HK.out.mono ?_
  rintro e w1 ⟨rfl, hb⟩
  have HX1 := Lib.hid ((hb.block _ (Array.getElem?_eq_some_iff.1 HX.out).1).trans HX.out)
  have HB := Lib.hid (HN.out.trans (hb.mono HN.out.size))
  have HC1 := Lib.hid (HC.out w1 hb)
  clear hb HK HX HC
  have hc2 : w1.cell? ⟨w.heap.size, 2, none⟩ = some (.slice B m k) := (cell_of_row _ _ 2 _ _ _ HX1.out).trans rfl
  cases kk
  · have HE : Hid (kb = false) := Lib.hid (by rw [HV.out]; rfl)
    go_wp2_with fail
    go_ret
    exact ⟨by rw [HE.out]; rfl, HB.out⟩
  · have HE : Hid (kb = !hi) := Lib.hid (by rw [HV.out]; rfl)
    go_wp2_with fail
    refine HC1.out.mono ?_
    rintro e w2 ⟨rfl, hb⟩
    have HB2 := Lib.hid (HB.out.trans (hb.mono HB.out.size))
    clear hb HC1 hc2
    go_wp2_with fail
    go_ret
    exact ⟨by rw [HE.out]; rfl, HB2.out⟩
theorem joinsGr_eq (G : Gr) (e : Edg) : (endsB G.sz e && freeB G.gn e) = (endB G e.fr && (endB G e.tu && (e.fr != e.tu))) := by
  unfold endsB freeB endB
  rw [show (!decide (e.fr = e.tu)) = (e.fr != e.tu) by by_cases h : e.fr = e.tu <;> simp [h]]
  cases keyB G.sz e.fr <;> cases keyB G.sz e.tu <;> cases hasI G.gn e.fr <;> cases hasI G.gn e.tu <;> cases (e.fr != e.tu) <;> rfl
set_option maxRecDepth 100000 in
set_option maxHeartbeats 4000000 in
theorem joinsGr_any (G : Gr) (A : Option Addr) (n c : Nat) (B : Option Addr) (m k : Nat) (e : Edg) (w : World) (h2 : IRow w B m k G.gn) (hm : m ≤ 100000) : Calls Try.prog 44 #[.agg #[.int .i64 G.sz, .slice A n c, .slice B m k], .agg e.arr] w (SaysL (.bool (endsB G.sz e && freeB G.gn e)) w) := by
  have HV : Hid ((endsB G.sz e && freeB G.gn e) = (endB G e.fr && (endB G e.tu && (e.fr != e.tu)))) := Lib.hid (joinsGr_eq G e)
  generalize (endsB G.sz e && freeB G.gn e) = kb at *
  have HN : Hid (Below w.heap.size w ((w.alloc (.cells #[.int .i64 G.sz, .slice A n c, .slice B m k] 29)).alloc (.cells e.arr 38))) := Lib.hid ((one_new w _).trans ((one_new _ _).mono (by simp)))
  have HX : Hid (((w.alloc (.cells #[.int .i64 G.sz, .slice A n c, .slice B m k] 29)).alloc (.cells e.arr 38)).heap[w.heap.size]? = some (.cells #[.int .i64 G.sz, .slice A n c, .slice B m k] 29 (0, 0))) := Lib.hid ((Below.heap_alloc _ _ _ (by simp)).trans (heap_alloc_new _ _))
  have HY : Hid (((w.alloc (.cells #[.int .i64 G.sz, .slice A n c, .slice B m k] 29)).alloc (.cells e.arr 38)).heap[w.heap.size + 1]? = some (.cells e.arr 38 (0, 0))) := Lib.hid (heap_alloc2_new _ _ _)
  have HC : Hid (∀ z x, Below w.heap.size w z → Calls Try.prog 53 #[.agg #[.int .i64 G.sz, .slice A n c, .slice B m k], .int .i64 x] z (SaysL (.bool (endB G x)) z)) := Lib.hid fun z x h => endGr_any G A n c B m k x z (h2.later h) hm
  clear h2
  go_enter Try.func44, Try.ntmps44
  go_upto_region 1 with fail
  generalize ((w.alloc (.cells #[.int .i64 G.sz, .slice A n c, .slice B m k] 29)).alloc (.cells e.arr 38)) = y at *
  have HC1 := Lib.hid (HC.out y e.fr HN.out)
  have HC2 : Hid (∀ z, Below y.heap.size y z → Calls Try.prog 53 #[.agg #[.int .i64 G.sz, .slice A n c, .slice B m k], .int .i64 e.tu] z (SaysL (.bool (endB G e.tu)) z)) := Lib.hid fun z h => HC.out z e.tu (HN.out.trans (h.mono HN.out.size))
  generalize endB G e.fr = k0 at *
  generalize endB G e.tu = k1 at *
  clear HC
  obtain ⟨hy0, hy1, -⟩ := edg_cells HY.out
  go_wp2_with (refine wpList_load_row rfl 29 (.tmp 2) rfl w.heap.size rfl 29 #[.int .i64 G.sz, .slice A n c, .slice B m k] (0, 0) _ HX.out Try.underlying29 rfl gr_size ?_)
  refine HC1.out.mono ?_
  rintro e1 w1 ⟨rfl, hb⟩
  have HX1 := Lib.hid ((hb.block _ (Array.getElem?_eq_some_iff.1 HX.out).1).trans HX.out)
  have HY1 := Lib.hid ((hb.block _ (Array.getElem?_eq_some_iff.1 HY.out).1).trans HY.out)
  have HB := Lib.hid (HN.out.trans (hb.mono HN.out.size))
  have HC3 := Lib.hid (HC2.out w1 hb)
  clear hb HC1 HX HC2 HY hy0 hy1
  cases k0
  · have HE : Hid (kb = false) := Lib.hid (by rw [HV.out]; rfl)
    go_wp2_with fail
    go_ret
    exact ⟨by rw [HE.out]; rfl, HB.out⟩
  · obtain ⟨hy0, hy1, -⟩ := edg_cells HY1.out
    go_wp2_with (refine wpList_load_rowG rfl 29 (.tmp 2) rfl w.heap.size rfl 29 #[.int .i64 G.sz, .slice A n c, .slice B m k] (0, 0) _ HX1.out Try.underlying29 rfl gr_size ?_)
    refine HC3.out.mono ?_
    rintro e1 w2 ⟨rfl, hb⟩
    have HY2 := Lib.hid ((hb.block _ (Array.getElem?_eq_some_iff.1 HY1.out).1).trans HY1.out)
    have HB2 := Lib.hid (HB.out.trans (hb.mono HB.out.size))
    clear hb HC3 HX1 HY1 hy0 hy1
    cases k1
    · have HE : Hid (kb = false) := Lib.hid (by rw [HV.out]; rfl)
      go_wp2_with fail
      go_ret
      exact ⟨by rw [HE.out]; rfl, HB2.out⟩
    · have HE : Hid (kb = (e.fr != e.tu)) := Lib.hid (by rw [HV.out]; rfl)
      obtain ⟨hy0, hy1, -⟩ := edg_cells HY2.out
      generalize e.fr = x0 at *
      generalize e.tu = x1 at *
      go_wp2_with fail
      go_ret
      exact ⟨by rw [HE.out]; rfl, HB2.out⟩
end Go.Proofs.Ytikmffdmgnjpbaa
/- The walk of graph's areKeys. -/
namespace Go.Proofs.Ytikmffdmgnjpbaa
open Go.RowKit
set_option maxRecDepth 100000 in
set_option maxHeartbeats 4000000 in
theorem keysGr_any (G : Gr) (A : Option Addr) (n c : Nat) (B : Option Addr) (m k : Nat) (A2 : Option Addr) (n2 c2 : Nat) (l : List Int) (w : World) (hl : IRow w A2 n2 c2 l) (hn : n2 ≤ 100000) : Calls Try.prog 43 #[.agg #[.int .i64 G.sz, .slice A n c, .slice B m k], .slice A2 n2 c2] w (SaysL (.bool (setB l G.sz)) w) := by
  have HN := Lib.hid (one_new w (.cells #[.int .i64 G.sz, .slice A n c, .slice B m k] 29))
  have HX : Hid ((w.alloc (.cells #[.int .i64 G.sz, .slice A n c, .slice B m k] 29)).heap[w.heap.size]? = some (.cells #[.int .i64 G.sz, .slice A n c, .slice B m k] 29 (0, 0))) := Lib.hid (heap_alloc_new _ _)
  have HL := Lib.hid (hl.later HN.out); have HLN : Hid (l.length = n2) := Lib.hid hl.len
  have HBAD : Hid (∀ i, i < n2 → okSet l G.sz i = false → setB l G.sz = false) := Lib.hid fun i hi h => setB_no (by rw [HLN.out]; exact hi) h
  have HGOOD : Hid ((∀ i, i < n2 → okSet l G.sz i = true) → setB l G.sz = true) := Lib.hid fun h => setB_yes fun i hi => h i (by rw [← HLN.out]; exact hi)
  have HOK : Hid (∀ i, okSet l G.sz i = (keyB G.sz (l.getD i 0) && (decide (i = 0) || decide (l.getD (i - 1) 0 < l.getD i 0)))) := Lib.hid fun i => by
    unfold okSet keyB
    rw [Bool.and_assoc]
  generalize setB l G.sz = sb at *
  clear hl
  go_enter Try.func43, Try.ntmps43
  go_upto_region 1 with fail
  generalize w.alloc (.cells #[.int .i64 G.sz, .slice A n c, .slice B m k] 29) = y at *
  have HKY : Hid (∀ z x, Calls Try.prog 52 #[.agg #[.int .i64 G.sz, .slice A n c, .slice B m k], .int .i64 x] z (SaysL (.bool (keyB G.sz x)) z)) := Lib.hid fun z x => keyGr_any G A n c B m k x z
  go_wp2_with fail
  go_loopw [9] (fun i wr => ∃ j : Nat, j ≤ n2 ∧ i = .int .i64 j ∧ Hid ((∀ q, q < j → okSet l G.sz q = true) ∧ Below y.heap.size y wr)) (fun i _ => n2 - (intOf i).toNat)
  case atStart => exact ⟨0, Nat.zero_le _, rfl, Lib.hid ⟨fun q h => absurd h (Nat.not_lt_zero _), Below.refl _ _⟩⟩
  case round =>
    obtain ⟨j, hj, rfl, HQ⟩ := hrel
    have HX1 : Hid (wr.heap[w.heap.size]? = some (.cells #[.int .i64 G.sz, .slice A n c, .slice B m k] 29 (0, 0))) := Lib.hid ((HQ.out.2.block _ (Array.getElem?_eq_some_iff.1 HX.out).1).trans HX.out)
    by_cases hlt : j < n2
    · have hlt2 : (j : Int) < (n2 : Int) := by omega
      have HLR := Lib.hid (HL.out.later HQ.out.2)
      obtain ⟨b, off, hA, hc⟩ := IRow.cell HLR.out j hlt
      subst hA
      have HOJ := Lib.hid (HOK.out j)
      have HKJ := Lib.hid (HKY.out wr (l.getD j 0))
      generalize hlj : l.getD j 0 = a at *
      clear hlj
      go_upto_region 4 with fail
      clear hc
      go_wp2_with (refine wpList_load_row rfl 29 (.tmp 2) rfl w.heap.size rfl 29 #[.int .i64 G.sz, .slice A n c, .slice B m k] (0, 0) _ HX1.out Try.underlying29 rfl gr_size ?_)
      refine HKJ.out.mono ?_
      rintro e w1 ⟨rfl, hb⟩
      have HB1 := Lib.hid (HQ.out.2.trans (hb.mono HQ.out.2.size))
      have HK := Lib.hid HQ.out.1
      clear hb HKJ HQ HX1 HLR
      cases hkb : keyB G.sz a
      · have HE : Hid (sb = false) := Lib.hid (HBAD.out j hlt (by rw [HOJ.out, hkb]; rfl))
        clear hkb
        go_wp2_with fail
        go_ret
        exact ⟨by rw [HE.out]; rfl, HN.out.trans (HB1.out.mono HN.out.size)⟩
      · rw [hkb, Bool.true_and] at HOJ
        clear hkb
        by_cases hj0 : 0 < j
        · have e0 : decide ((j : Int) > 0) = true := decide_eq_true (by omega)
          have e0' : decide ((0 : Int) < (j : Int)) = true := e0
          have e1 : (0 : Int) ≤ (j : Int) - 1 := by omega
          have e2 : (j : Int) - 1 < (n2 : Int) := by omega
          have e3 : ((j : Int) - 1).toNat = j - 1 := by omega
          obtain ⟨b2, off2, hA2, hc⟩ := IRow.cell (HL.out.later HB1.out) (j - 1) (by omega)
          injection hA2 with hA2
          injection hA2 with i1 i2
          subst i1 i2
          rw [decide_eq_false (by omega : ¬ j = 0), Bool.false_or] at HOJ
          generalize l.getD (j - 1) 0 = a1 at *
          by_cases hlt3 : a1 < a
          · have d1 : decide (a1 ≥ a) = false := decide_eq_false (by omega)
            have d1' : decide (a ≤ a1) = false := d1
            have HT : Hid (okSet l G.sz j = true) := Lib.hid (by rw [HOJ.out]; exact decide_eq_true hlt3)
            clear hlt3
            go_wp2_with fail
            exact ⟨⟨j + 1, hlt, by go_num, Lib.hid ⟨fun q hq => (Nat.lt_or_ge q j).elim (fun h => HK.out q h) (fun h => by rw [show q = j by omega]; exact HT.out), HB1.out⟩⟩, by simp [intOf]; omega⟩
          · have d1 : decide (a1 ≥ a) = true := decide_eq_true (by omega)
            have d1' : decide (a ≤ a1) = true := d1
            have HE : Hid (sb = false) := Lib.hid (HBAD.out j hlt (by rw [HOJ.out]; exact decide_eq_false hlt3))
            clear hlt3
            go_wp2_with fail
            go_ret
            exact ⟨by rw [HE.out]; rfl, HN.out.trans (HB1.out.mono HN.out.size)⟩
        · have e0 : decide ((j : Int) > 0) = false := decide_eq_false (by omega)
          have e0' : decide ((0 : Int) < (j : Int)) = false := e0
          have HT : Hid (okSet l G.sz j = true) := Lib.hid (by rw [HOJ.out, decide_eq_true (by omega : j = 0)]; rfl)
          go_wp2_with fail
          exact ⟨⟨j + 1, hlt, by go_num, Lib.hid ⟨fun q hq => (Nat.lt_or_ge q j).elim (fun h => HK.out q h) (fun h => by rw [show q = j by omega]; exact HT.out), HB1.out⟩⟩, by simp [intOf]; omega⟩
    · have hlt2 : ¬ (j : Int) < (n2 : Int) := by omega
      have HE : Hid (sb = true) := Lib.hid (HGOOD.out fun q hq => HQ.out.1 q (by omega))
      have HB1 := Lib.hid HQ.out.2
      go_wp2_with fail
      go_ret
      exact ⟨by rw [HE.out]; rfl, HN.out.trans (HB1.out.mono HN.out.size)⟩
end Go.Proofs.Ytikmffdmgnjpbaa
