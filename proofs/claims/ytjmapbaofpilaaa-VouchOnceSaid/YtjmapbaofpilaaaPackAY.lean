import Derived.Test.YtjmapbaofpilaaaPackAW
import Derived.Test.YtjmapbaofpilaaaPackAX
import Derived.Test.YtjmapbaofpilaaaPackAC
import Derived.Test.YtjmapbaofpilaaaPackAV
import Derived.WalkMore
import Derived.Test.YtjmapbaofpilaaaPackAU
/- The walk of vouch's Gone. -/
namespace Go.Proofs.Ytjmapbaofpilaaa
open Go.RowKit
def goneM (m : List Stm) : List Int := (m.filter fun s => decide (s.kind = 3)).map (·.author)
theorem goneM_snoc (m : List Stm) (s : Stm) : goneM (m ++ [s]) = goneM m ++ (if s.kind = 3 then [s.author] else []) := by
  unfold goneM
  rw [List.filter_append, List.map_append]
  congr 1
  by_cases h : s.kind = 3
  · rw [if_pos h, List.filter_cons_of_pos (by simpa using h)]; rfl
  · rw [if_neg h, List.filter_cons_of_neg (by simpa using h)]; rfl
theorem goneM_len (m : List Stm) : (goneM m).length ≤ m.length := by unfold goneM; rw [List.length_map]; exact List.length_filter_le _ _
/-- Sorting a list of one's own, then leaving repeats out. -/
theorem sortComp (B : Nat) (v : Value) (n : Nat) (l : List Int) (w : World) (ho : w.ownsRow B 3 1 v n (intsV l)) (hn : n ≤ 1000000) (hB : B ≤ w.heap.size) :
    Calls Try.prog 40 #[v] w fun e w' => e = .returned (.tuple #[]) ∧ Below B w w' ∧ Calls Try.prog 41 #[v] w' fun e2 w2 => ∃ A m c, e2 = .returned (.slice A m c) ∧ IRow w2 A m c (Lib.compactUpTo (l.mergeSort fun x y => decide (x ≤ y)).toArray n) ∧ Below B w' w2 := by
  by_cases h0 : 0 < n
  · obtain ⟨g, cap, rfl, hL⟩ := laid_of_own ho h0
    refine Calls.mono (sortI_any hL hn hB) ?_
    rintro e w' ⟨rfl, hL2, hb⟩
    exact ⟨rfl, hb, compactI_any hL2 hn (Nat.le_trans hB hb.size)⟩
  · obtain ⟨A, c, hv, hr⟩ := Row.of_own ho
    have hn0 : n = 0 := by omega
    subst hn0 hv
    have hl : l = [] := by have h := Row.len hr; rw [intsV_len] at h; exact List.eq_nil_of_length_eq_zero (by omega)
    subst hl
    refine Calls.mono (Any.slices_Sort_int_none sortInt A c w) ?_
    rintro e w' ⟨rfl, rfl⟩
    refine ⟨rfl, Below.refl _ _, Calls.mono (compactNone A c _) ?_⟩
    rintro e w2 ⟨rfl, rfl⟩
    exact ⟨A, 0, c, rfl, hr, Below.refl _ _⟩
set_option maxRecDepth 100000 in
set_option maxHeartbeats 4000000 in
theorem vGone_any (A : Option Addr) (n c : Nat) (l : List Pl) (tm : Int) (w : World) (hl : LRow w A n c l) (hn : n ≤ 100000) (ho : Ord10 (l.map (·.s))) : Calls Try.prog 18 #[.slice A n c, .int .i64 tm] w (GivesI w (goneS (l.map (·.s)) tm)) := by
  have HU := Lib.hid (eUntil_any A n c l tm w hl hn)
  have HLN := Lib.hid hl.len
  have HGS : Hid (Lib.compactUpTo ((goneM (untilS tm (l.map (·.s)))).mergeSort fun x y => decide (x ≤ y)).toArray (goneM (untilS tm (l.map (·.s)))).length = goneS (l.map (·.s)) tm) := Lib.hid (gone_same ho.ok tm)
  generalize goneS (l.map (·.s)) tm = GS at *
  have HUL : Hid ((untilS tm (l.map (·.s))).length ≤ n) := Lib.hid (by have h := List.length_filter_le (fun s : Stm => decide (s.time ≤ tm)) (l.map (·.s)); rw [List.length_map, HLN.out] at h; exact h)
  clear hl ho
  go_enter Try.func18, Try.ntmps18
  go_wp2_with fail
  refine HU.out.mono ?_
  rintro e w1 ⟨A2, c2, l2, rfl, hm, hr, hb⟩
  have HL := Lib.hid hr; have HW := Lib.hid hb; have HL2 := Lib.hid hr.len
  rw [← hm] at HGS HUL
  clear hm hr hb HU
  have hn2b : l2.length ≤ 100000 := by have := HUL.out; rw [List.length_map] at this; omega
  have HN2 := Lib.hid hn2b
  obtain ⟨n2, hn2⟩ : ∃ n2, l2.length = n2 := ⟨_, rfl⟩
  rw [hn2] at HL HN2 hn2b ⊢
  have HLE := Lib.hid hn2
  clear hn2 HL2
  go_wp2_with fail
  go_loopw [5, 12] (fun v i wr => ∃ j : Nat, j ≤ n2 ∧ i = .int .i64 j ∧ Hid (wr.ownsRow w1.heap.size 3 1 v (goneM ((l2.take j).map (·.s))).length (intsV (goneM ((l2.take j).map (·.s)))) ∧ Below w1.heap.size w1 wr)) (fun _ i _ => n2 - (intOf i).toNat)
  case atStart => exact ⟨0, Nat.zero_le _, rfl, Lib.hid ⟨World.ownsRow_nil _ _ _ _, Below.refl _ _⟩⟩
  case round =>
    obtain ⟨j, hj, rfl, HQ⟩ := hrel
    obtain ⟨A1, c1, hv, -⟩ := Row.of_own HQ.out.1
    subst hv
    by_cases hlt : j < n2
    · have hlt2 : (j : Int) < (n2 : Int) := by omega
      obtain ⟨b, off, hA, hc⟩ := (HL.out.later HQ.out.2).cells j hlt
      subst hA
      have HC := Lib.hid hc
      have HST : Hid (goneM ((l2.take (j + 1)).map (·.s)) = goneM ((l2.take j).map (·.s)) ++ (if (l2.getD j noPl).s.kind = 3 then [(l2.getD j noPl).s.author] else [])) := Lib.hid (by rw [take_snocP l2 j (by rw [HLE.out]; exact hlt), List.map_append]; exact goneM_snoc _ _)
      have HUL2 : Hid ((goneM ((l2.take j).map (·.s))).length ≤ 100000) := Lib.hid (Nat.le_trans (goneM_len _) (by rw [List.length_map, List.length_take]; omega))
      clear hc
      generalize l2.getD j noPl = q at *
      generalize goneM ((l2.take j).map (·.s)) = U at *
      go_upto_region 5 with (first | (refine wpList_load_cells rfl 34 (.tmp 14) rfl b (off + j * 13) rfl q.arr _ Try.underlying34 rfl q.info HC.out ?_) | (refine wpList_store_new rfl 34 (.tmp 7) (.tmp 15) rfl 34 _ q.arr rfl rfl q.info rfl q.one ?_))
      have HN3 := Lib.hid (one_new wr (.cells q.arr 34))
      have HX : Hid ((wr.alloc (.cells q.arr 34)).heap[wr.heap.size]? = some (.cells q.arr 34 (0, 0))) := Lib.hid (heap_alloc_new _ _)
      have HB := Lib.hid (HQ.out.2.trans (HN3.out.mono HQ.out.2.size))
      have HO := Lib.hid (own_later HQ.out.1 HN3.out)
      clear HQ HN3 HC
      generalize wr.alloc (.cells q.arr 34) = x2 at *
      generalize wr.heap.size = g at *
      have hq0 : x2.cell? ⟨g, 0, none⟩ = some (.int .i64 q.s.author) := (cell_of_row _ _ 0 _ _ _ HX.out).trans rfl
      have hq4 : x2.cell? ⟨g, 4, none⟩ = some (.int .i64 q.s.kind) := (cell_of_row _ _ 4 _ _ _ HX.out).trans rfl
      have hul := HUL2.out
      by_cases hk : q.s.kind = 3
      · have b0 : (q.s.kind == 3) = true := by rw [hk]; rfl
        have HE : Hid (goneM ((l2.take (j + 1)).map (·.s)) = U ++ [q.s.author]) := Lib.hid (by rw [HST.out, if_pos hk])
        clear hk
        have hsz : w1.heap.size ≤ x2.heap.size := HB.out.size
        go_wp2_with (at_builtin; go_must (refine wpList_app_new x2 rfl (.tmp 19) (.tmp 22) 22 3 rfl w1.heap.size Try.underlying22 i64_info rfl _ U.length (intsV U) HO.out rfl 1 #[.int .i64 q.s.author] rfl (by simp [Value.oneCell']) rfl rfl (by unfold maxLen; omega) (by omega) hsz ?_); intro v3 w3 ho3 hb3; have HO3 := Lib.hid ho3; have HB3 := Lib.hid (HB.out.trans hb3); clear ho3 hb3)
        exact ⟨⟨j + 1, by omega, by go_num, Lib.hid (by rw [HE.out, List.length_append, intsV_app]; exact ⟨HO3.out, HB3.out⟩)⟩, by simp [intOf]; omega⟩
      · have b0 : (q.s.kind == 3) = false := by rw [beq_eq_false_iff_ne]; exact hk
        have HE : Hid (goneM ((l2.take (j + 1)).map (·.s)) = U) := Lib.hid (by rw [HST.out, if_neg hk, List.append_nil])
        clear hk
        go_wp2_with fail
        exact ⟨⟨j + 1, by omega, by go_num, Lib.hid (by rw [HE.out]; exact ⟨HO.out, HB.out⟩)⟩, by simp [intOf]; omega⟩
    · have hlt2 : ¬ (j : Int) < (n2 : Int) := by omega
      have hj2 : j = n2 := by omega
      have HE : Hid ((l2.take j).map (·.s) = l2.map (·.s)) := Lib.hid (by rw [List.take_of_length_le (by rw [HLE.out]; omega)])
      have HO2 := Lib.hid HQ.out.1; have HB := Lib.hid HQ.out.2
      rw [HE.out] at HO2
      have HGL : Hid ((goneM (l2.map (·.s))).length ≤ 100000) := Lib.hid (Nat.le_trans (goneM_len _) (by rw [List.length_map, HLE.out]; exact HN2.out))
      have HSO := Lib.hid (sortComp w1.heap.size _ _ _ wr HO2.out (Nat.le_trans HGL.out (by decide)) HB.out.size)
      rw [HE.out]
      clear HQ HE HO2
      generalize goneM (l2.map (·.s)) = U at *
      rw [HGS.out] at HSO
      go_wp2_with fail
      refine HSO.out.mono ?_
      rintro e w5 ⟨rfl, hb5, hc5⟩
      have HC5 := Lib.hid hc5; have HB5 := Lib.hid (HB.out.trans hb5)
      clear hb5 hc5 HSO
      go_wp2_with fail
      refine HC5.out.mono ?_
      rintro e w6 ⟨A6, n6, c6, rfl, hr6, hb6⟩
      have HR6 := Lib.hid hr6; have HB6 := Lib.hid (HW.out.trans ((HB5.out.trans hb6).mono HW.out.size))
      clear hr6 hb6 HC5
      go_wp2_with fail
      go_ret
      exact ⟨_, _, _, rfl, HR6.out, HB6.out⟩
end Go.Proofs.Ytjmapbaofpilaaa
/- The walk of vouch's Active. -/
namespace Go.Proofs.Ytjmapbaofpilaaa
open Go.RowKit
set_option maxRecDepth 100000 in
set_option maxHeartbeats 4000000 in
theorem vActive_any (A : Option Addr) (n c : Nat) (l : List Pl) (tm : Int) (w : World) (hl : LRow w A n c l) (hn : n ≤ 100000) (ho : Ord10 (l.map (·.s))) : Calls Try.prog 17 #[.slice A n c, .int .i64 tm] w (GivesV w (activeS (l.map (·.s)) tm)) := by
  have HOF := Lib.hid (vOf_any A n c l w hl hn ho)
  have HGN : Hid (∀ y, Below w.heap.size w y → Calls Try.prog 18 #[.slice A n c, .int .i64 tm] y (GivesI y (goneS (l.map (·.s)) tm))) := Lib.hid fun y h => vGone_any A n c l tm y (hl.later h) hn ho
  have HALN : Hid ((vouchesS (l.map (·.s))).length ≤ 100000) := Lib.hid (by have h := vouchesS_len (l.map (·.s)); rw [List.length_map, hl.len] at h; omega)
  have HGLN : Hid ((goneS (l.map (·.s)) tm).length ≤ 100000) := Lib.hid (Nat.le_trans (goneUp_len _ _ 64) (by decide))
  have HAS : Hid (actA (vouchesS (l.map (·.s))) (goneS (l.map (·.s)) tm) tm (vouchesS (l.map (·.s))).length = activeS (l.map (·.s)) tm) := Lib.hid (actA_same ho _ tm _ (Nat.le_refl _))
  generalize activeS (l.map (·.s)) tm = GS at *
  generalize vouchesS (l.map (·.s)) = all at *
  generalize goneS (l.map (·.s)) tm = gone at *
  clear hl ho
  go_enter Try.func17, Try.ntmps17
  go_wp2_with fail
  go_step3
  go_wp2_with fail
  refine HOF.out.mono ?_
  rintro e w1 ⟨A1, n1, c1, rfl, hv1, hb1⟩
  have HV1 := Lib.hid hv1; have HB1 := Lib.hid hb1; have HLN : Hid (all.length = n1) := Lib.hid (VRow.len hv1)
  clear hv1 hb1 HOF
  go_wp2_with fail
  refine (HGN.out w1 HB1.out).mono ?_
  rintro e w2 ⟨A2, n2, c2, rfl, hv2, hb2⟩
  have HG2 := Lib.hid hv2; have HW2 := Lib.hid (HB1.out.trans (hb2.mono HB1.out.size)); have HGL : Hid (gone.length = n2) := Lib.hid hv2.len
  have HV2 := Lib.hid (GRow.later HV1.out hb2)
  have hn1 : n1 ≤ 100000 := by rw [← HLN.out]; exact HALN.out
  have hn2 : n2 ≤ 100000 := by rw [← HGL.out]; exact HGLN.out
  have HHS : Hid (∀ y x, Below w2.heap.size w2 y → Calls Try.prog 38 #[.slice A2 n2 c2, .int .i64 x] y (SaysL (.bool (hasI gone x)) y)) := Lib.hid fun y x h => containsI_any A2 n2 c2 gone x y (HG2.out.later h) hn2
  clear hv2 hb2 HGN HV1 HB1 HG2 HGL HGLN hn2
  go_wp2_with fail
  go_step3
  go_wp2_with fail
  go_loopw [7, 19] (fun v i wr => ∃ j : Nat, j ≤ n1 ∧ i = .int .i64 j ∧ Hid (wr.ownsRow w2.heap.size 49 7 v (actA all gone tm j).length (rowC Vou.cells (actA all gone tm j)) ∧ Below w2.heap.size w2 wr)) (fun _ i _ => n1 - (intOf i).toNat)
  case atStart => exact ⟨0, Nat.zero_le _, rfl, Lib.hid ⟨World.ownsRow_nil _ _ _ _, Below.refl _ _⟩⟩
  case round =>
    obtain ⟨j, hj, rfl, HQ⟩ := hrel
    obtain ⟨A3, c3, hv3, -⟩ := Row.of_own HQ.out.1
    subst hv3
    by_cases hlt : j < n1
    · have hlt2 : (j : Int) < (n1 : Int) := by omega
      obtain ⟨b, off, hA, hc⟩ := GRow.cells Vou.len (by decide) (GRow.later HV2.out HQ.out.2) noVou j hlt
      have HA := Lib.hid hA
      have HC : Hid (∀ k, k < (all.getD j noVou).arr.size → wr.cell? ⟨b, off + j * 7 + k, none⟩ = (all.getD j noVou).arr[k]?) := Lib.hid fun k hk => (hc k hk).trans (by rw [← Vou.list, Array.getElem?_toList])
      have HUP : Hid (actA all gone tm (j + 1) = actA all gone tm j ++ (if keepA all gone tm j then [all.getD j noVou] else [])) := Lib.hid rfl
      have HUL : Hid ((actA all gone tm j).length ≤ 100000) := Lib.hid (Nat.le_trans (actA_len _ _ _ _) (by omega))
      have HKP : Hid (keepA all gone tm j = (holdsV (all.getD j noVou) tm && (!hasI gone (all.getD j noVou).fr && (!hasI gone (all.getD j noVou).tu && !runLater (all.getD j noVou) tm (all.drop (j + 1)))))) := Lib.hid rfl
      have HDL : Hid ((all.drop (j + 1)).length = n1 - (j + 1)) := Lib.hid (by rw [List.length_drop, HLN.out])
      have HLD : Hid (VRow w2 (dropA A1 c1 (j + 1) 7) (n1 - (j + 1)) (c1 - (j + 1)) (all.drop (j + 1))) := Lib.hid (GRow.drop Vou.len HV2.out (j + 1) (by omega))
      have HCAP : Hid (n1 ≤ c1) := Lib.hid HV2.out.cap
      clear hc
      generalize all.getD j noVou = p at *
      generalize actA all gone tm j = U at *
      generalize keepA all gone tm j = kb at *
      generalize all.drop (j + 1) = D at *
      subst hA
      go_upto_region 6 with (first | (refine wpList_load_cells rfl 49 (.tmp 22) rfl b (off + j * 7) rfl p.arr _ Try.underlying49 rfl p.info HC.out ?_) | (refine wpList_store_new rfl 49 (.tmp 9) (.tmp 23) rfl 49 _ p.arr rfl rfl p.info rfl p.one ?_))
      have HN3 := Lib.hid (one_new wr (.cells p.arr 49))
      have HX : Hid ((wr.alloc (.cells p.arr 49)).heap[wr.heap.size]? = some (.cells p.arr 49 (0, 0))) := Lib.hid (heap_alloc_new _ _)
      have HB := Lib.hid (HQ.out.2.trans (HN3.out.mono HQ.out.2.size))
      have HO := Lib.hid (own_later HQ.out.1 HN3.out)
      clear HQ HN3 HC
      generalize wr.alloc (.cells p.arr 49) = x2 at *
      generalize wr.heap.size = g at *
      have HHO := Lib.hid (vHolds_any p tm x2)
      generalize holdsV p tm = hb at *
      go_wp2_with (refine wpList_load_row rfl 49 (.tmp 9) rfl g rfl 49 p.arr (0, 0) _ HX.out Try.underlying49 rfl p.info ?_)
      refine HHO.out.mono ?_
      rintro e x3 ⟨rfl, hb3⟩
      replace HX := Lib.hid ((hb3.block _ (Array.getElem?_eq_some_iff.1 HX.out).1).trans HX.out)
      replace HO := Lib.hid (own_later HO.out hb3)
      replace HB := Lib.hid (HB.out.trans (hb3.mono HB.out.size))
      clear hb3 HHO
      have hq0 : x3.cell? ⟨g, 0, none⟩ = some (.int .i64 p.fr) := (vou_cells7 HX.out).1
      cases hb
      · have HE : Hid (actA all gone tm (j + 1) = U) := Lib.hid (by rw [HUP.out, HKP.out]; simp)
        go_wp2_with fail
        exact ⟨⟨j + 1, by omega, by go_num, Lib.hid (by rw [HE.out]; exact ⟨HO.out, HB.out⟩)⟩, by simp [intOf]; omega⟩
      · go_wp2_with fail
        refine (HHS.out x3 p.fr HB.out).mono ?_
        rintro e x4 ⟨rfl, hb4⟩
        replace HX := Lib.hid ((hb4.block _ (Array.getElem?_eq_some_iff.1 HX.out).1).trans HX.out)
        replace HO := Lib.hid (own_later HO.out hb4)
        replace HB := Lib.hid (HB.out.trans (hb4.mono HB.out.size))
        clear hb4 hq0
        have hq1 : x4.cell? ⟨g, 1, none⟩ = some (.int .i64 p.tu) := (vou_cells7 HX.out).2.1
        generalize hasI gone p.fr = f1 at *
        cases f1
        · go_wp2_with fail
          refine (HHS.out x4 p.tu HB.out).mono ?_
          rintro e x5 ⟨rfl, hb5⟩
          replace HX := Lib.hid ((hb5.block _ (Array.getElem?_eq_some_iff.1 HX.out).1).trans HX.out)
          replace HO := Lib.hid (own_later HO.out hb5)
          replace HB := Lib.hid (HB.out.trans (hb5.mono HB.out.size))
          clear hb5 hq1
          generalize hasI gone p.tu = f2 at *
          cases f2
          · have HKB : Hid (kb = !runLater p tm D) := Lib.hid (by rw [HKP.out]; rfl)
            clear HKP HHS
            obtain ⟨RL, hRL⟩ : ∃ RL, runLater p tm D = RL := ⟨_, rfl⟩
            rw [hRL] at HKB
            have HRL := Lib.hid hRL
            clear hRL
            have hs2 := fun w' => run_slice_from (P := Try.prog) (t := 45) Try.underlying45 vou_size (A := some ⟨b, off, none⟩) (n := n1) (c := c1) (k := j + 1) (i := (j : Int) + 1) (by omega) (by omega) .i64 w'
            obtain ⟨md, hmd⟩ : ∃ md, n1 - (j + 1) = md := ⟨_, rfl⟩
            rw [hmd] at hs2 HDL HLD
            have HMD := Lib.hid hmd
            have hmd2 : md ≤ 100000 := by omega
            clear hmd
            generalize dropA (some ⟨b, off, none⟩) c1 (j + 1) 7 = AD at *
            generalize c1 - (j + 1) = cd at *
            go_wp2_with fail
            clear hs2
            go_loopw [45] (fun i wr => ∃ k : Nat, k ≤ md ∧ i = .int .i64 k ∧ Hid (runLater p tm (D.drop k) = RL ∧ Below x5.heap.size x5 wr)) (fun i _ => md - (intOf i).toNat)
            case atStart => exact ⟨0, Nat.zero_le _, rfl, Lib.hid ⟨HRL.out, Below.refl _ _⟩⟩
            case round =>
              obtain ⟨k, hk, rfl, HR⟩ := hrel
              have HX6 := Lib.hid ((HR.out.2.block _ (Array.getElem?_eq_some_iff.1 HX.out).1).trans HX.out)
              have HO6 := Lib.hid (own_later HO.out HR.out.2)
              have HB6 := Lib.hid (HB.out.trans (HR.out.2.mono HB.out.size))
              have HD0 := Lib.hid HR.out.1
              have HXB := Lib.hid HR.out.2
              clear HR
              by_cases hkl : k < md
              · have hkl2 : (k : Int) < (md : Int) := by omega
                obtain ⟨b2, off2, hA2, hc2⟩ := GRow.cells Vou.len (by decide) (GRow.later HLD.out HB6.out) noVou k hkl
                subst hA2
                have HC2 : Hid (∀ i, i < (D.getD k noVou).arr.size → wr.cell? ⟨b2, off2 + k * 7 + i, none⟩ = (D.getD k noVou).arr[i]?) := Lib.hid fun i hi => (hc2 i hi).trans (by rw [← Vou.list, Array.getElem?_toList])
                have HDK : Hid (runLater p tm (D.drop k) = if (D.getD k noVou).fr ≠ p.fr ∨ (D.getD k noVou).tu ≠ p.tu then false else if (D.getD k noVou).tm ≤ tm then true else runLater p tm (D.drop (k + 1))) := Lib.hid (by
                  rw [List.drop_eq_getElem_cons (by rw [HDL.out]; exact hkl), runLater, List.getD_eq_getElem?_getD, List.getElem?_eq_getElem (by rw [HDL.out]; exact hkl)]; rfl)
                clear hc2
                generalize D.getD k noVou = y at *
                go_upto_region 10 with (first | (refine wpList_load_cells rfl 49 (.tmp 47) rfl b2 (off2 + k * 7) rfl y.arr _ Try.underlying49 rfl y.info HC2.out ?_) | (refine wpList_store_new rfl 49 (.tmp 11) (.tmp 48) rfl 49 _ y.arr rfl rfl y.info rfl y.one ?_))
                have HN7 := Lib.hid (one_new wr (.cells y.arr 49))
                have HY : Hid ((wr.alloc (.cells y.arr 49)).heap[wr.heap.size]? = some (.cells y.arr 49 (0, 0))) := Lib.hid (heap_alloc_new _ _)
                replace HX6 := Lib.hid ((HN7.out.block _ (Array.getElem?_eq_some_iff.1 HX6.out).1).trans HX6.out)
                replace HO6 := Lib.hid (own_later HO6.out HN7.out)
                replace HB6 := Lib.hid (HB6.out.trans (HN7.out.mono HB6.out.size))
                replace HXB := Lib.hid (HXB.out.trans (HN7.out.mono HXB.out.size))
                clear HN7 HC2
                generalize wr.alloc (.cells y.arr 49) = y2 at *
                generalize wr.heap.size = g2 at *
                obtain ⟨hx0, hx1, -⟩ := vou_cells7 HX6.out
                obtain ⟨hy0, hy1, -, -, hy4, -⟩ := vou_cells7 HY.out
                by_cases k0 : y.fr = p.fr
                · have b0 : (y.fr != p.fr) = false := by rw [k0]; simp
                  have K0 := Lib.hid k0; clear k0
                  by_cases k1 : y.tu = p.tu
                  · have b1 : (y.tu != p.tu) = false := by rw [k1]; simp
                    have K1 := Lib.hid k1; clear k1
                    by_cases k2 : y.tm ≤ tm
                    · have b2 : decide (y.tm ≤ tm) = true := decide_eq_true k2
                      have HR : Hid (RL = true) := Lib.hid (by rw [← HD0.out, HDK.out, if_neg (by rw [K0.out, K1.out]; simp), if_pos k2])
                      have HE : Hid (actA all gone tm (j + 1) = U) := Lib.hid (by rw [HUP.out, HKB.out, HR.out]; simp)
                      clear k2
                      go_wp2_with fail
                      exact ⟨⟨j + 1, by omega, by go_num, Lib.hid (by rw [HE.out]; exact ⟨HO6.out, HB6.out⟩)⟩, by simp [intOf]; omega⟩
                    · have b2 : decide (y.tm ≤ tm) = false := decide_eq_false k2
                      have HR : Hid (runLater p tm (D.drop (k + 1)) = RL) := Lib.hid (by rw [← HD0.out, HDK.out, if_neg (by rw [K0.out, K1.out]; simp), if_neg k2])
                      clear k2
                      go_wp2_with fail
                      exact ⟨⟨k + 1, by omega, by go_num, Lib.hid ⟨HR.out, HXB.out⟩⟩, by simp [intOf]; omega⟩
                  · have b1 : (y.tu != p.tu) = true := by rw [bne_iff_ne]; exact k1
                    have HR : Hid (RL = false) := Lib.hid (by rw [← HD0.out, HDK.out, if_pos (.inr k1)])
                    have HE : Hid (actA all gone tm (j + 1) = U ++ [p]) := Lib.hid (by rw [HUP.out, HKB.out, HR.out]; rfl)
                    clear k1
                    have hul := HUL.out
                    have hsz := HB6.out.size
                    have hvs : p.arr.size = 7 := rfl
                    go_wp2_with (first | (refine wpList_load_row rfl 49 (.tmp 9) rfl g rfl 49 p.arr (0, 0) _ HX6.out Try.underlying49 rfl p.info ?_) | (at_builtin; (first | rw [fold7n] | rw [fold7]); go_must (refine wpList_app_newK _ rfl (.tmp 66) (.tmp 68) 45 49 rfl w2.heap.size Try.underlying45 vou_info rfl _ U.length (rowC Vou.cells U) HO6.out rfl 1 p.arr rfl p.ones rfl rfl (by unfold maxLen; omega) (by omega) hsz ?_); intro x3 z3 ho hb hk1 hk2; have HO9 := Lib.hid ho; have HB9 := Lib.hid (HB6.out.trans hb); clear ho hb hk1 hk2))
                    exact ⟨⟨j + 1, by omega, by go_num, Lib.hid (by rw [HE.out, List.length_append, rowC_app, rowC_single]; exact ⟨HO9.out, HB9.out⟩)⟩, by simp [intOf]; omega⟩
                · have b0 : (y.fr != p.fr) = true := by rw [bne_iff_ne]; exact k0
                  have HR : Hid (RL = false) := Lib.hid (by rw [← HD0.out, HDK.out, if_pos (.inl k0)])
                  have HE : Hid (actA all gone tm (j + 1) = U ++ [p]) := Lib.hid (by rw [HUP.out, HKB.out, HR.out]; rfl)
                  clear k0
                  have hul := HUL.out
                  have hsz := HB6.out.size
                  have hvs : p.arr.size = 7 := rfl
                  go_wp2_with (first | (refine wpList_load_row rfl 49 (.tmp 9) rfl g rfl 49 p.arr (0, 0) _ HX6.out Try.underlying49 rfl p.info ?_) | (at_builtin; (first | rw [fold7n] | rw [fold7]); go_must (refine wpList_app_newK _ rfl (.tmp 66) (.tmp 68) 45 49 rfl w2.heap.size Try.underlying45 vou_info rfl _ U.length (rowC Vou.cells U) HO6.out rfl 1 p.arr rfl p.ones rfl rfl (by unfold maxLen; omega) (by omega) hsz ?_); intro x3 z3 ho hb hk1 hk2; have HO9 := Lib.hid ho; have HB9 := Lib.hid (HB6.out.trans hb); clear ho hb hk1 hk2))
                  exact ⟨⟨j + 1, by omega, by go_num, Lib.hid (by rw [HE.out, List.length_append, rowC_app, rowC_single]; exact ⟨HO9.out, HB9.out⟩)⟩, by simp [intOf]; omega⟩
              · have hkl2 : ¬ (k : Int) < (md : Int) := by omega
                have HR : Hid (RL = false) := Lib.hid (by rw [← HD0.out, List.drop_eq_nil_of_le (by rw [HDL.out]; omega)]; rfl)
                have HE : Hid (actA all gone tm (j + 1) = U ++ [p]) := Lib.hid (by rw [HUP.out, HKB.out, HR.out]; rfl)
                have hul := HUL.out
                have hsz := HB6.out.size
                have hvs : p.arr.size = 7 := rfl
                go_wp2_with (first | (refine wpList_load_row rfl 49 (.tmp 9) rfl g rfl 49 p.arr (0, 0) _ HX6.out Try.underlying49 rfl p.info ?_) | (at_builtin; (first | rw [fold7n] | rw [fold7]); go_must (refine wpList_app_newK _ rfl (.tmp 66) (.tmp 68) 45 49 rfl w2.heap.size Try.underlying45 vou_info rfl _ U.length (rowC Vou.cells U) HO6.out rfl 1 p.arr rfl p.ones rfl rfl (by unfold maxLen; omega) (by omega) hsz ?_); intro x3 z3 ho hb hk1 hk2; have HO9 := Lib.hid ho; have HB9 := Lib.hid (HB6.out.trans hb); clear ho hb hk1 hk2))
                exact ⟨⟨j + 1, by omega, by go_num, Lib.hid (by rw [HE.out, List.length_append, rowC_app, rowC_single]; exact ⟨HO9.out, HB9.out⟩)⟩, by simp [intOf]; omega⟩
          · have HE : Hid (actA all gone tm (j + 1) = U) := Lib.hid (by rw [HUP.out, HKP.out]; simp)
            go_wp2_with fail
            exact ⟨⟨j + 1, by omega, by go_num, Lib.hid (by rw [HE.out]; exact ⟨HO.out, HB.out⟩)⟩, by simp [intOf]; omega⟩
        · have HE : Hid (actA all gone tm (j + 1) = U) := Lib.hid (by rw [HUP.out, HKP.out]; simp)
          go_wp2_with fail
          exact ⟨⟨j + 1, by omega, by go_num, Lib.hid (by rw [HE.out]; exact ⟨HO.out, HB.out⟩)⟩, by simp [intOf]; omega⟩
    · have hlt2 : ¬ (j : Int) < (n1 : Int) := by omega
      have HE : Hid (j = n1) := by unfold Hid; omega
      obtain ⟨A4, c4, hv4, hr4⟩ := Row.of_own HQ.out.1
      injection hv4 with hv4 _ hc4
      subst hv4 hc4
      have HB3 := Lib.hid (HW2.out.trans (HQ.out.2.mono HW2.out.size))
      have HGE : Hid (actA all gone tm j = GS) := Lib.hid (by rw [HE.out, ← HLN.out]; exact HAS.out)
      clear HQ
      rw [HGE.out] at hr4 ⊢
      have HR4 := Lib.hid hr4; clear hr4
      go_wp2_with fail
      try rw [Exit.noGoto_ret]
      go_ret
      exact ⟨_, _, _, rfl, HR4.out, HB3.out⟩
end Go.Proofs.Ytjmapbaofpilaaa
/- The walk of vouch's Between. -/
namespace Go.Proofs.Ytjmapbaofpilaaa
open Go.RowKit
theorem results_vbt {tmps : Array Value} {w : World} {s : Nat} {cs : Array Value} {v : Value} (h2 : tmps.getD 8 undef = .pointer (some ⟨s, 0, none⟩)) (h3 : tmps.getD 9 undef = v)
    (hs : w.heap[s]? = some (.cells cs 49 (0, 0))) (hz : cs.size = 7) :
    (results Try.f19 tmps).run Try.prog w = .ok (.tuple #[.agg cs, v]) w := by
  have hr : Try.f19.results = #[.cell 8 49, .tmp 9] := rfl
  have h2' : tmps[8]?.getD undef = .pointer (some ⟨s, 0, none⟩) := by simpa using h2
  have h3' : tmps[9]?.getD undef = v := by simpa using h3
  have hl := run_loadVar_row (P := Try.prog) w s 49 49 cs (0, 0) _ hs Try.underlying49 rfl (by rw [hz]; kernel_rfl)
  unfold results
  rw [hr]
  simp [h2', h3', asAddr, hl]
set_option maxRecDepth 100000 in
set_option maxHeartbeats 4000000 in
theorem vBetween_any (A : Option Addr) (n c : Nat) (l : List Pl) (fr tu tm : Int) (w : World) (hl : LRow w A n c l) (hn : n ≤ 100000) (ho : Ord10 (l.map (·.s))) : Calls Try.prog 19 #[.slice A n c, .int .i64 fr, .int .i64 tu, .int .i64 tm] w fun e w' => e = .returned (.tuple #[.agg (betweenS (l.map (·.s)) fr tu tm).1.arr, .bool (betweenS (l.map (·.s)) fr tu tm).2]) ∧ Below w.heap.size w w' := by
  have HNW := Lib.hid (one_new w (.cells #[.int .i64 0, .int .i64 0, .int .i64 0, .int .i64 0, .int .i64 0, .int .i64 0, .int .i64 0] 49))
  have HG : Hid ((w.alloc (.cells #[.int .i64 0, .int .i64 0, .int .i64 0, .int .i64 0, .int .i64 0, .int .i64 0, .int .i64 0] 49)).heap[w.heap.size]? = some (.cells #[.int .i64 0, .int .i64 0, .int .i64 0, .int .i64 0, .int .i64 0, .int .i64 0, .int .i64 0] 49 (0, 0))) := Lib.hid (heap_alloc_new _ _)
  have HAC := Lib.hid (vActive_any A n c l tm (w.alloc (.cells #[.int .i64 0, .int .i64 0, .int .i64 0, .int .i64 0, .int .i64 0, .int .i64 0, .int .i64 0] 49)) (hl.later HNW.out) hn ho)
  have HAL : Hid ((activeS (l.map (·.s)) tm).length ≤ n) := Lib.hid (by have h := activeS_len (l.map (·.s)) tm; rw [List.length_map, hl.len] at h; exact h)
  unfold betweenS
  generalize activeS (l.map (·.s)) tm = act at *
  obtain ⟨RS, hrs⟩ : ∃ RS, findV act fr tu = RS := ⟨_, rfl⟩
  rw [hrs]
  have HRS := Lib.hid hrs
  clear hl hrs ho
  go_enter Try.func19, Try.ntmps19
  go_wp2_with fail
  generalize w.alloc (.cells #[.int .i64 0, .int .i64 0, .int .i64 0, .int .i64 0, .int .i64 0, .int .i64 0, .int .i64 0] 49) = y0 at *
  obtain ⟨g, hgg⟩ : ∃ g, w.heap.size = g := ⟨_, rfl⟩
  rw [hgg] at HG ⊢
  have HGG := Lib.hid hgg
  clear hgg
  have HGL : Hid (g < y0.heap.size) := Lib.hid (Array.getElem?_eq_some_iff.1 HG.out).1
  refine HAC.out.mono ?_
  rintro e w1 ⟨A1, n1, c1, rfl, hv1, hb⟩
  have HV := Lib.hid hv1; have HB := Lib.hid hb
  have hln : act.length = n1 := hv1.len
  have hn1 : n1 ≤ 100000 := by have := HAL.out; omega
  have HLN := Lib.hid hln
  clear hv1 hb hln HAC HAL
  go_wp2_with fail
  go_loopw [16] (fun i wr => ∃ j : Nat, j ≤ n1 ∧ i = .int .i64 j ∧ Hid (findV (act.drop j) fr tu = RS ∧ Below w1.heap.size w1 wr)) (fun i _ => n1 - (intOf i).toNat)
  case atStart => exact ⟨0, Nat.zero_le _, rfl, Lib.hid ⟨HRS.out, Below.refl _ _⟩⟩
  case round =>
    obtain ⟨j, hj, rfl, HQ⟩ := hrel
    have HWB : Hid (Below y0.heap.size y0 wr) := Lib.hid (HB.out.trans (HQ.out.2.mono HB.out.size))
    have HGR : Hid (wr.heap[g]? = some (.cells #[.int .i64 0, .int .i64 0, .int .i64 0, .int .i64 0, .int .i64 0, .int .i64 0, .int .i64 0] 49 (0, 0))) := Lib.hid ((HWB.out.block _ HGL.out).trans HG.out)
    have HWW : Hid (Below g w wr) := Lib.hid (by rw [← HGG.out]; exact HNW.out.trans (HWB.out.mono HNW.out.size))
    by_cases hlt : j < n1
    · have hlt2 : (j : Int) < (n1 : Int) := by omega
      obtain ⟨b, off, hA, hc⟩ := GRow.cells Vou.len (by decide) (GRow.later HV.out HQ.out.2) noVou j hlt
      subst hA
      have HD : Hid (findV (act.drop j) fr tu = if (act.getD j noVou).fr = fr ∧ (act.getD j noVou).tu = tu then (act.getD j noVou, true) else findV (act.drop (j + 1)) fr tu) := Lib.hid (by
        rw [List.drop_eq_getElem_cons (by rw [HLN.out]; exact hlt), findV, List.getD_eq_getElem?_getD, List.getElem?_eq_getElem (by rw [HLN.out]; exact hlt)]; rfl)
      obtain ⟨p, hp⟩ : ∃ p, act.getD j noVou = p := ⟨_, rfl⟩
      rw [hp] at hc HD
      have HC : Hid (∀ k, k < p.arr.size → wr.cell? ⟨b, off + j * 7 + k, none⟩ = p.arr[k]?) := Lib.hid fun k hk => (hc k hk).trans (by rw [← Vou.list, Array.getElem?_toList])
      clear hc hp
      go_upto_region 4 with (first | (refine wpList_load_cells rfl 49 (.tmp 18) rfl b (off + j * 7) rfl p.arr _ Try.underlying49 rfl p.info HC.out ?_) | (refine wpList_store_new rfl 49 (.tmp 11) (.tmp 19) rfl 49 _ p.arr rfl rfl p.info rfl p.one ?_))
      have HN3 := Lib.hid (one_new wr (.cells p.arr 49))
      have HX : Hid ((wr.alloc (.cells p.arr 49)).heap[wr.heap.size]? = some (.cells p.arr 49 (0, 0))) := Lib.hid (heap_alloc_new _ _)
      have HGS : Hid (g < wr.heap.size) := Lib.hid (Array.getElem?_eq_some_iff.1 HGR.out).1
      have HR1 := Lib.hid HQ.out.1
      have HBQ := Lib.hid (HQ.out.2.trans (HN3.out.mono HQ.out.2.size))
      replace HWW := Lib.hid (HWW.out.trans (HN3.out.mono (Nat.le_of_lt HGS.out)))
      replace HGR := Lib.hid ((HN3.out.block _ HGS.out).trans HGR.out)
      clear HQ HN3 HC HWB HGS
      generalize wr.alloc (.cells p.arr 49) = x2 at *
      generalize wr.heap.size = g2 at *
      obtain ⟨hp0, hp1, -⟩ := vou_cells7 HX.out
      by_cases k0 : p.fr = fr
      · have b0 : (p.fr == fr) = true := by rw [k0]; simp
        have K0 := Lib.hid k0; clear k0
        by_cases k1 : p.tu = tu
        · have b1 : (p.tu == tu) = true := by rw [k1]; simp
          have HR : Hid (RS = (p, true)) := Lib.hid (by rw [← HR1.out, HD.out, if_pos ⟨K0.out, k1⟩])
          clear k1
          go_wp2_with (first | (refine wpList_load_row rfl 49 (.tmp 11) rfl g2 rfl 49 p.arr (0, 0) _ HX.out Try.underlying49 rfl p.info ?_) | (refine wpList_store_row rfl 49 (.tmp 8) (.tmp 30) rfl g p.arr rfl rfl 49 _ HGR.out p.info rfl p.one ?_))
          refine bodyPost_ret (results_vbt rfl rfl (setRow_heap _ _ _ p.arr _ _ HGR.out) rfl) rfl ?_
          exact ⟨by rw [HR.out]; rfl, by rw [HGG.out]; exact below_setRow HWW.out (Nat.le_refl _) _⟩
        · have b1 : (p.tu == tu) = false := by rw [beq_eq_false_iff_ne]; exact k1
          have HN : Hid (findV (act.drop (j + 1)) fr tu = RS) := Lib.hid (by rw [← HR1.out, HD.out, if_neg (fun h => k1 h.2)])
          clear k1
          go_wp2_with fail
          exact ⟨⟨j + 1, by omega, by go_num, Lib.hid ⟨HN.out, HBQ.out⟩⟩, by simp [intOf]; omega⟩
      · have b0 : (p.fr == fr) = false := by rw [beq_eq_false_iff_ne]; exact k0
        have HN : Hid (findV (act.drop (j + 1)) fr tu = RS) := Lib.hid (by rw [← HR1.out, HD.out, if_neg (fun h => k0 h.1)])
        clear k0
        go_wp2_with fail
        exact ⟨⟨j + 1, by omega, by go_num, Lib.hid ⟨HN.out, HBQ.out⟩⟩, by simp [intOf]; omega⟩
    · have hlt2 : ¬ (j : Int) < (n1 : Int) := by omega
      have HR : Hid (RS = (noVou, false)) := Lib.hid (by rw [← HQ.out.1, List.drop_eq_nil_of_le (by rw [HLN.out]; omega)]; rfl)
      go_wp2_with (refine wpList_store_row rfl 49 (.tmp 8) (.tmp 32) rfl g noVou.arr rfl rfl 49 _ HGR.out noVou.info rfl noVou.one ?_)
      refine bodyPost_ret (results_vbt rfl rfl (setRow_heap _ _ _ noVou.arr _ _ HGR.out) rfl) rfl ?_
      exact ⟨by rw [HR.out]; rfl, by rw [HGG.out]; exact below_setRow HWW.out (Nat.le_refl _) _⟩
end Go.Proofs.Ytjmapbaofpilaaa
/- What layer 10 gives is proved of the program's own functions. -/
namespace Go.Proofs.Ytjmapbaofpilaaa
open Go.RowKit
theorem vouchC : VouchC where
  vof A n c l w hl hn ho := vOf_any A n c l w hl hn ho
  gone A n c l tm w hl hn ho := vGone_any A n c l tm w hl hn ho
  active A n c l tm w hl hn ho := vActive_any A n c l tm w hl hn ho
  between A n c l fr tu tm w hl hn ho := vBetween_any A n c l fr tu tm w hl hn ho
end Go.Proofs.Ytjmapbaofpilaaa
/- The list of layer 10's sanity check. -/
namespace Go.Proofs.Ytjmapbaofpilaaa
open Go.RowKit
def pa10 : Pl := ⟨⟨0, 0, ⟨#[]⟩, 5, 1, 2, 3, 20, [], [], ⟨#[]⟩, 0, ⟨#[]⟩⟩, none, 0, 0, none, 0, 0⟩
def pb10 : Pl := ⟨⟨0, 0, ⟨#[]⟩, 9, 2, 0, 0, 0, [], [], ⟨#[]⟩, 0, ⟨#[]⟩⟩, none, 0, 0, none, 0, 0⟩
noncomputable def sa10 : Stm := sealOf ⟨1, 0, ⟨#[]⟩, 5, 1, 2, 3, 20, [], [], ⟨#[]⟩, 0, ⟨#[]⟩⟩
noncomputable def sb10 : Stm := sealOf ⟨1, 1, digS sa10, 9, 2, 0, 0, 0, [], [], ⟨#[]⟩, 0, ⟨#[]⟩⟩
theorem seal_sealed (s : Stm) : sealedB (sealOf s) = true := by
  show (decide (s.author = s.author) && decide (digS s = digS (sealOf s))) = true
  rw [decide_eq_true rfl, show digS (sealOf s) = digS s from rfl, decide_eq_true rfl]
  rfl
theorem sa10_ok : checkV sa10 = 0 := by kernel_rfl
theorem sb10_ok : checkV sb10 = 0 := by
  have h : (digS sa10).size = 32 := digS_size _
  unfold sb10 sealOf
  generalize digS sa10 = pr at *
  simp [checkV, isKeyB, isKindB, isTrustB, btw, rangeB, isValueB, listB', fitsB, formB, prevB, pinsB, h]
  rfl
theorem own_one : ownL 1 [sa10] = [sa10] := by
  unfold ownL
  rw [List.foldl_cons, List.foldl_nil, ownStep, if_pos ⟨rfl, sa10_ok, seal_sealed _⟩]
  rfl
theorem counted_one : countedR 1 [sa10] = [sa10] := by
  unfold countedR
  rw [own_one]
  rfl
theorem next_a : nextP 1 [] pa10.s = (sa10, 0) := by
  unfold nextP
  rw [if_neg (fun h => h.1 rfl), if_neg (fun h => h.1 rfl), if_neg (fun h => h.1 rfl), if_pos (by exact sa10_ok)]
  rfl
theorem next_b : nextP 1 [sa10] pb10.s = (sb10, 0) := by
  unfold nextP
  rw [if_neg (fun h => absurd h.2 (by rw [counted_one, sameLB_self]; decide)), if_neg (fun h => absurd h.2 (by decide +kernel)), if_neg (fun h => absurd h.2 (by decide +kernel)), if_pos (by exact sb10_ok)]
  rfl
theorem fold13n (p : Pl) : Array.foldl (fun (cs : Array Value) (x : Value × Nat) => cs.setIfInBounds x.snd x.fst) #[.int .i64 0, .int .i64 0, .string ⟨#[]⟩, .int .i64 0, .int .i64 0, .int .i64 0, .int .i64 0, .int .i64 0, .slice none 0 0, .slice none 0 0, .string ⟨#[]⟩, .int .i64 0, .string ⟨#[]⟩] p.arr.zipIdx 0 13 = p.arr := fold13 p
theorem ord10_two : Ord10 [sa10, sb10] := by
  refine ⟨fun s hs => ?_, ⟨fun h => absurd h (by decide +kernel), fun _ => ⟨sa10, rfl, rfl, rfl, by decide +kernel⟩, trivial⟩, ?_⟩
  · rcases List.mem_cons.1 hs with rfl | hs
    · exact sa10_ok
    · rw [List.mem_singleton.1 hs]; exact sb10_ok
  · refine List.pairwise_cons.2 ⟨fun b hb => ?_, List.pairwise_singleton _ _⟩
    rw [List.mem_singleton.1 hb]
    exact .inr ⟨rfl, by decide +kernel⟩
theorem pa10_small : Small pa10.s := ⟨by decide, by decide, by decide, by decide, by decide, by decide⟩
theorem pb10_small : Small pb10.s := ⟨by decide, by decide, by decide, by decide, by decide, by decide⟩
theorem pa10_ok (w : World) : PlOk w pa10 := ⟨Row.nilRow _ _, Row.nilRow _ _⟩
theorem pb10_ok (w : World) : PlOk w pb10 := ⟨Row.nilRow _ _, Row.nilRow _ _⟩
theorem sa10_small : Small sa10 := seal_small7 ⟨by decide, by decide, by decide, by decide, by decide, by decide⟩
set_option maxRecDepth 100000 in
set_option maxHeartbeats 4000000 in
theorem list10_any (w : World) : Calls Try.prog 20 #[] w fun e w' => ∃ A c l, e = .returned (.slice A 2 c) ∧ l.map (·.s) = [sa10, sb10] ∧ LRow w' A 2 c l ∧ Below w.heap.size w w' := by
  go_enter Try.func20, Try.ntmps20
  go_wp2_with fail
  refine (nextP_any 1 none 0 0 [] pa10 w (LRow.nil _) (by omega) (fun _ h => (nomatch h)) (pa10_ok _) pa10_small).mono ?_
  rw [List.map_nil, next_a]
  rintro e w1 ⟨q, rfl, hqs, hqo, -, -, hb⟩
  go_upto_region 2 with (refine wpList_store_new rfl 34 (.tmp 1) (.tmp 8) rfl 34 _ q.arr rfl rfl q.info rfl q.one ?_)
  have HN1 := Lib.hid (one_new w1 (.cells q.arr 34))
  have HX1 : Hid ((w1.alloc (.cells q.arr 34)).heap[w1.heap.size]? = some (.cells q.arr 34 (0, 0))) := Lib.hid (heap_alloc_new _ _)
  have HB1 := Lib.hid (hb.trans (HN1.out.mono hb.size)); have HQO := Lib.hid (hqo.later HN1.out); have HQS := Lib.hid hqs
  clear hb hqo hqs HN1
  generalize w1.alloc (.cells q.arr 34) = x1 at *
  generalize w1.heap.size = g1 at *
  have hvs : q.arr.size = 13 := rfl
  go_wp2_with (refine wpList_load_row rfl 34 (.tmp 1) rfl g1 rfl 34 q.arr (0, 0) _ HX1.out Try.underlying34 rfl q.info ?_)
  (first | rw [fold13n] | rw [fold13])
  have HN2 := Lib.hid (one_new x1 (.cells q.arr 34))
  have HR2 : Hid (LRow (x1.alloc (.cells q.arr 34)) (some ⟨x1.heap.size, 0, none⟩) 1 1 [q]) := Lib.hid ⟨Row.of_block (heap_alloc_new _ _) rfl, fun p hp => by rw [List.mem_singleton.1 hp]; exact HQO.out.later HN2.out⟩
  have HX2 : Hid ((x1.alloc (.cells q.arr 34)).heap[g1]? = some (.cells q.arr 34 (0, 0))) := Lib.hid ((HN2.out.block _ (Array.getElem?_eq_some_iff.1 HX1.out).1).trans HX1.out)
  replace HQO := Lib.hid (HQO.out.later HN2.out); replace HB1 := Lib.hid (HB1.out.trans (HN2.out.mono HB1.out.size))
  have HMQ : Hid ([q].map (·.s) = [sa10]) := Lib.hid (by rw [List.map_cons, List.map_nil, HQS.out])
  clear HN2 HX1 hvs
  generalize x1.alloc (.cells q.arr 34) = x2 at *
  refine (nextP_any 1 _ 1 1 [q] pb10 x2 HR2.out (by omega) (fun p hp => by rw [List.mem_singleton.1 hp, HQS.out]; exact sa10_small) (pb10_ok _) pb10_small).mono ?_
  rw [HMQ.out, next_b]
  rintro e w3 ⟨r, rfl, hrs, hro, -, -, hb⟩
  have HX3 : Hid (w3.heap[g1]? = some (.cells q.arr 34 (0, 0))) := Lib.hid ((hb.block _ (Array.getElem?_eq_some_iff.1 HX2.out).1).trans HX2.out)
  have HRS := Lib.hid hrs
  have HB3 := Lib.hid (HB1.out.trans (hb.mono HB1.out.size)); have HRO := Lib.hid hro
  replace HQO := Lib.hid (HQO.out.later hb)
  clear hrs hro hb HR2 HX2 HB1
  go_upto_region 3 with (refine wpList_store_new rfl 34 (.tmp 3) (.tmp 15) rfl 34 _ r.arr rfl rfl r.info rfl r.one ?_)
  have HN4 := Lib.hid (one_new w3 (.cells r.arr 34))
  have HY4 : Hid ((w3.alloc (.cells r.arr 34)).heap[w3.heap.size]? = some (.cells r.arr 34 (0, 0))) := Lib.hid (heap_alloc_new _ _)
  have HX4 : Hid ((w3.alloc (.cells r.arr 34)).heap[g1]? = some (.cells q.arr 34 (0, 0))) := Lib.hid ((HN4.out.block _ (Array.getElem?_eq_some_iff.1 HX3.out).1).trans HX3.out)
  replace HQO := Lib.hid (HQO.out.later HN4.out); replace HRO := Lib.hid (HRO.out.later HN4.out); replace HB3 := Lib.hid (HB3.out.trans (HN4.out.mono HB3.out.size))
  clear HN4 HX3
  generalize w3.alloc (.cells r.arr 34) = z4 at *
  generalize w3.heap.size = g2 at *
  obtain ⟨l2, hl2⟩ : ∃ l2, l2 = [q, r] := ⟨_, rfl⟩
  have HML : Hid (l2.map (·.s) = [sa10, sb10]) := Lib.hid (by rw [hl2, List.map_cons, List.map_cons, List.map_nil, HQS.out, HRS.out])
  have HOL : Hid (∀ y, Below z4.heap.size z4 y → ∀ p ∈ l2, PlOk y p) := Lib.hid fun y hy p hp => by
    rw [hl2] at hp
    rcases List.mem_cons.1 hp with rfl | hp
    · exact HQO.out.later hy
    · rw [List.mem_singleton.1 hp]; exact HRO.out.later hy
  have HLE := Lib.hid hl2
  clear hl2 HQS HRS HQO HRO
  obtain ⟨⟨x0, x1, x2, x3, x4, x5, x6, x7, x8, x9, x10, x11, x12⟩, XA, xn, xc, XB, xm, xk⟩ := q
  obtain ⟨⟨y0, y1, y2, y3, y4, y5, y6, y7, y8, y9, y10, y11, y12⟩, YA, yn, yc, YB, ym, yk⟩ := r
  have hc0 : z4.cell? ⟨g1, 0, none⟩ = some (.int .i64 x0) := (cell_of_row _ _ 0 _ _ _ HX4.out).trans rfl
  have hc1 : z4.cell? ⟨g1, 1, none⟩ = some (.int .i64 x1) := (cell_of_row _ _ 1 _ _ _ HX4.out).trans rfl
  have hc2 : z4.cell? ⟨g1, 2, none⟩ = some (.string x2) := (cell_of_row _ _ 2 _ _ _ HX4.out).trans rfl
  have hc3 : z4.cell? ⟨g1, 3, none⟩ = some (.int .i64 x3) := (cell_of_row _ _ 3 _ _ _ HX4.out).trans rfl
  have hc4 : z4.cell? ⟨g1, 4, none⟩ = some (.int .i64 x4) := (cell_of_row _ _ 4 _ _ _ HX4.out).trans rfl
  have hc5 : z4.cell? ⟨g1, 5, none⟩ = some (.int .i64 x5) := (cell_of_row _ _ 5 _ _ _ HX4.out).trans rfl
  have hc6 : z4.cell? ⟨g1, 6, none⟩ = some (.int .i64 x6) := (cell_of_row _ _ 6 _ _ _ HX4.out).trans rfl
  have hc7 : z4.cell? ⟨g1, 7, none⟩ = some (.int .i64 x7) := (cell_of_row _ _ 7 _ _ _ HX4.out).trans rfl
  have hc8 : z4.cell? ⟨g1, 8, none⟩ = some (.slice XA xn xc) := (cell_of_row _ _ 8 _ _ _ HX4.out).trans rfl
  have hc9 : z4.cell? ⟨g1, 9, none⟩ = some (.slice XB xm xk) := (cell_of_row _ _ 9 _ _ _ HX4.out).trans rfl
  have hc10 : z4.cell? ⟨g1, 10, none⟩ = some (.string x10) := (cell_of_row _ _ 10 _ _ _ HX4.out).trans rfl
  have hc11 : z4.cell? ⟨g1, 11, none⟩ = some (.int .i64 x11) := (cell_of_row _ _ 11 _ _ _ HX4.out).trans rfl
  have hc12 : z4.cell? ⟨g1, 12, none⟩ = some (.string x12) := (cell_of_row _ _ 12 _ _ _ HX4.out).trans rfl
  have hd0 : z4.cell? ⟨g2, 0, none⟩ = some (.int .i64 y0) := (cell_of_row _ _ 0 _ _ _ HY4.out).trans rfl
  have hd1 : z4.cell? ⟨g2, 1, none⟩ = some (.int .i64 y1) := (cell_of_row _ _ 1 _ _ _ HY4.out).trans rfl
  have hd2 : z4.cell? ⟨g2, 2, none⟩ = some (.string y2) := (cell_of_row _ _ 2 _ _ _ HY4.out).trans rfl
  have hd3 : z4.cell? ⟨g2, 3, none⟩ = some (.int .i64 y3) := (cell_of_row _ _ 3 _ _ _ HY4.out).trans rfl
  have hd4 : z4.cell? ⟨g2, 4, none⟩ = some (.int .i64 y4) := (cell_of_row _ _ 4 _ _ _ HY4.out).trans rfl
  have hd5 : z4.cell? ⟨g2, 5, none⟩ = some (.int .i64 y5) := (cell_of_row _ _ 5 _ _ _ HY4.out).trans rfl
  have hd6 : z4.cell? ⟨g2, 6, none⟩ = some (.int .i64 y6) := (cell_of_row _ _ 6 _ _ _ HY4.out).trans rfl
  have hd7 : z4.cell? ⟨g2, 7, none⟩ = some (.int .i64 y7) := (cell_of_row _ _ 7 _ _ _ HY4.out).trans rfl
  have hd8 : z4.cell? ⟨g2, 8, none⟩ = some (.slice YA yn yc) := (cell_of_row _ _ 8 _ _ _ HY4.out).trans rfl
  have hd9 : z4.cell? ⟨g2, 9, none⟩ = some (.slice YB ym yk) := (cell_of_row _ _ 9 _ _ _ HY4.out).trans rfl
  have hd10 : z4.cell? ⟨g2, 10, none⟩ = some (.string y10) := (cell_of_row _ _ 10 _ _ _ HY4.out).trans rfl
  have hd11 : z4.cell? ⟨g2, 11, none⟩ = some (.int .i64 y11) := (cell_of_row _ _ 11 _ _ _ HY4.out).trans rfl
  have hd12 : z4.cell? ⟨g2, 12, none⟩ = some (.string y12) := (cell_of_row _ _ 12 _ _ _ HY4.out).trans rfl
  have HBZ := Lib.hid (one_new z4 (.cells #[.int .i64 x0, .int .i64 x1, .string x2, .int .i64 x3, .int .i64 x4, .int .i64 x5, .int .i64 x6, .int .i64 x7, .slice XA xn xc, .slice XB xm xk, .string x10, .int .i64 x11, .string x12, .int .i64 y0, .int .i64 y1, .string y2, .int .i64 y3, .int .i64 y4, .int .i64 y5, .int .i64 y6, .int .i64 y7, .slice YA yn yc, .slice YB ym yk, .string y10, .int .i64 y11, .string y12] 34))
  have HRZ : Hid (LRow (z4.alloc (.cells #[.int .i64 x0, .int .i64 x1, .string x2, .int .i64 x3, .int .i64 x4, .int .i64 x5, .int .i64 x6, .int .i64 x7, .slice XA xn xc, .slice XB xm xk, .string x10, .int .i64 x11, .string x12, .int .i64 y0, .int .i64 y1, .string y2, .int .i64 y3, .int .i64 y4, .int .i64 y5, .int .i64 y6, .int .i64 y7, .slice YA yn yc, .slice YB ym yk, .string y10, .int .i64 y11, .string y12] 34)) (some ⟨z4.heap.size, 0, none⟩) 2 2 l2) := Lib.hid ⟨by
    have h := Row.of_block (n := 2) (sz := 13) (heap_alloc_new z4 (.cells #[.int .i64 x0, .int .i64 x1, .string x2, .int .i64 x3, .int .i64 x4, .int .i64 x5, .int .i64 x6, .int .i64 x7, .slice XA xn xc, .slice XB xm xk, .string x10, .int .i64 x11, .string x12, .int .i64 y0, .int .i64 y1, .string y2, .int .i64 y3, .int .i64 y4, .int .i64 y5, .int .i64 y6, .int .i64 y7, .slice YA yn yc, .slice YB ym yk, .string y10, .int .i64 y11, .string y12] 34)) rfl
    rw [HLE.out]; exact h, HOL.out _ (one_new _ _)⟩
  go_wp2_with fail
  go_ret
  exact ⟨_, _, l2, rfl, HML.out, HRZ.out, HB3.out.trans (HBZ.out.mono HB3.out.size)⟩
end Go.Proofs.Ytjmapbaofpilaaa
/- Layer 10's sanity check, over any program that gives what layer 10 asks. -/
namespace Go.Proofs.Ytjmapbaofpilaaa
open Go.RowKit
def vou0 : Vou := ⟨1, 2, 3, 0, 5, 20, 9⟩
theorem vouches_two : vouchesS [sa10, sb10] = [vou0] := by kernel_rfl
theorem active_8 : activeS [sa10, sb10] 8 = [vou0] := by kernel_rfl
theorem active_9 : activeS [sa10, sb10] 9 = [] := by kernel_rfl
theorem between_8 : betweenS [sa10, sb10] 1 2 8 = (vou0, true) := by unfold betweenS; rw [active_8]; rfl
set_option maxRecDepth 100000 in
set_option maxHeartbeats 4000000 in
theorem awake10_any (H : VouchC) (w : World) : Calls Try.prog 7 #[] w (SaysL (.bool true) w) := by
  have HO := Lib.hid ord10_two; have HV2 := Lib.hid vouches_two; have HA8 := Lib.hid active_8; have HA9 := Lib.hid active_9; have HB8 := Lib.hid between_8
  go_enter Try.func7, Try.ntmps7
  go_wp2_with fail
  refine (list10_any w).mono ?_
  generalize sa10 = sa at *
  generalize sb10 = sb at *
  rintro e w1 ⟨A, c, l, rfl, hm, hl, hb⟩
  rw [← hm] at HO HV2 HA8 HA9 HB8
  have HL := Lib.hid hl; have HB := Lib.hid hb
  clear hl hb hm
  go_wp2_with fail
  refine (H.vof A 2 c l w1 HL.out (by omega) HO.out).mono ?_
  rw [HV2.out]
  rintro e w2 ⟨A2, n2, c2, rfl, hv, hb⟩
  have hn2 : n2 = 1 := (VRow.len hv).symm
  have HN2 := Lib.hid hn2
  have n2a : ((n2 : Int) == 1) = true := by rw [hn2]; rfl
  have n2b : 0 < n2 := by omega
  clear hn2
  have HV := Lib.hid hv
  replace HL := Lib.hid (HL.out.later hb); replace HB := Lib.hid (HB.out.trans (hb.mono HB.out.size))
  clear hv hb HV2
  go_wp2_with fail
  refine (H.between A 2 c l 1 2 8 w2 HL.out (by omega) HO.out).mono ?_
  rw [HB8.out]
  rintro e w3 ⟨rfl, hb⟩
  replace HL := Lib.hid (HL.out.later hb); replace HV := Lib.hid (GRow.later HV.out hb); replace HB := Lib.hid (HB.out.trans (hb.mono HB.out.size))
  clear hb HB8
  go_upto_region 3 with (refine wpList_store_new rfl 49 (.tmp 3) (.tmp 11) rfl 49 _ vou0.arr rfl rfl vou0.info rfl vou0.one ?_)
  have HN4 := Lib.hid (one_new w3 (.cells vou0.arr 49))
  have HX : Hid ((w3.alloc (.cells vou0.arr 49)).heap[w3.heap.size]? = some (.cells vou0.arr 49 (0, 0))) := Lib.hid (heap_alloc_new _ _)
  replace HL := Lib.hid (HL.out.later HN4.out); replace HV := Lib.hid (GRow.later HV.out HN4.out); replace HB := Lib.hid (HB.out.trans (HN4.out.mono HB.out.size))
  clear HN4
  generalize w3.alloc (.cells vou0.arr 49) = w4 at *
  generalize w3.heap.size = g at *
  obtain ⟨b, off, hA, hc⟩ := GRow.cells Vou.len (by decide) HV.out noVou 0 (by have := HN2.out; omega)
  subst hA
  have HC6 : Hid (w4.cell? ⟨b, off + 6, none⟩ = some (.int .i64 9)) := Lib.hid (hc 6 (by decide))
  have hc6 := HC6.out
  have hc2 : w4.cell? ⟨b, off + 2, none⟩ = some (.int .i64 3) := hc 2 (by decide)
  clear hc HC6
  go_wp2_with fail
  go_simp
  go_wp2_with fail
  go_simp
  go_wp2_with fail
  refine (H.active A 2 c l 8 w4 HL.out (by omega) HO.out).mono ?_
  rw [HA8.out]
  rintro e w5 ⟨A3, n3, c3, rfl, hv, hb⟩
  have hn3 : n3 = 1 := (VRow.len hv).symm
  subst hn3
  replace HL := Lib.hid (HL.out.later hb); replace HB := Lib.hid (HB.out.trans (hb.mono HB.out.size))
  replace HX := Lib.hid ((hb.block _ (Array.getElem?_eq_some_iff.1 HX.out).1).trans HX.out)
  clear hv hb HA8 HV
  go_wp2_with fail
  refine (H.active A 2 c l 9 w5 HL.out (by omega) HO.out).mono ?_
  rw [HA9.out]
  rintro e w6 ⟨A4, n4, c4, rfl, hv, hb⟩
  have hn4 : n4 = 0 := (VRow.len hv).symm
  subst hn4
  replace HB := Lib.hid (HB.out.trans (hb.mono HB.out.size))
  replace HX := Lib.hid ((hb.block _ (Array.getElem?_eq_some_iff.1 HX.out).1).trans HX.out)
  clear hv hb HA9 HL
  have hd5 : w6.cell? ⟨g, 5, none⟩ = some (.int .i64 20) := (cell_of_row _ _ 5 _ _ _ HX.out).trans rfl
  go_wp2_with fail
  go_ret
  exact ⟨rfl, HB.out⟩
end Go.Proofs.Ytjmapbaofpilaaa
