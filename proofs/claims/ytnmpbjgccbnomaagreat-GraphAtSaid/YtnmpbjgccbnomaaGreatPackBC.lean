import Derived.Test.YtnmpbjgccbnomaaGreatPackBA
import Derived.Test.YtnmpbjgccbnomaaGreatPackBB
import Derived.Test.YtnmpbjgccbnomaaGreatPackAC
import Derived.Test.YtnmpbjgccbnomaaGreatPackAW
import Derived.WalkMore
import Derived.Test.YtnmpbjgccbnomaaGreatPackAU
/- The walk of vouch's Gone. -/
namespace Go.Proofs.YtnmpbjgccbnomaaGreat
open Go.RowKit
def goneM (m : List Stm) : List Int := (m.filter fun s => decide (s.kind = 3)).map (·.author)
theorem goneM_snoc (m : List Stm) (s : Stm) : goneM (m ++ [s]) = goneM m ++ (if s.kind = 3 then [s.author] else []) := by
  unfold goneM
  rw [List.filter_append, List.map_append]
  congr 1
  by_cases h : s.kind = 3
  · rw [if_pos h, List.filter_cons_of_pos (by simpa using h)]; rfl
  · rw [if_neg h, List.filter_cons_of_neg (by simpa using h)]; rfl
theorem goneM_len (m : List Stm) : (goneM m).length ≤ m.length := by unfold goneM; rw [List.length_map]; exact List.length_filter_le _ _
/-- Sorting a list of one's own, then leaving repeats out. -/
theorem sortComp (B : Nat) (v : Value) (n : Nat) (l : List Int) (w : World) (ho : w.ownsRow B 3 1 v n (intsV l)) (hn : n ≤ 1000000) (hB : B ≤ w.heap.size) :
    Calls Tryz.prog 49 #[v] w fun e w' => e = .returned (.tuple #[]) ∧ Below B w w' ∧ Calls Tryz.prog 50 #[v] w' fun e2 w2 => ∃ A m c, e2 = .returned (.slice A m c) ∧ IRow w2 A m c (Lib.compactUpTo (l.mergeSort fun x y => decide (x ≤ y)).toArray n) ∧ (∀ ad, A = some ad → 0 < m → B ≤ ad.block) ∧ Below B w' w2 := by
  by_cases h0 : 0 < n
  · obtain ⟨g, cap, rfl, hL⟩ := laid_of_own ho h0
    refine Calls.mono (sortI_any hL hn hB) ?_
    rintro e w' ⟨rfl, hL2, hb⟩
    exact ⟨rfl, hb, (compactI_any hL2 hn (Nat.le_trans hB hb.size)).mono fun _ _ ⟨A, m, c, h1, h2, h3, h4⟩ => ⟨A, m, c, h1, h2, fun ad hA _ => h3 ad hA, h4⟩⟩
  · obtain ⟨A, c, hv, hr⟩ := Row.of_own ho
    have hn0 : n = 0 := by omega
    subst hn0 hv
    have hl : l = [] := by have h := Row.len hr; rw [intsV_len] at h; exact List.eq_nil_of_length_eq_zero (by omega)
    subst hl
    refine Calls.mono (Any.slices_Sort_int_none sortInt A c w) ?_
    rintro e w' ⟨rfl, rfl⟩
    refine ⟨rfl, Below.refl _ _, Calls.mono (compactNone A c _) ?_⟩
    rintro e w2 ⟨rfl, rfl⟩
    exact ⟨A, 0, c, rfl, hr, fun _ _ h => absurd h (Nat.lt_irrefl 0), Below.refl _ _⟩
set_option maxRecDepth 100000 in
set_option maxHeartbeats 4000000 in
/-- .. which lies in memory of its own. -/
theorem vGone_new (A : Option Addr) (n c : Nat) (l : List Pl) (tm : Int) (w : World) (hl : LRow w A n c l) (hn : n ≤ 100000) (ho : Ord10 (l.map (·.s))) : Calls Tryz.prog 28 #[.slice A n c, .int .i64 tm] w fun e w' => ∃ A2 n2 c2, e = .returned (.slice A2 n2 c2) ∧ IRow w' A2 n2 c2 (goneS (l.map (·.s)) tm) ∧ (∀ ad, A2 = some ad → 0 < n2 → w.heap.size ≤ ad.block) ∧ Below w.heap.size w w' := by
  have HU := Lib.hid (eUntil_any A n c l tm w hl hn)
  have HLN := Lib.hid hl.len
  have HGS : Hid (Lib.compactUpTo ((goneM (untilS tm (l.map (·.s)))).mergeSort fun x y => decide (x ≤ y)).toArray (goneM (untilS tm (l.map (·.s)))).length = goneS (l.map (·.s)) tm) := Lib.hid (gone_same ho.ok tm)
  generalize goneS (l.map (·.s)) tm = GS at *
  have HUL : Hid ((untilS tm (l.map (·.s))).length ≤ n) := Lib.hid (by have h := List.length_filter_le (fun s : Stm => decide (s.time ≤ tm)) (l.map (·.s)); rw [List.length_map, HLN.out] at h; exact h)
  clear hl ho
  go_enter Tryz.func28, Tryz.ntmps28
  go_wp2_with fail
  refine HU.out.mono ?_
  rintro e w1 ⟨A2, c2, l2, rfl, hm, hr, hb⟩
  have HL := Lib.hid hr; have HW := Lib.hid hb; have HL2 := Lib.hid hr.len
  rw [← hm] at HGS HUL
  clear hm hr hb HU
  have hn2b : l2.length ≤ 100000 := by have := HUL.out; rw [List.length_map] at this; omega
  have HN2 := Lib.hid hn2b
  obtain ⟨n2, hn2⟩ : ∃ n2, l2.length = n2 := ⟨_, rfl⟩
  rw [hn2] at HL HN2 hn2b ⊢
  have HLE := Lib.hid hn2
  clear hn2 HL2
  go_wp2_with fail
  go_loopw [5, 12] (fun v i wr => ∃ j : Nat, j ≤ n2 ∧ i = .int .i64 j ∧ Hid (wr.ownsRow w1.heap.size 3 1 v (goneM ((l2.take j).map (·.s))).length (intsV (goneM ((l2.take j).map (·.s)))) ∧ Below w1.heap.size w1 wr)) (fun _ i _ => n2 - (intOf i).toNat)
  case atStart => exact ⟨0, Nat.zero_le _, rfl, Lib.hid ⟨World.ownsRow_nil _ _ _ _, Below.refl _ _⟩⟩
  case round =>
    obtain ⟨j, hj, rfl, HQ⟩ := hrel
    obtain ⟨A1, c1, hv, -⟩ := Row.of_own HQ.out.1
    subst hv
    by_cases hlt : j < n2
    · have hlt2 : (j : Int) < (n2 : Int) := by omega
      obtain ⟨b, off, hA, hc⟩ := (HL.out.later HQ.out.2).cells j hlt
      subst hA
      have HC := Lib.hid hc
      have HST : Hid (goneM ((l2.take (j + 1)).map (·.s)) = goneM ((l2.take j).map (·.s)) ++ (if (l2.getD j noPl).s.kind = 3 then [(l2.getD j noPl).s.author] else [])) := Lib.hid (by rw [take_snocP l2 j (by rw [HLE.out]; exact hlt), List.map_append]; exact goneM_snoc _ _)
      have HUL2 : Hid ((goneM ((l2.take j).map (·.s))).length ≤ 100000) := Lib.hid (Nat.le_trans (goneM_len _) (by rw [List.length_map, List.length_take]; omega))
      clear hc
      generalize l2.getD j noPl = q at *
      generalize goneM ((l2.take j).map (·.s)) = U at *
      go_upto_region 5 with (first | (refine wpList_load_cells rfl 48 (.tmp 14) rfl b (off + j * 13) rfl q.arr _ Tryz.underlying48 rfl q.info HC.out ?_) | (refine wpList_store_new rfl 48 (.tmp 7) (.tmp 15) rfl 48 _ q.arr rfl rfl q.info rfl q.one ?_))
      have HN3 := Lib.hid (one_new wr (.cells q.arr 48))
      have HX : Hid ((wr.alloc (.cells q.arr 48)).heap[wr.heap.size]? = some (.cells q.arr 48 (0, 0))) := Lib.hid (heap_alloc_new _ _)
      have HB := Lib.hid (HQ.out.2.trans (HN3.out.mono HQ.out.2.size))
      have HO := Lib.hid (own_later HQ.out.1 HN3.out)
      clear HQ HN3 HC
      generalize wr.alloc (.cells q.arr 48) = x2 at *
      generalize wr.heap.size = g at *
      have hq0 : x2.cell? ⟨g, 0, none⟩ = some (.int .i64 q.s.author) := (cell_of_row _ _ 0 _ _ _ HX.out).trans rfl
      have hq4 : x2.cell? ⟨g, 4, none⟩ = some (.int .i64 q.s.kind) := (cell_of_row _ _ 4 _ _ _ HX.out).trans rfl
      have hul := HUL2.out
      by_cases hk : q.s.kind = 3
      · have b0 : (q.s.kind == 3) = true := by rw [hk]; rfl
        have HE : Hid (goneM ((l2.take (j + 1)).map (·.s)) = U ++ [q.s.author]) := Lib.hid (by rw [HST.out, if_pos hk])
        clear hk
        have hsz : w1.heap.size ≤ x2.heap.size := HB.out.size
        go_wp2_with (at_builtin; go_must (refine wpList_app_new x2 rfl (.tmp 19) (.tmp 22) 22 3 rfl w1.heap.size Tryz.underlying22 i64_info rfl _ U.length (intsV U) HO.out rfl 1 #[.int .i64 q.s.author] rfl (by simp [Value.oneCell']) rfl rfl (by unfold maxLen; omega) (by omega) hsz ?_); intro v3 w3 ho3 hb3; have HO3 := Lib.hid ho3; have HB3 := Lib.hid (HB.out.trans hb3); clear ho3 hb3)
        exact ⟨⟨j + 1, by omega, by go_num, Lib.hid (by rw [HE.out, List.length_append, intsV_app]; exact ⟨HO3.out, HB3.out⟩)⟩, by simp [intOf]; omega⟩
      · have b0 : (q.s.kind == 3) = false := by rw [beq_eq_false_iff_ne]; exact hk
        have HE : Hid (goneM ((l2.take (j + 1)).map (·.s)) = U) := Lib.hid (by rw [HST.out, if_neg hk, List.append_nil])
        clear hk
        go_wp2_with fail
        exact ⟨⟨j + 1, by omega, by go_num, Lib.hid (by rw [HE.out]; exact ⟨HO.out, HB.out⟩)⟩, by simp [intOf]; omega⟩
    · have hlt2 : ¬ (j : Int) < (n2 : Int) := by omega
      have hj2 : j = n2 := by omega
      have HE : Hid ((l2.take j).map (·.s) = l2.map (·.s)) := Lib.hid (by rw [List.take_of_length_le (by rw [HLE.out]; omega)])
      have HO2 := Lib.hid HQ.out.1; have HB := Lib.hid HQ.out.2
      rw [HE.out] at HO2
      have HGL : Hid ((goneM (l2.map (·.s))).length ≤ 100000) := Lib.hid (Nat.le_trans (goneM_len _) (by rw [List.length_map, HLE.out]; exact HN2.out))
      have HSO := Lib.hid (sortComp w1.heap.size _ _ _ wr HO2.out (Nat.le_trans HGL.out (by decide)) HB.out.size)
      rw [HE.out]
      clear HQ HE HO2
      generalize goneM (l2.map (·.s)) = U at *
      rw [HGS.out] at HSO
      go_wp2_with fail
      refine HSO.out.mono ?_
      rintro e w5 ⟨rfl, hb5, hc5⟩
      have HC5 := Lib.hid hc5; have HB5 := Lib.hid (HB.out.trans hb5)
      clear hb5 hc5 HSO
      go_wp2_with fail
      refine HC5.out.mono ?_
      rintro e w6 ⟨A6, n6, c6, rfl, hr6, hn6, hb6⟩
      have HR6 := Lib.hid hr6; have HN6 : Hid (∀ ad, A6 = some ad → 0 < n6 → w.heap.size ≤ ad.block) := Lib.hid (fun ad hA h0 => Nat.le_trans HW.out.size (hn6 ad hA h0)); have HB6 := Lib.hid (HW.out.trans ((HB5.out.trans hb6).mono HW.out.size))
      clear hr6 hn6 hb6 HC5
      go_wp2_with fail
      go_ret
      exact ⟨_, _, _, rfl, HR6.out, HN6.out, HB6.out⟩
theorem vGone_any (A : Option Addr) (n c : Nat) (l : List Pl) (tm : Int) (w : World) (hl : LRow w A n c l) (hn : n ≤ 100000) (ho : Ord10 (l.map (·.s))) : Calls Tryz.prog 28 #[.slice A n c, .int .i64 tm] w (GivesI w (goneS (l.map (·.s)) tm)) :=
  (vGone_new A n c l tm w hl hn ho).mono fun _ _ ⟨A2, n2, c2, h1, h2, _, h4⟩ => ⟨A2, n2, c2, h1, h2, h4⟩
end Go.Proofs.YtnmpbjgccbnomaaGreat
/- The walk of vouch's Active. -/
namespace Go.Proofs.YtnmpbjgccbnomaaGreat
open Go.RowKit
set_option maxRecDepth 100000 in
set_option maxHeartbeats 4000000 in
theorem vActive_any (A : Option Addr) (n c : Nat) (l : List Pl) (tm : Int) (w : World) (hl : LRow w A n c l) (hn : n ≤ 100000) (ho : Ord10 (l.map (·.s))) : Calls Tryz.prog 29 #[.slice A n c, .int .i64 tm] w (GivesV w (activeS (l.map (·.s)) tm)) := by
  have HOF := Lib.hid (vOf_any A n c l w hl hn ho)
  have HGN : Hid (∀ y, Below w.heap.size w y → Calls Tryz.prog 28 #[.slice A n c, .int .i64 tm] y (GivesI y (goneS (l.map (·.s)) tm))) := Lib.hid fun y h => vGone_any A n c l tm y (hl.later h) hn ho
  have HALN : Hid ((vouchesS (l.map (·.s))).length ≤ 100000) := Lib.hid (by have h := vouchesS_len (l.map (·.s)); rw [List.length_map, hl.len] at h; omega)
  have HGLN : Hid ((goneS (l.map (·.s)) tm).length ≤ 100000) := Lib.hid (Nat.le_trans (goneUp_len _ _ 64) (by decide))
  have HAS : Hid (actA (vouchesS (l.map (·.s))) (goneS (l.map (·.s)) tm) tm (vouchesS (l.map (·.s))).length = activeS (l.map (·.s)) tm) := Lib.hid (actA_same ho _ tm _ (Nat.le_refl _))
  generalize activeS (l.map (·.s)) tm = GS at *
  generalize vouchesS (l.map (·.s)) = all at *
  generalize goneS (l.map (·.s)) tm = gone at *
  clear hl ho
  go_enter Tryz.func29, Tryz.ntmps29
  go_wp2_with fail
  go_step3
  go_wp2_with fail
  refine HOF.out.mono ?_
  rintro e w1 ⟨A1, n1, c1, rfl, hv1, hb1⟩
  have HV1 := Lib.hid hv1; have HB1 := Lib.hid hb1; have HLN : Hid (all.length = n1) := Lib.hid (VRow.len hv1)
  clear hv1 hb1 HOF
  go_wp2_with fail
  refine (HGN.out w1 HB1.out).mono ?_
  rintro e w2 ⟨A2, n2, c2, rfl, hv2, hb2⟩
  have HG2 := Lib.hid hv2; have HW2 := Lib.hid (HB1.out.trans (hb2.mono HB1.out.size)); have HGL : Hid (gone.length = n2) := Lib.hid hv2.len
  have HV2 := Lib.hid (GRow.later HV1.out hb2)
  have hn1 : n1 ≤ 100000 := by rw [← HLN.out]; exact HALN.out
  have hn2 : n2 ≤ 100000 := by rw [← HGL.out]; exact HGLN.out
  have HHS : Hid (∀ y x, Below w2.heap.size w2 y → Calls Tryz.prog 53 #[.slice A2 n2 c2, .int .i64 x] y (SaysL (.bool (hasI gone x)) y)) := Lib.hid fun y x h => containsI_any A2 n2 c2 gone x y (HG2.out.later h) hn2
  clear hv2 hb2 HGN HV1 HB1 HG2 HGL HGLN hn2
  go_wp2_with fail
  go_step3
  go_wp2_with fail
  go_loopw [7, 19] (fun v i wr => ∃ j : Nat, j ≤ n1 ∧ i = .int .i64 j ∧ Hid (wr.ownsRow w2.heap.size 67 7 v (actA all gone tm j).length (rowC Vou.cells (actA all gone tm j)) ∧ Below w2.heap.size w2 wr)) (fun _ i _ => n1 - (intOf i).toNat)
  case atStart => exact ⟨0, Nat.zero_le _, rfl, Lib.hid ⟨World.ownsRow_nil _ _ _ _, Below.refl _ _⟩⟩
  case round =>
    obtain ⟨j, hj, rfl, HQ⟩ := hrel
    obtain ⟨A3, c3, hv3, -⟩ := Row.of_own HQ.out.1
    subst hv3
    by_cases hlt : j < n1
    · have hlt2 : (j : Int) < (n1 : Int) := by omega
      obtain ⟨b, off, hA, hc⟩ := GRow.cells Vou.len (by decide) (GRow.later HV2.out HQ.out.2) noVou j hlt
      have HA := Lib.hid hA
      have HC : Hid (∀ k, k < (all.getD j noVou).arr.size → wr.cell? ⟨b, off + j * 7 + k, none⟩ = (all.getD j noVou).arr[k]?) := Lib.hid fun k hk => (hc k hk).trans (by rw [← Vou.list, Array.getElem?_toList])
      have HUP : Hid (actA all gone tm (j + 1) = actA all gone tm j ++ (if keepA all gone tm j then [all.getD j noVou] else [])) := Lib.hid rfl
      have HUL : Hid ((actA all gone tm j).length ≤ 100000) := Lib.hid (Nat.le_trans (actA_len _ _ _ _) (by omega))
      have HKP : Hid (keepA all gone tm j = (holdsV (all.getD j noVou) tm && (!hasI gone (all.getD j noVou).fr && (!hasI gone (all.getD j noVou).tu && !runLater (all.getD j noVou) tm (all.drop (j + 1)))))) := Lib.hid rfl
      have HDL : Hid ((all.drop (j + 1)).length = n1 - (j + 1)) := Lib.hid (by rw [List.length_drop, HLN.out])
      have HLD : Hid (VRow w2 (dropA A1 c1 (j + 1) 7) (n1 - (j + 1)) (c1 - (j + 1)) (all.drop (j + 1))) := Lib.hid (GRow.drop Vou.len HV2.out (j + 1) (by omega))
      have HCAP : Hid (n1 ≤ c1) := Lib.hid HV2.out.cap
      clear hc
      generalize all.getD j noVou = p at *
      generalize actA all gone tm j = U at *
      generalize keepA all gone tm j = kb at *
      generalize all.drop (j + 1) = D at *
      subst hA
      go_upto_region 6 with (first | (refine wpList_load_cells rfl 67 (.tmp 22) rfl b (off + j * 7) rfl p.arr _ Tryz.underlying67 rfl p.info HC.out ?_) | (refine wpList_store_new rfl 67 (.tmp 9) (.tmp 23) rfl 67 _ p.arr rfl rfl p.info rfl p.one ?_))
      have HN3 := Lib.hid (one_new wr (.cells p.arr 67))
      have HX : Hid ((wr.alloc (.cells p.arr 67)).heap[wr.heap.size]? = some (.cells p.arr 67 (0, 0))) := Lib.hid (heap_alloc_new _ _)
      have HB := Lib.hid (HQ.out.2.trans (HN3.out.mono HQ.out.2.size))
      have HO := Lib.hid (own_later HQ.out.1 HN3.out)
      clear HQ HN3 HC
      generalize wr.alloc (.cells p.arr 67) = x2 at *
      generalize wr.heap.size = g at *
      have HHO := Lib.hid (vHolds_any p tm x2)
      generalize holdsV p tm = hb at *
      go_wp2_with (refine wpList_load_row rfl 67 (.tmp 9) rfl g rfl 67 p.arr (0, 0) _ HX.out Tryz.underlying67 rfl p.info ?_)
      refine HHO.out.mono ?_
      rintro e x3 ⟨rfl, hb3⟩
      replace HX := Lib.hid ((hb3.block _ (Array.getElem?_eq_some_iff.1 HX.out).1).trans HX.out)
      replace HO := Lib.hid (own_later HO.out hb3)
      replace HB := Lib.hid (HB.out.trans (hb3.mono HB.out.size))
      clear hb3 HHO
      have hq0 : x3.cell? ⟨g, 0, none⟩ = some (.int .i64 p.fr) := (vou_cells7 HX.out).1
      cases hb
      · have HE : Hid (actA all gone tm (j + 1) = U) := Lib.hid (by rw [HUP.out, HKP.out]; simp)
        go_wp2_with fail
        exact ⟨⟨j + 1, by omega, by go_num, Lib.hid (by rw [HE.out]; exact ⟨HO.out, HB.out⟩)⟩, by simp [intOf]; omega⟩
      · go_wp2_with fail
        refine (HHS.out x3 p.fr HB.out).mono ?_
        rintro e x4 ⟨rfl, hb4⟩
        replace HX := Lib.hid ((hb4.block _ (Array.getElem?_eq_some_iff.1 HX.out).1).trans HX.out)
        replace HO := Lib.hid (own_later HO.out hb4)
        replace HB := Lib.hid (HB.out.trans (hb4.mono HB.out.size))
        clear hb4 hq0
        have hq1 : x4.cell? ⟨g, 1, none⟩ = some (.int .i64 p.tu) := (vou_cells7 HX.out).2.1
        generalize hasI gone p.fr = f1 at *
        cases f1
        · go_wp2_with fail
          refine (HHS.out x4 p.tu HB.out).mono ?_
          rintro e x5 ⟨rfl, hb5⟩
          replace HX := Lib.hid ((hb5.block _ (Array.getElem?_eq_some_iff.1 HX.out).1).trans HX.out)
          replace HO := Lib.hid (own_later HO.out hb5)
          replace HB := Lib.hid (HB.out.trans (hb5.mono HB.out.size))
          clear hb5 hq1
          generalize hasI gone p.tu = f2 at *
          cases f2
          · have HKB : Hid (kb = !runLater p tm D) := Lib.hid (by rw [HKP.out]; rfl)
            clear HKP HHS
            obtain ⟨RL, hRL⟩ : ∃ RL, runLater p tm D = RL := ⟨_, rfl⟩
            rw [hRL] at HKB
            have HRL := Lib.hid hRL
            clear hRL
            have hs2 := fun w' => run_slice_from (P := Tryz.prog) (t := 64) Tryz.underlying64 vou_size (A := some ⟨b, off, none⟩) (n := n1) (c := c1) (k := j + 1) (i := (j : Int) + 1) (by omega) (by omega) .i64 w'
            obtain ⟨md, hmd⟩ : ∃ md, n1 - (j + 1) = md := ⟨_, rfl⟩
            rw [hmd] at hs2 HDL HLD
            have HMD := Lib.hid hmd
            have hmd2 : md ≤ 100000 := by omega
            clear hmd
            generalize dropA (some ⟨b, off, none⟩) c1 (j + 1) 7 = AD at *
            generalize c1 - (j + 1) = cd at *
            go_wp2_with fail
            clear hs2
            go_loopw [45] (fun i wr => ∃ k : Nat, k ≤ md ∧ i = .int .i64 k ∧ Hid (runLater p tm (D.drop k) = RL ∧ Below x5.heap.size x5 wr)) (fun i _ => md - (intOf i).toNat)
            case atStart => exact ⟨0, Nat.zero_le _, rfl, Lib.hid ⟨HRL.out, Below.refl _ _⟩⟩
            case round =>
              obtain ⟨k, hk, rfl, HR⟩ := hrel
              have HX6 := Lib.hid ((HR.out.2.block _ (Array.getElem?_eq_some_iff.1 HX.out).1).trans HX.out)
              have HO6 := Lib.hid (own_later HO.out HR.out.2)
              have HB6 := Lib.hid (HB.out.trans (HR.out.2.mono HB.out.size))
              have HD0 := Lib.hid HR.out.1
              have HXB := Lib.hid HR.out.2
              clear HR
              by_cases hkl : k < md
              · have hkl2 : (k : Int) < (md : Int) := by omega
                obtain ⟨b2, off2, hA2, hc2⟩ := GRow.cells Vou.len (by decide) (GRow.later HLD.out HB6.out) noVou k hkl
                subst hA2
                have HC2 : Hid (∀ i, i < (D.getD k noVou).arr.size → wr.cell? ⟨b2, off2 + k * 7 + i, none⟩ = (D.getD k noVou).arr[i]?) := Lib.hid fun i hi => (hc2 i hi).trans (by rw [← Vou.list, Array.getElem?_toList])
                have HDK : Hid (runLater p tm (D.drop k) = if (D.getD k noVou).fr ≠ p.fr ∨ (D.getD k noVou).tu ≠ p.tu then false else if (D.getD k noVou).tm ≤ tm then true else runLater p tm (D.drop (k + 1))) := Lib.hid (by
                  rw [List.drop_eq_getElem_cons (by rw [HDL.out]; exact hkl), runLater, List.getD_eq_getElem?_getD, List.getElem?_eq_getElem (by rw [HDL.out]; exact hkl)]; rfl)
                clear hc2
                generalize D.getD k noVou = y at *
                go_upto_region 10 with (first | (refine wpList_load_cells rfl 67 (.tmp 47) rfl b2 (off2 + k * 7) rfl y.arr _ Tryz.underlying67 rfl y.info HC2.out ?_) | (refine wpList_store_new rfl 67 (.tmp 11) (.tmp 48) rfl 67 _ y.arr rfl rfl y.info rfl y.one ?_))
                have HN7 := Lib.hid (one_new wr (.cells y.arr 67))
                have HY : Hid ((wr.alloc (.cells y.arr 67)).heap[wr.heap.size]? = some (.cells y.arr 67 (0, 0))) := Lib.hid (heap_alloc_new _ _)
                replace HX6 := Lib.hid ((HN7.out.block _ (Array.getElem?_eq_some_iff.1 HX6.out).1).trans HX6.out)
                replace HO6 := Lib.hid (own_later HO6.out HN7.out)
                replace HB6 := Lib.hid (HB6.out.trans (HN7.out.mono HB6.out.size))
                replace HXB := Lib.hid (HXB.out.trans (HN7.out.mono HXB.out.size))
                clear HN7 HC2
                generalize wr.alloc (.cells y.arr 67) = y2 at *
                generalize wr.heap.size = g2 at *
                obtain ⟨hx0, hx1, -⟩ := vou_cells7 HX6.out
                obtain ⟨hy0, hy1, -, -, hy4, -⟩ := vou_cells7 HY.out
                by_cases k0 : y.fr = p.fr
                · have b0 : (y.fr != p.fr) = false := by rw [k0]; simp
                  have K0 := Lib.hid k0; clear k0
                  by_cases k1 : y.tu = p.tu
                  · have b1 : (y.tu != p.tu) = false := by rw [k1]; simp
                    have K1 := Lib.hid k1; clear k1
                    by_cases k2 : y.tm ≤ tm
                    · have b2 : decide (y.tm ≤ tm) = true := decide_eq_true k2
                      have HR : Hid (RL = true) := Lib.hid (by rw [← HD0.out, HDK.out, if_neg (by rw [K0.out, K1.out]; simp), if_pos k2])
                      have HE : Hid (actA all gone tm (j + 1) = U) := Lib.hid (by rw [HUP.out, HKB.out, HR.out]; simp)
                      clear k2
                      go_wp2_with fail
                      exact ⟨⟨j + 1, by omega, by go_num, Lib.hid (by rw [HE.out]; exact ⟨HO6.out, HB6.out⟩)⟩, by simp [intOf]; omega⟩
                    · have b2 : decide (y.tm ≤ tm) = false := decide_eq_false k2
                      have HR : Hid (runLater p tm (D.drop (k + 1)) = RL) := Lib.hid (by rw [← HD0.out, HDK.out, if_neg (by rw [K0.out, K1.out]; simp), if_neg k2])
                      clear k2
                      go_wp2_with fail
                      exact ⟨⟨k + 1, by omega, by go_num, Lib.hid ⟨HR.out, HXB.out⟩⟩, by simp [intOf]; omega⟩
                  · have b1 : (y.tu != p.tu) = true := by rw [bne_iff_ne]; exact k1
                    have HR : Hid (RL = false) := Lib.hid (by rw [← HD0.out, HDK.out, if_pos (.inr k1)])
                    have HE : Hid (actA all gone tm (j + 1) = U ++ [p]) := Lib.hid (by rw [HUP.out, HKB.out, HR.out]; rfl)
                    clear k1
                    have hul := HUL.out
                    have hsz := HB6.out.size
                    have hvs : p.arr.size = 7 := rfl
                    go_wp2_with (first | (refine wpList_load_row rfl 67 (.tmp 9) rfl g rfl 67 p.arr (0, 0) _ HX6.out Tryz.underlying67 rfl p.info ?_) | (at_builtin; (first | rw [fold7n] | rw [fold7]); go_must (refine wpList_app_newK _ rfl (.tmp 66) (.tmp 68) 64 67 rfl w2.heap.size Tryz.underlying64 vou_info rfl _ U.length (rowC Vou.cells U) HO6.out rfl 1 p.arr rfl p.ones rfl rfl (by unfold maxLen; omega) (by omega) hsz ?_); intro x3 z3 ho hb hk1 hk2; have HO9 := Lib.hid ho; have HB9 := Lib.hid (HB6.out.trans hb); clear ho hb hk1 hk2))
                    exact ⟨⟨j + 1, by omega, by go_num, Lib.hid (by rw [HE.out, List.length_append, rowC_app, rowC_single]; exact ⟨HO9.out, HB9.out⟩)⟩, by simp [intOf]; omega⟩
                · have b0 : (y.fr != p.fr) = true := by rw [bne_iff_ne]; exact k0
                  have HR : Hid (RL = false) := Lib.hid (by rw [← HD0.out, HDK.out, if_pos (.inl k0)])
                  have HE : Hid (actA all gone tm (j + 1) = U ++ [p]) := Lib.hid (by rw [HUP.out, HKB.out, HR.out]; rfl)
                  clear k0
                  have hul := HUL.out
                  have hsz := HB6.out.size
                  have hvs : p.arr.size = 7 := rfl
                  go_wp2_with (first | (refine wpList_load_row rfl 67 (.tmp 9) rfl g rfl 67 p.arr (0, 0) _ HX6.out Tryz.underlying67 rfl p.info ?_) | (at_builtin; (first | rw [fold7n] | rw [fold7]); go_must (refine wpList_app_newK _ rfl (.tmp 66) (.tmp 68) 64 67 rfl w2.heap.size Tryz.underlying64 vou_info rfl _ U.length (rowC Vou.cells U) HO6.out rfl 1 p.arr rfl p.ones rfl rfl (by unfold maxLen; omega) (by omega) hsz ?_); intro x3 z3 ho hb hk1 hk2; have HO9 := Lib.hid ho; have HB9 := Lib.hid (HB6.out.trans hb); clear ho hb hk1 hk2))
                  exact ⟨⟨j + 1, by omega, by go_num, Lib.hid (by rw [HE.out, List.length_append, rowC_app, rowC_single]; exact ⟨HO9.out, HB9.out⟩)⟩, by simp [intOf]; omega⟩
              · have hkl2 : ¬ (k : Int) < (md : Int) := by omega
                have HR : Hid (RL = false) := Lib.hid (by rw [← HD0.out, List.drop_eq_nil_of_le (by rw [HDL.out]; omega)]; rfl)
                have HE : Hid (actA all gone tm (j + 1) = U ++ [p]) := Lib.hid (by rw [HUP.out, HKB.out, HR.out]; rfl)
                have hul := HUL.out
                have hsz := HB6.out.size
                have hvs : p.arr.size = 7 := rfl
                go_wp2_with (first | (refine wpList_load_row rfl 67 (.tmp 9) rfl g rfl 67 p.arr (0, 0) _ HX6.out Tryz.underlying67 rfl p.info ?_) | (at_builtin; (first | rw [fold7n] | rw [fold7]); go_must (refine wpList_app_newK _ rfl (.tmp 66) (.tmp 68) 64 67 rfl w2.heap.size Tryz.underlying64 vou_info rfl _ U.length (rowC Vou.cells U) HO6.out rfl 1 p.arr rfl p.ones rfl rfl (by unfold maxLen; omega) (by omega) hsz ?_); intro x3 z3 ho hb hk1 hk2; have HO9 := Lib.hid ho; have HB9 := Lib.hid (HB6.out.trans hb); clear ho hb hk1 hk2))
                exact ⟨⟨j + 1, by omega, by go_num, Lib.hid (by rw [HE.out, List.length_append, rowC_app, rowC_single]; exact ⟨HO9.out, HB9.out⟩)⟩, by simp [intOf]; omega⟩
          · have HE : Hid (actA all gone tm (j + 1) = U) := Lib.hid (by rw [HUP.out, HKP.out]; simp)
            go_wp2_with fail
            exact ⟨⟨j + 1, by omega, by go_num, Lib.hid (by rw [HE.out]; exact ⟨HO.out, HB.out⟩)⟩, by simp [intOf]; omega⟩
        · have HE : Hid (actA all gone tm (j + 1) = U) := Lib.hid (by rw [HUP.out, HKP.out]; simp)
          go_wp2_with fail
          exact ⟨⟨j + 1, by omega, by go_num, Lib.hid (by rw [HE.out]; exact ⟨HO.out, HB.out⟩)⟩, by simp [intOf]; omega⟩
    · have hlt2 : ¬ (j : Int) < (n1 : Int) := by omega
      have HE : Hid (j = n1) := by unfold Hid; omega
      obtain ⟨A4, c4, hv4, hr4⟩ := Row.of_own HQ.out.1
      injection hv4 with hv4 _ hc4
      subst hv4 hc4
      have HB3 := Lib.hid (HW2.out.trans (HQ.out.2.mono HW2.out.size))
      have HGE : Hid (actA all gone tm j = GS) := Lib.hid (by rw [HE.out, ← HLN.out]; exact HAS.out)
      clear HQ
      rw [HGE.out] at hr4 ⊢
      have HR4 := Lib.hid hr4; clear hr4
      go_wp2_with fail
      try rw [Exit.noGoto_ret]
      go_ret
      exact ⟨_, _, _, rfl, HR4.out, HB3.out⟩
end Go.Proofs.YtnmpbjgccbnomaaGreat
/- Graphs: the walk of the reference's Level. -/
namespace Go.Proofs.YtnmpbjgccbnomaaGreat
open Go.RowKit
end Go.Proofs.YtnmpbjgccbnomaaGreat
/- Graphs: the walk of the reference's At. -/
namespace Go.Proofs.YtnmpbjgccbnomaaGreat
open Go.RowKit
/-- What is there stays, but for block g; below block g all stays. -/
def Midst (g n : Nat) (a b : World) : Prop := Below g a b ∧ ∀ k, k < n → k ≠ g → b.heap[k]? = a.heap[k]?
theorem Midst.refl (g n : Nat) (a : World) : Midst g n a a := ⟨Below.refl _ _, fun _ _ _ => rfl⟩
theorem Midst.trans {g n : Nat} {a b c : World} (h : Midst g n a b) (k : Midst g n b c) : Midst g n a c := ⟨h.1.trans k.1, fun i hi hg => (k.2 i hi hg).trans (h.2 i hi hg)⟩
theorem Midst.of {g n : Nat} {a b : World} (h : Below n a b) (hg : g ≤ n) : Midst g n a b := ⟨h.mono hg, fun i hi _ => h.block i hi⟩
theorem Midst.cell {g n : Nat} (a : World) (i : Nat) (v : Value) : Midst g n a (a.setCell ⟨g, i, none⟩ v) := ⟨(Below.refl _ _).setCell (p := ⟨g, i, none⟩) (Nat.le_refl g) v, fun k _ hk => Below.heap_setCell a ⟨g, i, none⟩ v k hk⟩
theorem Midst.drew {g n : Nat} {a b : World} (h : Midst g n a b) : Midst g n a b.drew := ⟨h.1.drew, h.2⟩
theorem vrow_not {w : World} {g : Nat} {A : Option Addr} {n c : Nat} {l : List Vou} {x y z : Value} {T : TypeId} {fr : Nat × Nat} (h : VRow w A n c l) (hg : w.heap[g]? = some (.cells #[x, y, z] T fr)) : ∀ ad, A = some ad → 0 < n → ad.block ≠ g := fun ad hA h0 he => by
  obtain ⟨b, off, hA', hc⟩ := GRow.cells Vou.len (by decide) h noVou 0 h0
  rw [hA] at hA'
  injection hA' with e
  subst e
  simp only at he
  subst he
  have h6 := hc 6 (by decide)
  rw [cell_of_row _ _ _ _ _ _ hg] at h6
  have : (#[x, y, z] : Array Value)[off + 0 * 7 + 6]? = none := Array.getElem?_eq_none (by first | (simp; done) | (simp; omega))
  rw [this] at h6
  cases h6
def upE (all : List Vou) (lv : Int) : List Edg := (all.filter fun v => decide (lv ≤ v.lv)).map edgeOf
theorem upE_snoc (l : List Vou) (lv : Int) (j : Nat) (h : j < l.length) : upE (l.take (j + 1)) lv = upE (l.take j) lv ++ (if lv ≤ (l.getD j noVou).lv then [edgeOf (l.getD j noVou)] else []) := by
  unfold upE
  rw [List.take_add_one, List.getElem?_eq_getElem h, List.filter_append, List.map_append, List.getD_eq_getElem?_getD, List.getElem?_eq_getElem h]
  by_cases hk : lv ≤ l[j].lv <;> simp [hk]
theorem upE_len (l : List Vou) (lv : Int) : (upE l lv).length ≤ l.length := by unfold upE; rw [List.length_map]; exact List.length_filter_le _ _
set_option maxRecDepth 100000 in
set_option maxHeartbeats 4000000 in
theorem gat_any (A : Option Addr) (n c : Nat) (l : List Pl) (tm lv : Int) (w : World) (hl : LRow w A n c l) (hn : n ≤ 100000) : Calls Tryz.prog 12 #[.slice A n c, .int .i64 tm, .int .i64 lv] w (GivesGOE w (atG (l.map (·.s)) tm lv)) := by
  have HB : Hid (Below w.heap.size w (w.alloc (.cells #[.int .i64 0, .slice none 0 0, .slice none 0 0] 35))) := Lib.hid (one_new w _)
  have HR : Hid ((w.alloc (.cells #[.int .i64 0, .slice none 0 0, .slice none 0 0] 35)).heap[w.heap.size]? = some (.cells #[.int .i64 0, .slice none 0 0, .slice none 0 0] 35 (0, 0))) := Lib.hid (heap_alloc_new _ _)
  have HGO : Hid (∀ y, Below w.heap.size w y → Calls Tryz.prog 30 #[.slice A n c, .int .i64 tm] y (GivesIO y (goneS (l.map (·.s)) tm))) := Lib.hid fun y h => gone_own A n c l tm y (hl.later h) hn
  have HAC : Hid (∀ y, Below w.heap.size w y → Calls Tryz.prog 31 #[.slice A n c, .int .i64 tm] y (GivesV y (activeS (l.map (·.s)) tm))) := Lib.hid fun y h => active_any A n c l tm y (hl.later h) hn
  have HAL : Hid ((activeS (l.map (·.s)) tm).length ≤ 100000) := Lib.hid (by have h := Nat.le_trans (activeUp_len (vouchesS (l.map (·.s))) (goneS (l.map (·.s)) tm) tm (vouchesS (l.map (·.s))).length) (vouchesS_len (l.map (·.s))); rw [List.length_map, hl.len] at h; exact Nat.le_trans h hn)
  have HRW : Hid (atG (l.map (·.s)) tm lv = if lv < 1 ∨ 3 < lv then (noGr, 2) else if 500 < (upE (activeS (l.map (·.s)) tm) lv).length then (noGr, 3) else (⟨64, upE (activeS (l.map (·.s)) tm) lv, goneS (l.map (·.s)) tm⟩, 0)) := Lib.hid rfl
  generalize atG (l.map (·.s)) tm lv = RW at *
  generalize activeS (l.map (·.s)) tm = all at *
  generalize goneS (l.map (·.s)) tm = gone at *
  clear hl
  go_enter Tryz.func12, Tryz.ntmps12
  go_upto_region 1 with fail
  generalize (w.alloc (.cells #[.int .i64 0, .slice none 0 0, .slice none 0 0] 35)) = y0 at *
  have HSZ : Hid (w.heap.size + 1 ≤ y0.heap.size) := Lib.hid (Array.getElem?_eq_some_iff.1 HR.out).1
  by_cases t0 : lv < 1
  · have f0 : decide (lv < 1) = true := decide_eq_true t0
    have HE : Hid (RW = (noGr, 2)) := Lib.hid (by rw [HRW.out, if_pos (.inl t0)])
    clear t0
    go_wp2_with (refine wpList_store_row rfl 35 (.tmp 6) (.tmp 17) rfl w.heap.size #[.int .i64 0, .slice none 0 0, .slice none 0 0] rfl rfl 35 _ HR.out gr_size rfl (by simp [Value.oneCell']) ?_)
    refine bodyPost_ret (results_ge rfl rfl rfl (setRow_heap _ _ _ #[.int .i64 0, .slice none 0 0, .slice none 0 0] _ _ HR.out) rfl) rfl ?_
    rw [HE.out]
    exact ⟨_, rfl, GOwn.none _ _, below_setRow HB.out (Nat.le_refl _) _⟩
  · have f0 : decide (lv < 1) = false := decide_eq_false t0
    by_cases t1 : lv > 3
    · have f1 : decide (lv > 3) = true := decide_eq_true t1
      have f1' : decide (3 < lv) = true := f1
      have HE : Hid (RW = (noGr, 2)) := Lib.hid (by rw [HRW.out, if_pos (.inr t1)])
      clear t0 t1
      go_wp2_with (refine wpList_store_row rfl 35 (.tmp 6) (.tmp 17) rfl w.heap.size #[.int .i64 0, .slice none 0 0, .slice none 0 0] rfl rfl 35 _ HR.out gr_size rfl (by simp [Value.oneCell']) ?_)
      refine bodyPost_ret (results_ge rfl rfl rfl (setRow_heap _ _ _ #[.int .i64 0, .slice none 0 0, .slice none 0 0] _ _ HR.out) rfl) rfl ?_
      rw [HE.out]
      exact ⟨_, rfl, GOwn.none _ _, below_setRow HB.out (Nat.le_refl _) _⟩
    · have f1 : decide (lv > 3) = false := decide_eq_false t1
      have f1' : decide (3 < lv) = false := f1
      replace HRW : Hid (RW = if 500 < (upE all lv).length then (noGr, 3) else (⟨64, upE all lv, gone⟩, 0)) := Lib.hid (by rw [HRW.out, if_neg (by omega)])
      clear t0 t1
      go_wp2_with fail
      clear f0 f1 f1'
      refine (HGO.out y0 HB.out).mono ?_
      rintro e1 w1 ⟨Ag, cg, rfl, hg, hb⟩
      have HG1 := Lib.hid hg
      have HYS : Hid (w.heap.size + 1 ≤ y0.heap.size) := HSZ
      replace HR := Lib.hid ((hb.block _ (by have := HSZ.out; omega)).trans HR.out)
      replace HB := Lib.hid (HB.out.trans (hb.mono HB.out.size))
      replace HSZ : Hid (w.heap.size + 1 ≤ w1.heap.size) := Lib.hid (Nat.le_trans HSZ.out hb.size)
      clear hg hb HGO
      go_upto_region 4 with (refine wpList_store_new rfl 35 (.tmp 8) (.tmp 21) rfl 35 _ #[.int .i64 64, .slice none 0 0, .slice Ag gone.length cg] rfl rfl gr_size rfl (by simp [Value.oneCell']) ?_)
      have HO8 : Hid ((w1.alloc (.cells #[.int .i64 64, .slice none 0 0, .slice Ag gone.length cg] 35)).heap[w1.heap.size]? = some (.cells #[.int .i64 64, .slice none 0 0, .slice Ag gone.length cg] 35 (0, 0))) := Lib.hid (heap_alloc_new _ _)
      have hb := one_new w1 (.cells #[.int .i64 64, .slice none 0 0, .slice Ag gone.length cg] 35)
      have HBG : Hid (Below w1.heap.size w1 (w1.alloc (.cells #[.int .i64 64, .slice none 0 0, .slice Ag gone.length cg] 35))) := Lib.hid hb
      replace HR := Lib.hid ((hb.block _ (by have := HSZ.out; omega)).trans HR.out)
      replace HB := Lib.hid (HB.out.trans (hb.mono HB.out.size))
      clear hb
      obtain ⟨g8, hg8⟩ : ∃ g8, w1.heap.size = g8 := ⟨_, rfl⟩
      rw [hg8] at HO8 HBG ⊢
      have HG8 : Hid (w.heap.size + 1 ≤ g8) := Lib.hid (by rw [← hg8]; exact HSZ.out)
      have HGK : Hid (∀ y, Below g8 w1 y → y.ownsRow y0.heap.size 3 1 (.slice Ag gone.length cg) gone.length (intsV gone)) := Lib.hid fun y hy => own_later HG1.out (by rw [hg8]; exact hy)
      clear HG1 hg8
      generalize w1.alloc (.cells #[.int .i64 64, .slice none 0 0, .slice Ag gone.length cg] 35) = u0 at *
      dsimp only [Act.put]
      go_wp2_with fail
      refine (HAC.out u0 HB.out).mono ?_
      rintro e1 u1 ⟨A2, n2, c2, rfl, hv, hb⟩
      have hgs : g8 < u0.heap.size := (Array.getElem?_eq_some_iff.1 HO8.out).1
      have HV := Lib.hid hv
      have HLN : Hid (all.length = n2) := Lib.hid (VRow.len hv)
      have hn2 : n2 ≤ 100000 := by rw [← HLN.out]; exact HAL.out
      replace HBG := Lib.hid (HBG.out.trans (hb.mono (Nat.le_of_lt hgs)))
      replace HO8 := Lib.hid ((hb.block _ hgs).trans HO8.out)
      replace HR := Lib.hid ((hb.block _ (by have := HG8.out; omega)).trans HR.out)
      replace HB := Lib.hid (HB.out.trans (hb.mono HB.out.size))
      obtain ⟨n0, hn0⟩ : ∃ n0, u1.heap.size = n0 := ⟨_, rfl⟩
      have HN0 := Lib.hid hn0
      have HGN : Hid (g8 < n0) := Lib.hid (by rw [← hn0]; exact Nat.lt_of_lt_of_le hgs hb.size)
      have HVK : Hid (∀ y, Midst g8 n0 u1 y → VRow y A2 n2 c2 all) := Lib.hid fun y hy => Row.keep HV.out fun ad hA h1 hlt => hy.2 _ (by rw [← hn0]; exact hlt) (vrow_not HV.out HO8.out ad hA h1)
      clear hv hb hgs hn0 HAC HV HAL
      go_wp2_with fail
      go_upto_region 6 with fail
      go_loopw [10] (fun i wr => ∃ (j : Nat) (ve : Value), j ≤ n2 ∧ i = .int .i64 j ∧ Hid (wr.heap[g8]? = some (.cells #[.int .i64 64, ve, .slice Ag gone.length cg] 35 (0, 0)) ∧ wr.ownsRow n0 53 3 ve (upE (all.take j) lv).length (rowC Edg.cells (upE (all.take j) lv)) ∧ Midst g8 n0 u1 wr ∧ n0 ≤ wr.heap.size)) (fun i _ => n2 - (intOf i).toNat)
      case atStart => exact ⟨0, .slice none 0 0, Nat.zero_le _, rfl, Lib.hid ⟨HO8.out, World.ownsRow_nil _ _ _ _, Midst.refl _ _ _, Nat.le_of_eq HN0.out.symm⟩⟩
      case round =>
        clear HO8
        obtain ⟨j, ve, hj, rfl, HQ⟩ := hrel
        have HO := Lib.hid HQ.out.1; have HE := Lib.hid HQ.out.2.1; have HZ := Lib.hid HQ.out.2.2.1; have HN := Lib.hid HQ.out.2.2.2
        clear HQ
        by_cases hlt : j < n2
        · have hlt2 : (j : Int) < (n2 : Int) := by omega
          obtain ⟨b, off, hA, hc⟩ := GRow.cells Vou.len (by decide) (HVK.out wr HZ.out) noVou j hlt
          subst hA
          have HST := Lib.hid (upE_snoc all lv j (by rw [HLN.out]; exact hlt))
          have HUL : Hid ((upE (all.take j) lv).length ≤ 100000) := Lib.hid (Nat.le_trans (upE_len _ _) (by rw [List.length_take]; omega))
          obtain ⟨p, hp⟩ : ∃ p, all.getD j noVou = p := ⟨_, rfl⟩
          rw [hp] at hc HST
          have HP := Lib.hid hp
          have hc2 : wr.cell? ⟨b, off + j * 7 + 2, none⟩ = some (.int .i64 p.lv) := hc 2 (by decide)
          clear hc hp
          generalize upE (all.take j) lv = U at *
          by_cases hk : lv ≤ p.lv
          · have b0 : decide (p.lv ≥ lv) = true := decide_eq_true hk
            have b0' : decide (lv ≤ p.lv) = true := b0
            rw [if_pos hk] at HST
            clear hk
            go_upto_region 9 with fail
            clear b0 b0' hc2
            refine wp_region_flow (by kernel_rfl) (Midst g8 n0) ?_
            have HOD : Hid (wr.drew.heap[g8]? = some (.cells #[.int .i64 64, ve, .slice Ag gone.length cg] 35 (0, 0))) := Lib.hid HO.out
            have HED : Hid (wr.drew.ownsRow n0 53 3 ve U.length (rowC Edg.cells U)) := Lib.hid HE.out
            have HZD : Hid (Midst g8 n0 u1 wr.drew) := Lib.hid HZ.out.drew
            have HND : Hid (n0 ≤ wr.drew.heap.size) := Lib.hid HN.out
            clear HO HE HZ HN
            generalize wr.drew = z0 at *
            have hgn := HGN.out
            have hul := HUL.out
            have hfc : ∀ x i, i < 7 → (fut (Midst g8 n0) z0 x).cell? ⟨b, off + j * 7 + i, none⟩ = p.cells[i]? := fun x i hi => by
              obtain ⟨b2, off2, hA2, hc2⟩ := GRow.cells Vou.len (by decide) (HVK.out _ (HZD.out.trans (fut_ok (Midst.refl g8 n0) z0 x))) noVou j hlt
              injection hA2 with hA2
              injection hA2 with i1 i2
              subst i1 i2
              rw [HP.out] at hc2
              exact hc2 i hi
            have hf0 : ∀ x, (fut (Midst g8 n0) z0 x).cell? ⟨b, off + j * 7, none⟩ = some (.int .i64 p.fr) := fun x => hfc x 0 (by decide)
            have hf1 : ∀ x, (fut (Midst g8 n0) z0 x).cell? ⟨b, off + j * 7 + 1, none⟩ = some (.int .i64 p.tu) := fun x => hfc x 1 (by decide)
            have hf2 : ∀ x, (fut (Midst g8 n0) z0 x).cell? ⟨b, off + j * 7 + 2, none⟩ = some (.int .i64 p.lv) := fun x => hfc x 2 (by decide)
            clear hfc
            refine flow_reads (F := Midst g8 n0) (fun _ => Midst.refl _ _ _) (by kernel_rfl) [0, 2, 3, 4, 5, 6, 7, 8, 9, 10, 11, 12, 13, 14, 15, 16] (fuel := 6) (by kernel_rfl) ?_
            simp only [List.map_cons, List.map_nil, pick, List.getD_cons_zero, List.getD_cons_succ]
            repeat (go_big_quiet_step (fail))
            refine wpQuiet_nil ?_
            clear hf0 hf1 hf2
            refine flow_val (F := Midst g8 n0) (fun _ => Midst.refl _ _ _) (by kernel_rfl) 17 (by kernel_rfl) ?_
            simp only [pick, List.getD_cons_zero, List.getD_cons_succ]
            repeat (go_big_quiet_step (fail))
            refine wpQuiet_nil ?_
            refine flow_two (F := Midst g8 n0) (fun _ _ _ => Midst.trans) (fun _ => Midst.refl _ _ _) 1 18 (by kernel_rfl) (by decide) (by decide) ?_ ?_ <;> simp only [pick, List.getD_cons_zero, List.getD_cons_succ]
            · skip
              have hz1 : z0.cell? ⟨g8, 1, none⟩ = some ve := (cell_of_row _ _ 1 _ _ _ HOD.out).trans rfl
              go_wp2_with fail
              refine pieceEnd_normal ⟨Midst.refl _ _ _, ?_⟩
              clear hz1
              refine flow_one (F := Midst g8 n0) (fun _ _ _ => Midst.trans) (fun _ => Midst.refl _ _ _) 18 (by kernel_rfl) (by decide) ?_
              simp only [pick, List.getD_cons_zero, List.getD_cons_succ]
              go_wp2_with fail
              have hb : Below n0 z0 (z0.alloc (.cells #[.int .i64 p.fr, .int .i64 p.tu, .int .i64 p.lv] 53)) := (one_new z0 _).mono HND.out
              refine pieceEnd_normal ⟨Midst.of hb (Nat.le_of_lt hgn), ?_⟩
              have HR3 : Hid (Row (z0.alloc (.cells #[.int .i64 p.fr, .int .i64 p.tu, .int .i64 p.lv] 53)) (some ⟨z0.heap.size, 0, none⟩) 1 1 3 (rowC Edg.cells [edgeOf p])) := Lib.hid (Row.of_block (heap_alloc_new _ _) rfl)
              replace HED := Lib.hid (World.ownsRow.alloc HED.out (.cells #[.int .i64 p.fr, .int .i64 p.tu, .int .i64 p.lv] 53))
              replace HOD := Lib.hid ((hb.block g8 hgn).trans HOD.out)
              replace HZD := Lib.hid (HZD.out.trans (Midst.of hb (Nat.le_of_lt hgn)))
              replace HND := Lib.hid (Nat.le_trans HND.out hb.size)
              clear hb
              obtain ⟨g3, hg3⟩ : ∃ g3, z0.heap.size = g3 := ⟨_, rfl⟩
              rw [hg3] at HR3 ⊢
              clear hg3
              generalize z0.alloc (.cells #[.int .i64 p.fr, .int .i64 p.tu, .int .i64 p.lv] 53) = z1 at *
              refine flow_one (F := Midst g8 n0) (fun _ _ _ => Midst.trans) (fun _ => Midst.refl _ _ _) 19 (by kernel_rfl) (by decide) ?_
              simp only [pick, List.getD_cons_zero, List.getD_cons_succ]
              go_wp2_with (at_builtin; go_must (refine wpList_app2 z1 rfl (.tmp 39) (.tmp 56) 33 33 53 rfl n0 Tryz.underlying33 edg_info rfl _ U.length _ HED.out rfl _ 1 (rowC Edg.cells [edgeOf p]) (Row.src HR3.out Tryz.underlying33 (rowC_ones Edg.ones _)) rfl (by unfold maxLen; omega) (by omega) HND.out ?_); intro v4 z5 ho hb _ _; have HE5 := Lib.hid ho; have HF : Hid (Below n0 z1 z5) := Lib.hid hb; clear ho hb)
              refine pieceEnd_normal ⟨Midst.of HF.out (Nat.le_of_lt hgn), ?_⟩
              replace HOD := Lib.hid ((HF.out.block g8 hgn).trans HOD.out)
              replace HZD := Lib.hid (HZD.out.trans (Midst.of HF.out (Nat.le_of_lt hgn)))
              replace HND := Lib.hid (Nat.le_trans HND.out HF.out.size)
              clear HF HR3 HED
              refine flow_reads (F := Midst g8 n0) (fun _ => Midst.refl _ _ _) (by kernel_rfl) [20] (fuel := 1) (by kernel_rfl) ?_
              simp only [List.map_cons, List.map_nil, pick, List.getD_cons_zero, List.getD_cons_succ]
              repeat (go_big_quiet_step (fail))
              refine wpQuiet_nil ?_
              refine flow_one (F := Midst g8 n0) (fun _ _ _ => Midst.trans) (fun _ => Midst.refl _ _ _) 21 (by kernel_rfl) (by decide) ?_
              simp only [pick, List.getD_cons_zero, List.getD_cons_succ]
              have hz1 : z5.cell? ⟨g8, 1, none⟩ = some ve := (cell_of_row _ _ 1 _ _ _ HOD.out).trans rfl
              have hfz : z5.frozen? ⟨g8, 1, none⟩ = false := by unfold World.frozen?; rw [HOD.out]; simp
              obtain ⟨A6, c6, hv6, -⟩ := Row.of_own HE5.out
              subst hv6
              go_wp2_with fail
              have HF : Hid (Midst g8 n0 z5 (z5.setCell ⟨g8, 1, none⟩ (.slice A6 (U.length + 1) c6))) := Lib.hid (Midst.cell z5 1 (.slice A6 (U.length + 1) c6))
              refine pieceEnd_normal ⟨HF.out, ?_⟩
              refine flow_done (by kernel_rfl) ?_
              have HO9 : Hid ((z5.setCell ⟨g8, 1, none⟩ (.slice A6 (U.length + 1) c6)).heap[g8]? = some (.cells #[.int .i64 64, .slice A6 (U.length + 1) c6, .slice Ag gone.length cg] 35 (0, 0))) := Lib.hid (heap_setCell_same z5 g8 1 _ _ _ HOD.out)
              have HE9 := Lib.hid (own_keepL HE5.out fun q hq => Below.heap_setCell z5 ⟨g8, 1, none⟩ (.slice A6 (U.length + 1) c6) q (by have := own_ge HE5.out q hq; show q ≠ g8; omega))
              have HZ9 := Lib.hid (HZD.out.trans HF.out)
              have HN9 : Hid (n0 ≤ (z5.setCell ⟨g8, 1, none⟩ (.slice A6 (U.length + 1) c6)).heap.size) := Lib.hid (by rw [World.size_setCell]; exact HND.out)
              clear hz1 hfz HF HOD HE5 HZD HND
              generalize z5.setCell ⟨g8, 1, none⟩ (.slice A6 (U.length + 1) c6) = z6 at *
              go_wp2_with fail
              exact ⟨⟨j + 1, _, by omega, by go_num, Lib.hid ⟨HO9.out, by rw [HST.out, List.length_append, rowC_app]; exact HE9.out, HZ9.out, HN9.out⟩⟩, by simp [intOf]; omega⟩
            · skip
              go_wp2_with fail
              have hb : Below n0 z0 (z0.alloc (.cells #[.int .i64 p.fr, .int .i64 p.tu, .int .i64 p.lv] 53)) := (one_new z0 _).mono HND.out
              refine pieceEnd_normal ⟨Midst.of hb (Nat.le_of_lt hgn), ?_⟩
              have HR3 : Hid (Row (z0.alloc (.cells #[.int .i64 p.fr, .int .i64 p.tu, .int .i64 p.lv] 53)) (some ⟨z0.heap.size, 0, none⟩) 1 1 3 (rowC Edg.cells [edgeOf p])) := Lib.hid (Row.of_block (heap_alloc_new _ _) rfl)
              replace HED := Lib.hid (World.ownsRow.alloc HED.out (.cells #[.int .i64 p.fr, .int .i64 p.tu, .int .i64 p.lv] 53))
              replace HOD := Lib.hid ((hb.block g8 hgn).trans HOD.out)
              replace HZD := Lib.hid (HZD.out.trans (Midst.of hb (Nat.le_of_lt hgn)))
              replace HND := Lib.hid (Nat.le_trans HND.out hb.size)
              clear hb
              obtain ⟨g3, hg3⟩ : ∃ g3, z0.heap.size = g3 := ⟨_, rfl⟩
              rw [hg3] at HR3 ⊢
              clear hg3
              generalize z0.alloc (.cells #[.int .i64 p.fr, .int .i64 p.tu, .int .i64 p.lv] 53) = z1 at *
              refine flow_one (F := Midst g8 n0) (fun _ _ _ => Midst.trans) (fun _ => Midst.refl _ _ _) 1 (by kernel_rfl) (by decide) ?_
              simp only [pick, List.getD_cons_zero, List.getD_cons_succ]
              have hz1 : z1.cell? ⟨g8, 1, none⟩ = some ve := (cell_of_row _ _ 1 _ _ _ HOD.out).trans rfl
              go_wp2_with fail
              refine pieceEnd_normal ⟨Midst.refl _ _ _, ?_⟩
              clear hz1
              refine flow_one (F := Midst g8 n0) (fun _ _ _ => Midst.trans) (fun _ => Midst.refl _ _ _) 19 (by kernel_rfl) (by decide) ?_
              simp only [pick, List.getD_cons_zero, List.getD_cons_succ]
              go_wp2_with (at_builtin; go_must (refine wpList_app2 z1 rfl (.tmp 39) (.tmp 56) 33 33 53 rfl n0 Tryz.underlying33 edg_info rfl _ U.length _ HED.out rfl _ 1 (rowC Edg.cells [edgeOf p]) (Row.src HR3.out Tryz.underlying33 (rowC_ones Edg.ones _)) rfl (by unfold maxLen; omega) (by omega) HND.out ?_); intro v4 z5 ho hb _ _; have HE5 := Lib.hid ho; have HF : Hid (Below n0 z1 z5) := Lib.hid hb; clear ho hb)
              refine pieceEnd_normal ⟨Midst.of HF.out (Nat.le_of_lt hgn), ?_⟩
              replace HOD := Lib.hid ((HF.out.block g8 hgn).trans HOD.out)
              replace HZD := Lib.hid (HZD.out.trans (Midst.of HF.out (Nat.le_of_lt hgn)))
              replace HND := Lib.hid (Nat.le_trans HND.out HF.out.size)
              clear HF HR3 HED
              refine flow_reads (F := Midst g8 n0) (fun _ => Midst.refl _ _ _) (by kernel_rfl) [20] (fuel := 1) (by kernel_rfl) ?_
              simp only [List.map_cons, List.map_nil, pick, List.getD_cons_zero, List.getD_cons_succ]
              repeat (go_big_quiet_step (fail))
              refine wpQuiet_nil ?_
              refine flow_one (F := Midst g8 n0) (fun _ _ _ => Midst.trans) (fun _ => Midst.refl _ _ _) 21 (by kernel_rfl) (by decide) ?_
              simp only [pick, List.getD_cons_zero, List.getD_cons_succ]
              have hz1 : z5.cell? ⟨g8, 1, none⟩ = some ve := (cell_of_row _ _ 1 _ _ _ HOD.out).trans rfl
              have hfz : z5.frozen? ⟨g8, 1, none⟩ = false := by unfold World.frozen?; rw [HOD.out]; simp
              obtain ⟨A6, c6, hv6, -⟩ := Row.of_own HE5.out
              subst hv6
              go_wp2_with fail
              have HF : Hid (Midst g8 n0 z5 (z5.setCell ⟨g8, 1, none⟩ (.slice A6 (U.length + 1) c6))) := Lib.hid (Midst.cell z5 1 (.slice A6 (U.length + 1) c6))
              refine pieceEnd_normal ⟨HF.out, ?_⟩
              refine flow_done (by kernel_rfl) ?_
              have HO9 : Hid ((z5.setCell ⟨g8, 1, none⟩ (.slice A6 (U.length + 1) c6)).heap[g8]? = some (.cells #[.int .i64 64, .slice A6 (U.length + 1) c6, .slice Ag gone.length cg] 35 (0, 0))) := Lib.hid (heap_setCell_same z5 g8 1 _ _ _ HOD.out)
              have HE9 := Lib.hid (own_keepL HE5.out fun q hq => Below.heap_setCell z5 ⟨g8, 1, none⟩ (.slice A6 (U.length + 1) c6) q (by have := own_ge HE5.out q hq; show q ≠ g8; omega))
              have HZ9 := Lib.hid (HZD.out.trans HF.out)
              have HN9 : Hid (n0 ≤ (z5.setCell ⟨g8, 1, none⟩ (.slice A6 (U.length + 1) c6)).heap.size) := Lib.hid (by rw [World.size_setCell]; exact HND.out)
              clear hz1 hfz HF HOD HE5 HZD HND
              generalize z5.setCell ⟨g8, 1, none⟩ (.slice A6 (U.length + 1) c6) = z6 at *
              go_wp2_with fail
              exact ⟨⟨j + 1, _, by omega, by go_num, Lib.hid ⟨HO9.out, by rw [HST.out, List.length_append, rowC_app]; exact HE9.out, HZ9.out, HN9.out⟩⟩, by simp [intOf]; omega⟩
          · have b0 : decide (p.lv ≥ lv) = false := decide_eq_false hk
            have b0' : decide (lv ≤ p.lv) = false := b0
            rw [if_neg hk, List.append_nil] at HST
            clear hk
            go_wp2_with fail
            exact ⟨⟨j + 1, ve, by omega, by go_num, Lib.hid (by rw [HST.out]; exact ⟨HO.out, HE.out, HZ.out, HN.out⟩)⟩, by simp [intOf]; omega⟩
        · have hlt2 : ¬ (j : Int) < (n2 : Int) := by omega
          have HT : Hid (upE (all.take j) lv = upE all lv) := Lib.hid (by rw [List.take_of_length_le (by rw [HLN.out]; omega)])
          rw [HT.out] at HE
          clear HT
          have hgg := HG8.out
          have HRR : Hid (wr.heap[w.heap.size]? = some (.cells #[.int .i64 0, .slice none 0 0, .slice none 0 0] 35 (0, 0))) := Lib.hid ((HZ.out.1.block _ (by omega)).trans HR.out)
          have HBW : Hid (Below w.heap.size w wr) := Lib.hid (HB.out.trans (HZ.out.1.mono (by omega)))
          have HGR := Lib.hid (HGK.out wr (HBG.out.trans HZ.out.1))
          obtain ⟨A6, c6, hv6, -⟩ := Row.of_own HE.out
          subst hv6
          have hc1 : wr.cell? ⟨g8, 1, none⟩ = some (.slice A6 (upE all lv).length c6) := (cell_of_row _ _ 1 _ _ _ HO.out).trans rfl
          by_cases hk : 500 < (upE all lv).length
          · have b0 : decide (((upE all lv).length : Int) > 500) = true := decide_eq_true (by omega)
            have b0' : decide ((500 : Int) < ((upE all lv).length : Int)) = true := b0
            have HX : Hid (RW = (noGr, 3)) := Lib.hid (by rw [HRW.out, if_pos hk])
            clear hk
            go_wp2_with (refine wpList_store_row rfl 35 (.tmp 6) (.tmp 63) rfl w.heap.size #[.int .i64 0, .slice none 0 0, .slice none 0 0] rfl rfl 35 _ HRR.out gr_size rfl (by simp [Value.oneCell']) ?_)
            refine bodyPost_ret (results_ge rfl rfl rfl (setRow_heap _ _ _ #[.int .i64 0, .slice none 0 0, .slice none 0 0] _ _ HRR.out) rfl) rfl ?_
            rw [HX.out]
            exact ⟨_, rfl, GOwn.none _ _, below_setRow HBW.out (Nat.le_refl _) _⟩
          · have b0 : decide (((upE all lv).length : Int) > 500) = false := decide_eq_false (by omega)
            have b0' : decide ((500 : Int) < ((upE all lv).length : Int)) = false := b0
            have HX : Hid (RW = (⟨64, upE all lv, gone⟩, 0)) := Lib.hid (by rw [HRW.out, if_neg hk])
            clear hk
            go_wp2_with (first | (refine wpList_load_row rfl 35 (.tmp 8) rfl g8 rfl 35 #[.int .i64 64, .slice A6 (upE all lv).length c6, .slice Ag gone.length cg] (0, 0) _ HO.out Tryz.underlying35 rfl gr_size ?_) | (refine wpList_store_row rfl 35 (.tmp 6) (.tmp 64) rfl w.heap.size #[.int .i64 64, .slice A6 (upE all lv).length c6, .slice Ag gone.length cg] rfl rfl 35 _ HRR.out gr_size rfl (by simp [Value.oneCell']) ?_))
            refine bodyPost_ret (results_ge rfl rfl rfl (setRow_heap _ _ _ #[.int .i64 64, .slice A6 (upE all lv).length c6, .slice Ag gone.length cg] _ _ HRR.out) rfl) rfl ?_
            rw [HX.out]
            refine ⟨_, rfl, ?_, below_setRow HBW.out (Nat.le_refl _) _⟩
            have hys := HYS.out
            have hgn := HGN.out
            refine ⟨_, _, rfl, ?_, ?_⟩
            · exact own_base (own_keepL HE.out fun q hq => setRow_other _ _ _ _ (by have := own_ge HE.out q hq; omega)) (by omega)
            · exact own_base (own_keepL HGR.out fun q hq => setRow_other _ _ _ _ (by have := own_ge HGR.out q hq; omega)) (by omega)
end Go.Proofs.YtnmpbjgccbnomaaGreat
