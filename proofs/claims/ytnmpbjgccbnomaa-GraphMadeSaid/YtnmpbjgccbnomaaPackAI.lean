import Derived.Test.YtnmpbjgccbnomaaPackAG
import Derived.Test.YtnmpbjgccbnomaaPackAH
import Derived.Test.YtnmpbjgccbnomaaPackAB
/- The walk of graph's With. -/
namespace Go.Proofs.Ytnmpbjgccbnomaa
open Go.RowKit
/-- Below B nothing but block D turns. -/
structure ButB (D B : Nat) (w w' : World) : Prop where
  block : ∀ k, k < B → k ≠ D → w'.heap[k]? = w.heap[k]?
theorem ButB.refl (D B : Nat) (w : World) : ButB D B w w := ⟨fun _ _ _ => rfl⟩
theorem ButB.trans {D B : Nat} {a b c : World} (h : ButB D B a b) (k : ButB D B b c) : ButB D B a c := ⟨fun q hq hd => (k.block q hq hd).trans (h.block q hq hd)⟩
theorem ButB.of {D B B' : Nat} {w w' : World} (h : Below B' w w') (hB : B ≤ B') : ButB D B w w' := ⟨fun q hq _ => h.block q (Nat.lt_of_lt_of_le hq hB)⟩
set_option maxRecDepth 100000 in
set_option maxHeartbeats 4000000 in
theorem withGr_any (G : Gr) (v : Value) (e : Edg) (w : World) (h : GHold w G v) (he : G.es.length ≤ 100000) (hg : G.gn.length ≤ 100000) : Calls Try.prog 25 #[v, .agg e.arr] w (GivesGE w (withG G e)) := by
  have HGH := Lib.hid h
  obtain ⟨A, n, c, B, m, k, rfl, h1, h2⟩ := h
  have hn : n ≤ 100000 := by rw [← ERow.len h1]; exact he
  have hm : m ≤ 100000 := by rw [← h2.len]; exact hg
  have HL1 : Hid (G.es.length = n) := Lib.hid (ERow.len h1)
  have HB : Hid (Below w.heap.size w (((w.alloc (.cells #[.int .i64 G.sz, .slice A n c, .slice B m k] 25)).alloc (.cells e.arr 27)).alloc (.cells #[.int .i64 0, .slice none 0 0, .slice none 0 0] 25))) := Lib.hid (((one_new w _).trans ((one_new _ _).mono (by simp))).trans ((one_new _ _).mono (by simp; omega)))
  have HX : Hid ((((w.alloc (.cells #[.int .i64 G.sz, .slice A n c, .slice B m k] 25)).alloc (.cells e.arr 27)).alloc (.cells #[.int .i64 0, .slice none 0 0, .slice none 0 0] 25)).heap[w.heap.size]? = some (.cells #[.int .i64 G.sz, .slice A n c, .slice B m k] 25 (0, 0))) := Lib.hid ((Below.heap_alloc _ _ _ (by simp; omega)).trans ((Below.heap_alloc _ _ _ (by simp)).trans (heap_alloc_new _ _)))
  have HY : Hid ((((w.alloc (.cells #[.int .i64 G.sz, .slice A n c, .slice B m k] 25)).alloc (.cells e.arr 27)).alloc (.cells #[.int .i64 0, .slice none 0 0, .slice none 0 0] 25)).heap[w.heap.size + 1]? = some (.cells e.arr 27 (0, 0))) := Lib.hid ((Below.heap_alloc _ _ _ (by simp)).trans (heap_alloc2_new _ _ _))
  have HR : Hid ((((w.alloc (.cells #[.int .i64 G.sz, .slice A n c, .slice B m k] 25)).alloc (.cells e.arr 27)).alloc (.cells #[.int .i64 0, .slice none 0 0, .slice none 0 0] 25)).heap[w.heap.size + 2]? = some (.cells #[.int .i64 0, .slice none 0 0, .slice none 0 0] 25 (0, 0))) := Lib.hid (by
    have h := heap_alloc_new ((w.alloc (.cells #[.int .i64 G.sz, .slice A n c, .slice B m k] 25)).alloc (.cells e.arr 27)) (.cells #[.int .i64 0, .slice none 0 0, .slice none 0 0] 25)
    rw [show ((w.alloc (.cells #[.int .i64 G.sz, .slice A n c, .slice B m k] 25)).alloc (.cells e.arr 27)).heap.size = w.heap.size + 2 by simp] at h
    exact h)
  have H2 := Lib.hid h2
  have HCK : Hid (∀ y, Below w.heap.size w y → Calls Try.prog 27 #[.agg #[.int .i64 G.sz, .slice A n c, .slice B m k]] y (SaysL (.int .i64 (checkG G)) y)) := Lib.hid fun y hy => checkGr_any G _ y (HGH.out.later hy) he hg
  have HIX : Hid (okG G = true → ∀ y, Below w.heap.size w y → Calls Try.prog 39 #[.slice A n c, .agg e.arr, .func (.func 40) #[] #[]] y (SaysL (.tuple #[.int .i64 (idxE e G.es : Nat), .bool (thereE e G.es)]) y)) := Lib.hid fun hk y hy => bsearchEd_any A n c G.es e y (GRow.later h1 hy) (by omega) ((okG_iff G).1 hk).asc
  have HJN : Hid (∀ y, Below w.heap.size w y → Calls Try.prog 41 #[.agg #[.int .i64 G.sz, .slice A n c, .slice B m k], .agg e.arr] y (SaysL (.bool (endsB G.sz e && freeB G.gn e)) y)) := Lib.hid fun y hy => joinsGr_any G A n c B m k e y (h2.later hy) hm
  have HCL : Hid (∀ y, Below w.heap.size w y → Calls Try.prog 36 #[.slice A n c] y fun e w' => ∃ v, e = .returned v ∧ w'.ownsRow y.heap.size 27 3 v G.es.length (rowC Edg.cells G.es) ∧ Below y.heap.size y w') := Lib.hid fun y h => cloneEd_any A n c G.es y (GRow.later h1 h) hn
  have HRW : Hid (withG G e = if okG G = false then (noGr, 14) else if (endsB G.sz e && freeB G.gn e) = false then (noGr, 4) else if levB e = false then (noGr, 2) else if thereE e G.es then (noGr, 19) else if G.es.length = 500 then (noGr, 3) else (⟨G.sz, G.es.take (idxE e G.es) ++ e :: G.es.drop (idxE e G.es), G.gn⟩, 0)) := Lib.hid (by
    unfold withG
    split
    · rfl
    · cases endsB G.sz e
      · rfl
      · cases freeB G.gn e <;> rfl)
  have HKN : Hid (idxE e G.es ≤ n) := Lib.hid (by rw [← HL1.out]; exact idxE_le e G.es)
  have HCG : Hid (checkG G = if okG G then 0 else 14) := Lib.hid rfl
  have HLB : Hid (levB e = (decide (1 ≤ e.lv) && decide (e.lv ≤ 3))) := Lib.hid rfl
  generalize withG G e = RW at *
  generalize checkG G = CG at *
  generalize (endsB G.sz e && freeB G.gn e) = jn at *
  generalize levB e = lb at *
  clear h1 h2 he hg HGH
  go_enter Try.func25, Try.ntmps25
  go_upto_region 1 with fail
  generalize (((w.alloc (.cells #[.int .i64 G.sz, .slice A n c, .slice B m k] 25)).alloc (.cells e.arr 27)).alloc (.cells #[.int .i64 0, .slice none 0 0, .slice none 0 0] 25)) = y0 at *
  have HSZ : Hid (w.heap.size + 3 ≤ y0.heap.size) := Lib.hid (Array.getElem?_eq_some_iff.1 HR.out).1
  go_wp2_with (refine wpList_load_row rfl 25 (.tmp 2) rfl w.heap.size rfl 25 #[.int .i64 G.sz, .slice A n c, .slice B m k] (0, 0) _ HX.out Try.underlying25 rfl gr_size ?_)
  refine (HCK.out y0 HB.out).mono ?_
  rintro e1 w1 ⟨rfl, hb⟩
  have hs3 : w.heap.size + 3 ≤ y0.heap.size := HSZ.out
  replace HX := Lib.hid ((hb.block _ (by omega)).trans HX.out); replace HY := Lib.hid ((hb.block _ (by omega)).trans HY.out); replace HR := Lib.hid ((hb.block _ (by omega)).trans HR.out)
  replace HB := Lib.hid (HB.out.trans (hb.mono HB.out.size))
  replace HSZ : Hid (w.heap.size + 3 ≤ w1.heap.size) := Lib.hid (Nat.le_trans hs3 hb.size)
  clear hb HCK hs3
  cases hok : okG G
  · rw [hok] at HCG HRW
    have HCE : Hid (CG = 14) := Lib.hid HCG.out
    rw [HCE.out]
    have HE : Hid (RW = (noGr, 14)) := Lib.hid (by rw [HRW.out]; rfl)
    clear HCE hok HIX
    go_wp2_with (refine wpList_store_row rfl 25 (.tmp 4) (.tmp 13) rfl (w.heap.size + 2) #[.int .i64 0, .slice none 0 0, .slice none 0 0] rfl rfl 25 _ HR.out gr_size rfl (by simp [Value.oneCell']) ?_)
    refine bodyPost_ret (results_ge rfl rfl rfl (setRow_heap _ _ _ #[.int .i64 0, .slice none 0 0, .slice none 0 0] _ _ HR.out) rfl) rfl ?_
    rw [HE.out]
    exact ⟨_, rfl, (GOwn.none _ 0).hold, below_setRow HB.out (by omega) _⟩
  · rw [hok] at HCG HRW
    have HCE : Hid (CG = 0) := Lib.hid HCG.out
    rw [HCE.out]
    replace HRW : Hid (RW = if jn = false then (noGr, 4) else if lb = false then (noGr, 2) else if thereE e G.es then (noGr, 19) else if G.es.length = 500 then (noGr, 3) else (⟨G.sz, G.es.take (idxE e G.es) ++ e :: G.es.drop (idxE e G.es), G.gn⟩, 0)) := Lib.hid (by rw [HRW.out]; rfl)
    replace HIX := Lib.hid (HIX.out hok)
    clear HCE HCG hok CG
    generalize idxE e G.es = K at *
    generalize thereE e G.es = th at *
    have hc1 : w1.cell? ⟨w.heap.size, 1, none⟩ = some (.slice A n c) := (cell_of_row _ _ 1 _ _ _ HX.out).trans rfl
    go_wp2_with (refine wpList_load_row rfl 27 (.tmp 3) rfl (w.heap.size + 1) rfl 27 e.arr (0, 0) _ HY.out Try.underlying27 rfl e.info ?_)
    clear hc1
    refine (HIX.out w1 HB.out).mono ?_
    rintro e1 w2 ⟨rfl, hb⟩
    have hs3 : w.heap.size + 3 ≤ w1.heap.size := HSZ.out
    replace HX := Lib.hid ((hb.block _ (by omega)).trans HX.out); replace HY := Lib.hid ((hb.block _ (by omega)).trans HY.out); replace HR := Lib.hid ((hb.block _ (by omega)).trans HR.out)
    replace HB := Lib.hid (HB.out.trans (hb.mono HB.out.size))
    replace HSZ : Hid (w.heap.size + 3 ≤ w2.heap.size) := Lib.hid (Nat.le_trans hs3 hb.size)
    clear hb HIX hs3
    go_wp2_with (first | (refine wpList_load_row rfl 25 (.tmp 2) rfl w.heap.size rfl 25 #[.int .i64 G.sz, .slice A n c, .slice B m k] (0, 0) _ HX.out Try.underlying25 rfl gr_size ?_) | (refine wpList_load_row rfl 27 (.tmp 3) rfl (w.heap.size + 1) rfl 27 e.arr (0, 0) _ HY.out Try.underlying27 rfl e.info ?_))
    refine (HJN.out w2 HB.out).mono ?_
    rintro e1 w3 ⟨rfl, hb⟩
    have hs3 : w.heap.size + 3 ≤ w2.heap.size := HSZ.out
    replace HX := Lib.hid ((hb.block _ (by omega)).trans HX.out); replace HY := Lib.hid ((hb.block _ (by omega)).trans HY.out); replace HR := Lib.hid ((hb.block _ (by omega)).trans HR.out)
    replace HB := Lib.hid (HB.out.trans (hb.mono HB.out.size))
    replace HSZ : Hid (w.heap.size + 3 ≤ w3.heap.size) := Lib.hid (Nat.le_trans hs3 hb.size)
    clear hb HJN hs3
    cases jn
    · have HE : Hid (RW = (noGr, 4)) := Lib.hid HRW.out
      go_wp2_with (refine wpList_store_row rfl 25 (.tmp 4) (.tmp 27) rfl (w.heap.size + 2) #[.int .i64 0, .slice none 0 0, .slice none 0 0] rfl rfl 25 _ HR.out gr_size rfl (by simp [Value.oneCell']) ?_)
      refine bodyPost_ret (results_ge rfl rfl rfl (setRow_heap _ _ _ #[.int .i64 0, .slice none 0 0, .slice none 0 0] _ _ HR.out) rfl) rfl ?_
      rw [HE.out]
      exact ⟨_, rfl, (GOwn.none _ 0).hold, below_setRow HB.out (by omega) _⟩
    · replace HRW : Hid (RW = if lb = false then (noGr, 2) else if th then (noGr, 19) else if G.es.length = 500 then (noGr, 3) else (⟨G.sz, G.es.take K ++ e :: G.es.drop K, G.gn⟩, 0)) := Lib.hid HRW.out
      obtain ⟨-, -, hy2⟩ := edg_cells HY.out
      go_wp2_with fail
      clear hy2
      refine (levGr_any e.lv w3).mono ?_
      rintro e1 w4 ⟨rfl, rfl⟩
      rw [← HLB.out]
      clear HLB
      cases lb
      · have HE : Hid (RW = (noGr, 2)) := Lib.hid HRW.out
        go_wp2_with (refine wpList_store_row rfl 25 (.tmp 4) (.tmp 33) rfl (w.heap.size + 2) #[.int .i64 0, .slice none 0 0, .slice none 0 0] rfl rfl 25 _ HR.out gr_size rfl (by simp [Value.oneCell']) ?_)
        refine bodyPost_ret (results_ge rfl rfl rfl (setRow_heap _ _ _ #[.int .i64 0, .slice none 0 0, .slice none 0 0] _ _ HR.out) rfl) rfl ?_
        rw [HE.out]
        exact ⟨_, rfl, (GOwn.none _ 0).hold, below_setRow HB.out (by omega) _⟩
      · replace HRW : Hid (RW = if th then (noGr, 19) else if G.es.length = 500 then (noGr, 3) else (⟨G.sz, G.es.take K ++ e :: G.es.drop K, G.gn⟩, 0)) := Lib.hid HRW.out
        cases th
        · replace HRW : Hid (RW = if n = 500 then (noGr, 3) else (⟨G.sz, G.es.take K ++ e :: G.es.drop K, G.gn⟩, 0)) := Lib.hid (by rw [HRW.out, HL1.out]; rfl)
          have hc1 : w4.cell? ⟨w.heap.size, 1, none⟩ = some (.slice A n c) := (cell_of_row _ _ 1 _ _ _ HX.out).trans rfl
          by_cases h5 : n = 500
          · have b0 : ((n : Int) == 500) = true := by rw [h5]; rfl
            have HE : Hid (RW = (noGr, 3)) := Lib.hid (by rw [HRW.out, if_pos h5])
            clear h5
            go_wp2_with (refine wpList_store_row rfl 25 (.tmp 4) (.tmp 42) rfl (w.heap.size + 2) #[.int .i64 0, .slice none 0 0, .slice none 0 0] rfl rfl 25 _ HR.out gr_size rfl (by simp [Value.oneCell']) ?_)
            refine bodyPost_ret (results_ge rfl rfl rfl (setRow_heap _ _ _ #[.int .i64 0, .slice none 0 0, .slice none 0 0] _ _ HR.out) rfl) rfl ?_
            rw [HE.out]
            exact ⟨_, rfl, (GOwn.none _ 0).hold, below_setRow HB.out (by omega) _⟩
          · have b0 : ((n : Int) == 500) = false := beq_eq_false_iff_ne.2 (by omega)
            have HE : Hid (RW = (⟨G.sz, G.es.take K ++ e :: G.es.drop K, G.gn⟩, 0)) := Lib.hid (by rw [HRW.out, if_neg h5])
            clear h5 HRW
            obtain ⟨D, hD⟩ : ∃ D, G.es.take K ++ e :: G.es.drop K = D := ⟨_, rfl⟩
            rw [hD] at HE
            have HDD := Lib.hid hD
            clear hD
            go_upto_region 13 with fail
            clear b0 hc1
            generalize w4 = w40 at *
            refine wp_region_flow (by kernel_rfl) (ButB w.heap.size (w.heap.size + 3)) ?_
            have hb : Below w40.heap.size w40 w40.drew := (Below.refl _ _).drew
            have hs3 : w.heap.size + 3 ≤ w40.heap.size := HSZ.out
            replace HX := Lib.hid ((hb.block _ (by omega)).trans HX.out); replace HY := Lib.hid ((hb.block _ (by omega)).trans HY.out); replace HR := Lib.hid ((hb.block _ (by omega)).trans HR.out)
            replace HB := Lib.hid (HB.out.trans (hb.mono HB.out.size))
            replace HSZ : Hid (w.heap.size + 3 ≤ w40.drew.heap.size) := Lib.hid (Nat.le_trans hs3 hb.size)
            clear hb hs3
            generalize w40.drew = z0 at *
            have hl2 : ∀ x, (loadVar 27 ⟨w.heap.size + 1, 0, none⟩).run Try.prog (fut (ButB w.heap.size (w.heap.size + 3)) z0 x) = .ok (.agg e.arr) (fut (ButB w.heap.size (w.heap.size + 3)) z0 x) := fun x => run_loadVar_row _ (w.heap.size + 1) 27 27 e.arr (0, 0) _ (((fut_ok (ButB.refl _ _) z0 x).block _ (by omega) (by omega)).trans HY.out) Try.underlying27 rfl e.info
            refine flow_reads (F := ButB w.heap.size (w.heap.size + 3)) (ButB.refl _ _) (by kernel_rfl) [0, 3, 4] (fuel := 6) (by kernel_rfl) ?_
            simp only [List.map_cons, List.map_nil, pick, List.getD_cons_zero, List.getD_cons_succ]
            repeat (first | (refine wpQuiet_load rfl 27 (.tmp 3) rfl ⟨w.heap.size + 1, 0, none⟩ rfl (.agg e.arr) (fun w' h => by obtain ⟨x, rfl⟩ := h; exact hl2 x) ?_; simp only [Act.put, List.setIfInBounds_toArray, List.set_cons_succ, List.set_cons_zero]) | go_big_quiet_step (fail))
            refine wpQuiet_nil ?_
            clear hl2
            refine flow_two (F := ButB w.heap.size (w.heap.size + 3)) (fun _ _ _ => ButB.trans) (ButB.refl _ _) 1 5 (by kernel_rfl) (by decide) (by decide) ?_ ?_ <;> simp only [pick, List.getD_cons_zero, List.getD_cons_succ]
            · skip
              have hc1 : z0.cell? ⟨w.heap.size, 1, none⟩ = some (.slice A n c) := (cell_of_row _ _ 1 _ _ _ HX.out).trans rfl
              go_wp2_with fail
              refine pieceEnd_normal ⟨ButB.refl _ _ _, ?_⟩
              clear hc1
              refine flow_two (F := ButB w.heap.size (w.heap.size + 3)) (fun _ _ _ => ButB.trans) (ButB.refl _ _) 2 5 (by kernel_rfl) (by decide) (by decide) ?_ ?_ <;> simp only [pick, List.getD_cons_zero, List.getD_cons_succ]
              · skip
                go_wp2_with fail
                refine (HCL.out z0 HB.out).mono ?_
                rintro e1 z1 ⟨v1, rfl, ho, hb⟩
                have HF : Hid (ButB w.heap.size (w.heap.size + 3) z0 z1) := Lib.hid (ButB.of hb HSZ.out)
                have HO := Lib.hid ho
                have HV1 : Hid (w.heap.size + 3 ≤ z0.heap.size ∧ z0.heap.size ≤ z1.heap.size) := Lib.hid ⟨HSZ.out, hb.size⟩
                have hs3 : w.heap.size + 3 ≤ z0.heap.size := HSZ.out
                replace HX := Lib.hid ((hb.block _ (by omega)).trans HX.out); replace HY := Lib.hid ((hb.block _ (by omega)).trans HY.out); replace HR := Lib.hid ((hb.block _ (by omega)).trans HR.out)
                replace HB := Lib.hid (HB.out.trans (hb.mono HB.out.size))
                replace HSZ : Hid (w.heap.size + 3 ≤ z1.heap.size) := Lib.hid (Nat.le_trans hs3 hb.size)
                clear hb ho hs3
                obtain ⟨Av, cv, hvv, -⟩ := Row.of_own HO.out
                subst hvv
                go_wp2_with fail
                refine pieceEnd_normal ⟨HF.out, ?_⟩
                clear HF
                obtain ⟨Bv, hBv⟩ : ∃ Bv, z0.heap.size = Bv := ⟨_, rfl⟩
                rw [hBv] at HO HV1
                clear hBv
                refine flow_one (F := ButB w.heap.size (w.heap.size + 3)) (fun _ _ _ => ButB.trans) (ButB.refl _ _) 5 (by kernel_rfl) (by decide) ?_
                simp only [pick, List.getD_cons_zero, List.getD_cons_succ]
                have hvs : e.arr.size = 3 := rfl
                go_wp2_with fail
                clear hvs
                (first | rw [fold3n] | rw [fold3])
                have hb : Below z1.heap.size z1 (z1.alloc (.cells e.arr 27)) := one_new z1 _
                refine pieceEnd_normal ⟨ButB.of hb HSZ.out, ?_⟩
                have HH : Hid ((z1.alloc (.cells e.arr 27)).heap[z1.heap.size]? = some (.cells e.arr 27 (0, 0))) := Lib.hid (heap_alloc_new _ _)
                have HNE : Hid (∀ g, (Value.slice Av G.es.length cv).ownBlock = some g → g ≠ z1.heap.size) := Lib.hid fun g hg => Nat.ne_of_lt (own_lt HO.out g hg)
                replace HO := Lib.hid (own_later HO.out hb)
                replace HV1 : Hid (w.heap.size + 3 ≤ Bv ∧ Bv ≤ (z1.alloc (.cells e.arr 27)).heap.size) := Lib.hid ⟨HV1.out.1, Nat.le_trans HV1.out.2 hb.size⟩
                have hs3 : w.heap.size + 3 ≤ z1.heap.size := HSZ.out
                replace HX := Lib.hid ((hb.block _ (by omega)).trans HX.out); replace HY := Lib.hid ((hb.block _ (by omega)).trans HY.out); replace HR := Lib.hid ((hb.block _ (by omega)).trans HR.out)
                replace HB := Lib.hid (HB.out.trans (hb.mono HB.out.size))
                replace HSZ : Hid (w.heap.size + 3 ≤ (z1.alloc (.cells e.arr 27)).heap.size) := Lib.hid (Nat.le_trans hs3 hb.size)
                clear hb hs3
                obtain ⟨h9, hh9⟩ : ∃ h9, z1.heap.size = h9 := ⟨_, rfl⟩
                rw [hh9] at HH HNE ⊢
                clear hh9
                generalize z1.alloc (.cells e.arr 27) = z2 at *
                refine flow_one (F := ButB w.heap.size (w.heap.size + 3)) (fun _ _ _ => ButB.trans) (ButB.refl _ _) 6 (by kernel_rfl) (by decide) ?_
                simp only [pick, List.getD_cons_zero, List.getD_cons_succ]
                have HIN := Lib.hid (insertEd_any Bv (.slice Av G.es.length cv) n K h9 G.es e z2 (by have h1 := HO.out; rw [HL1.out] at h1 ⊢; exact h1) HV1.out.2 HKN.out hn HH.out (fun g hg => HNE.out g hg))
                rw [HDD.out] at HIN
                go_wp2_with fail
                refine HIN.out.mono ?_
                rintro e1 z8 ⟨v2, rfl, ho, hb⟩
                obtain ⟨A2, c2, hv2, -⟩ := Row.of_own ho
                subst hv2
                have HO2 := Lib.hid ho
                have HV2 := HV1.out
                have hs3 : w.heap.size + 3 ≤ z2.heap.size := HSZ.out
                have HF : Hid (ButB w.heap.size (w.heap.size + 3) z2 z8) := Lib.hid (ButB.of hb HV1.out.1)
                replace HX := Lib.hid ((hb.block _ (by omega)).trans HX.out); replace HR := Lib.hid ((hb.block _ (by omega)).trans HR.out)
                replace HB := Lib.hid (HB.out.trans (hb.mono (by omega)))
                clear hb ho hs3
                go_wp2_with fail
                refine pieceEnd_normal ⟨HF.out, ?_⟩
                clear HF HIN
                refine flow_reads (F := ButB w.heap.size (w.heap.size + 3)) (ButB.refl _ _) (by kernel_rfl) [7] (fuel := 1) (by kernel_rfl) ?_
                simp only [List.map_cons, List.map_nil, pick, List.getD_cons_zero, List.getD_cons_succ]
                repeat (go_big_quiet_step (fail))
                refine wpQuiet_nil ?_
                refine flow_one (F := ButB w.heap.size (w.heap.size + 3)) (fun _ _ _ => ButB.trans) (ButB.refl _ _) 8 (by kernel_rfl) (by decide) ?_
                simp only [pick, List.getD_cons_zero, List.getD_cons_succ]
                have hc1 : z8.cell? ⟨w.heap.size, 1, none⟩ = some (.slice A n c) := (cell_of_row _ _ 1 _ _ _ HX.out).trans rfl
                have hfz : z8.frozen? ⟨w.heap.size, 1, none⟩ = false := by unfold World.frozen?; rw [HX.out]; simp
                go_wp2_with fail
                refine pieceEnd_normal ⟨⟨fun q _ hq => Below.heap_setCell z8 ⟨w.heap.size, 1, none⟩ _ q hq⟩, ?_⟩
                refine flow_done (by kernel_rfl) ?_
                clear hc1 hfz
                have HX3 : Hid ((z8.setCell ⟨w.heap.size, 1, none⟩ (.slice A2 D.length c2)).heap[w.heap.size]? = some (.cells #[.int .i64 G.sz, .slice A2 D.length c2, .slice B m k] 25 (0, 0))) := Lib.hid (heap_setCell_same z8 w.heap.size 1 _ _ _ HX.out)
                have HKC : Hid (∀ q, q ≠ w.heap.size → (z8.setCell ⟨w.heap.size, 1, none⟩ (.slice A2 D.length c2)).heap[q]? = z8.heap[q]?) := Lib.hid fun q hq => Below.heap_setCell z8 ⟨w.heap.size, 1, none⟩ _ q hq
                have HB3 : Hid (Below w.heap.size w (z8.setCell ⟨w.heap.size, 1, none⟩ (.slice A2 D.length c2))) := Lib.hid (HB.out.setCell (p := ⟨w.heap.size, 1, none⟩) (Nat.le_refl _) _)
                have HR3 := Lib.hid ((HKC.out (w.heap.size + 2) (by omega)).trans HR.out)
                have HO3 := Lib.hid (own_keepL HO2.out fun q hq => HKC.out q (by have := own_ge HO2.out q hq; omega))
                clear HKC HX HR HO2 HB
                generalize z8.setCell ⟨w.heap.size, 1, none⟩ (.slice A2 D.length c2) = w5 at *
                go_wp2_with (first | (refine wpList_load_row rfl 25 (.tmp 2) rfl w.heap.size rfl 25 #[.int .i64 G.sz, .slice A2 D.length c2, .slice B m k] (0, 0) _ HX3.out Try.underlying25 rfl gr_size ?_) | (refine wpList_store_row rfl 25 (.tmp 4) (.tmp 51) rfl (w.heap.size + 2) #[.int .i64 G.sz, .slice A2 D.length c2, .slice B m k] rfl rfl 25 _ HR3.out gr_size rfl (by simp [Value.oneCell']) ?_))
                refine bodyPost_ret (results_ge rfl rfl rfl (setRow_heap _ _ _ #[.int .i64 G.sz, .slice A2 D.length c2, .slice B m k] _ _ HR3.out) rfl) rfl ?_
                have hbf : Below w.heap.size w (w5.setRow (w.heap.size + 2) #[.int .i64 G.sz, .slice A2 D.length c2, .slice B m k]) := below_setRow HB3.out (by omega) _
                rw [HE.out]
                refine ⟨_, rfl, ⟨A2, D.length, c2, B, m, k, rfl, ?_, H2.out.later hbf⟩, hbf⟩
                obtain ⟨A4, c4, hv4, hr4⟩ := Row.of_own (own_keepL HO3.out fun q hq => setRow_other w5 (w.heap.size + 2) q #[.int .i64 G.sz, .slice A2 D.length c2, .slice B m k] (by have := own_ge HO3.out q hq; omega))
                injection hv4 with e1 _ e2
                subst e1 e2
                exact hr4
              · skip
                have hvs : e.arr.size = 3 := rfl
                go_wp2_with fail
                clear hvs
                (first | rw [fold3n] | rw [fold3])
                have hb : Below z0.heap.size z0 (z0.alloc (.cells e.arr 27)) := one_new z0 _
                refine pieceEnd_normal ⟨ButB.of hb HSZ.out, ?_⟩
                have HH : Hid ((z0.alloc (.cells e.arr 27)).heap[z0.heap.size]? = some (.cells e.arr 27 (0, 0))) := Lib.hid (heap_alloc_new _ _)
                have hs3 : w.heap.size + 3 ≤ z0.heap.size := HSZ.out
                replace HX := Lib.hid ((hb.block _ (by omega)).trans HX.out); replace HY := Lib.hid ((hb.block _ (by omega)).trans HY.out); replace HR := Lib.hid ((hb.block _ (by omega)).trans HR.out)
                replace HB := Lib.hid (HB.out.trans (hb.mono HB.out.size))
                replace HSZ : Hid (w.heap.size + 3 ≤ (z0.alloc (.cells e.arr 27)).heap.size) := Lib.hid (Nat.le_trans hs3 hb.size)
                clear hb hs3
                obtain ⟨h9, hh9⟩ : ∃ h9, z0.heap.size = h9 := ⟨_, rfl⟩
                rw [hh9] at HH ⊢
                clear hh9
                generalize z0.alloc (.cells e.arr 27) = z1 at *
                refine flow_one (F := ButB w.heap.size (w.heap.size + 3)) (fun _ _ _ => ButB.trans) (ButB.refl _ _) 2 (by kernel_rfl) (by decide) ?_
                simp only [pick, List.getD_cons_zero, List.getD_cons_succ]
                go_wp2_with fail
                refine (HCL.out z1 HB.out).mono ?_
                rintro e1 z2 ⟨v1, rfl, ho, hb⟩
                have HF : Hid (ButB w.heap.size (w.heap.size + 3) z1 z2) := Lib.hid (ButB.of hb HSZ.out)
                have HO := Lib.hid ho
                have HV1 : Hid (w.heap.size + 3 ≤ z1.heap.size ∧ z1.heap.size ≤ z2.heap.size) := Lib.hid ⟨HSZ.out, hb.size⟩
                have HNE : Hid (∀ g, v1.ownBlock = some g → g ≠ h9) := Lib.hid fun g hg => by have h1 := own_ge ho g hg; have h2 := (Array.getElem?_eq_some_iff.1 HH.out).1; omega
                replace HH := Lib.hid ((hb.block _ (Array.getElem?_eq_some_iff.1 HH.out).1).trans HH.out)
                have hs3 : w.heap.size + 3 ≤ z1.heap.size := HSZ.out
                replace HX := Lib.hid ((hb.block _ (by omega)).trans HX.out); replace HY := Lib.hid ((hb.block _ (by omega)).trans HY.out); replace HR := Lib.hid ((hb.block _ (by omega)).trans HR.out)
                replace HB := Lib.hid (HB.out.trans (hb.mono HB.out.size))
                replace HSZ : Hid (w.heap.size + 3 ≤ z2.heap.size) := Lib.hid (Nat.le_trans hs3 hb.size)
                clear hb ho hs3
                obtain ⟨Av, cv, hvv, -⟩ := Row.of_own HO.out
                subst hvv
                go_wp2_with fail
                refine pieceEnd_normal ⟨HF.out, ?_⟩
                clear HF
                obtain ⟨Bv, hBv⟩ : ∃ Bv, z1.heap.size = Bv := ⟨_, rfl⟩
                rw [hBv] at HO HV1
                clear hBv
                refine flow_one (F := ButB w.heap.size (w.heap.size + 3)) (fun _ _ _ => ButB.trans) (ButB.refl _ _) 6 (by kernel_rfl) (by decide) ?_
                simp only [pick, List.getD_cons_zero, List.getD_cons_succ]
                have HIN := Lib.hid (insertEd_any Bv (.slice Av G.es.length cv) n K h9 G.es e z2 (by have h1 := HO.out; rw [HL1.out] at h1 ⊢; exact h1) HV1.out.2 HKN.out hn HH.out (fun g hg => HNE.out g hg))
                rw [HDD.out] at HIN
                go_wp2_with fail
                refine HIN.out.mono ?_
                rintro e1 z8 ⟨v2, rfl, ho, hb⟩
                obtain ⟨A2, c2, hv2, -⟩ := Row.of_own ho
                subst hv2
                have HO2 := Lib.hid ho
                have HV2 := HV1.out
                have hs3 : w.heap.size + 3 ≤ z2.heap.size := HSZ.out
                have HF : Hid (ButB w.heap.size (w.heap.size + 3) z2 z8) := Lib.hid (ButB.of hb HV1.out.1)
                replace HX := Lib.hid ((hb.block _ (by omega)).trans HX.out); replace HR := Lib.hid ((hb.block _ (by omega)).trans HR.out)
                replace HB := Lib.hid (HB.out.trans (hb.mono (by omega)))
                clear hb ho hs3
                go_wp2_with fail
                refine pieceEnd_normal ⟨HF.out, ?_⟩
                clear HF HIN
                refine flow_reads (F := ButB w.heap.size (w.heap.size + 3)) (ButB.refl _ _) (by kernel_rfl) [7] (fuel := 1) (by kernel_rfl) ?_
                simp only [List.map_cons, List.map_nil, pick, List.getD_cons_zero, List.getD_cons_succ]
                repeat (go_big_quiet_step (fail))
                refine wpQuiet_nil ?_
                refine flow_one (F := ButB w.heap.size (w.heap.size + 3)) (fun _ _ _ => ButB.trans) (ButB.refl _ _) 8 (by kernel_rfl) (by decide) ?_
                simp only [pick, List.getD_cons_zero, List.getD_cons_succ]
                have hc1 : z8.cell? ⟨w.heap.size, 1, none⟩ = some (.slice A n c) := (cell_of_row _ _ 1 _ _ _ HX.out).trans rfl
                have hfz : z8.frozen? ⟨w.heap.size, 1, none⟩ = false := by unfold World.frozen?; rw [HX.out]; simp
                go_wp2_with fail
                refine pieceEnd_normal ⟨⟨fun q _ hq => Below.heap_setCell z8 ⟨w.heap.size, 1, none⟩ _ q hq⟩, ?_⟩
                refine flow_done (by kernel_rfl) ?_
                clear hc1 hfz
                have HX3 : Hid ((z8.setCell ⟨w.heap.size, 1, none⟩ (.slice A2 D.length c2)).heap[w.heap.size]? = some (.cells #[.int .i64 G.sz, .slice A2 D.length c2, .slice B m k] 25 (0, 0))) := Lib.hid (heap_setCell_same z8 w.heap.size 1 _ _ _ HX.out)
                have HKC : Hid (∀ q, q ≠ w.heap.size → (z8.setCell ⟨w.heap.size, 1, none⟩ (.slice A2 D.length c2)).heap[q]? = z8.heap[q]?) := Lib.hid fun q hq => Below.heap_setCell z8 ⟨w.heap.size, 1, none⟩ _ q hq
                have HB3 : Hid (Below w.heap.size w (z8.setCell ⟨w.heap.size, 1, none⟩ (.slice A2 D.length c2))) := Lib.hid (HB.out.setCell (p := ⟨w.heap.size, 1, none⟩) (Nat.le_refl _) _)
                have HR3 := Lib.hid ((HKC.out (w.heap.size + 2) (by omega)).trans HR.out)
                have HO3 := Lib.hid (own_keepL HO2.out fun q hq => HKC.out q (by have := own_ge HO2.out q hq; omega))
                clear HKC HX HR HO2 HB
                generalize z8.setCell ⟨w.heap.size, 1, none⟩ (.slice A2 D.length c2) = w5 at *
                go_wp2_with (first | (refine wpList_load_row rfl 25 (.tmp 2) rfl w.heap.size rfl 25 #[.int .i64 G.sz, .slice A2 D.length c2, .slice B m k] (0, 0) _ HX3.out Try.underlying25 rfl gr_size ?_) | (refine wpList_store_row rfl 25 (.tmp 4) (.tmp 51) rfl (w.heap.size + 2) #[.int .i64 G.sz, .slice A2 D.length c2, .slice B m k] rfl rfl 25 _ HR3.out gr_size rfl (by simp [Value.oneCell']) ?_))
                refine bodyPost_ret (results_ge rfl rfl rfl (setRow_heap _ _ _ #[.int .i64 G.sz, .slice A2 D.length c2, .slice B m k] _ _ HR3.out) rfl) rfl ?_
                have hbf : Below w.heap.size w (w5.setRow (w.heap.size + 2) #[.int .i64 G.sz, .slice A2 D.length c2, .slice B m k]) := below_setRow HB3.out (by omega) _
                rw [HE.out]
                refine ⟨_, rfl, ⟨A2, D.length, c2, B, m, k, rfl, ?_, H2.out.later hbf⟩, hbf⟩
                obtain ⟨A4, c4, hv4, hr4⟩ := Row.of_own (own_keepL HO3.out fun q hq => setRow_other w5 (w.heap.size + 2) q #[.int .i64 G.sz, .slice A2 D.length c2, .slice B m k] (by have := own_ge HO3.out q hq; omega))
                injection hv4 with e1 _ e2
                subst e1 e2
                exact hr4
            · skip
              have hvs : e.arr.size = 3 := rfl
              go_wp2_with fail
              clear hvs
              (first | rw [fold3n] | rw [fold3])
              have hb : Below z0.heap.size z0 (z0.alloc (.cells e.arr 27)) := one_new z0 _
              refine pieceEnd_normal ⟨ButB.of hb HSZ.out, ?_⟩
              have HH : Hid ((z0.alloc (.cells e.arr 27)).heap[z0.heap.size]? = some (.cells e.arr 27 (0, 0))) := Lib.hid (heap_alloc_new _ _)
              have hs3 : w.heap.size + 3 ≤ z0.heap.size := HSZ.out
              replace HX := Lib.hid ((hb.block _ (by omega)).trans HX.out); replace HY := Lib.hid ((hb.block _ (by omega)).trans HY.out); replace HR := Lib.hid ((hb.block _ (by omega)).trans HR.out)
              replace HB := Lib.hid (HB.out.trans (hb.mono HB.out.size))
              replace HSZ : Hid (w.heap.size + 3 ≤ (z0.alloc (.cells e.arr 27)).heap.size) := Lib.hid (Nat.le_trans hs3 hb.size)
              clear hb hs3
              obtain ⟨h9, hh9⟩ : ∃ h9, z0.heap.size = h9 := ⟨_, rfl⟩
              rw [hh9] at HH ⊢
              clear hh9
              generalize z0.alloc (.cells e.arr 27) = z1 at *
              refine flow_one (F := ButB w.heap.size (w.heap.size + 3)) (fun _ _ _ => ButB.trans) (ButB.refl _ _) 1 (by kernel_rfl) (by decide) ?_
              simp only [pick, List.getD_cons_zero, List.getD_cons_succ]
              have hc1 : z1.cell? ⟨w.heap.size, 1, none⟩ = some (.slice A n c) := (cell_of_row _ _ 1 _ _ _ HX.out).trans rfl
              go_wp2_with fail
              refine pieceEnd_normal ⟨ButB.refl _ _ _, ?_⟩
              clear hc1
              refine flow_one (F := ButB w.heap.size (w.heap.size + 3)) (fun _ _ _ => ButB.trans) (ButB.refl _ _) 2 (by kernel_rfl) (by decide) ?_
              simp only [pick, List.getD_cons_zero, List.getD_cons_succ]
              go_wp2_with fail
              refine (HCL.out z1 HB.out).mono ?_
              rintro e1 z2 ⟨v1, rfl, ho, hb⟩
              have HF : Hid (ButB w.heap.size (w.heap.size + 3) z1 z2) := Lib.hid (ButB.of hb HSZ.out)
              have HO := Lib.hid ho
              have HV1 : Hid (w.heap.size + 3 ≤ z1.heap.size ∧ z1.heap.size ≤ z2.heap.size) := Lib.hid ⟨HSZ.out, hb.size⟩
              have HNE : Hid (∀ g, v1.ownBlock = some g → g ≠ h9) := Lib.hid fun g hg => by have h1 := own_ge ho g hg; have h2 := (Array.getElem?_eq_some_iff.1 HH.out).1; omega
              replace HH := Lib.hid ((hb.block _ (Array.getElem?_eq_some_iff.1 HH.out).1).trans HH.out)
              have hs3 : w.heap.size + 3 ≤ z1.heap.size := HSZ.out
              replace HX := Lib.hid ((hb.block _ (by omega)).trans HX.out); replace HY := Lib.hid ((hb.block _ (by omega)).trans HY.out); replace HR := Lib.hid ((hb.block _ (by omega)).trans HR.out)
              replace HB := Lib.hid (HB.out.trans (hb.mono HB.out.size))
              replace HSZ : Hid (w.heap.size + 3 ≤ z2.heap.size) := Lib.hid (Nat.le_trans hs3 hb.size)
              clear hb ho hs3
              obtain ⟨Av, cv, hvv, -⟩ := Row.of_own HO.out
              subst hvv
              go_wp2_with fail
              refine pieceEnd_normal ⟨HF.out, ?_⟩
              clear HF
              obtain ⟨Bv, hBv⟩ : ∃ Bv, z1.heap.size = Bv := ⟨_, rfl⟩
              rw [hBv] at HO HV1
              clear hBv
              refine flow_one (F := ButB w.heap.size (w.heap.size + 3)) (fun _ _ _ => ButB.trans) (ButB.refl _ _) 6 (by kernel_rfl) (by decide) ?_
              simp only [pick, List.getD_cons_zero, List.getD_cons_succ]
              have HIN := Lib.hid (insertEd_any Bv (.slice Av G.es.length cv) n K h9 G.es e z2 (by have h1 := HO.out; rw [HL1.out] at h1 ⊢; exact h1) HV1.out.2 HKN.out hn HH.out (fun g hg => HNE.out g hg))
              rw [HDD.out] at HIN
              go_wp2_with fail
              refine HIN.out.mono ?_
              rintro e1 z8 ⟨v2, rfl, ho, hb⟩
              obtain ⟨A2, c2, hv2, -⟩ := Row.of_own ho
              subst hv2
              have HO2 := Lib.hid ho
              have HV2 := HV1.out
              have hs3 : w.heap.size + 3 ≤ z2.heap.size := HSZ.out
              have HF : Hid (ButB w.heap.size (w.heap.size + 3) z2 z8) := Lib.hid (ButB.of hb HV1.out.1)
              replace HX := Lib.hid ((hb.block _ (by omega)).trans HX.out); replace HR := Lib.hid ((hb.block _ (by omega)).trans HR.out)
              replace HB := Lib.hid (HB.out.trans (hb.mono (by omega)))
              clear hb ho hs3
              go_wp2_with fail
              refine pieceEnd_normal ⟨HF.out, ?_⟩
              clear HF HIN
              refine flow_reads (F := ButB w.heap.size (w.heap.size + 3)) (ButB.refl _ _) (by kernel_rfl) [7] (fuel := 1) (by kernel_rfl) ?_
              simp only [List.map_cons, List.map_nil, pick, List.getD_cons_zero, List.getD_cons_succ]
              repeat (go_big_quiet_step (fail))
              refine wpQuiet_nil ?_
              refine flow_one (F := ButB w.heap.size (w.heap.size + 3)) (fun _ _ _ => ButB.trans) (ButB.refl _ _) 8 (by kernel_rfl) (by decide) ?_
              simp only [pick, List.getD_cons_zero, List.getD_cons_succ]
              have hc1 : z8.cell? ⟨w.heap.size, 1, none⟩ = some (.slice A n c) := (cell_of_row _ _ 1 _ _ _ HX.out).trans rfl
              have hfz : z8.frozen? ⟨w.heap.size, 1, none⟩ = false := by unfold World.frozen?; rw [HX.out]; simp
              go_wp2_with fail
              refine pieceEnd_normal ⟨⟨fun q _ hq => Below.heap_setCell z8 ⟨w.heap.size, 1, none⟩ _ q hq⟩, ?_⟩
              refine flow_done (by kernel_rfl) ?_
              clear hc1 hfz
              have HX3 : Hid ((z8.setCell ⟨w.heap.size, 1, none⟩ (.slice A2 D.length c2)).heap[w.heap.size]? = some (.cells #[.int .i64 G.sz, .slice A2 D.length c2, .slice B m k] 25 (0, 0))) := Lib.hid (heap_setCell_same z8 w.heap.size 1 _ _ _ HX.out)
              have HKC : Hid (∀ q, q ≠ w.heap.size → (z8.setCell ⟨w.heap.size, 1, none⟩ (.slice A2 D.length c2)).heap[q]? = z8.heap[q]?) := Lib.hid fun q hq => Below.heap_setCell z8 ⟨w.heap.size, 1, none⟩ _ q hq
              have HB3 : Hid (Below w.heap.size w (z8.setCell ⟨w.heap.size, 1, none⟩ (.slice A2 D.length c2))) := Lib.hid (HB.out.setCell (p := ⟨w.heap.size, 1, none⟩) (Nat.le_refl _) _)
              have HR3 := Lib.hid ((HKC.out (w.heap.size + 2) (by omega)).trans HR.out)
              have HO3 := Lib.hid (own_keepL HO2.out fun q hq => HKC.out q (by have := own_ge HO2.out q hq; omega))
              clear HKC HX HR HO2 HB
              generalize z8.setCell ⟨w.heap.size, 1, none⟩ (.slice A2 D.length c2) = w5 at *
              go_wp2_with (first | (refine wpList_load_row rfl 25 (.tmp 2) rfl w.heap.size rfl 25 #[.int .i64 G.sz, .slice A2 D.length c2, .slice B m k] (0, 0) _ HX3.out Try.underlying25 rfl gr_size ?_) | (refine wpList_store_row rfl 25 (.tmp 4) (.tmp 51) rfl (w.heap.size + 2) #[.int .i64 G.sz, .slice A2 D.length c2, .slice B m k] rfl rfl 25 _ HR3.out gr_size rfl (by simp [Value.oneCell']) ?_))
              refine bodyPost_ret (results_ge rfl rfl rfl (setRow_heap _ _ _ #[.int .i64 G.sz, .slice A2 D.length c2, .slice B m k] _ _ HR3.out) rfl) rfl ?_
              have hbf : Below w.heap.size w (w5.setRow (w.heap.size + 2) #[.int .i64 G.sz, .slice A2 D.length c2, .slice B m k]) := below_setRow HB3.out (by omega) _
              rw [HE.out]
              refine ⟨_, rfl, ⟨A2, D.length, c2, B, m, k, rfl, ?_, H2.out.later hbf⟩, hbf⟩
              obtain ⟨A4, c4, hv4, hr4⟩ := Row.of_own (own_keepL HO3.out fun q hq => setRow_other w5 (w.heap.size + 2) q #[.int .i64 G.sz, .slice A2 D.length c2, .slice B m k] (by have := own_ge HO3.out q hq; omega))
              injection hv4 with e1 _ e2
              subst e1 e2
              exact hr4
        · have HE : Hid (RW = (noGr, 19)) := Lib.hid HRW.out
          go_wp2_with (refine wpList_store_row rfl 25 (.tmp 4) (.tmp 36) rfl (w.heap.size + 2) #[.int .i64 0, .slice none 0 0, .slice none 0 0] rfl rfl 25 _ HR.out gr_size rfl (by simp [Value.oneCell']) ?_)
          refine bodyPost_ret (results_ge rfl rfl rfl (setRow_heap _ _ _ #[.int .i64 0, .slice none 0 0, .slice none 0 0] _ _ HR.out) rfl) rfl ?_
          rw [HE.out]
          exact ⟨_, rfl, (GOwn.none _ 0).hold, below_setRow HB.out (by omega) _⟩
end Go.Proofs.Ytnmpbjgccbnomaa
/- The walks of slices.IndexFunc and slices.DeleteFunc over edges. -/
namespace Go.Proofs.Ytnmpbjgccbnomaa
open Go.RowKit
set_option maxRecDepth 100000 in
set_option maxHeartbeats 4000000 in
theorem indexEd_any (f : Edg → Bool) (fn : Nat) (cb : Array Value) (A : Option Addr) (n c : Nat) (l : List Edg) (w : World) (hl : ERow w A n c l) (hn : n ≤ 100000)
    (eg : ∀ args w, (callFunc fn args).run Try.prog w = .ok (.enter fn args) w) (hf : ∀ y (p : Edg), Below w.heap.size w y → Calls Try.prog fn (#[.agg p.arr] ++ cb) y (SaysL (.bool (f p)) y)) :
    Calls Try.prog 48 #[.slice A n c, .func (.func fn) #[] cb] w fun e w' => (∃ r : Int, e = .returned (.int .i64 r) ∧ ((r = -1 ∧ ∀ q, q < n → f (l.getD q noEdg) = false) ∨ (∃ k : Nat, k < n ∧ r = (k : Int) ∧ f (l.getD k noEdg) = true ∧ ∀ q, q < k → f (l.getD q noEdg) = false))) ∧ Below w.heap.size w w' := by
  have HL := Lib.hid hl; have HF := Lib.hid hf
  clear hl hf
  go_enter Try.func48, Try.ntmps48
  go_wp2_with fail
  go_loopw [8] (fun i wr => ∃ j : Nat, j ≤ n ∧ i = .int .i64 j ∧ Hid ((∀ q, q < j → f (l.getD q noEdg) = false) ∧ Below w.heap.size w wr)) (fun i _ => n - (intOf i).toNat)
  case atStart => exact ⟨0, Nat.zero_le _, rfl, Lib.hid ⟨fun q h => absurd h (Nat.not_lt_zero _), Below.refl _ _⟩⟩
  case round =>
    obtain ⟨j, hj, rfl, HQ⟩ := hrel
    by_cases hlt : j < n
    · have hlt2 : (j : Int) < (n : Int) := by omega
      obtain ⟨b, off, hA, hc⟩ := GRow.cells Edg.len (by decide) (GRow.later HL.out HQ.out.2) noEdg j hlt
      subst hA
      obtain ⟨p, hp⟩ : ∃ p, l.getD j noEdg = p := ⟨_, rfl⟩
      rw [hp] at hc
      have HP := Lib.hid hp
      have HC : Hid (∀ q, q < p.arr.size → wr.cell? ⟨b, off + j * 3 + q, none⟩ = p.arr[q]?) := Lib.hid fun q hq => (hc q hq).trans (by rw [← Edg.list, Array.getElem?_toList])
      have HFC := Lib.hid (HF.out wr p HQ.out.2)
      have HK := Lib.hid HQ.out.1; have HB := Lib.hid HQ.out.2
      clear hc hp HQ
      cases hfp : f p
      · rw [hfp] at HFC
        have HT : Hid (f p = false) := Lib.hid hfp
        clear hfp
        go_wp2_with (refine wpList_load_cells rfl 27 (.tmp 14) rfl b (off + j * 3) rfl p.arr _ Try.underlying27 rfl p.info HC.out ?_)
        refine HFC.out.mono ?_
        rintro e w1 ⟨rfl, hb⟩
        have HB1 := Lib.hid (HB.out.trans (hb.mono HB.out.size))
        clear hb HFC HC
        go_wp2_with fail
        exact ⟨⟨j + 1, hlt, by go_num, Lib.hid ⟨fun q hq => (Nat.lt_or_ge q j).elim (fun h => HK.out q h) (fun h => by rw [show q = j by omega, HP.out]; exact HT.out), HB1.out⟩⟩, by simp [intOf]; omega⟩
      · rw [hfp] at HFC
        have HT : Hid (f p = true) := Lib.hid hfp
        clear hfp
        go_wp2_with (refine wpList_load_cells rfl 27 (.tmp 14) rfl b (off + j * 3) rfl p.arr _ Try.underlying27 rfl p.info HC.out ?_)
        refine HFC.out.mono ?_
        rintro e w1 ⟨rfl, hb⟩
        have HB1 := Lib.hid (HB.out.trans (hb.mono HB.out.size))
        clear hb HFC HC
        go_wp2_with fail
        go_ret
        exact ⟨⟨_, rfl, .inr ⟨j, hlt, rfl, by rw [HP.out]; exact HT.out, HK.out⟩⟩, HB1.out⟩
    · have hlt2 : ¬ (j : Int) < (n : Int) := by omega
      have HK := Lib.hid HQ.out.1; have HB := Lib.hid HQ.out.2
      clear HQ
      go_wp2_with fail
      go_ret
      exact ⟨⟨_, rfl, .inl ⟨rfl, fun q hq => HK.out q (by omega)⟩⟩, HB.out⟩
theorem eset {l : List Edg} {T : List Value} {i : Nat} (p : Edg) (hi : i < l.length) : (rowC Edg.cells l ++ T).take (i * 3) ++ p.arr.toList ++ (rowC Edg.cells l ++ T).drop (i * 3 + p.arr.size) = rowC Edg.cells (l.take i ++ p :: l.drop (i + 1)) ++ T := by
  rw [show i * 3 + p.arr.size = (i + 1) * 3 by rw [Edg.size]; omega, ecut (by omega), ecut_drop (by omega), rowC_app, Edg.list]
  simp [rowC]
theorem filter_keep {f : Edg → Bool} {l : List Edg} (h : ∀ q, q < l.length → f (l.getD q noEdg) = false) : l.filter (fun e => !f e) = l := by
  rw [List.filter_eq_self]
  intro e he
  obtain ⟨i, hi, rfl⟩ := memE.1 he
  rw [h i hi]; rfl
theorem take_snocE (l : List Edg) (j : Nat) (h : j < l.length) : l.take (j + 1) = l.take j ++ [l.getD j noEdg] := by
  rw [List.take_add_one, List.getElem?_eq_getElem h, getDE h]; rfl
set_option maxRecDepth 100000 in
set_option maxHeartbeats 4000000 in
theorem delFuncEd_any (f : Edg → Bool) (fn : Nat) (cb : Array Value) (B : Nat) (v : Value) (n : Nat) (l : List Edg) (w : World) (ho : w.ownsRow B 27 3 v n (rowC Edg.cells l)) (hB : B ≤ w.heap.size) (hn : n ≤ 100000)
    (eg : ∀ args w, (callFunc fn args).run Try.prog w = .ok (.enter fn args) w) (hf : ∀ y (p : Edg), Below B w y → Calls Try.prog fn (#[.agg p.arr] ++ cb) y (SaysL (.bool (f p)) y)) :
    Calls Try.prog 35 #[v, .func (.func fn) #[] cb] w fun e w' => ∃ v2, e = .returned v2 ∧ w'.ownsRow B 27 3 v2 (l.filter fun e => !f e).length (rowC Edg.cells (l.filter fun e => !f e)) ∧ Below B w w' := by
  have HO := Lib.hid ho
  obtain ⟨A, c, rfl, hr⟩ := Row.of_own ho
  have HLN : Hid (l.length = n) := Lib.hid (ERow.len hr)
  have HF := Lib.hid hf
  have HIX := Lib.hid (indexEd_any f fn cb A n c l w hr hn eg fun y p h => hf y p (h.mono hB))
  clear ho hr hf
  go_enter Try.func35, Try.ntmps35
  go_wp2_with fail
  refine HIX.out.mono ?_
  rintro e w1 ⟨⟨r, rfl, hr⟩, hb⟩
  have HB1 : Hid (Below B w w1) := Lib.hid (hb.mono hB)
  have HO1 := Lib.hid (own_later HO.out hb)
  clear HIX hb HO
  rcases hr with ⟨rfl, hall⟩ | ⟨k, hk, rfl, ht, hall⟩
  · have HE : Hid (l.filter (fun e => !f e) = l) := Lib.hid (filter_keep fun q hq => hall q (by rw [← HLN.out]; exact hq))
    clear hall
    go_wp2_with fail
    go_ret
    rw [HE.out, HLN.out]
    exact ⟨_, rfl, HO1.out, HB1.out⟩
  · obtain ⟨g, cap, T, hv, hek⟩ := eblk_of_own HO1.out (by omega)
    injection hv with hv _ hv2
    subst hv hv2
    have HEK := Lib.hid hek
    have hnc := hek.room
    have hne1 : ((k : Int) == -1) = false := beq_eq_false_iff_ne.2 (by omega)
    have HS : Hid (l.take k = (l.take (k + 1)).filter (fun e => !f e)) := Lib.hid (by
      rw [take_snocE l k (by rw [HLN.out]; exact hk), List.filter_append, filter_keep (l := l.take k) (fun q hq => by
        rw [List.length_take] at hq
        rw [List.getD_eq_getElem?_getD, List.getElem?_take_of_lt (by omega), ← List.getD_eq_getElem?_getD]
        exact hall q (by omega)), List.filter_cons_of_neg (by rw [ht]; decide), List.filter_nil, List.append_nil])
    have HSZ : Hid ((rowC Edg.cells l ++ T).length = c * 3) := Lib.hid hek.size
    have HTL : Hid (T.length + n * 3 = c * 3) := Lib.hid (by have h := hek.size; rw [List.length_append, rowC_len Edg.len, HLN.out] at h; omega)
    clear hek hall ht HO1
    go_wp2_with fail
    clear hne1
    go_loopw [5, 6] (fun a b wr => ∃ (i j : Nat) (L : List Edg), a = .int .i64 i ∧ b = .int .i64 j ∧ i < j ∧ j ≤ n ∧ L.length = n ∧ Hid (wr.heap[g]? = some (.cells (rowC Edg.cells L ++ T).toArray 27 (0, 0)) ∧ L.take i = (l.take j).filter (fun e => !f e) ∧ L.drop j = l.drop j ∧ Below B w wr)) (fun _ b _ => n - (intOf b).toNat)
    case atStart => exact ⟨k, k + 1, l, rfl, by go_num, by omega, hk, HLN.out, Lib.hid ⟨HEK.out.at_, HS.out, rfl, HB1.out⟩⟩
    case round =>
      clear HB1
      obtain ⟨i, j, L, rfl, rfl, hij, hj, hL, HQ⟩ := hrel
      by_cases hlt : j < n
      · have hlt2 : (j : Int) < (n : Int) := by omega
        have hin : i < n := by omega
        have hin2 : (i : Int) < (n : Int) := by omega
        have HG := Lib.hid HQ.out.1; have HLT := Lib.hid HQ.out.2.1; have HLD := Lib.hid HQ.out.2.2.1; have HB := Lib.hid HQ.out.2.2.2
        clear HQ
        obtain ⟨p, hp⟩ : ∃ p, l.getD j noEdg = p := ⟨_, rfl⟩
        have hpL : L.getD j noEdg = p := by
          have h1 := congrArg (fun x : List Edg => x.getD 0 noEdg) HLD.out
          simp only [List.getD_eq_getElem?_getD, List.getElem?_drop, Nat.add_zero] at h1
          rw [List.getD_eq_getElem?_getD, h1, ← List.getD_eq_getElem?_getD, hp]
        have HST : Hid ((l.take (j + 1)).filter (fun e => !f e) = (l.take j).filter (fun e => !f e) ++ [p].filter (fun e => !f e)) := Lib.hid (by rw [take_snocE l j (by rw [HLN.out]; exact hlt), List.filter_append, hp])
        have hrow : ERow wr (some ⟨g, 0, none⟩) n c L := EBlk.row (B := 0) ⟨Nat.zero_le _, HG.out, hL, hnc, HEK.out.mx, by rw [List.length_append, rowC_len Edg.len, hL]; have := HTL.out; omega⟩
        obtain ⟨b, off, hA, hc⟩ := GRow.cells Edg.len (by decide) hrow noEdg j hlt
        injection hA with hA
        injection hA with e1 e2
        subst e1 e2
        rw [hpL] at hc
        have HC : Hid (∀ q, q < p.arr.size → wr.cell? ⟨g, 0 + j * 3 + q, none⟩ = p.arr[q]?) := Lib.hid fun q hq => (hc q hq).trans (by rw [← Edg.list, Array.getElem?_toList])
        clear hc hrow hpL hp
        go_upto_region 8 with (first | (refine wpList_load_cells rfl 27 (.tmp 24) rfl g (0 + j * 3) rfl p.arr _ Try.underlying27 rfl p.info HC.out ?_) | (refine wpList_load_cells rfl 27 (.tmp 24) rfl g (j * 3) rfl p.arr _ Try.underlying27 rfl p.info (fun q hq => (by rw [← Nat.zero_add (j * 3)]; exact HC.out q hq)) ?_) | (refine wpList_store_new rfl 27 (.tmp 7) (.tmp 25) rfl 27 _ p.arr rfl rfl p.info rfl p.one ?_))
        have HN3 := Lib.hid (one_new wr (.cells p.arr 27))
        have HY : Hid ((wr.alloc (.cells p.arr 27)).heap[wr.heap.size]? = some (.cells p.arr 27 (0, 0))) := Lib.hid (heap_alloc_new _ _)
        have HGY : Hid (g < wr.heap.size) := Lib.hid (Array.getElem?_eq_some_iff.1 HG.out).1
        replace HG := Lib.hid ((HN3.out.block _ HGY.out).trans HG.out)
        replace HB := Lib.hid (HB.out.trans (HN3.out.mono (Nat.le_trans hB HB.out.size)))
        clear HN3 HC
        generalize wr.alloc (.cells p.arr 27) = x2 at *
        generalize wr.heap.size = g4 at *
        have HFC := Lib.hid (HF.out x2 p HB.out)
        cases hfp : f p
        · rw [hfp] at HFC
          rw [List.filter_cons_of_pos (by rw [hfp]; rfl), List.filter_nil] at HST
          clear hfp
          go_wp2_with (refine wpList_load_row rfl 27 (.tmp 7) rfl g4 rfl 27 p.arr (0, 0) _ HY.out Try.underlying27 rfl p.info ?_)
          refine HFC.out.mono ?_
          rintro e w2 ⟨rfl, hb⟩
          have HY2 := Lib.hid ((hb.block _ (Array.getElem?_eq_some_iff.1 HY.out).1).trans HY.out)
          have HG2 := Lib.hid ((hb.block _ (Array.getElem?_eq_some_iff.1 HG.out).1).trans HG.out)
          have HB2 := Lib.hid (HB.out.trans (hb.mono (Nat.le_trans hB HB.out.size)))
          clear hb HY HG HB HFC
          have hfit : i * 3 + p.arr.size ≤ (rowC Edg.cells L ++ T).length := by rw [List.length_append, rowC_len Edg.len, hL, Edg.size]; omega
          go_wp2_with (first | (refine wpList_load_row rfl 27 (.tmp 7) rfl g4 rfl 27 p.arr (0, 0) _ HY2.out Try.underlying27 rfl p.info ?_) | (refine wpList_store_partE w2 rfl 27 (.tmp 33) (.tmp 32) rfl g (i * 3) _ 27 (rowC Edg.cells L ++ T) HG2.out p.arr rfl (by omega) rfl p.info (fun u hu => p.ones u hu) hfit ?_; intro w3 hg3 hb3 _; rw [eset p (by rw [hL]; exact hin)] at hg3; have HG3 := Lib.hid hg3; have HB3 : Hid (Below B w w3) := Lib.hid (HB2.out.trans (hb3.below HEK.out.lo (Nat.le_trans hB HB2.out.size))); clear hg3 hb3))
          refine ⟨⟨i + 1, j + 1, L.take i ++ p :: L.drop (i + 1), by go_num, by go_num, by omega, hlt, by simp; omega, Lib.hid ⟨HG3.out, ?_, ?_, HB3.out⟩⟩, by simp [intOf]; omega⟩
          · rw [HST.out, ← HLT.out, List.take_append, List.take_of_length_le (by rw [List.length_take]; omega), List.length_take, show i + 1 - min i L.length = 1 by omega]; rfl
          · have h1 := congrArg (List.drop 1) HLD.out
            rw [List.drop_drop, List.drop_drop] at h1
            rw [List.drop_append, List.length_take, List.drop_eq_nil_of_le (by rw [List.length_take]; omega), List.nil_append, show j + 1 - min i L.length = (j - i) + 1 by omega, List.drop_succ_cons, List.drop_drop, show i + 1 + (j - i) = j + 1 by omega]
            exact h1
        · rw [hfp] at HFC
          rw [List.filter_cons_of_neg (by rw [hfp]; decide), List.filter_nil, List.append_nil] at HST
          clear hfp
          go_wp2_with (refine wpList_load_row rfl 27 (.tmp 7) rfl g4 rfl 27 p.arr (0, 0) _ HY.out Try.underlying27 rfl p.info ?_)
          refine HFC.out.mono ?_
          rintro e w2 ⟨rfl, hb⟩
          have HG2 := Lib.hid ((hb.block _ (Array.getElem?_eq_some_iff.1 HG.out).1).trans HG.out)
          have HB2 := Lib.hid (HB.out.trans (hb.mono (Nat.le_trans hB HB.out.size)))
          clear hb HY HG HB HFC
          go_wp2_with fail
          refine ⟨⟨i, j + 1, L, rfl, by go_num, by omega, hlt, hL, Lib.hid ⟨HG2.out, by rw [HST.out]; exact HLT.out, ?_, HB2.out⟩⟩, by simp [intOf]; omega⟩
          have h1 := congrArg (List.drop 1) HLD.out
          rw [List.drop_drop, List.drop_drop] at h1
          exact h1
      · obtain rfl : j = n := by omega
        have hlt2 : ¬ (j : Int) < (j : Int) := by omega
        have HG := Lib.hid HQ.out.1; have HB := Lib.hid HQ.out.2.2.2
        have HLT : Hid (L.take i = l.filter (fun e => !f e)) := Lib.hid (by rw [HQ.out.2.1, List.take_of_length_le (by rw [HLN.out]; exact Nat.le_refl _)])
        clear HQ
        have hic : i < c := by omega
        have hfit : (i + (j - i)) * 3 ≤ (rowC Edg.cells L ++ T).length := by rw [List.length_append, rowC_len Edg.len, hL]; omega
        have hs1 := fun w' => run_slice_off (P := Try.prog) (t := 22) Try.underlying22 edg_size (g := g) (n := j) (c := c) (i := i) rfl (Nat.le_of_lt hij) hic .i64 w'
        have hs2 := fun w' => run_slice_low (P := Try.prog) (t := 22) Try.underlying22 edg_size (g := g) (n := j) (c := c) (i := i) rfl (Nat.le_of_lt hic) .i64 w'
        obtain ⟨w3, zs, hz, hcl, hg3, hb3⟩ := run_clear_row (P := Try.prog) wr 22 27 Try.underlying22 (size := 3) edg_zero rfl edg_zeros g i (j - i) (c - i) (rowC Edg.cells L ++ T) HG.out (some ⟨g, i * 3, none⟩) (fun _ => rfl) hfit
        rw [ecut (by omega), List.append_assoc] at hg3
        have HZ := Lib.hid hz; have HG3 := Lib.hid hg3; have HB3 : Hid (Below B w w3) := Lib.hid (HB.out.trans (hb3.below HEK.out.lo (Nat.le_trans hB HB.out.size)))
        clear hz hg3 hb3 hfit
        go_wp2_with fail
        go_ret
        have h3 := HZ.out
        have he : EBlk w3 B g i c (L.take i) (zs ++ (rowC Edg.cells L ++ T).drop ((i + (j - i)) * 3)) := ⟨HEK.out.lo, HG3.out, by rw [List.length_take]; omega, by omega, HEK.out.mx, by
          rw [List.length_append, List.length_append, List.length_drop, List.length_append, rowC_len Edg.len, rowC_len Edg.len, List.length_take, hL, h3]
          have := HTL.out
          rw [show min i j = i by omega]
          omega⟩
        have hlen : (l.filter fun e => !f e).length = i := by rw [← HLT.out, List.length_take]; omega
        rw [hlen, ← HLT.out]
        exact ⟨_, rfl, he.own, HB3.out⟩
end Go.Proofs.Ytnmpbjgccbnomaa
