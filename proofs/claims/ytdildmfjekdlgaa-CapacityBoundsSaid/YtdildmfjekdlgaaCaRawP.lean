import Derived.Test.YtdildmfjekdlgaaCaMoreP
/- The walk of the law CapacityRaw. -/
namespace Go.Proofs.Ytdildmfjekdlgaa
open Go.RowKit
set_option maxRecDepth 100000 in
set_option maxHeartbeats 40000000 in
theorem craw_any (C : CapC) (TA : Option Addr) (tn tc : Nat) (t : List Int) (p : Pol) (pv : Value) (KA : Option Addr) (kn kc : Nat) (keys : List Int) (w : World) (ht : IRow w TA tn tc t) (hp : PHold w p pv) (hk : IRow w KA kn kc keys) : Calls Try.prog 3 #[.slice TA tn tc, pv, .slice KA kn kc] w (SaysL (.bool true) w) := by
  have HAW : Hid (∀ y, Calls Try.prog 8 #[] y (SaysL (.bool true) y)) := Lib.hid fun y => awake13_any C y
  have HCC0 := Lib.hid C
  have HPV := Lib.hid hp
  obtain ⟨A9, n9, c9, B9, m9, k9, rfl, p1, p2⟩ := hp
  have HNW := Lib.hid (one_new w (.cells #[.slice A9 n9 c9, .slice B9 m9 k9, .int .i64 p.lv] 24))
  have HX0 : Hid ((w.alloc (.cells #[.slice A9 n9 c9, .slice B9 m9 k9, .int .i64 p.lv] 24)).heap[w.heap.size]? = some (.cells #[.slice A9 n9 c9, .slice B9 m9 k9, .int .i64 p.lv] 24 (0, 0))) := Lib.hid (heap_alloc_new _ _)
  have HT := Lib.hid (ht.later HNW.out); have HKY := Lib.hid (hk.later HNW.out)
  replace HPV := Lib.hid (HPV.out.later HNW.out)
  have HL1 : Hid (p.sd.length = n9) := Lib.hid p1.len
  have HL2 : Hid (p.tb.length = m9) := Lib.hid p2.len
  clear ht hk p1 p2 C
  go_enter Try.func3, Try.ntmps3
  go_upto_region 1 with fail
  generalize w.alloc (.cells #[.slice A9 n9 c9, .slice B9 m9 k9, .int .i64 p.lv] 24) = wb at *
  obtain ⟨pb, hpb⟩ : ∃ pb, w.heap.size = pb := ⟨_, rfl⟩
  rw [hpb] at HX0 ⊢
  have HPB := Lib.hid hpb
  have HPS : Hid (pb < wb.heap.size) := Lib.hid (Array.getElem?_eq_some_iff.1 HX0.out).1
  clear hpb
  have hp0 : wb.cell? ⟨pb, 0, none⟩ = some (.slice A9 n9 c9) := (cell_of_row _ _ 0 _ _ _ HX0.out).trans rfl
  have hp1 : wb.cell? ⟨pb, 1, none⟩ = some (.slice B9 m9 k9) := (cell_of_row _ _ 1 _ _ _ HX0.out).trans rfl
  go_wp2_with fail
  refine (light_any TA tn tc wb).mono ?_
  rintro e w0 ⟨rfl, rfl⟩
  by_cases hn : tn ≤ 400
  · have gd0 : decide (tn ≤ 400) = true := decide_eq_true hn
    by_cases hs70 : n9 ≤ 70
    · have gs : decide ((n9 : Int) > 70) = false := decide_eq_false (by omega)
      have gs' : decide ((70 : Int) < (n9 : Int)) = false := gs
      have gs2 : decide (70 < n9) = false := decide_eq_false (by omega)
      by_cases ht20 : m9 ≤ 20
      · have gt : decide ((m9 : Int) > 20) = false := decide_eq_false (by omega)
        have gt' : decide ((20 : Int) < (m9 : Int)) = false := gt
        have gt2 : decide (20 < m9) = false := decide_eq_false (by omega)
        by_cases hk70 : kn ≤ 70
        · have gk : decide ((kn : Int) > 70) = false := decide_eq_false (by omega)
          have gk' : decide ((70 : Int) < (kn : Int)) = false := gk
          have gk2 : decide (70 < kn) = false := decide_eq_false (by omega)
          go_wp2_with fail
          clear gd0 gs gs' gs2 gt gt' gt2 gk gk' gk2 hp0 hp1
          refine (roll_any wb.heap.size TA tn tc t wb HT.out (by omega) (Nat.le_refl _) (fun ad e h0 => Row.lt HT.out (by decide) ad e h0)).mono ?_
          rintro e w1 ⟨rfl, hd, hb⟩
          obtain ⟨D, hD⟩ : ∃ D, D = wb.heap.size := ⟨_, rfl⟩
          have HD : Hid (∃ kd, DiceAt w1 wb.heap.size D t kd) := Lib.hid ⟨0, by rw [hD]; exact hd⟩
          have HB := Lib.hid hb
          have HDD : Hid (wb.heap.size = D) := Lib.hid hD.symm
          rw [← hD]
          clear hd hb hD HT
          go_wp2_with fail
          refine (ggraph_g wb.heap.size D t w1 HD.out).mono ?_
          rintro e w2 ⟨v0, G, rfl, ho, hgd, hsz, hone, hg⟩
          have HDP : Hid (D < w1.heap.size) := Lib.hid (by obtain ⟨kd, hk⟩ := HD.out; exact hk.lt)
          have HGD := Lib.hid hgd; have hsz2 := hsz; have hs64 := hgd.hi
          obtain ⟨A, n, c, B, m, k, hve, -, -⟩ := ho.hold
          subst hve
          have hb2 := one_new w2 (.cells #[.int .i64 G.sz, .slice A n c, .slice B m k] 31)
          have HDS : Hid (DS wb D w1.heap.size w2.heap.size t G A n c B m k (w2.alloc (.cells #[.int .i64 G.sz, .slice A n c, .slice B m k] 31))) := Lib.hid
            ⟨by obtain ⟨kd, hk⟩ := hg.1; exact ⟨kd, hk.later hb2⟩, ho.later hb2, (HB.out.trans (hg.2.below (by have := HDD.out; omega) HB.out.size)).trans (hb2.mono (Nat.le_trans HB.out.size hg.2.size)), heap_alloc_new _ _, by have := HDD.out; omega, HDP.out, by have := HDP.out; have := hg.2.size; omega⟩
          clear hgd hsz hone hg ho hb2 HD HB
          go_upto_region 5 with (refine wpList_store_new rfl 31 (.tmp 8) (.tmp 35) rfl 31 _ #[.int .i64 G.sz, .slice A n c, .slice B m k] rfl rfl gr_size rfl (by simp [Value.oneCell']) ?_)
          generalize w2.alloc (.cells #[.int .i64 G.sz, .slice A n c, .slice B m k] 31) = y0 at *
          generalize w2.heap.size = g0 at *
          generalize w1.heap.size = P at *
          try dsimp only [Act.put]
          clear HDP
          obtain ⟨sz, hszn⟩ : ∃ sz : Nat, G.sz = (sz : Int) := ⟨G.sz.toNat, by omega⟩
          have HSN := Lib.hid hszn
          have hsn64 : sz ≤ 64 := by omega
          have hsn2 : 2 ≤ sz := by omega
          clear hszn hsz2 hs64
          have HXB : Hid (∀ y, Below wb.heap.size wb y → y.heap[pb]? = some (.cells #[.slice A9 n9 c9, .slice B9 m9 k9, .int .i64 p.lv] 24 (0, 0))) := Lib.hid fun y hb => (hb.block _ HPS.out).trans HX0.out
          have HPY : Hid (∀ y, Below wb.heap.size wb y → PHold y p (.agg #[.slice A9 n9 c9, .slice B9 m9 k9, .int .i64 p.lv])) := Lib.hid fun y hb => HPV.out.later hb
          have HXP := Lib.hid (HXB.out y0 HDS.out.base)
          have hp1 : y0.cell? ⟨pb, 1, none⟩ = some (.slice B9 m9 k9) := (cell_of_row _ _ 1 _ _ _ HXP.out).trans rfl
          have m0 : RowKit.wrap64 ((m9 : Int) - 1) = (m9 : Int) - 1 := IntWalk.wrap64_in _ (by omega)
          have m1 : IntKind.i64.wrap ((m9 : Int) - 1) = (m9 : Int) - 1 := by rw [IntKind.wrap_i64]; omega
          go_wp2_with fail
          clear hp1 HXP m0 m1
          have hb := one_new y0 (.cells #[.int .i64 (-1), .int .i64 0, .int .i64 1, .int .i64 7, .int .i64 8, .int .i64 100, .int .i64 (m9 : Int), .int .i64 ((m9 : Int) - 1)] 3)
          have HLB : Hid (IBlk (y0.alloc (.cells #[.int .i64 (-1), .int .i64 0, .int .i64 1, .int .i64 7, .int .i64 8, .int .i64 100, .int .i64 (m9 : Int), .int .i64 ((m9 : Int) - 1)] 3)) y0.heap.size [-1, 0, 1, 7, 8, 100, (m9 : Int), (m9 : Int) - 1]) := Lib.hid (heap_alloc_new _ _)
          replace HDS := Lib.hid (HDS.out.later hb)
          clear hb
          generalize y0.alloc (.cells #[.int .i64 (-1), .int .i64 0, .int .i64 1, .int .i64 7, .int .i64 8, .int .i64 100, .int .i64 (m9 : Int), .int .i64 ((m9 : Int) - 1)] 3) = y1 at *
          generalize y0.heap.size = gl at *
          generalize hLL : [-1, 0, 1, 7, 8, 100, (m9 : Int), (m9 : Int) - 1] = LL at *
          have HLL : Hid (LL.length = 8) := Lib.hid (by rw [← hLL]; rfl)
          clear hLL
          go_loopw [45] (fun i wr => ∃ j : Nat, j ≤ 8 ∧ i = .int .i64 j ∧ Hid (DS wb D P g0 t G A n c B m k wr ∧ IBlk wr gl LL)) (fun i _ => 8 - (intOf i).toNat)
          case atStart => exact ⟨0, Nat.zero_le _, rfl, Lib.hid ⟨HDS.out, HLB.out⟩⟩
          case round =>
            clear HDS HLB
            obtain ⟨j, hj, rfl, HQ⟩ := hrel
            by_cases hlt : j < 8
            · have hlt2 : (j : Int) < 8 := by omega
              obtain ⟨bl, ol, hAl, hcl⟩ := IRow.cell (HQ.out.2.row' HLL.out) j hlt
              injection hAl with hAl
              injection hAl with i1 i2
              subst i1 i2
              rw [Nat.zero_add] at hcl
              generalize LL.getD j 0 = dj at *
              have HDS := Lib.hid HQ.out.1; have HLB := Lib.hid HQ.out.2
              clear HQ
              go_upto_region 8 with fail
              clear hcl
              refine wp_region_grow (by kernel_rfl) Later Later.refl (fun _ _ _ => Later.trans) [6] [([0, 1, 3, 4], 2), ([], 5)] (by kernel_rfl) (by kernel_rfl) (by kernel_rfl) ?_
              simp only [List.map_cons, List.map_nil, pick, List.getD_cons_zero, List.getD_cons_succ]
              replace HDS := Lib.hid (HDS.out.later (Later.drew wr))
              replace HLB := Lib.hid (HLB.out.later (Later.drew wr))
              generalize wr.drew = z0 at *
              have hfp : ∀ x, (loadVar 24 ⟨pb, 0, none⟩).run Try.prog (fut Later z0 x) = .ok (.agg #[.slice A9 n9 c9, .slice B9 m9 k9, .int .i64 p.lv]) (fut Later z0 x) := fun x => run_loadVar_row _ pb 24 24 #[.slice A9 n9 c9, .slice B9 m9 k9, .int .i64 p.lv] (0, 0) _ (((fut_ok Later.refl z0 x).block pb (Array.getElem?_eq_some_iff.1 (HXB.out z0 HDS.out.base)).1).trans (HXB.out z0 HDS.out.base)) Try.underlying24 rfl po_size
              refine wpGrow_cons ?_
              repeat (first | (refine wpQuiet_load rfl 24 (.tmp 4) rfl ⟨pb, 0, none⟩ rfl (.agg #[.slice A9 n9 c9, .slice B9 m9 k9, .int .i64 p.lv]) (fun w' h => by obtain ⟨x, rfl⟩ := h; exact hfp x) ?_; simp only [Act.put, List.setIfInBounds_toArray, List.set_cons_succ, List.set_cons_zero]) | go_big_quiet_step (fail))
              refine wpQuiet_nil ?_
              clear hfp
              have HC := Lib.hid (HCC0.out.of_ p _ dj z0 (HPY.out z0 HDS.out.base) (by have := HL2.out; omega))
              have HC2 : Hid (∀ y, Below wb.heap.size wb y → Calls Try.prog 12 #[.agg #[.slice A9 n9 c9, .slice B9 m9 k9, .int .i64 p.lv], .int .i64 dj] y (SaysL (.int .i64 (capT p.tb dj)) y)) := Lib.hid fun y hb => refOf_any p _ dj y (HPY.out y hb)
              generalize capT p.tb dj = CT at *
              go_wp2_with fail
              refine HC.out.mono ?_
              rintro e z1 ⟨rfl, hb⟩
              have HF := Lib.hid hb
              replace HDS := Lib.hid (HDS.out.later hb)
              replace HLB := Lib.hid (HLB.out.later hb)
              clear hb HC
              go_wp2_with fail
              refine pieceEnd_normal ⟨HF.out, ?_⟩
              clear HF
              refine wpGrow_cons ?_
              refine wpQuiet_nil ?_
              have HC := Lib.hid (HC2.out z1 HDS.out.base)
              go_wp2_with fail
              refine HC.out.mono ?_
              rintro e z2 ⟨rfl, hb⟩
              have HF := Lib.hid hb
              replace HDS := Lib.hid (HDS.out.later hb)
              replace HLB := Lib.hid (HLB.out.later hb)
              clear hb HC HC2
              go_wp2_with fail
              refine pieceEnd_normal ⟨HF.out, ?_⟩
              clear HF
              have b0 : (CT != CT) = false := by simp
              refine wpGrow_nil ?_
              repeat (go_big_quiet_step (fail))
              refine wpQuiet_nil ?_
              go_wp2_with fail
              exact ⟨⟨j + 1, hlt, by go_num, Lib.hid ⟨HDS.out, HLB.out⟩⟩, by simp [intOf]; omega⟩
            · have hlt2 : ¬ (j : Int) < 8 := by omega
              have HDS := Lib.hid HQ.out.1
              clear HQ
              go_upto_region 11 with fail
              obtain ⟨n0, hn0⟩ : ∃ n0, wr.drew.heap.size = n0 := ⟨_, rfl⟩
              refine wp_region_grow (by kernel_rfl) (BN D n0) (BN.refl D n0) (fun _ _ _ => BN.trans) [14, 15] [([], 0), ([1, 2, 3, 4], 5), ([6, 7, 8, 9, 10, 12], 11), ([], 13)] (by kernel_rfl) (by kernel_rfl) (by kernel_rfl) ?_
              simp only [List.map_cons, List.map_nil, pick, List.getD_cons_zero, List.getD_cons_succ]
              replace HDS := Lib.hid HDS.out.drew
              have HN : Hid (n0 ≤ wr.drew.heap.size) := Lib.hid (Nat.le_of_eq hn0.symm)
              have HGN : Hid (g0 < n0 ∧ D < g0) := Lib.hid (by rw [← hn0]; exact ⟨(Array.getElem?_eq_some_iff.1 HDS.out.box).1, HDS.out.dg⟩)
              have HPN : Hid (pb < n0 ∧ pb < D) := Lib.hid (by have h1 := HPS.out; have h2 := HDS.out.wd; have h3 := HGN.out; omega)
              have HLA : Hid (G.es.length ≤ 100000) := Lib.hid HGD.out.few.1
              have HLB2 : Hid (G.gn.length ≤ 100000) := Lib.hid HGD.out.few.2
              clear hn0
              generalize wr.drew = z0 at *
              refine wpGrow_cons ?_
              refine wpQuiet_nil ?_
              go_wp2_with fail
              refine (HAW.out z0).mono ?_
              rintro e z1 ⟨rfl, hb⟩
              have HF : Hid (BN D n0 z0 z1) := Lib.hid (BN.later hb HN.out)
              replace HDS := Lib.hid (HDS.out.later hb)
              replace HN := Lib.hid (Nat.le_trans HN.out hb.size)
              clear hb
              go_wp2_with fail
              refine pieceEnd_normal ⟨HF.out, ?_⟩
              clear HF
              have hfg : ∀ x, (loadVar 31 ⟨g0, 0, none⟩).run Try.prog (fut (BN D n0) z1 x) = .ok (.agg #[.int .i64 G.sz, .slice A n c, .slice B m k]) (fut (BN D n0) z1 x) := fun x => run_loadVar_row _ g0 31 31 #[.int .i64 G.sz, .slice A n c, .slice B m k] (0, 0) _ (((fut_ok (BN.refl D n0) z1 x).keep g0 HGN.out.1 (by have := HGN.out.2; omega)).trans HDS.out.box) Try.underlying31 rfl gr_size
              have hfp : ∀ x, (loadVar 24 ⟨pb, 0, none⟩).run Try.prog (fut (BN D n0) z1 x) = .ok (.agg #[.slice A9 n9 c9, .slice B9 m9 k9, .int .i64 p.lv]) (fut (BN D n0) z1 x) := fun x => run_loadVar_row _ pb 24 24 #[.slice A9 n9 c9, .slice B9 m9 k9, .int .i64 p.lv] (0, 0) _ (((fut_ok (BN.refl D n0) z1 x).keep pb HPN.out.1 (by have := HPN.out.2; omega)).trans (HXB.out z1 HDS.out.base)) Try.underlying24 rfl po_size
              refine wpGrow_cons ?_
              repeat (first | (refine wpQuiet_load rfl 31 (.tmp 8) rfl ⟨g0, 0, none⟩ rfl (.agg #[.int .i64 G.sz, .slice A n c, .slice B m k]) (fun w' h => by obtain ⟨x, rfl⟩ := h; exact hfg x) ?_; simp only [Act.put, List.setIfInBounds_toArray, List.set_cons_succ, List.set_cons_zero]) | (refine wpQuiet_load rfl 24 (.tmp 4) rfl ⟨pb, 0, none⟩ rfl (.agg #[.slice A9 n9 c9, .slice B9 m9 k9, .int .i64 p.lv]) (fun w' h => by obtain ⟨x, rfl⟩ := h; exact hfp x) ?_; simp only [Act.put, List.setIfInBounds_toArray, List.set_cons_succ, List.set_cons_zero]) | go_big_quiet_step (fail))
              refine wpQuiet_nil ?_
              clear hfg hfp
              have HPH := Lib.hid (HPY.out z1 HDS.out.base)
              have HS1 : Hid (p.sd.length ≤ 100000) := Lib.hid (by have := HL1.out; omega)
              have HS2 : Hid (p.tb.length ≤ 100000) := Lib.hid (by have := HL2.out; omega)
              have HC := Lib.hid (agree13_any HCC0.out G _ p _ KA kn kc keys z1 HDS.out.hold HPH.out HLA.out HLB2.out HS1.out HS2.out (HKY.out.later HDS.out.base) (by omega))
              go_wp2_with fail
              refine HC.out.mono ?_
              rintro e z2 ⟨rfl, hb⟩
              clear HC HPH HS1 HS2
              have HF : Hid (BN D n0 z1 z2) := Lib.hid (BN.later hb HN.out)
              replace HDS := Lib.hid (HDS.out.later hb)
              replace HN := Lib.hid (Nat.le_trans HN.out hb.size)
              clear hb
              go_wp2_with fail
              refine pieceEnd_normal ⟨HF.out, ?_⟩
              clear HF
              have hfg : ∀ x, (loadVar 31 ⟨g0, 0, none⟩).run Try.prog (fut (BN D n0) z2 x) = .ok (.agg #[.int .i64 G.sz, .slice A n c, .slice B m k]) (fut (BN D n0) z2 x) := fun x => run_loadVar_row _ g0 31 31 #[.int .i64 G.sz, .slice A n c, .slice B m k] (0, 0) _ (((fut_ok (BN.refl D n0) z2 x).keep g0 HGN.out.1 (by have := HGN.out.2; omega)).trans HDS.out.box) Try.underlying31 rfl gr_size
              have hfp : ∀ x, (loadVar 24 ⟨pb, 0, none⟩).run Try.prog (fut (BN D n0) z2 x) = .ok (.agg #[.slice A9 n9 c9, .slice B9 m9 k9, .int .i64 p.lv]) (fut (BN D n0) z2 x) := fun x => run_loadVar_row _ pb 24 24 #[.slice A9 n9 c9, .slice B9 m9 k9, .int .i64 p.lv] (0, 0) _ (((fut_ok (BN.refl D n0) z2 x).keep pb HPN.out.1 (by have := HPN.out.2; omega)).trans (HXB.out z2 HDS.out.base)) Try.underlying24 rfl po_size
              refine wpGrow_cons ?_
              repeat (first | (refine wpQuiet_load rfl 31 (.tmp 8) rfl ⟨g0, 0, none⟩ rfl (.agg #[.int .i64 G.sz, .slice A n c, .slice B m k]) (fun w' h => by obtain ⟨x, rfl⟩ := h; exact hfg x) ?_; simp only [Act.put, List.setIfInBounds_toArray, List.set_cons_succ, List.set_cons_zero]) | (refine wpQuiet_load rfl 24 (.tmp 4) rfl ⟨pb, 0, none⟩ rfl (.agg #[.slice A9 n9 c9, .slice B9 m9 k9, .int .i64 p.lv]) (fun w' h => by obtain ⟨x, rfl⟩ := h; exact hfp x) ?_; simp only [Act.put, List.setIfInBounds_toArray, List.set_cons_succ, List.set_cons_zero]) | go_big_quiet_step (fail))
              refine wpQuiet_nil ?_
              clear hfg hfp
              have HC := Lib.hid (dpolicy_g wb.heap.size D t G _ z2 HDS.out.dice HDS.out.hold (by have := HSN.out; omega) (by have := HSN.out; omega))
              go_wp2_with fail
              refine HC.out.mono ?_
              rintro e z3 ⟨qv, q, rfl, ho, hgp, hq7, hq4, hg⟩
              have HPH := Lib.hid ho.hold
              have HS1 : Hid (q.sd.length ≤ 100000) := Lib.hid (hgp.few (by have := HSN.out; omega))
              have HS2 : Hid (q.tb.length ≤ 100000) := Lib.hid (by omega)
              have HF : Hid (BN D n0 z2 z3) := Lib.hid (BN.but hg.2 HN.out)
              replace HDS := Lib.hid (HDS.out.gave hg)
              replace HN := Lib.hid (Nat.le_trans HN.out hg.2.size)
              clear hg ho hgp hq7 hq4 HC
              go_wp2_with fail
              refine pieceEnd_normal ⟨HF.out, ?_⟩
              clear HF
              refine wpGrow_cons ?_
              refine wpQuiet_nil ?_
              have HC := Lib.hid (agree13_any HCC0.out G _ q qv KA kn kc keys z3 HDS.out.hold HPH.out HLA.out HLB2.out HS1.out HS2.out (HKY.out.later HDS.out.base) (by omega))
              go_wp2_with fail
              refine HC.out.mono ?_
              rintro e z4 ⟨rfl, hb⟩
              clear HC HPH HS1 HS2
              have HF : Hid (BN D n0 z3 z4) := Lib.hid (BN.later hb HN.out)
              replace HDS := Lib.hid (HDS.out.later hb)
              replace HN := Lib.hid (Nat.le_trans HN.out hb.size)
              clear hb
              go_wp2_with fail
              refine pieceEnd_normal ⟨HF.out, ?_⟩
              clear HF
              refine wpGrow_nil ?_
              repeat (go_big_quiet_step (fail))
              refine wpQuiet_nil ?_
              go_wp2_with fail
              go_ret
              have hnw := HNW.out
              have hle := HPB.out
              exact ⟨rfl, hnw.trans (HDS.out.base.mono hnw.size)⟩
        · have gk : decide ((kn : Int) > 70) = true := decide_eq_true (by omega)
          have gk' : decide ((70 : Int) < (kn : Int)) = true := gk
          have gk2 : decide (70 < kn) = true := decide_eq_true (by omega)
          go_wp2_with fail
          skip
          refine (HAW.out wb).mono ?_
          rintro e w1 ⟨rfl, hb⟩
          have HB := Lib.hid (HNW.out.trans (hb.mono HNW.out.size)); clear hb
          go_wp2_with fail
          go_ret
          exact ⟨rfl, HB.out⟩
      · have gt : decide ((m9 : Int) > 20) = true := decide_eq_true (by omega)
        have gt' : decide ((20 : Int) < (m9 : Int)) = true := gt
        have gt2 : decide (20 < m9) = true := decide_eq_true (by omega)
        go_wp2_with fail
        skip
        refine (HAW.out wb).mono ?_
        rintro e w1 ⟨rfl, hb⟩
        have HB := Lib.hid (HNW.out.trans (hb.mono HNW.out.size)); clear hb
        go_wp2_with fail
        go_ret
        exact ⟨rfl, HB.out⟩
    · have gs : decide ((n9 : Int) > 70) = true := decide_eq_true (by omega)
      have gs' : decide ((70 : Int) < (n9 : Int)) = true := gs
      have gs2 : decide (70 < n9) = true := decide_eq_true (by omega)
      go_wp2_with fail
      skip
      refine (HAW.out wb).mono ?_
      rintro e w1 ⟨rfl, hb⟩
      have HB := Lib.hid (HNW.out.trans (hb.mono HNW.out.size)); clear hb
      go_wp2_with fail
      go_ret
      exact ⟨rfl, HB.out⟩
  · have gd0 : decide (tn ≤ 400) = false := decide_eq_false hn
    go_wp2_with fail
    skip
    refine (HAW.out wb).mono ?_
    rintro e w1 ⟨rfl, hb⟩
    have HB := Lib.hid (HNW.out.trans (hb.mono HNW.out.size)); clear hb
    go_wp2_with fail
    go_ret
    exact ⟨rfl, HB.out⟩
end Go.Proofs.Ytdildmfjekdlgaa
