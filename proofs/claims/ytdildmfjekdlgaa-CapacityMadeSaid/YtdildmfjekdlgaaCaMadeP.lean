import Derived.Test.YtdildmfjekdlgaaPackBA
/- The walk of the law CapacityMade. -/
namespace Go.Proofs.Ytdildmfjekdlgaa
open Go.RowKit
set_option maxRecDepth 100000 in
set_option maxHeartbeats 40000000 in
theorem cmade_any (C : CapC) (TA : Option Addr) (tn tc : Nat) (t : List Int) (nn : Int) (w : World) (ht : IRow w TA tn tc t) : Calls Try.prog 4 #[.slice TA tn tc, .int .i64 nn] w (SaysL (.bool true) w) := by
  have HAW : Hid (∀ y, Calls Try.prog 8 #[] y (SaysL (.bool true) y)) := Lib.hid fun y => awake13_any C y
  have HCC0 := Lib.hid C
  have HT := Lib.hid ht; clear ht C
  go_enter Try.func4, Try.ntmps4
  go_wp2_with fail
  refine (light_any TA tn tc w).mono ?_
  rintro e w0 ⟨rfl, rfl⟩
  by_cases hn : tn ≤ 400
  · have gd0 : decide (tn ≤ 400) = true := decide_eq_true hn
    go_wp2_with fail
    clear gd0
    refine (roll_any w.heap.size TA tn tc t w HT.out (by omega) (Nat.le_refl _) (fun ad e h0 => Row.lt HT.out (by decide) ad e h0)).mono ?_
    rintro e w1 ⟨rfl, hd, hb⟩
    obtain ⟨D, hD⟩ : ∃ D, D = w.heap.size := ⟨_, rfl⟩
    have HD : Hid (∃ kd, DiceAt w1 w.heap.size D t kd) := Lib.hid ⟨0, by rw [hD]; exact hd⟩
    have HB := Lib.hid hb
    have HDD : Hid (w.heap.size = D) := Lib.hid hD.symm
    rw [← hD]
    clear hd hb hD HT
    go_wp2_with fail
    refine (ggraph_g w.heap.size D t w1 HD.out).mono ?_
    rintro e w2 ⟨v0, G, rfl, ho, hgd, hsz, hone, hg⟩
    have HDP : Hid (D < w1.heap.size) := Lib.hid (by obtain ⟨kd, hk⟩ := HD.out; exact hk.lt)
    have HGD := Lib.hid hgd; have hsz2 := hsz; have hs64 := hgd.hi
    obtain ⟨A, n, c, B, m, k, hve, -, -⟩ := ho.hold
    subst hve
    have hb2 := one_new w2 (.cells #[.int .i64 G.sz, .slice A n c, .slice B m k] 31)
    have HDS : Hid (DS w D w1.heap.size w2.heap.size t G A n c B m k (w2.alloc (.cells #[.int .i64 G.sz, .slice A n c, .slice B m k] 31))) := Lib.hid
      ⟨by obtain ⟨kd, hk⟩ := hg.1; exact ⟨kd, hk.later hb2⟩, ho.later hb2, (HB.out.trans (hg.2.below (by have := HDD.out; omega) HB.out.size)).trans (hb2.mono (Nat.le_trans HB.out.size hg.2.size)), heap_alloc_new _ _, by have := HDD.out; omega, HDP.out, by have := HDP.out; have := hg.2.size; omega⟩
    clear hgd hsz hone hg ho hb2 HD HB
    go_upto_region 5 with (refine wpList_store_new rfl 31 (.tmp 6) (.tmp 15) rfl 31 _ #[.int .i64 G.sz, .slice A n c, .slice B m k] rfl rfl gr_size rfl (by simp [Value.oneCell']) ?_)
    generalize w2.alloc (.cells #[.int .i64 G.sz, .slice A n c, .slice B m k] 31) = y0 at *
    generalize w2.heap.size = g0 at *
    generalize w1.heap.size = P at *
    try dsimp only [Act.put]
    clear HDP
    obtain ⟨sz, hszn⟩ : ∃ sz : Nat, G.sz = (sz : Int) := ⟨G.sz.toNat, by omega⟩
    have HSN := Lib.hid hszn
    have hsn64 : sz ≤ 64 := by omega
    have hsn2 : 2 ≤ sz := by omega
    clear hszn hsz2 hs64
    have HBX := Lib.hid HDS.out.box
    go_wp2_with (refine wpList_load_row rfl 31 (.tmp 6) rfl g0 rfl 31 #[.int .i64 G.sz, .slice A n c, .slice B m k] (0, 0) _ HBX.out Try.underlying31 rfl gr_size ?_)
    refine (dpolicy_a w.heap.size D t G _ y0 HDS.out.dice HDS.out.hold (by have := HSN.out; omega) (by have := HSN.out; omega)).mono ?_
    rintro e y1 ⟨pv, p, rfl, ho, hgp, hp7, hp4, hg⟩
    obtain ⟨sv, tv, rfl, ho1, ho2, hap⟩ := ho
    obtain ⟨AS, cs, rfl, -⟩ := Row.of_own ho1
    obtain ⟨AT, ct, rfl, -⟩ := Row.of_own ho2
    have HSD := Lib.hid ho1; have HTB := Lib.hid ho2; have HAP := Lib.hid hap
    have HGP := Lib.hid hgp
    have HL1 : Hid (p.sd.length ≤ 64) := Lib.hid (set_len hgp.set (by have := HSN.out; omega))
    have HL2 : Hid (1 ≤ p.tb.length ∧ p.tb.length ≤ 4) := Lib.hid ⟨hgp.tab.some_, hp4⟩
    have HTAB := Lib.hid hgp.tab
    have HG := Lib.hid hg
    clear hg ho1 ho2 HBX hgp hp7 hp4 hap
    go_upto_region 6 with (refine wpList_store_new rfl 24 (.tmp 7) (.tmp 18) rfl 24 _ #[.slice AS p.sd.length cs, .slice AT p.tb.length ct, .int .i64 p.lv] rfl rfl po_size rfl (by simp [Value.oneCell']) ?_)
    have hb := one_new y1 (.cells #[.slice AS p.sd.length cs, .slice AT p.tb.length ct, .int .i64 p.lv] 24)
    have HQ : Hid (PQ w D P g0 t G A n c B m k y0 p (.slice AS p.sd.length cs) (.slice AT p.tb.length ct) y1.heap.size (y1.alloc (.cells #[.slice AS p.sd.length cs, .slice AT p.tb.length ct, .int .i64 p.lv] 24))) := Lib.hid
      { bn := (BN.but HG.out.2 (Nat.le_refl _)).trans (BN.later hb HG.out.2.size)
        dice := by obtain ⟨kd, hk⟩ := HG.out.1; exact ⟨kd, hk.later hb⟩
        dq := HDS.out.lt
        px := heap_alloc_new _ _
        pl := HG.out.2.size
        sd := own_later HSD.out hb
        tb := own_later HTB.out hb
        ap := HAP.out }
    clear hb HSD HTB HAP HG
    generalize y1.alloc (.cells #[.slice AS p.sd.length cs, .slice AT p.tb.length ct, .int .i64 p.lv] 24) = y2 at *
    generalize y1.heap.size = g5 at *
    try dsimp only [Act.put]
    have HD0 := Lib.hid HDS.out
    obtain ⟨n0, hn0⟩ : ∃ n0, y2.drew.heap.size = n0 := ⟨_, rfl⟩
    refine wp_region_grow (by kernel_rfl) (BN D n0) (BN.refl D n0) (fun _ _ _ => BN.trans) [7] [([0, 1, 2, 3, 4], 5), ([], 6)] (by kernel_rfl) (by kernel_rfl) (by kernel_rfl) ?_
    simp only [List.map_cons, List.map_nil, pick, List.getD_cons_zero, List.getD_cons_succ]
    replace HQ := Lib.hid (HQ.out.later (Below.refl _ _).drew)
    have HN : Hid (n0 ≤ y2.drew.heap.size) := Lib.hid (Nat.le_of_eq hn0.symm)
    have HGN : Hid (g0 < n0 ∧ D < g0) := Lib.hid ⟨by rw [← hn0]; exact Nat.lt_of_lt_of_le (Array.getElem?_eq_some_iff.1 HD0.out.box).1 HQ.out.sz, HD0.out.dg⟩
    have HG5 : Hid (g5 < n0 ∧ D < g5) := Lib.hid ⟨by rw [← hn0]; exact (Array.getElem?_eq_some_iff.1 HQ.out.px).1, Nat.lt_of_lt_of_le HQ.out.dq HQ.out.pl⟩
    have HLA : Hid (G.es.length ≤ 100000) := Lib.hid HGD.out.few.1
    have HLB : Hid (G.gn.length ≤ 100000) := Lib.hid HGD.out.few.2
    clear hn0
    generalize y2.drew = z0 at *
    replace HDS := Lib.hid (HD0.out.bn13 HQ.out.bn HQ.out.dice)
    have hfg : ∀ x, (loadVar 31 ⟨g0, 0, none⟩).run Try.prog (fut (BN D n0) z0 x) = .ok (.agg #[.int .i64 G.sz, .slice A n c, .slice B m k]) (fut (BN D n0) z0 x) := fun x => run_loadVar_row _ g0 31 31 #[.int .i64 G.sz, .slice A n c, .slice B m k] (0, 0) _ (((fut_ok (BN.refl D n0) z0 x).keep g0 HGN.out.1 (by have := HGN.out.2; omega)).trans HDS.out.box) Try.underlying31 rfl gr_size
    have hfz : ∀ x, (fut (BN D n0) z0 x).cell? ⟨g0, 0, none⟩ = some (.int .i64 (sz : Int)) := fun x => by rw [← HSN.out]; exact (cell_of_row _ _ 0 _ _ _ (((fut_ok (BN.refl D n0) z0 x).keep g0 HGN.out.1 (by have := HGN.out.2; omega)).trans HDS.out.box)).trans rfl
    have hfp : ∀ x, (loadVar 24 ⟨g5, 0, none⟩).run Try.prog (fut (BN D n0) z0 x) = .ok (.agg #[.slice AS p.sd.length cs, .slice AT p.tb.length ct, .int .i64 p.lv]) (fut (BN D n0) z0 x) := fun x => run_loadVar_row _ g5 24 24 #[.slice AS p.sd.length cs, .slice AT p.tb.length ct, .int .i64 p.lv] (0, 0) _ (((fut_ok (BN.refl D n0) z0 x).keep g5 HG5.out.1 (by have := HG5.out.2; omega)).trans HQ.out.px) Try.underlying24 rfl po_size
    refine wpGrow_cons ?_
    repeat (first | (refine wpQuiet_load rfl 31 (.tmp 6) rfl ⟨g0, 0, none⟩ rfl (.agg #[.int .i64 G.sz, .slice A n c, .slice B m k]) (fun w' h => by obtain ⟨x, rfl⟩ := h; exact hfg x) ?_; simp only [Act.put, List.setIfInBounds_toArray, List.set_cons_succ, List.set_cons_zero]) | (refine wpQuiet_load rfl 24 (.tmp 7) rfl ⟨g5, 0, none⟩ rfl (.agg #[.slice AS p.sd.length cs, .slice AT p.tb.length ct, .int .i64 p.lv]) (fun w' h => by obtain ⟨x, rfl⟩ := h; exact hfp x) ?_; simp only [Act.put, List.setIfInBounds_toArray, List.set_cons_succ, List.set_cons_zero]) | go_big_quiet_step (fail))
    refine wpQuiet_nil ?_
    clear hfg hfz hfp
    go_wp2_with fail
    refine (some_g12 w.heap.size D t sz z0 HQ.out.dice (by omega)).mono ?_
    rintro e z1 ⟨v1, S1, rfl, ho, hsl, hg⟩
    obtain ⟨A7, c7, rfl, hr⟩ := Row.of_own ho
    have HR1 : Hid (IRow z1 A7 S1.length c7 S1) := Lib.hid hr
    have HSL := Lib.hid hsl
    have HF : Hid (BN D n0 z0 z1) := Lib.hid (BN.but hg.2 HN.out)
    replace HQ := Lib.hid (HQ.out.gave hg)
    replace HN := Lib.hid (Nat.le_trans HN.out hg.2.size)
    replace HDS := Lib.hid (HDS.out.gave hg)
    clear hg hr ho hsl
    go_wp2_with fail
    refine pieceEnd_normal ⟨HF.out, ?_⟩
    clear HF
    refine wpGrow_cons ?_
    refine wpQuiet_nil ?_
    have HC := Lib.hid (agree13_any HCC0.out G _ p _ A7 S1.length c7 S1 z1 HDS.out.hold (POwn.hold (b := y0.heap.size) ⟨_, _, rfl, HQ.out.sd, HQ.out.tb⟩) HLA.out HLB.out (by have := HL1.out; omega) (by have := HL2.out; omega) HR1.out (by have := HSL.out; omega))
    go_wp2_with fail
    refine HC.out.mono ?_
    rintro e z2 ⟨rfl, hb⟩
    have HF : Hid (BN D n0 z1 z2) := Lib.hid (BN.later hb HN.out)
    replace HQ := Lib.hid (HQ.out.later hb)
    clear hb HC HR1 HSL HN HDS
    go_wp2_with fail
    refine pieceEnd_normal ⟨HF.out, ?_⟩
    clear HF HGN HG5
    refine wpGrow_nil ?_
    repeat (go_big_quiet_step (fail))
    refine wpQuiet_nil ?_
    go_wp2_with fail
    refine (next_g w.heap.size D t 8 z2 HQ.out.dice (by decide) (by decide)).mono ?_
    rintro e y9 ⟨arm, rfl, ha0, ha1, hg⟩
    replace HQ := Lib.hid (HQ.out.gave hg)
    clear hg
    have HDT : Hid (∀ {q : Pol} {s1 t1 : Value} (z : World), PQ w D P g0 t G A n c B m k y0 q s1 t1 g5 z → q.sd.length ≤ 100 → q.tb.length ≤ 100 → PX w D P g0 t G A n c B m k G.sz q s1 t1 g5 z) := Lib.hid fun z h l1 l2 => h.toX HD0.out l1 l2
    go_upto_block 0 with fail
    go_cut [] (fun wx => ∃ (zz : Int) (q : Pol) (s1 t1 : Value), Hid (PX w D P g0 t G A n c B m k zz q s1 t1 g5 wx))
    case first =>
      have harm : arm = 0 ∨ arm = 1 ∨ arm = 2 ∨ arm = 3 ∨ arm = 4 ∨ arm = 5 ∨ arm = 6 ∨ arm = 7 := by omega
      have hl1 := HL1.out
      have hl21 := HL2.out.1
      have hl24 := HL2.out.2
      rcases harm with rfl | rfl | rfl | rfl | rfl | rfl | rfl | rfl
      · have hc : y9.cell? ⟨g5, 0, none⟩ = some (.slice AS p.sd.length cs) := (cell_of_row _ _ 0 _ _ _ HQ.out.px).trans rfl
        have hfz : y9.frozen? ⟨g5, 0, none⟩ = false := by unfold World.frozen?; rw [HQ.out.px]; simp
        go_wp2_with fail
        go_meet
        exact ⟨G.sz, ⟨[], p.tb, p.lv⟩, _, _, Lib.hid (HDT.out _ (HQ.out.cell (q' := ⟨[], p.tb, p.lv⟩) (Below.refl _ _) rfl rfl (World.ownsRow_nil _ _ _ _) HQ.out.tb (fun b h => by cases h)) (Nat.zero_le _) (by show p.tb.length ≤ 100; omega))⟩
      · have HOX := Lib.hid HQ.out.sd
        have hcq : (y9.alloc (.cells #[.int .i64 nn] 3)).cell? ⟨g5, 0, none⟩ = some (.slice AS p.sd.length cs) := (cell_of_row _ _ 0 _ _ _ ((Below.heap_alloc _ _ _ (Array.getElem?_eq_some_iff.1 HQ.out.px).1).trans HQ.out.px)).trans rfl
        have hcq0 : y9.cell? ⟨g5, 0, none⟩ = some (.slice AS p.sd.length cs) := (cell_of_row _ _ 0 _ _ _ HQ.out.px).trans rfl
        have hqs : g5 < y9.heap.size := (Array.getElem?_eq_some_iff.1 HQ.out.px).1
        have hqn : (Value.slice AS p.sd.length cs).ownBlock ≠ some g5 := fun h => own_neqT12 HOX.out HQ.out.px (by decide) g5 h rfl
        have hwz := HQ.out.sz
        go_wp2_with (at_builtin; go_must (refine wpList_app_newK y9 rfl (.tmp 39) (.tmp 41) 22 3 rfl y0.heap.size Try.underlying22 i64_info rfl _ p.sd.length (intsV p.sd) HOX.out rfl 1 #[.int .i64 nn] rfl (by simp [Value.oneCell']) rfl rfl (by unfold maxLen; omega) (by omega) hwz ?_); intro v5 z5 ho hb hkp hv; have hx5 := (hkp g5 hqs hqn).trans HQ.out.px; have HKP := Lib.hid hkp; have HV := Lib.hid hv; have HO5 := Lib.hid ho; have HB5 := Lib.hid hb; obtain ⟨A5, c5, hv5, -⟩ := Row.of_own ho; subst hv5; have hz5 : z5.cell? ⟨g5, 0, none⟩ = some (.slice AS p.sd.length cs) := (cell_of_row _ _ 0 _ _ _ hx5).trans rfl; have hfz5 : z5.frozen? ⟨g5, 0, none⟩ = false := (by unfold World.frozen?; rw [hx5]; simp); clear ho hb hkp hv hcq hcq0 hx5)
        try clear hz5 hfz5
        have HQ5 : Hid (PQ w D P g0 t G A n c B m k y0 ⟨p.sd ++ [nn], p.tb, p.lv⟩ (.slice A5 (p.sd.length + 1) c5) (.slice AT p.tb.length ct) g5 (z5.setCell ⟨g5, 0, none⟩ (.slice A5 (p.sd.length + 1) c5))) := Lib.hid (HQ.out.cell (q' := ⟨p.sd ++ [nn], p.tb, p.lv⟩) HB5.out (HKP.out g5 hqs hqn) rfl (by have h := HO5.out; rw [show (p.sd ++ [(nn : Int)]).length = p.sd.length + 1 by simp, intsV_app]; exact h) (own_keepL HQ.out.tb fun b hb => HKP.out b (own_lt HQ.out.tb b hb) (fun h => HQ.out.ap b h hb)) (fun b hb h => by
            rcases HV.out with e | ⟨k2, hk2, e⟩
            · rw [e] at hb; exact HQ.out.ap b hb h
            · rw [e] at hb; injection hb with hb; have := own_lt HQ.out.tb b h; omega))
        clear HKP HV HO5 HB5 hqn hqs hwz HOX
        go_meet
        exact ⟨G.sz, _, _, _, Lib.hid (HDT.out _ HQ5.out (by simp; omega) (by show p.tb.length ≤ 100; omega))⟩
      · have hc : y9.cell? ⟨g5, 1, none⟩ = some (.slice AT p.tb.length ct) := (cell_of_row _ _ 1 _ _ _ HQ.out.px).trans rfl
        have hfz : y9.frozen? ⟨g5, 1, none⟩ = false := by unfold World.frozen?; rw [HQ.out.px]; simp
        go_wp2_with fail
        go_meet
        exact ⟨G.sz, ⟨p.sd, [], p.lv⟩, _, _, Lib.hid (HDT.out _ (HQ.out.cell (q' := ⟨p.sd, [], p.lv⟩) (Below.refl _ _) rfl rfl HQ.out.sd (World.ownsRow_nil _ _ _ _) (fun b _ h => by cases h)) (by show p.sd.length ≤ 100; omega) (Nat.zero_le _))⟩
      · go_wp2_with fail
        go_loopw [50] (fun v50 wr => ∃ (tb : List Int) (s1 t1 : Value), tb.length ≤ 9 ∧ Hid (PQ w D P g0 t G A n c B m k y0 ⟨p.sd, tb, p.lv⟩ s1 t1 g5 wr)) (fun _ wr => 9 - lenAt g5 1 wr)
        case atStart => exact ⟨p.tb, _, _, by omega, HQ⟩
        case round =>
          clear HQ
          obtain ⟨tb, s1, t1, htl, HQ⟩ := hrel
          obtain ⟨A1, c1, rfl, -⟩ := Row.of_own HQ.out.sd
          obtain ⟨At, cw, rfl, -⟩ := Row.of_own HQ.out.tb
          have HLN : Hid (lenAt g5 1 wr = tb.length) := Lib.hid (by unfold lenAt; rw [(cell_of_row _ _ 1 _ _ _ HQ.out.px).trans rfl]; rfl)
          go_upto_region 17 with fail
          obtain ⟨n0, hn0⟩ : ∃ n0, wr.drew.heap.size = n0 := ⟨_, rfl⟩
          refine wp_region_grow (by kernel_rfl) (BN D n0) (BN.refl D n0) (fun _ _ _ => BN.trans) [5, 6] [([0, 1, 2, 3], 4)] (by kernel_rfl) (by kernel_rfl) (by kernel_rfl) ?_
          simp only [List.map_cons, List.map_nil, pick, List.getD_cons_zero, List.getD_cons_succ]
          replace HQ := Lib.hid (HQ.out.later (Below.refl _ _).drew)
          have HN : Hid (n0 ≤ wr.drew.heap.size) := Lib.hid (Nat.le_of_eq hn0.symm)
          have HG5 : Hid (g5 < n0 ∧ D ≠ g5) := Lib.hid ⟨by rw [← hn0]; exact (Array.getElem?_eq_some_iff.1 HQ.out.px).1, by have h1 := HQ.out.dq; have h2 := HQ.out.pl; omega⟩
          clear hn0
          generalize wr.drew = z0 at *
          have hf1 : ∀ x, (fut (BN D n0) z0 x).cell? ⟨g5, 1, none⟩ = some (.slice At tb.length cw) := fun x => (cell_of_row _ _ 1 _ _ _ (((fut_ok (BN.refl D n0) z0 x).keep g5 HG5.out.1 (Ne.symm HG5.out.2)).trans HQ.out.px)).trans rfl
          refine wpGrow_cons ?_
          repeat (go_big_quiet_step (fail))
          refine wpQuiet_nil ?_
          clear hf1
          go_wp2_with fail
          refine (next_g w.heap.size D t 2 z0 HQ.out.dice (by decide) (by decide)).mono ?_
          rintro e z2 ⟨x, rfl, hx0, hx1, hg⟩
          have HF : Hid (BN D n0 z0 z2) := Lib.hid (BN.but hg.2 HN.out)
          replace HQ := Lib.hid (HQ.out.gave hg)
          clear hg HN HG5
          go_wp2_with fail
          refine pieceEnd_normal ⟨HF.out, ?_⟩
          clear HF
          have m0 : RowKit.wrap64 (8 + x) = 8 + x := IntWalk.wrap64_in _ (by omega)
          have m1 : IntKind.i64.wrap (8 + x) = 8 + x := by rw [IntKind.wrap_i64]; omega
          by_cases hlt : (tb.length : Int) < 8 + x
          · have d0 : decide ((tb.length : Int) < 8 + x) = true := decide_eq_true hlt
            have htl8 : tb.length ≤ 8 := by omega
            refine wpGrow_nil ?_
            repeat (go_big_quiet_step (fail))
            refine wpQuiet_nil ?_
            clear m0 m1
            have HOX := Lib.hid HQ.out.tb
            have hcq : (z2.alloc (.cells #[.int .i64 1] 3)).cell? ⟨g5, 1, none⟩ = some (.slice At tb.length cw) := (cell_of_row _ _ 1 _ _ _ ((Below.heap_alloc _ _ _ (Array.getElem?_eq_some_iff.1 HQ.out.px).1).trans HQ.out.px)).trans rfl
            have hcq0 : z2.cell? ⟨g5, 1, none⟩ = some (.slice At tb.length cw) := (cell_of_row _ _ 1 _ _ _ HQ.out.px).trans rfl
            have hqs : g5 < z2.heap.size := (Array.getElem?_eq_some_iff.1 HQ.out.px).1
            have hqn : (Value.slice At tb.length cw).ownBlock ≠ some g5 := fun h => own_neqT12 HOX.out HQ.out.px (by decide) g5 h rfl
            have hwz := HQ.out.sz
            go_wp2_with (at_builtin; go_must (refine wpList_app_newK z2 rfl (.tmp 57) (.tmp 58) 22 3 rfl y0.heap.size Try.underlying22 i64_info rfl _ tb.length (intsV tb) HOX.out rfl 1 #[.int .i64 1] rfl (by simp [Value.oneCell']) rfl rfl (by unfold maxLen; omega) (by omega) hwz ?_); intro v5 z5 ho hb hkp hv; have hx5 := (hkp g5 hqs hqn).trans HQ.out.px; have HKP := Lib.hid hkp; have HV := Lib.hid hv; have HO5 := Lib.hid ho; have HB5 := Lib.hid hb; obtain ⟨A5, c5, hv5, -⟩ := Row.of_own ho; subst hv5; have hz5 : z5.cell? ⟨g5, 1, none⟩ = some (.slice At tb.length cw) := (cell_of_row _ _ 1 _ _ _ hx5).trans rfl; have hfz5 : z5.frozen? ⟨g5, 1, none⟩ = false := (by unfold World.frozen?; rw [hx5]; simp); clear ho hb hkp hv hcq hcq0 hx5)
            try clear hz5 hfz5
            have HQ5 : Hid (PQ w D P g0 t G A n c B m k y0 ⟨p.sd, tb ++ [1], p.lv⟩ (.slice A1 p.sd.length c1) (.slice A5 (tb.length + 1) c5) g5 (z5.setCell ⟨g5, 1, none⟩ (.slice A5 (tb.length + 1) c5))) := Lib.hid (HQ.out.cell (q' := ⟨p.sd, tb ++ [1], p.lv⟩) HB5.out (HKP.out g5 hqs hqn) rfl (own_keepL HQ.out.sd fun b hb => HKP.out b (own_lt HQ.out.sd b hb) (HQ.out.ap b hb)) (by have h := HO5.out; rw [show (tb ++ [(1 : Int)]).length = tb.length + 1 by simp, intsV_app]; exact h) (fun b hb h => by
                rcases HV.out with e | ⟨k2, hk2, e⟩
                · rw [e] at h; exact HQ.out.ap b hb h
                · rw [e] at h; injection h with h; have := own_lt HQ.out.sd b hb; omega))
            clear HKP HV HO5 HB5 hqn hqs hwz HOX
            exact ⟨⟨tb ++ [1], _, _, by simp; omega, HQ5⟩, by
              have e1 : lenAt g5 1 (z5.setCell ⟨g5, 1, none⟩ (.slice A5 (tb.length + 1) c5)) = tb.length + 1 := by unfold lenAt; rw [(cell_of_row _ _ 1 _ _ _ HQ5.out.px).trans rfl]; rfl
              rw [e1, HLN.out]
              omega⟩
          · have d0 : decide ((tb.length : Int) < 8 + x) = false := decide_eq_false hlt
            refine wpGrow_nil ?_
            repeat (go_big_quiet_step (fail))
            refine wpQuiet_nil ?_
            clear m0 m1
            go_wp2_with fail
            go_meet
            exact ⟨G.sz, _, _, _, Lib.hid (HDT.out _ HQ.out (by show p.sd.length ≤ 100; omega) (by show tb.length ≤ 100; omega))⟩
      · obtain ⟨bt, ct9, hvt⟩ := own_someI HQ.out.tb (by omega)
        injection hvt with i1 i2 i3
        subst i1 i3
        clear i2
        go_upto_region 20 with fail
        obtain ⟨n0, hn0⟩ : ∃ n0, y9.drew.heap.size = n0 := ⟨_, rfl⟩
        refine wp_region_grow (by kernel_rfl) (B2 D bt n0) (B2.refl D bt n0) (fun _ _ _ => B2.trans) [] [([0, 1, 2, 3], 4), ([], 5), ([6], 7)] (by kernel_rfl) (by kernel_rfl) (by kernel_rfl) ?_
        simp only [List.map_cons, List.map_nil, pick, List.getD_cons_zero, List.getD_cons_succ]
        replace HQ := Lib.hid (HQ.out.later (Below.refl _ _).drew)
        have HN : Hid (n0 ≤ y9.drew.heap.size) := Lib.hid (Nat.le_of_eq hn0.symm)
        have HG5 : Hid (g5 < n0 ∧ D ≠ g5 ∧ bt ≠ g5) := Lib.hid ⟨by rw [← hn0]; exact (Array.getElem?_eq_some_iff.1 HQ.out.px).1, by have h1 := HQ.out.dq; have h2 := HQ.out.pl; omega, own_neqT12 HQ.out.tb HQ.out.px (by decide) bt rfl⟩
        clear hn0
        generalize y9.drew = z0 at *
        have hf1 : ∀ x, (fut (B2 D bt n0) z0 x).cell? ⟨g5, 1, none⟩ = some (.slice (some ⟨bt, 0, none⟩) p.tb.length ct) := fun x => (cell_of_row _ _ 1 _ _ _ (((fut_ok (B2.refl D bt n0) z0 x).keep g5 HG5.out.1 (Ne.symm HG5.out.2.1) (Ne.symm HG5.out.2.2)).trans HQ.out.px)).trans rfl
        refine wpGrow_cons ?_
        repeat (go_big_quiet_step (fail))
        refine wpQuiet_nil ?_
        clear hf1
        go_wp2_with fail
        have hb := one_new z0 (.cells #[.int .i64 1000, .int .i64 1001, .int .i64 0, .int .i64 nn] 3)
        refine pieceEnd_normal ⟨B2.later hb HN.out, ?_⟩
        have HR3 : Hid (Row (z0.alloc (.cells #[.int .i64 1000, .int .i64 1001, .int .i64 0, .int .i64 nn] 3)) (some ⟨z0.heap.size, 0, none⟩) 4 4 1 (intsV [1000, 1001, 0, nn])) := Lib.hid (Row.of_block (heap_alloc_new _ _) rfl)
        have HZD : Hid (z0.heap.size ≠ D) := Lib.hid (by have h1 := HQ.out.dq; have h2 := HQ.out.sz; omega)
        replace HQ := Lib.hid (HQ.out.later hb)
        replace HN := Lib.hid (Nat.le_trans HN.out hb.size)
        clear hb
        generalize z0.alloc (.cells #[.int .i64 1000, .int .i64 1001, .int .i64 0, .int .i64 nn] 3) = z1 at *
        generalize z0.heap.size = s0 at *
        refine wpGrow_cons ?_
        refine wpQuiet_nil ?_
        have HC := Lib.hid (of_g w.heap.size D t (some ⟨s0, 0, none⟩) 4 4 [1000, 1001, 0, nn] z1 HQ.out.dice HR3.out (fun ad e => by injection e with e; subst e; exact HZD.out) (by decide) (by decide))
        go_wp2_with fail
        refine HC.out.mono ?_
        rintro e zo ⟨x, rfl, -, hg⟩
        have HF : Hid (B2 D bt n0 z1 zo) := Lib.hid (B2.but hg.2 HN.out)
        replace HQ := Lib.hid (HQ.out.gave hg)
        clear hg HC HR3 HZD HN
        go_wp2_with fail
        refine pieceEnd_normal ⟨HF.out, ?_⟩
        clear HF
        obtain ⟨hoc, hof⟩ := own_i HQ.out.tb (show 0 < p.tb.length by omega)
        have h0n : 0 < p.tb.length := by omega
        refine wpGrow_cons ?_
        repeat (go_big_quiet_step (fail))
        refine wpQuiet_nil ?_
        go_wp2_with fail
        refine pieceEnd_normal ⟨B2.set _ _ _ _ _ _, ?_⟩
        clear hoc hof
        refine wpGrow_nil ?_
        refine wpQuiet_nil ?_
        go_wp2_with fail
        go_meet
        exact ⟨G.sz, ⟨p.sd, p.tb.set 0 x, p.lv⟩, _, _, Lib.hid (HDT.out _ (HQ.out.table 0 x) (by show p.sd.length ≤ 100; omega) (by show (p.tb.set 0 x).length ≤ 100; rw [List.length_set]; omega))⟩
      · as_aux_lemma =>
         obtain ⟨bt, ct9, hvt⟩ := own_someI HQ.out.tb (by omega)
         injection hvt with i1 i2 i3
         subst i1 i3
         clear i2
         obtain ⟨q0, hq0⟩ : ∃ q0, p.tb.length = q0 + 1 := ⟨p.tb.length - 1, by omega⟩
         have hq0l : q0 < p.tb.length := by omega
         have e1 : (0 : Int) ≤ (p.tb.length : Int) - 1 := by omega
         have e2 : (p.tb.length : Int) - 1 < (p.tb.length : Int) := by omega
         have e3 : ((p.tb.length : Int) - 1).toNat = q0 := by omega
         have m0 : RowKit.wrap64 ((p.tb.length : Int) - 1) = (p.tb.length : Int) - 1 := IntWalk.wrap64_in _ (by omega)
         have m1 : IntKind.i64.wrap ((p.tb.length : Int) - 1) = (p.tb.length : Int) - 1 := by rw [IntKind.wrap_i64]; omega
         have hel0 := (HTAB.out.at_ q0 hq0l).1
         have hel1 := (HTAB.out.at_ q0 hq0l).2.1
         clear hq0
         go_upto_region 22 with fail
         refine wp_region_flow (by kernel_rfl) AnyW13 ?_
         replace HQ := Lib.hid (HQ.out.later (Below.refl _ _).drew)
         generalize y9.drew = z0 at *
         obtain ⟨el, hel⟩ : ∃ el, p.tb.getD q0 0 = el := ⟨_, rfl⟩
         rw [hel] at hel0 hel1
         have HEL := Lib.hid hel
         clear hel
         refine flow_reads (F := AnyW13) (fun _ => AnyW13.all _ _) (by kernel_rfl) [0, 2, 4, 10] (fuel := 13) (by kernel_rfl) ?_
         simp only [List.map_cons, List.map_nil, pick, List.getD_cons_zero, List.getD_cons_succ]
         repeat (go_big_quiet_step (fail))
         refine wpQuiet_nil ?_
         refine flow_four (F := AnyW13) (fun _ _ _ _ _ => AnyW13.all _ _) (fun _ => AnyW13.all _ _) 1 3 5 11 (by kernel_rfl) (by decide) (by decide) (by decide) (by decide) ?_ ?_ ?_ ?_ <;> simp only [pick, List.getD_cons_zero, List.getD_cons_succ]
         ·
          have hcq : z0.cell? ⟨g5, 1, none⟩ = some (.slice (some ⟨bt, 0, none⟩) p.tb.length ct) := (cell_of_row _ _ 1 _ _ _ HQ.out.px).trans rfl
          go_wp2_with fail
          clear hcq
          refine pieceEnd_normal ⟨AnyW13.all _ _, ?_⟩
          refine flow_three (F := AnyW13) (fun _ _ _ _ _ => AnyW13.all _ _) (fun _ => AnyW13.all _ _) 3 5 11 (by kernel_rfl) (by decide) (by decide) (by decide) ?_ ?_ ?_ <;> simp only [pick, List.getD_cons_zero, List.getD_cons_succ]
          ·
           have hcq : z0.cell? ⟨g5, 1, none⟩ = some (.slice (some ⟨bt, 0, none⟩) p.tb.length ct) := (cell_of_row _ _ 1 _ _ _ HQ.out.px).trans rfl
           go_wp2_with fail
           clear hcq
           refine pieceEnd_normal ⟨AnyW13.all _ _, ?_⟩
           refine flow_two (F := AnyW13) (fun _ _ _ _ _ => AnyW13.all _ _) (fun _ => AnyW13.all _ _) 5 11 (by kernel_rfl) (by decide) (by decide) ?_ ?_ <;> simp only [pick, List.getD_cons_zero, List.getD_cons_succ]
           ·
            have hcq : z0.cell? ⟨g5, 1, none⟩ = some (.slice (some ⟨bt, 0, none⟩) p.tb.length ct) := (cell_of_row _ _ 1 _ _ _ HQ.out.px).trans rfl
            go_wp2_with fail
            clear hcq
            refine pieceEnd_normal ⟨AnyW13.all _ _, ?_⟩
            refine flow_reads (F := AnyW13) (fun _ => AnyW13.all _ _) (by kernel_rfl) [6, 7, 8] (fuel := 7) (by kernel_rfl) ?_
            simp only [List.map_cons, List.map_nil, pick, List.getD_cons_zero, List.getD_cons_succ]
            repeat (go_big_quiet_step (fail))
            refine wpQuiet_nil ?_
            refine flow_two (F := AnyW13) (fun _ _ _ _ _ => AnyW13.all _ _) (fun _ => AnyW13.all _ _) 9 11 (by kernel_rfl) (by decide) (by decide) ?_ ?_ <;> simp only [pick, List.getD_cons_zero, List.getD_cons_succ]
            ·
             have hcq : z0.cell? ⟨bt, q0, none⟩ = some (.int .i64 el) := by rw [← HEL.out]; exact (own_i HQ.out.tb hq0l).1
             go_wp2_with fail
             clear hcq
             refine pieceEnd_normal ⟨AnyW13.all _ _, ?_⟩
             refine flow_one (F := AnyW13) (fun _ _ _ _ _ => AnyW13.all _ _) (fun _ => AnyW13.all _ _) 11 (by kernel_rfl) (by decide) ?_
             simp only [pick, List.getD_cons_zero, List.getD_cons_succ]
             go_wp2_with fail
             refine (next_g w.heap.size D t 2 z0 HQ.out.dice (by decide) (by decide)).mono ?_
             rintro e za1 ⟨x, rfl, hx0, hx1, hg⟩
             replace HQ := Lib.hid (HQ.out.gave hg)
             have m2 : RowKit.wrap64 (el + x) = el + x := IntWalk.wrap64_in _ (by omega)
             have m3 : IntKind.i64.wrap (el + x) = el + x := by rw [IntKind.wrap_i64]; omega
             clear hg
             go_wp2_with fail
             refine pieceEnd_normal ⟨AnyW13.all _ _, ?_⟩
             refine flow_reads (F := AnyW13) (fun _ => AnyW13.all _ _) (by kernel_rfl) [12] (fuel := 4) (by kernel_rfl) ?_
             simp only [List.map_cons, List.map_nil, pick, List.getD_cons_zero, List.getD_cons_succ]
             repeat (go_big_quiet_step (fail))
             refine wpQuiet_nil ?_
             refine flow_one (F := AnyW13) (fun _ _ _ _ _ => AnyW13.all _ _) (fun _ => AnyW13.all _ _) 13 (by kernel_rfl) (by decide) ?_
             simp only [pick, List.getD_cons_zero, List.getD_cons_succ]
             go_wp2_with fail
             have hb := one_new za1 (.cells #[.int .i64 (el + x)] 3)
             refine pieceEnd_normal ⟨AnyW13.all _ _, ?_⟩
             have HR3 : Hid (Row (za1.alloc (.cells #[.int .i64 (el + x)] 3)) (some ⟨za1.heap.size, 0, none⟩) 1 1 1 (intsV [el + x])) := Lib.hid (Row.of_block (heap_alloc_new _ _) rfl)
             replace HQ := Lib.hid (HQ.out.later hb)
             clear hb
             generalize za1.alloc (.cells #[.int .i64 (el + x)] 3) = za2 at *
             generalize za1.heap.size = s3 at *
             refine flow_one (F := AnyW13) (fun _ _ _ _ _ => AnyW13.all _ _) (fun _ => AnyW13.all _ _) 14 (by kernel_rfl) (by decide) ?_
             simp only [pick, List.getD_cons_zero, List.getD_cons_succ]
             have hwz := HQ.out.sz
             have hqs : g5 < za2.heap.size := (Array.getElem?_eq_some_iff.1 HQ.out.px).1
             have hqn : (Value.slice (some ⟨bt, 0, none⟩) p.tb.length ct).ownBlock ≠ some g5 := fun h => own_neqT12 HQ.out.tb HQ.out.px (by decide) g5 h rfl
             go_wp2_with (at_builtin; go_must (refine wpList_app2 za2 rfl (.tmp 73) (.tmp 85) 22 22 3 rfl y0.heap.size Try.underlying22 i64_info rfl _ p.tb.length (intsV p.tb) HQ.out.tb rfl _ 1 (intsV [el + x]) (Row.src HR3.out Try.underlying22 (intsV_one _)) rfl (by unfold maxLen; omega) (by omega) hwz ?_); intro v5 z5 ho hb hkp hv; have HO5 := Lib.hid ho; have HB5 := Lib.hid hb; have HKP := Lib.hid hkp; have HV := Lib.hid hv; clear ho hb hkp hv)
             refine pieceEnd_normal ⟨AnyW13.all _ _, ?_⟩
             obtain ⟨A5, c5, hv5, -⟩ := Row.of_own HO5.out
             subst hv5
             have HQ5 := Lib.hid (PQ.apd13 HQ.out (el + x) HB5.out HKP.out HO5.out HV.out)
             have hx5 := (HKP.out g5 hqs hqn).trans HQ.out.px
             clear HQ HR3 HO5 HB5 HKP HV hqs hqn hwz
             refine flow_reads (F := AnyW13) (fun _ => AnyW13.all _ _) (by kernel_rfl) [15] (fuel := 1) (by kernel_rfl) ?_
             simp only [List.map_cons, List.map_nil, pick, List.getD_cons_zero, List.getD_cons_succ]
             repeat (go_big_quiet_step (fail))
             refine wpQuiet_nil ?_
             refine flow_one (F := AnyW13) (fun _ _ _ _ _ => AnyW13.all _ _) (fun _ => AnyW13.all _ _) 16 (by kernel_rfl) (by decide) ?_
             simp only [pick, List.getD_cons_zero, List.getD_cons_succ]
             have hz5 : z5.cell? ⟨g5, 1, none⟩ = some (.slice (some ⟨bt, 0, none⟩) p.tb.length ct) := (cell_of_row _ _ 1 _ _ _ hx5).trans rfl
             have hfz5 : z5.frozen? ⟨g5, 1, none⟩ = false := by unfold World.frozen?; rw [hx5]; simp
             clear hx5
             go_wp2_with fail
             refine pieceEnd_normal ⟨AnyW13.all _ _, ?_⟩
             refine flow_done (by kernel_rfl) ?_
             go_wp2_with fail
             go_meet
             exact ⟨G.sz, _, _, _, Lib.hid (HDT.out _ HQ5.out (by show p.sd.length ≤ 100; omega) (by simp; omega))⟩
            ·
             go_wp2_with fail
             refine (next_g w.heap.size D t 2 z0 HQ.out.dice (by decide) (by decide)).mono ?_
             rintro e za3 ⟨x, rfl, hx0, hx1, hg⟩
             replace HQ := Lib.hid (HQ.out.gave hg)
             have m2 : RowKit.wrap64 (el + x) = el + x := IntWalk.wrap64_in _ (by omega)
             have m3 : IntKind.i64.wrap (el + x) = el + x := by rw [IntKind.wrap_i64]; omega
             clear hg
             go_wp2_with fail
             refine pieceEnd_normal ⟨AnyW13.all _ _, ?_⟩
             refine flow_one (F := AnyW13) (fun _ _ _ _ _ => AnyW13.all _ _) (fun _ => AnyW13.all _ _) 9 (by kernel_rfl) (by decide) ?_
             simp only [pick, List.getD_cons_zero, List.getD_cons_succ]
             have hcq : za3.cell? ⟨bt, q0, none⟩ = some (.int .i64 el) := by rw [← HEL.out]; exact (own_i HQ.out.tb hq0l).1
             go_wp2_with fail
             clear hcq
             refine pieceEnd_normal ⟨AnyW13.all _ _, ?_⟩
             refine flow_reads (F := AnyW13) (fun _ => AnyW13.all _ _) (by kernel_rfl) [12] (fuel := 4) (by kernel_rfl) ?_
             simp only [List.map_cons, List.map_nil, pick, List.getD_cons_zero, List.getD_cons_succ]
             repeat (go_big_quiet_step (fail))
             refine wpQuiet_nil ?_
             refine flow_one (F := AnyW13) (fun _ _ _ _ _ => AnyW13.all _ _) (fun _ => AnyW13.all _ _) 13 (by kernel_rfl) (by decide) ?_
             simp only [pick, List.getD_cons_zero, List.getD_cons_succ]
             go_wp2_with fail
             have hb := one_new za3 (.cells #[.int .i64 (el + x)] 3)
             refine pieceEnd_normal ⟨AnyW13.all _ _, ?_⟩
             have HR3 : Hid (Row (za3.alloc (.cells #[.int .i64 (el + x)] 3)) (some ⟨za3.heap.size, 0, none⟩) 1 1 1 (intsV [el + x])) := Lib.hid (Row.of_block (heap_alloc_new _ _) rfl)
             replace HQ := Lib.hid (HQ.out.later hb)
             clear hb
             generalize za3.alloc (.cells #[.int .i64 (el + x)] 3) = za4 at *
             generalize za3.heap.size = s3 at *
             refine flow_one (F := AnyW13) (fun _ _ _ _ _ => AnyW13.all _ _) (fun _ => AnyW13.all _ _) 14 (by kernel_rfl) (by decide) ?_
             simp only [pick, List.getD_cons_zero, List.getD_cons_succ]
             have hwz := HQ.out.sz
             have hqs : g5 < za4.heap.size := (Array.getElem?_eq_some_iff.1 HQ.out.px).1
             have hqn : (Value.slice (some ⟨bt, 0, none⟩) p.tb.length ct).ownBlock ≠ some g5 := fun h => own_neqT12 HQ.out.tb HQ.out.px (by decide) g5 h rfl
             go_wp2_with (at_builtin; go_must (refine wpList_app2 za4 rfl (.tmp 73) (.tmp 85) 22 22 3 rfl y0.heap.size Try.underlying22 i64_info rfl _ p.tb.length (intsV p.tb) HQ.out.tb rfl _ 1 (intsV [el + x]) (Row.src HR3.out Try.underlying22 (intsV_one _)) rfl (by unfold maxLen; omega) (by omega) hwz ?_); intro v5 z5 ho hb hkp hv; have HO5 := Lib.hid ho; have HB5 := Lib.hid hb; have HKP := Lib.hid hkp; have HV := Lib.hid hv; clear ho hb hkp hv)
             refine pieceEnd_normal ⟨AnyW13.all _ _, ?_⟩
             obtain ⟨A5, c5, hv5, -⟩ := Row.of_own HO5.out
             subst hv5
             have HQ5 := Lib.hid (PQ.apd13 HQ.out (el + x) HB5.out HKP.out HO5.out HV.out)
             have hx5 := (HKP.out g5 hqs hqn).trans HQ.out.px
             clear HQ HR3 HO5 HB5 HKP HV hqs hqn hwz
             refine flow_reads (F := AnyW13) (fun _ => AnyW13.all _ _) (by kernel_rfl) [15] (fuel := 1) (by kernel_rfl) ?_
             simp only [List.map_cons, List.map_nil, pick, List.getD_cons_zero, List.getD_cons_succ]
             repeat (go_big_quiet_step (fail))
             refine wpQuiet_nil ?_
             refine flow_one (F := AnyW13) (fun _ _ _ _ _ => AnyW13.all _ _) (fun _ => AnyW13.all _ _) 16 (by kernel_rfl) (by decide) ?_
             simp only [pick, List.getD_cons_zero, List.getD_cons_succ]
             have hz5 : z5.cell? ⟨g5, 1, none⟩ = some (.slice (some ⟨bt, 0, none⟩) p.tb.length ct) := (cell_of_row _ _ 1 _ _ _ hx5).trans rfl
             have hfz5 : z5.frozen? ⟨g5, 1, none⟩ = false := by unfold World.frozen?; rw [hx5]; simp
             clear hx5
             go_wp2_with fail
             refine pieceEnd_normal ⟨AnyW13.all _ _, ?_⟩
             refine flow_done (by kernel_rfl) ?_
             go_wp2_with fail
             go_meet
             exact ⟨G.sz, _, _, _, Lib.hid (HDT.out _ HQ5.out (by show p.sd.length ≤ 100; omega) (by simp; omega))⟩
           ·
            go_wp2_with fail
            refine (next_g w.heap.size D t 2 z0 HQ.out.dice (by decide) (by decide)).mono ?_
            rintro e za5 ⟨x, rfl, hx0, hx1, hg⟩
            replace HQ := Lib.hid (HQ.out.gave hg)
            have m2 : RowKit.wrap64 (el + x) = el + x := IntWalk.wrap64_in _ (by omega)
            have m3 : IntKind.i64.wrap (el + x) = el + x := by rw [IntKind.wrap_i64]; omega
            clear hg
            go_wp2_with fail
            refine pieceEnd_normal ⟨AnyW13.all _ _, ?_⟩
            refine flow_one (F := AnyW13) (fun _ _ _ _ _ => AnyW13.all _ _) (fun _ => AnyW13.all _ _) 5 (by kernel_rfl) (by decide) ?_
            simp only [pick, List.getD_cons_zero, List.getD_cons_succ]
            have hcq : za5.cell? ⟨g5, 1, none⟩ = some (.slice (some ⟨bt, 0, none⟩) p.tb.length ct) := (cell_of_row _ _ 1 _ _ _ HQ.out.px).trans rfl
            go_wp2_with fail
            clear hcq
            refine pieceEnd_normal ⟨AnyW13.all _ _, ?_⟩
            refine flow_reads (F := AnyW13) (fun _ => AnyW13.all _ _) (by kernel_rfl) [6, 7, 8] (fuel := 6) (by kernel_rfl) ?_
            simp only [List.map_cons, List.map_nil, pick, List.getD_cons_zero, List.getD_cons_succ]
            repeat (go_big_quiet_step (fail))
            refine wpQuiet_nil ?_
            refine flow_one (F := AnyW13) (fun _ _ _ _ _ => AnyW13.all _ _) (fun _ => AnyW13.all _ _) 9 (by kernel_rfl) (by decide) ?_
            simp only [pick, List.getD_cons_zero, List.getD_cons_succ]
            have hcq : za5.cell? ⟨bt, q0, none⟩ = some (.int .i64 el) := by rw [← HEL.out]; exact (own_i HQ.out.tb hq0l).1
            go_wp2_with fail
            clear hcq
            refine pieceEnd_normal ⟨AnyW13.all _ _, ?_⟩
            refine flow_reads (F := AnyW13) (fun _ => AnyW13.all _ _) (by kernel_rfl) [12] (fuel := 4) (by kernel_rfl) ?_
            simp only [List.map_cons, List.map_nil, pick, List.getD_cons_zero, List.getD_cons_succ]
            repeat (go_big_quiet_step (fail))
            refine wpQuiet_nil ?_
            refine flow_one (F := AnyW13) (fun _ _ _ _ _ => AnyW13.all _ _) (fun _ => AnyW13.all _ _) 13 (by kernel_rfl) (by decide) ?_
            simp only [pick, List.getD_cons_zero, List.getD_cons_succ]
            go_wp2_with fail
            have hb := one_new za5 (.cells #[.int .i64 (el + x)] 3)
            refine pieceEnd_normal ⟨AnyW13.all _ _, ?_⟩
            have HR3 : Hid (Row (za5.alloc (.cells #[.int .i64 (el + x)] 3)) (some ⟨za5.heap.size, 0, none⟩) 1 1 1 (intsV [el + x])) := Lib.hid (Row.of_block (heap_alloc_new _ _) rfl)
            replace HQ := Lib.hid (HQ.out.later hb)
            clear hb
            generalize za5.alloc (.cells #[.int .i64 (el + x)] 3) = za6 at *
            generalize za5.heap.size = s3 at *
            refine flow_one (F := AnyW13) (fun _ _ _ _ _ => AnyW13.all _ _) (fun _ => AnyW13.all _ _) 14 (by kernel_rfl) (by decide) ?_
            simp only [pick, List.getD_cons_zero, List.getD_cons_succ]
            have hwz := HQ.out.sz
            have hqs : g5 < za6.heap.size := (Array.getElem?_eq_some_iff.1 HQ.out.px).1
            have hqn : (Value.slice (some ⟨bt, 0, none⟩) p.tb.length ct).ownBlock ≠ some g5 := fun h => own_neqT12 HQ.out.tb HQ.out.px (by decide) g5 h rfl
            go_wp2_with (at_builtin; go_must (refine wpList_app2 za6 rfl (.tmp 73) (.tmp 85) 22 22 3 rfl y0.heap.size Try.underlying22 i64_info rfl _ p.tb.length (intsV p.tb) HQ.out.tb rfl _ 1 (intsV [el + x]) (Row.src HR3.out Try.underlying22 (intsV_one _)) rfl (by unfold maxLen; omega) (by omega) hwz ?_); intro v5 z5 ho hb hkp hv; have HO5 := Lib.hid ho; have HB5 := Lib.hid hb; have HKP := Lib.hid hkp; have HV := Lib.hid hv; clear ho hb hkp hv)
            refine pieceEnd_normal ⟨AnyW13.all _ _, ?_⟩
            obtain ⟨A5, c5, hv5, -⟩ := Row.of_own HO5.out
            subst hv5
            have HQ5 := Lib.hid (PQ.apd13 HQ.out (el + x) HB5.out HKP.out HO5.out HV.out)
            have hx5 := (HKP.out g5 hqs hqn).trans HQ.out.px
            clear HQ HR3 HO5 HB5 HKP HV hqs hqn hwz
            refine flow_reads (F := AnyW13) (fun _ => AnyW13.all _ _) (by kernel_rfl) [15] (fuel := 1) (by kernel_rfl) ?_
            simp only [List.map_cons, List.map_nil, pick, List.getD_cons_zero, List.getD_cons_succ]
            repeat (go_big_quiet_step (fail))
            refine wpQuiet_nil ?_
            refine flow_one (F := AnyW13) (fun _ _ _ _ _ => AnyW13.all _ _) (fun _ => AnyW13.all _ _) 16 (by kernel_rfl) (by decide) ?_
            simp only [pick, List.getD_cons_zero, List.getD_cons_succ]
            have hz5 : z5.cell? ⟨g5, 1, none⟩ = some (.slice (some ⟨bt, 0, none⟩) p.tb.length ct) := (cell_of_row _ _ 1 _ _ _ hx5).trans rfl
            have hfz5 : z5.frozen? ⟨g5, 1, none⟩ = false := by unfold World.frozen?; rw [hx5]; simp
            clear hx5
            go_wp2_with fail
            refine pieceEnd_normal ⟨AnyW13.all _ _, ?_⟩
            refine flow_done (by kernel_rfl) ?_
            go_wp2_with fail
            go_meet
            exact ⟨G.sz, _, _, _, Lib.hid (HDT.out _ HQ5.out (by show p.sd.length ≤ 100; omega) (by simp; omega))⟩
          ·
           have hcq : z0.cell? ⟨g5, 1, none⟩ = some (.slice (some ⟨bt, 0, none⟩) p.tb.length ct) := (cell_of_row _ _ 1 _ _ _ HQ.out.px).trans rfl
           go_wp2_with fail
           clear hcq
           refine pieceEnd_normal ⟨AnyW13.all _ _, ?_⟩
           refine flow_reads (F := AnyW13) (fun _ => AnyW13.all _ _) (by kernel_rfl) [6, 7] (fuel := 9) (by kernel_rfl) ?_
           simp only [List.map_cons, List.map_nil, pick, List.getD_cons_zero, List.getD_cons_succ]
           repeat (go_big_quiet_step (fail))
           refine wpQuiet_nil ?_
           refine flow_two (F := AnyW13) (fun _ _ _ _ _ => AnyW13.all _ _) (fun _ => AnyW13.all _ _) 3 11 (by kernel_rfl) (by decide) (by decide) ?_ ?_ <;> simp only [pick, List.getD_cons_zero, List.getD_cons_succ]
           ·
            have hcq : z0.cell? ⟨g5, 1, none⟩ = some (.slice (some ⟨bt, 0, none⟩) p.tb.length ct) := (cell_of_row _ _ 1 _ _ _ HQ.out.px).trans rfl
            go_wp2_with fail
            clear hcq
            refine pieceEnd_normal ⟨AnyW13.all _ _, ?_⟩
            refine flow_reads (F := AnyW13) (fun _ => AnyW13.all _ _) (by kernel_rfl) [8] (fuel := 7) (by kernel_rfl) ?_
            simp only [List.map_cons, List.map_nil, pick, List.getD_cons_zero, List.getD_cons_succ]
            repeat (go_big_quiet_step (fail))
            refine wpQuiet_nil ?_
            refine flow_two (F := AnyW13) (fun _ _ _ _ _ => AnyW13.all _ _) (fun _ => AnyW13.all _ _) 9 11 (by kernel_rfl) (by decide) (by decide) ?_ ?_ <;> simp only [pick, List.getD_cons_zero, List.getD_cons_succ]
            ·
             have hcq : z0.cell? ⟨bt, q0, none⟩ = some (.int .i64 el) := by rw [← HEL.out]; exact (own_i HQ.out.tb hq0l).1
             go_wp2_with fail
             clear hcq
             refine pieceEnd_normal ⟨AnyW13.all _ _, ?_⟩
             refine flow_one (F := AnyW13) (fun _ _ _ _ _ => AnyW13.all _ _) (fun _ => AnyW13.all _ _) 11 (by kernel_rfl) (by decide) ?_
             simp only [pick, List.getD_cons_zero, List.getD_cons_succ]
             go_wp2_with fail
             refine (next_g w.heap.size D t 2 z0 HQ.out.dice (by decide) (by decide)).mono ?_
             rintro e za7 ⟨x, rfl, hx0, hx1, hg⟩
             replace HQ := Lib.hid (HQ.out.gave hg)
             have m2 : RowKit.wrap64 (el + x) = el + x := IntWalk.wrap64_in _ (by omega)
             have m3 : IntKind.i64.wrap (el + x) = el + x := by rw [IntKind.wrap_i64]; omega
             clear hg
             go_wp2_with fail
             refine pieceEnd_normal ⟨AnyW13.all _ _, ?_⟩
             refine flow_reads (F := AnyW13) (fun _ => AnyW13.all _ _) (by kernel_rfl) [12] (fuel := 4) (by kernel_rfl) ?_
             simp only [List.map_cons, List.map_nil, pick, List.getD_cons_zero, List.getD_cons_succ]
             repeat (go_big_quiet_step (fail))
             refine wpQuiet_nil ?_
             refine flow_one (F := AnyW13) (fun _ _ _ _ _ => AnyW13.all _ _) (fun _ => AnyW13.all _ _) 13 (by kernel_rfl) (by decide) ?_
             simp only [pick, List.getD_cons_zero, List.getD_cons_succ]
             go_wp2_with fail
             have hb := one_new za7 (.cells #[.int .i64 (el + x)] 3)
             refine pieceEnd_normal ⟨AnyW13.all _ _, ?_⟩
             have HR3 : Hid (Row (za7.alloc (.cells #[.int .i64 (el + x)] 3)) (some ⟨za7.heap.size, 0, none⟩) 1 1 1 (intsV [el + x])) := Lib.hid (Row.of_block (heap_alloc_new _ _) rfl)
             replace HQ := Lib.hid (HQ.out.later hb)
             clear hb
             generalize za7.alloc (.cells #[.int .i64 (el + x)] 3) = za8 at *
             generalize za7.heap.size = s3 at *
             refine flow_one (F := AnyW13) (fun _ _ _ _ _ => AnyW13.all _ _) (fun _ => AnyW13.all _ _) 14 (by kernel_rfl) (by decide) ?_
             simp only [pick, List.getD_cons_zero, List.getD_cons_succ]
             have hwz := HQ.out.sz
             have hqs : g5 < za8.heap.size := (Array.getElem?_eq_some_iff.1 HQ.out.px).1
             have hqn : (Value.slice (some ⟨bt, 0, none⟩) p.tb.length ct).ownBlock ≠ some g5 := fun h => own_neqT12 HQ.out.tb HQ.out.px (by decide) g5 h rfl
             go_wp2_with (at_builtin; go_must (refine wpList_app2 za8 rfl (.tmp 73) (.tmp 85) 22 22 3 rfl y0.heap.size Try.underlying22 i64_info rfl _ p.tb.length (intsV p.tb) HQ.out.tb rfl _ 1 (intsV [el + x]) (Row.src HR3.out Try.underlying22 (intsV_one _)) rfl (by unfold maxLen; omega) (by omega) hwz ?_); intro v5 z5 ho hb hkp hv; have HO5 := Lib.hid ho; have HB5 := Lib.hid hb; have HKP := Lib.hid hkp; have HV := Lib.hid hv; clear ho hb hkp hv)
             refine pieceEnd_normal ⟨AnyW13.all _ _, ?_⟩
             obtain ⟨A5, c5, hv5, -⟩ := Row.of_own HO5.out
             subst hv5
             have HQ5 := Lib.hid (PQ.apd13 HQ.out (el + x) HB5.out HKP.out HO5.out HV.out)
             have hx5 := (HKP.out g5 hqs hqn).trans HQ.out.px
             clear HQ HR3 HO5 HB5 HKP HV hqs hqn hwz
             refine flow_reads (F := AnyW13) (fun _ => AnyW13.all _ _) (by kernel_rfl) [15] (fuel := 1) (by kernel_rfl) ?_
             simp only [List.map_cons, List.map_nil, pick, List.getD_cons_zero, List.getD_cons_succ]
             repeat (go_big_quiet_step (fail))
             refine wpQuiet_nil ?_
             refine flow_one (F := AnyW13) (fun _ _ _ _ _ => AnyW13.all _ _) (fun _ => AnyW13.all _ _) 16 (by kernel_rfl) (by decide) ?_
             simp only [pick, List.getD_cons_zero, List.getD_cons_succ]
             have hz5 : z5.cell? ⟨g5, 1, none⟩ = some (.slice (some ⟨bt, 0, none⟩) p.tb.length ct) := (cell_of_row _ _ 1 _ _ _ hx5).trans rfl
             have hfz5 : z5.frozen? ⟨g5, 1, none⟩ = false := by unfold World.frozen?; rw [hx5]; simp
             clear hx5
             go_wp2_with fail
             refine pieceEnd_normal ⟨AnyW13.all _ _, ?_⟩
             refine flow_done (by kernel_rfl) ?_
             go_wp2_with fail
             go_meet
             exact ⟨G.sz, _, _, _, Lib.hid (HDT.out _ HQ5.out (by show p.sd.length ≤ 100; omega) (by simp; omega))⟩
            ·
             go_wp2_with fail
             refine (next_g w.heap.size D t 2 z0 HQ.out.dice (by decide) (by decide)).mono ?_
             rintro e za9 ⟨x, rfl, hx0, hx1, hg⟩
             replace HQ := Lib.hid (HQ.out.gave hg)
             have m2 : RowKit.wrap64 (el + x) = el + x := IntWalk.wrap64_in _ (by omega)
             have m3 : IntKind.i64.wrap (el + x) = el + x := by rw [IntKind.wrap_i64]; omega
             clear hg
             go_wp2_with fail
             refine pieceEnd_normal ⟨AnyW13.all _ _, ?_⟩
             refine flow_one (F := AnyW13) (fun _ _ _ _ _ => AnyW13.all _ _) (fun _ => AnyW13.all _ _) 9 (by kernel_rfl) (by decide) ?_
             simp only [pick, List.getD_cons_zero, List.getD_cons_succ]
             have hcq : za9.cell? ⟨bt, q0, none⟩ = some (.int .i64 el) := by rw [← HEL.out]; exact (own_i HQ.out.tb hq0l).1
             go_wp2_with fail
             clear hcq
             refine pieceEnd_normal ⟨AnyW13.all _ _, ?_⟩
             refine flow_reads (F := AnyW13) (fun _ => AnyW13.all _ _) (by kernel_rfl) [12] (fuel := 4) (by kernel_rfl) ?_
             simp only [List.map_cons, List.map_nil, pick, List.getD_cons_zero, List.getD_cons_succ]
             repeat (go_big_quiet_step (fail))
             refine wpQuiet_nil ?_
             refine flow_one (F := AnyW13) (fun _ _ _ _ _ => AnyW13.all _ _) (fun _ => AnyW13.all _ _) 13 (by kernel_rfl) (by decide) ?_
             simp only [pick, List.getD_cons_zero, List.getD_cons_succ]
             go_wp2_with fail
             have hb := one_new za9 (.cells #[.int .i64 (el + x)] 3)
             refine pieceEnd_normal ⟨AnyW13.all _ _, ?_⟩
             have HR3 : Hid (Row (za9.alloc (.cells #[.int .i64 (el + x)] 3)) (some ⟨za9.heap.size, 0, none⟩) 1 1 1 (intsV [el + x])) := Lib.hid (Row.of_block (heap_alloc_new _ _) rfl)
             replace HQ := Lib.hid (HQ.out.later hb)
             clear hb
             generalize za9.alloc (.cells #[.int .i64 (el + x)] 3) = za10 at *
             generalize za9.heap.size = s3 at *
             refine flow_one (F := AnyW13) (fun _ _ _ _ _ => AnyW13.all _ _) (fun _ => AnyW13.all _ _) 14 (by kernel_rfl) (by decide) ?_
             simp only [pick, List.getD_cons_zero, List.getD_cons_succ]
             have hwz := HQ.out.sz
             have hqs : g5 < za10.heap.size := (Array.getElem?_eq_some_iff.1 HQ.out.px).1
             have hqn : (Value.slice (some ⟨bt, 0, none⟩) p.tb.length ct).ownBlock ≠ some g5 := fun h => own_neqT12 HQ.out.tb HQ.out.px (by decide) g5 h rfl
             go_wp2_with (at_builtin; go_must (refine wpList_app2 za10 rfl (.tmp 73) (.tmp 85) 22 22 3 rfl y0.heap.size Try.underlying22 i64_info rfl _ p.tb.length (intsV p.tb) HQ.out.tb rfl _ 1 (intsV [el + x]) (Row.src HR3.out Try.underlying22 (intsV_one _)) rfl (by unfold maxLen; omega) (by omega) hwz ?_); intro v5 z5 ho hb hkp hv; have HO5 := Lib.hid ho; have HB5 := Lib.hid hb; have HKP := Lib.hid hkp; have HV := Lib.hid hv; clear ho hb hkp hv)
             refine pieceEnd_normal ⟨AnyW13.all _ _, ?_⟩
             obtain ⟨A5, c5, hv5, -⟩ := Row.of_own HO5.out
             subst hv5
             have HQ5 := Lib.hid (PQ.apd13 HQ.out (el + x) HB5.out HKP.out HO5.out HV.out)
             have hx5 := (HKP.out g5 hqs hqn).trans HQ.out.px
             clear HQ HR3 HO5 HB5 HKP HV hqs hqn hwz
             refine flow_reads (F := AnyW13) (fun _ => AnyW13.all _ _) (by kernel_rfl) [15] (fuel := 1) (by kernel_rfl) ?_
             simp only [List.map_cons, List.map_nil, pick, List.getD_cons_zero, List.getD_cons_succ]
             repeat (go_big_quiet_step (fail))
             refine wpQuiet_nil ?_
             refine flow_one (F := AnyW13) (fun _ _ _ _ _ => AnyW13.all _ _) (fun _ => AnyW13.all _ _) 16 (by kernel_rfl) (by decide) ?_
             simp only [pick, List.getD_cons_zero, List.getD_cons_succ]
             have hz5 : z5.cell? ⟨g5, 1, none⟩ = some (.slice (some ⟨bt, 0, none⟩) p.tb.length ct) := (cell_of_row _ _ 1 _ _ _ hx5).trans rfl
             have hfz5 : z5.frozen? ⟨g5, 1, none⟩ = false := by unfold World.frozen?; rw [hx5]; simp
             clear hx5
             go_wp2_with fail
             refine pieceEnd_normal ⟨AnyW13.all _ _, ?_⟩
             refine flow_done (by kernel_rfl) ?_
             go_wp2_with fail
             go_meet
             exact ⟨G.sz, _, _, _, Lib.hid (HDT.out _ HQ5.out (by show p.sd.length ≤ 100; omega) (by simp; omega))⟩
           ·
            go_wp2_with fail
            refine (next_g w.heap.size D t 2 z0 HQ.out.dice (by decide) (by decide)).mono ?_
            rintro e za11 ⟨x, rfl, hx0, hx1, hg⟩
            replace HQ := Lib.hid (HQ.out.gave hg)
            have m2 : RowKit.wrap64 (el + x) = el + x := IntWalk.wrap64_in _ (by omega)
            have m3 : IntKind.i64.wrap (el + x) = el + x := by rw [IntKind.wrap_i64]; omega
            clear hg
            go_wp2_with fail
            refine pieceEnd_normal ⟨AnyW13.all _ _, ?_⟩
            refine flow_one (F := AnyW13) (fun _ _ _ _ _ => AnyW13.all _ _) (fun _ => AnyW13.all _ _) 3 (by kernel_rfl) (by decide) ?_
            simp only [pick, List.getD_cons_zero, List.getD_cons_succ]
            have hcq : za11.cell? ⟨g5, 1, none⟩ = some (.slice (some ⟨bt, 0, none⟩) p.tb.length ct) := (cell_of_row _ _ 1 _ _ _ HQ.out.px).trans rfl
            go_wp2_with fail
            clear hcq
            refine pieceEnd_normal ⟨AnyW13.all _ _, ?_⟩
            refine flow_reads (F := AnyW13) (fun _ => AnyW13.all _ _) (by kernel_rfl) [8] (fuel := 6) (by kernel_rfl) ?_
            simp only [List.map_cons, List.map_nil, pick, List.getD_cons_zero, List.getD_cons_succ]
            repeat (go_big_quiet_step (fail))
            refine wpQuiet_nil ?_
            refine flow_one (F := AnyW13) (fun _ _ _ _ _ => AnyW13.all _ _) (fun _ => AnyW13.all _ _) 9 (by kernel_rfl) (by decide) ?_
            simp only [pick, List.getD_cons_zero, List.getD_cons_succ]
            have hcq : za11.cell? ⟨bt, q0, none⟩ = some (.int .i64 el) := by rw [← HEL.out]; exact (own_i HQ.out.tb hq0l).1
            go_wp2_with fail
            clear hcq
            refine pieceEnd_normal ⟨AnyW13.all _ _, ?_⟩
            refine flow_reads (F := AnyW13) (fun _ => AnyW13.all _ _) (by kernel_rfl) [12] (fuel := 4) (by kernel_rfl) ?_
            simp only [List.map_cons, List.map_nil, pick, List.getD_cons_zero, List.getD_cons_succ]
            repeat (go_big_quiet_step (fail))
            refine wpQuiet_nil ?_
            refine flow_one (F := AnyW13) (fun _ _ _ _ _ => AnyW13.all _ _) (fun _ => AnyW13.all _ _) 13 (by kernel_rfl) (by decide) ?_
            simp only [pick, List.getD_cons_zero, List.getD_cons_succ]
            go_wp2_with fail
            have hb := one_new za11 (.cells #[.int .i64 (el + x)] 3)
            refine pieceEnd_normal ⟨AnyW13.all _ _, ?_⟩
            have HR3 : Hid (Row (za11.alloc (.cells #[.int .i64 (el + x)] 3)) (some ⟨za11.heap.size, 0, none⟩) 1 1 1 (intsV [el + x])) := Lib.hid (Row.of_block (heap_alloc_new _ _) rfl)
            replace HQ := Lib.hid (HQ.out.later hb)
            clear hb
            generalize za11.alloc (.cells #[.int .i64 (el + x)] 3) = za12 at *
            generalize za11.heap.size = s3 at *
            refine flow_one (F := AnyW13) (fun _ _ _ _ _ => AnyW13.all _ _) (fun _ => AnyW13.all _ _) 14 (by kernel_rfl) (by decide) ?_
            simp only [pick, List.getD_cons_zero, List.getD_cons_succ]
            have hwz := HQ.out.sz
            have hqs : g5 < za12.heap.size := (Array.getElem?_eq_some_iff.1 HQ.out.px).1
            have hqn : (Value.slice (some ⟨bt, 0, none⟩) p.tb.length ct).ownBlock ≠ some g5 := fun h => own_neqT12 HQ.out.tb HQ.out.px (by decide) g5 h rfl
            go_wp2_with (at_builtin; go_must (refine wpList_app2 za12 rfl (.tmp 73) (.tmp 85) 22 22 3 rfl y0.heap.size Try.underlying22 i64_info rfl _ p.tb.length (intsV p.tb) HQ.out.tb rfl _ 1 (intsV [el + x]) (Row.src HR3.out Try.underlying22 (intsV_one _)) rfl (by unfold maxLen; omega) (by omega) hwz ?_); intro v5 z5 ho hb hkp hv; have HO5 := Lib.hid ho; have HB5 := Lib.hid hb; have HKP := Lib.hid hkp; have HV := Lib.hid hv; clear ho hb hkp hv)
            refine pieceEnd_normal ⟨AnyW13.all _ _, ?_⟩
            obtain ⟨A5, c5, hv5, -⟩ := Row.of_own HO5.out
            subst hv5
            have HQ5 := Lib.hid (PQ.apd13 HQ.out (el + x) HB5.out HKP.out HO5.out HV.out)
            have hx5 := (HKP.out g5 hqs hqn).trans HQ.out.px
            clear HQ HR3 HO5 HB5 HKP HV hqs hqn hwz
            refine flow_reads (F := AnyW13) (fun _ => AnyW13.all _ _) (by kernel_rfl) [15] (fuel := 1) (by kernel_rfl) ?_
            simp only [List.map_cons, List.map_nil, pick, List.getD_cons_zero, List.getD_cons_succ]
            repeat (go_big_quiet_step (fail))
            refine wpQuiet_nil ?_
            refine flow_one (F := AnyW13) (fun _ _ _ _ _ => AnyW13.all _ _) (fun _ => AnyW13.all _ _) 16 (by kernel_rfl) (by decide) ?_
            simp only [pick, List.getD_cons_zero, List.getD_cons_succ]
            have hz5 : z5.cell? ⟨g5, 1, none⟩ = some (.slice (some ⟨bt, 0, none⟩) p.tb.length ct) := (cell_of_row _ _ 1 _ _ _ hx5).trans rfl
            have hfz5 : z5.frozen? ⟨g5, 1, none⟩ = false := by unfold World.frozen?; rw [hx5]; simp
            clear hx5
            go_wp2_with fail
            refine pieceEnd_normal ⟨AnyW13.all _ _, ?_⟩
            refine flow_done (by kernel_rfl) ?_
            go_wp2_with fail
            go_meet
            exact ⟨G.sz, _, _, _, Lib.hid (HDT.out _ HQ5.out (by show p.sd.length ≤ 100; omega) (by simp; omega))⟩
          ·
           go_wp2_with fail
           refine (next_g w.heap.size D t 2 z0 HQ.out.dice (by decide) (by decide)).mono ?_
           rintro e za13 ⟨x, rfl, hx0, hx1, hg⟩
           replace HQ := Lib.hid (HQ.out.gave hg)
           have m2 : RowKit.wrap64 (el + x) = el + x := IntWalk.wrap64_in _ (by omega)
           have m3 : IntKind.i64.wrap (el + x) = el + x := by rw [IntKind.wrap_i64]; omega
           clear hg
           go_wp2_with fail
           refine pieceEnd_normal ⟨AnyW13.all _ _, ?_⟩
           refine flow_two (F := AnyW13) (fun _ _ _ _ _ => AnyW13.all _ _) (fun _ => AnyW13.all _ _) 3 5 (by kernel_rfl) (by decide) (by decide) ?_ ?_ <;> simp only [pick, List.getD_cons_zero, List.getD_cons_succ]
           ·
            have hcq : za13.cell? ⟨g5, 1, none⟩ = some (.slice (some ⟨bt, 0, none⟩) p.tb.length ct) := (cell_of_row _ _ 1 _ _ _ HQ.out.px).trans rfl
            go_wp2_with fail
            clear hcq
            refine pieceEnd_normal ⟨AnyW13.all _ _, ?_⟩
            refine flow_one (F := AnyW13) (fun _ _ _ _ _ => AnyW13.all _ _) (fun _ => AnyW13.all _ _) 5 (by kernel_rfl) (by decide) ?_
            simp only [pick, List.getD_cons_zero, List.getD_cons_succ]
            have hcq : za13.cell? ⟨g5, 1, none⟩ = some (.slice (some ⟨bt, 0, none⟩) p.tb.length ct) := (cell_of_row _ _ 1 _ _ _ HQ.out.px).trans rfl
            go_wp2_with fail
            clear hcq
            refine pieceEnd_normal ⟨AnyW13.all _ _, ?_⟩
            refine flow_reads (F := AnyW13) (fun _ => AnyW13.all _ _) (by kernel_rfl) [6, 7, 8] (fuel := 6) (by kernel_rfl) ?_
            simp only [List.map_cons, List.map_nil, pick, List.getD_cons_zero, List.getD_cons_succ]
            repeat (go_big_quiet_step (fail))
            refine wpQuiet_nil ?_
            refine flow_one (F := AnyW13) (fun _ _ _ _ _ => AnyW13.all _ _) (fun _ => AnyW13.all _ _) 9 (by kernel_rfl) (by decide) ?_
            simp only [pick, List.getD_cons_zero, List.getD_cons_succ]
            have hcq : za13.cell? ⟨bt, q0, none⟩ = some (.int .i64 el) := by rw [← HEL.out]; exact (own_i HQ.out.tb hq0l).1
            go_wp2_with fail
            clear hcq
            refine pieceEnd_normal ⟨AnyW13.all _ _, ?_⟩
            refine flow_reads (F := AnyW13) (fun _ => AnyW13.all _ _) (by kernel_rfl) [12] (fuel := 4) (by kernel_rfl) ?_
            simp only [List.map_cons, List.map_nil, pick, List.getD_cons_zero, List.getD_cons_succ]
            repeat (go_big_quiet_step (fail))
            refine wpQuiet_nil ?_
            refine flow_one (F := AnyW13) (fun _ _ _ _ _ => AnyW13.all _ _) (fun _ => AnyW13.all _ _) 13 (by kernel_rfl) (by decide) ?_
            simp only [pick, List.getD_cons_zero, List.getD_cons_succ]
            go_wp2_with fail
            have hb := one_new za13 (.cells #[.int .i64 (el + x)] 3)
            refine pieceEnd_normal ⟨AnyW13.all _ _, ?_⟩
            have HR3 : Hid (Row (za13.alloc (.cells #[.int .i64 (el + x)] 3)) (some ⟨za13.heap.size, 0, none⟩) 1 1 1 (intsV [el + x])) := Lib.hid (Row.of_block (heap_alloc_new _ _) rfl)
            replace HQ := Lib.hid (HQ.out.later hb)
            clear hb
            generalize za13.alloc (.cells #[.int .i64 (el + x)] 3) = za14 at *
            generalize za13.heap.size = s3 at *
            refine flow_one (F := AnyW13) (fun _ _ _ _ _ => AnyW13.all _ _) (fun _ => AnyW13.all _ _) 14 (by kernel_rfl) (by decide) ?_
            simp only [pick, List.getD_cons_zero, List.getD_cons_succ]
            have hwz := HQ.out.sz
            have hqs : g5 < za14.heap.size := (Array.getElem?_eq_some_iff.1 HQ.out.px).1
            have hqn : (Value.slice (some ⟨bt, 0, none⟩) p.tb.length ct).ownBlock ≠ some g5 := fun h => own_neqT12 HQ.out.tb HQ.out.px (by decide) g5 h rfl
            go_wp2_with (at_builtin; go_must (refine wpList_app2 za14 rfl (.tmp 73) (.tmp 85) 22 22 3 rfl y0.heap.size Try.underlying22 i64_info rfl _ p.tb.length (intsV p.tb) HQ.out.tb rfl _ 1 (intsV [el + x]) (Row.src HR3.out Try.underlying22 (intsV_one _)) rfl (by unfold maxLen; omega) (by omega) hwz ?_); intro v5 z5 ho hb hkp hv; have HO5 := Lib.hid ho; have HB5 := Lib.hid hb; have HKP := Lib.hid hkp; have HV := Lib.hid hv; clear ho hb hkp hv)
            refine pieceEnd_normal ⟨AnyW13.all _ _, ?_⟩
            obtain ⟨A5, c5, hv5, -⟩ := Row.of_own HO5.out
            subst hv5
            have HQ5 := Lib.hid (PQ.apd13 HQ.out (el + x) HB5.out HKP.out HO5.out HV.out)
            have hx5 := (HKP.out g5 hqs hqn).trans HQ.out.px
            clear HQ HR3 HO5 HB5 HKP HV hqs hqn hwz
            refine flow_reads (F := AnyW13) (fun _ => AnyW13.all _ _) (by kernel_rfl) [15] (fuel := 1) (by kernel_rfl) ?_
            simp only [List.map_cons, List.map_nil, pick, List.getD_cons_zero, List.getD_cons_succ]
            repeat (go_big_quiet_step (fail))
            refine wpQuiet_nil ?_
            refine flow_one (F := AnyW13) (fun _ _ _ _ _ => AnyW13.all _ _) (fun _ => AnyW13.all _ _) 16 (by kernel_rfl) (by decide) ?_
            simp only [pick, List.getD_cons_zero, List.getD_cons_succ]
            have hz5 : z5.cell? ⟨g5, 1, none⟩ = some (.slice (some ⟨bt, 0, none⟩) p.tb.length ct) := (cell_of_row _ _ 1 _ _ _ hx5).trans rfl
            have hfz5 : z5.frozen? ⟨g5, 1, none⟩ = false := by unfold World.frozen?; rw [hx5]; simp
            clear hx5
            go_wp2_with fail
            refine pieceEnd_normal ⟨AnyW13.all _ _, ?_⟩
            refine flow_done (by kernel_rfl) ?_
            go_wp2_with fail
            go_meet
            exact ⟨G.sz, _, _, _, Lib.hid (HDT.out _ HQ5.out (by show p.sd.length ≤ 100; omega) (by simp; omega))⟩
           ·
            have hcq : za13.cell? ⟨g5, 1, none⟩ = some (.slice (some ⟨bt, 0, none⟩) p.tb.length ct) := (cell_of_row _ _ 1 _ _ _ HQ.out.px).trans rfl
            go_wp2_with fail
            clear hcq
            refine pieceEnd_normal ⟨AnyW13.all _ _, ?_⟩
            refine flow_reads (F := AnyW13) (fun _ => AnyW13.all _ _) (by kernel_rfl) [6, 7] (fuel := 8) (by kernel_rfl) ?_
            simp only [List.map_cons, List.map_nil, pick, List.getD_cons_zero, List.getD_cons_succ]
            repeat (go_big_quiet_step (fail))
            refine wpQuiet_nil ?_
            refine flow_one (F := AnyW13) (fun _ _ _ _ _ => AnyW13.all _ _) (fun _ => AnyW13.all _ _) 3 (by kernel_rfl) (by decide) ?_
            simp only [pick, List.getD_cons_zero, List.getD_cons_succ]
            have hcq : za13.cell? ⟨g5, 1, none⟩ = some (.slice (some ⟨bt, 0, none⟩) p.tb.length ct) := (cell_of_row _ _ 1 _ _ _ HQ.out.px).trans rfl
            go_wp2_with fail
            clear hcq
            refine pieceEnd_normal ⟨AnyW13.all _ _, ?_⟩
            refine flow_reads (F := AnyW13) (fun _ => AnyW13.all _ _) (by kernel_rfl) [8] (fuel := 6) (by kernel_rfl) ?_
            simp only [List.map_cons, List.map_nil, pick, List.getD_cons_zero, List.getD_cons_succ]
            repeat (go_big_quiet_step (fail))
            refine wpQuiet_nil ?_
            refine flow_one (F := AnyW13) (fun _ _ _ _ _ => AnyW13.all _ _) (fun _ => AnyW13.all _ _) 9 (by kernel_rfl) (by decide) ?_
            simp only [pick, List.getD_cons_zero, List.getD_cons_succ]
            have hcq : za13.cell? ⟨bt, q0, none⟩ = some (.int .i64 el) := by rw [← HEL.out]; exact (own_i HQ.out.tb hq0l).1
            go_wp2_with fail
            clear hcq
            refine pieceEnd_normal ⟨AnyW13.all _ _, ?_⟩
            refine flow_reads (F := AnyW13) (fun _ => AnyW13.all _ _) (by kernel_rfl) [12] (fuel := 4) (by kernel_rfl) ?_
            simp only [List.map_cons, List.map_nil, pick, List.getD_cons_zero, List.getD_cons_succ]
            repeat (go_big_quiet_step (fail))
            refine wpQuiet_nil ?_
            refine flow_one (F := AnyW13) (fun _ _ _ _ _ => AnyW13.all _ _) (fun _ => AnyW13.all _ _) 13 (by kernel_rfl) (by decide) ?_
            simp only [pick, List.getD_cons_zero, List.getD_cons_succ]
            go_wp2_with fail
            have hb := one_new za13 (.cells #[.int .i64 (el + x)] 3)
            refine pieceEnd_normal ⟨AnyW13.all _ _, ?_⟩
            have HR3 : Hid (Row (za13.alloc (.cells #[.int .i64 (el + x)] 3)) (some ⟨za13.heap.size, 0, none⟩) 1 1 1 (intsV [el + x])) := Lib.hid (Row.of_block (heap_alloc_new _ _) rfl)
            replace HQ := Lib.hid (HQ.out.later hb)
            clear hb
            generalize za13.alloc (.cells #[.int .i64 (el + x)] 3) = za15 at *
            generalize za13.heap.size = s3 at *
            refine flow_one (F := AnyW13) (fun _ _ _ _ _ => AnyW13.all _ _) (fun _ => AnyW13.all _ _) 14 (by kernel_rfl) (by decide) ?_
            simp only [pick, List.getD_cons_zero, List.getD_cons_succ]
            have hwz := HQ.out.sz
            have hqs : g5 < za15.heap.size := (Array.getElem?_eq_some_iff.1 HQ.out.px).1
            have hqn : (Value.slice (some ⟨bt, 0, none⟩) p.tb.length ct).ownBlock ≠ some g5 := fun h => own_neqT12 HQ.out.tb HQ.out.px (by decide) g5 h rfl
            go_wp2_with (at_builtin; go_must (refine wpList_app2 za15 rfl (.tmp 73) (.tmp 85) 22 22 3 rfl y0.heap.size Try.underlying22 i64_info rfl _ p.tb.length (intsV p.tb) HQ.out.tb rfl _ 1 (intsV [el + x]) (Row.src HR3.out Try.underlying22 (intsV_one _)) rfl (by unfold maxLen; omega) (by omega) hwz ?_); intro v5 z5 ho hb hkp hv; have HO5 := Lib.hid ho; have HB5 := Lib.hid hb; have HKP := Lib.hid hkp; have HV := Lib.hid hv; clear ho hb hkp hv)
            refine pieceEnd_normal ⟨AnyW13.all _ _, ?_⟩
            obtain ⟨A5, c5, hv5, -⟩ := Row.of_own HO5.out
            subst hv5
            have HQ5 := Lib.hid (PQ.apd13 HQ.out (el + x) HB5.out HKP.out HO5.out HV.out)
            have hx5 := (HKP.out g5 hqs hqn).trans HQ.out.px
            clear HQ HR3 HO5 HB5 HKP HV hqs hqn hwz
            refine flow_reads (F := AnyW13) (fun _ => AnyW13.all _ _) (by kernel_rfl) [15] (fuel := 1) (by kernel_rfl) ?_
            simp only [List.map_cons, List.map_nil, pick, List.getD_cons_zero, List.getD_cons_succ]
            repeat (go_big_quiet_step (fail))
            refine wpQuiet_nil ?_
            refine flow_one (F := AnyW13) (fun _ _ _ _ _ => AnyW13.all _ _) (fun _ => AnyW13.all _ _) 16 (by kernel_rfl) (by decide) ?_
            simp only [pick, List.getD_cons_zero, List.getD_cons_succ]
            have hz5 : z5.cell? ⟨g5, 1, none⟩ = some (.slice (some ⟨bt, 0, none⟩) p.tb.length ct) := (cell_of_row _ _ 1 _ _ _ hx5).trans rfl
            have hfz5 : z5.frozen? ⟨g5, 1, none⟩ = false := by unfold World.frozen?; rw [hx5]; simp
            clear hx5
            go_wp2_with fail
            refine pieceEnd_normal ⟨AnyW13.all _ _, ?_⟩
            refine flow_done (by kernel_rfl) ?_
            go_wp2_with fail
            go_meet
            exact ⟨G.sz, _, _, _, Lib.hid (HDT.out _ HQ5.out (by show p.sd.length ≤ 100; omega) (by simp; omega))⟩
         ·
          have hcq : z0.cell? ⟨g5, 1, none⟩ = some (.slice (some ⟨bt, 0, none⟩) p.tb.length ct) := (cell_of_row _ _ 1 _ _ _ HQ.out.px).trans rfl
          go_wp2_with fail
          clear hcq
          refine pieceEnd_normal ⟨AnyW13.all _ _, ?_⟩
          refine flow_three (F := AnyW13) (fun _ _ _ _ _ => AnyW13.all _ _) (fun _ => AnyW13.all _ _) 1 5 11 (by kernel_rfl) (by decide) (by decide) (by decide) ?_ ?_ ?_ <;> simp only [pick, List.getD_cons_zero, List.getD_cons_succ]
          ·
           have hcq : z0.cell? ⟨g5, 1, none⟩ = some (.slice (some ⟨bt, 0, none⟩) p.tb.length ct) := (cell_of_row _ _ 1 _ _ _ HQ.out.px).trans rfl
           go_wp2_with fail
           clear hcq
           refine pieceEnd_normal ⟨AnyW13.all _ _, ?_⟩
           refine flow_two (F := AnyW13) (fun _ _ _ _ _ => AnyW13.all _ _) (fun _ => AnyW13.all _ _) 5 11 (by kernel_rfl) (by decide) (by decide) ?_ ?_ <;> simp only [pick, List.getD_cons_zero, List.getD_cons_succ]
           ·
            have hcq : z0.cell? ⟨g5, 1, none⟩ = some (.slice (some ⟨bt, 0, none⟩) p.tb.length ct) := (cell_of_row _ _ 1 _ _ _ HQ.out.px).trans rfl
            go_wp2_with fail
            clear hcq
            refine pieceEnd_normal ⟨AnyW13.all _ _, ?_⟩
            refine flow_reads (F := AnyW13) (fun _ => AnyW13.all _ _) (by kernel_rfl) [6, 7, 8] (fuel := 7) (by kernel_rfl) ?_
            simp only [List.map_cons, List.map_nil, pick, List.getD_cons_zero, List.getD_cons_succ]
            repeat (go_big_quiet_step (fail))
            refine wpQuiet_nil ?_
            refine flow_two (F := AnyW13) (fun _ _ _ _ _ => AnyW13.all _ _) (fun _ => AnyW13.all _ _) 9 11 (by kernel_rfl) (by decide) (by decide) ?_ ?_ <;> simp only [pick, List.getD_cons_zero, List.getD_cons_succ]
            ·
             have hcq : z0.cell? ⟨bt, q0, none⟩ = some (.int .i64 el) := by rw [← HEL.out]; exact (own_i HQ.out.tb hq0l).1
             go_wp2_with fail
             clear hcq
             refine pieceEnd_normal ⟨AnyW13.all _ _, ?_⟩
             refine flow_one (F := AnyW13) (fun _ _ _ _ _ => AnyW13.all _ _) (fun _ => AnyW13.all _ _) 11 (by kernel_rfl) (by decide) ?_
             simp only [pick, List.getD_cons_zero, List.getD_cons_succ]
             go_wp2_with fail
             refine (next_g w.heap.size D t 2 z0 HQ.out.dice (by decide) (by decide)).mono ?_
             rintro e za16 ⟨x, rfl, hx0, hx1, hg⟩
             replace HQ := Lib.hid (HQ.out.gave hg)
             have m2 : RowKit.wrap64 (el + x) = el + x := IntWalk.wrap64_in _ (by omega)
             have m3 : IntKind.i64.wrap (el + x) = el + x := by rw [IntKind.wrap_i64]; omega
             clear hg
             go_wp2_with fail
             refine pieceEnd_normal ⟨AnyW13.all _ _, ?_⟩
             refine flow_reads (F := AnyW13) (fun _ => AnyW13.all _ _) (by kernel_rfl) [12] (fuel := 4) (by kernel_rfl) ?_
             simp only [List.map_cons, List.map_nil, pick, List.getD_cons_zero, List.getD_cons_succ]
             repeat (go_big_quiet_step (fail))
             refine wpQuiet_nil ?_
             refine flow_one (F := AnyW13) (fun _ _ _ _ _ => AnyW13.all _ _) (fun _ => AnyW13.all _ _) 13 (by kernel_rfl) (by decide) ?_
             simp only [pick, List.getD_cons_zero, List.getD_cons_succ]
             go_wp2_with fail
             have hb := one_new za16 (.cells #[.int .i64 (el + x)] 3)
             refine pieceEnd_normal ⟨AnyW13.all _ _, ?_⟩
             have HR3 : Hid (Row (za16.alloc (.cells #[.int .i64 (el + x)] 3)) (some ⟨za16.heap.size, 0, none⟩) 1 1 1 (intsV [el + x])) := Lib.hid (Row.of_block (heap_alloc_new _ _) rfl)
             replace HQ := Lib.hid (HQ.out.later hb)
             clear hb
             generalize za16.alloc (.cells #[.int .i64 (el + x)] 3) = za17 at *
             generalize za16.heap.size = s3 at *
             refine flow_one (F := AnyW13) (fun _ _ _ _ _ => AnyW13.all _ _) (fun _ => AnyW13.all _ _) 14 (by kernel_rfl) (by decide) ?_
             simp only [pick, List.getD_cons_zero, List.getD_cons_succ]
             have hwz := HQ.out.sz
             have hqs : g5 < za17.heap.size := (Array.getElem?_eq_some_iff.1 HQ.out.px).1
             have hqn : (Value.slice (some ⟨bt, 0, none⟩) p.tb.length ct).ownBlock ≠ some g5 := fun h => own_neqT12 HQ.out.tb HQ.out.px (by decide) g5 h rfl
             go_wp2_with (at_builtin; go_must (refine wpList_app2 za17 rfl (.tmp 73) (.tmp 85) 22 22 3 rfl y0.heap.size Try.underlying22 i64_info rfl _ p.tb.length (intsV p.tb) HQ.out.tb rfl _ 1 (intsV [el + x]) (Row.src HR3.out Try.underlying22 (intsV_one _)) rfl (by unfold maxLen; omega) (by omega) hwz ?_); intro v5 z5 ho hb hkp hv; have HO5 := Lib.hid ho; have HB5 := Lib.hid hb; have HKP := Lib.hid hkp; have HV := Lib.hid hv; clear ho hb hkp hv)
             refine pieceEnd_normal ⟨AnyW13.all _ _, ?_⟩
             obtain ⟨A5, c5, hv5, -⟩ := Row.of_own HO5.out
             subst hv5
             have HQ5 := Lib.hid (PQ.apd13 HQ.out (el + x) HB5.out HKP.out HO5.out HV.out)
             have hx5 := (HKP.out g5 hqs hqn).trans HQ.out.px
             clear HQ HR3 HO5 HB5 HKP HV hqs hqn hwz
             refine flow_reads (F := AnyW13) (fun _ => AnyW13.all _ _) (by kernel_rfl) [15] (fuel := 1) (by kernel_rfl) ?_
             simp only [List.map_cons, List.map_nil, pick, List.getD_cons_zero, List.getD_cons_succ]
             repeat (go_big_quiet_step (fail))
             refine wpQuiet_nil ?_
             refine flow_one (F := AnyW13) (fun _ _ _ _ _ => AnyW13.all _ _) (fun _ => AnyW13.all _ _) 16 (by kernel_rfl) (by decide) ?_
             simp only [pick, List.getD_cons_zero, List.getD_cons_succ]
             have hz5 : z5.cell? ⟨g5, 1, none⟩ = some (.slice (some ⟨bt, 0, none⟩) p.tb.length ct) := (cell_of_row _ _ 1 _ _ _ hx5).trans rfl
             have hfz5 : z5.frozen? ⟨g5, 1, none⟩ = false := by unfold World.frozen?; rw [hx5]; simp
             clear hx5
             go_wp2_with fail
             refine pieceEnd_normal ⟨AnyW13.all _ _, ?_⟩
             refine flow_done (by kernel_rfl) ?_
             go_wp2_with fail
             go_meet
             exact ⟨G.sz, _, _, _, Lib.hid (HDT.out _ HQ5.out (by show p.sd.length ≤ 100; omega) (by simp; omega))⟩
            ·
             go_wp2_with fail
             refine (next_g w.heap.size D t 2 z0 HQ.out.dice (by decide) (by decide)).mono ?_
             rintro e za18 ⟨x, rfl, hx0, hx1, hg⟩
             replace HQ := Lib.hid (HQ.out.gave hg)
             have m2 : RowKit.wrap64 (el + x) = el + x := IntWalk.wrap64_in _ (by omega)
             have m3 : IntKind.i64.wrap (el + x) = el + x := by rw [IntKind.wrap_i64]; omega
             clear hg
             go_wp2_with fail
             refine pieceEnd_normal ⟨AnyW13.all _ _, ?_⟩
             refine flow_one (F := AnyW13) (fun _ _ _ _ _ => AnyW13.all _ _) (fun _ => AnyW13.all _ _) 9 (by kernel_rfl) (by decide) ?_
             simp only [pick, List.getD_cons_zero, List.getD_cons_succ]
             have hcq : za18.cell? ⟨bt, q0, none⟩ = some (.int .i64 el) := by rw [← HEL.out]; exact (own_i HQ.out.tb hq0l).1
             go_wp2_with fail
             clear hcq
             refine pieceEnd_normal ⟨AnyW13.all _ _, ?_⟩
             refine flow_reads (F := AnyW13) (fun _ => AnyW13.all _ _) (by kernel_rfl) [12] (fuel := 4) (by kernel_rfl) ?_
             simp only [List.map_cons, List.map_nil, pick, List.getD_cons_zero, List.getD_cons_succ]
             repeat (go_big_quiet_step (fail))
             refine wpQuiet_nil ?_
             refine flow_one (F := AnyW13) (fun _ _ _ _ _ => AnyW13.all _ _) (fun _ => AnyW13.all _ _) 13 (by kernel_rfl) (by decide) ?_
             simp only [pick, List.getD_cons_zero, List.getD_cons_succ]
             go_wp2_with fail
             have hb := one_new za18 (.cells #[.int .i64 (el + x)] 3)
             refine pieceEnd_normal ⟨AnyW13.all _ _, ?_⟩
             have HR3 : Hid (Row (za18.alloc (.cells #[.int .i64 (el + x)] 3)) (some ⟨za18.heap.size, 0, none⟩) 1 1 1 (intsV [el + x])) := Lib.hid (Row.of_block (heap_alloc_new _ _) rfl)
             replace HQ := Lib.hid (HQ.out.later hb)
             clear hb
             generalize za18.alloc (.cells #[.int .i64 (el + x)] 3) = za19 at *
             generalize za18.heap.size = s3 at *
             refine flow_one (F := AnyW13) (fun _ _ _ _ _ => AnyW13.all _ _) (fun _ => AnyW13.all _ _) 14 (by kernel_rfl) (by decide) ?_
             simp only [pick, List.getD_cons_zero, List.getD_cons_succ]
             have hwz := HQ.out.sz
             have hqs : g5 < za19.heap.size := (Array.getElem?_eq_some_iff.1 HQ.out.px).1
             have hqn : (Value.slice (some ⟨bt, 0, none⟩) p.tb.length ct).ownBlock ≠ some g5 := fun h => own_neqT12 HQ.out.tb HQ.out.px (by decide) g5 h rfl
             go_wp2_with (at_builtin; go_must (refine wpList_app2 za19 rfl (.tmp 73) (.tmp 85) 22 22 3 rfl y0.heap.size Try.underlying22 i64_info rfl _ p.tb.length (intsV p.tb) HQ.out.tb rfl _ 1 (intsV [el + x]) (Row.src HR3.out Try.underlying22 (intsV_one _)) rfl (by unfold maxLen; omega) (by omega) hwz ?_); intro v5 z5 ho hb hkp hv; have HO5 := Lib.hid ho; have HB5 := Lib.hid hb; have HKP := Lib.hid hkp; have HV := Lib.hid hv; clear ho hb hkp hv)
             refine pieceEnd_normal ⟨AnyW13.all _ _, ?_⟩
             obtain ⟨A5, c5, hv5, -⟩ := Row.of_own HO5.out
             subst hv5
             have HQ5 := Lib.hid (PQ.apd13 HQ.out (el + x) HB5.out HKP.out HO5.out HV.out)
             have hx5 := (HKP.out g5 hqs hqn).trans HQ.out.px
             clear HQ HR3 HO5 HB5 HKP HV hqs hqn hwz
             refine flow_reads (F := AnyW13) (fun _ => AnyW13.all _ _) (by kernel_rfl) [15] (fuel := 1) (by kernel_rfl) ?_
             simp only [List.map_cons, List.map_nil, pick, List.getD_cons_zero, List.getD_cons_succ]
             repeat (go_big_quiet_step (fail))
             refine wpQuiet_nil ?_
             refine flow_one (F := AnyW13) (fun _ _ _ _ _ => AnyW13.all _ _) (fun _ => AnyW13.all _ _) 16 (by kernel_rfl) (by decide) ?_
             simp only [pick, List.getD_cons_zero, List.getD_cons_succ]
             have hz5 : z5.cell? ⟨g5, 1, none⟩ = some (.slice (some ⟨bt, 0, none⟩) p.tb.length ct) := (cell_of_row _ _ 1 _ _ _ hx5).trans rfl
             have hfz5 : z5.frozen? ⟨g5, 1, none⟩ = false := by unfold World.frozen?; rw [hx5]; simp
             clear hx5
             go_wp2_with fail
             refine pieceEnd_normal ⟨AnyW13.all _ _, ?_⟩
             refine flow_done (by kernel_rfl) ?_
             go_wp2_with fail
             go_meet
             exact ⟨G.sz, _, _, _, Lib.hid (HDT.out _ HQ5.out (by show p.sd.length ≤ 100; omega) (by simp; omega))⟩
           ·
            go_wp2_with fail
            refine (next_g w.heap.size D t 2 z0 HQ.out.dice (by decide) (by decide)).mono ?_
            rintro e za20 ⟨x, rfl, hx0, hx1, hg⟩
            replace HQ := Lib.hid (HQ.out.gave hg)
            have m2 : RowKit.wrap64 (el + x) = el + x := IntWalk.wrap64_in _ (by omega)
            have m3 : IntKind.i64.wrap (el + x) = el + x := by rw [IntKind.wrap_i64]; omega
            clear hg
            go_wp2_with fail
            refine pieceEnd_normal ⟨AnyW13.all _ _, ?_⟩
            refine flow_one (F := AnyW13) (fun _ _ _ _ _ => AnyW13.all _ _) (fun _ => AnyW13.all _ _) 5 (by kernel_rfl) (by decide) ?_
            simp only [pick, List.getD_cons_zero, List.getD_cons_succ]
            have hcq : za20.cell? ⟨g5, 1, none⟩ = some (.slice (some ⟨bt, 0, none⟩) p.tb.length ct) := (cell_of_row _ _ 1 _ _ _ HQ.out.px).trans rfl
            go_wp2_with fail
            clear hcq
            refine pieceEnd_normal ⟨AnyW13.all _ _, ?_⟩
            refine flow_reads (F := AnyW13) (fun _ => AnyW13.all _ _) (by kernel_rfl) [6, 7, 8] (fuel := 6) (by kernel_rfl) ?_
            simp only [List.map_cons, List.map_nil, pick, List.getD_cons_zero, List.getD_cons_succ]
            repeat (go_big_quiet_step (fail))
            refine wpQuiet_nil ?_
            refine flow_one (F := AnyW13) (fun _ _ _ _ _ => AnyW13.all _ _) (fun _ => AnyW13.all _ _) 9 (by kernel_rfl) (by decide) ?_
            simp only [pick, List.getD_cons_zero, List.getD_cons_succ]
            have hcq : za20.cell? ⟨bt, q0, none⟩ = some (.int .i64 el) := by rw [← HEL.out]; exact (own_i HQ.out.tb hq0l).1
            go_wp2_with fail
            clear hcq
            refine pieceEnd_normal ⟨AnyW13.all _ _, ?_⟩
            refine flow_reads (F := AnyW13) (fun _ => AnyW13.all _ _) (by kernel_rfl) [12] (fuel := 4) (by kernel_rfl) ?_
            simp only [List.map_cons, List.map_nil, pick, List.getD_cons_zero, List.getD_cons_succ]
            repeat (go_big_quiet_step (fail))
            refine wpQuiet_nil ?_
            refine flow_one (F := AnyW13) (fun _ _ _ _ _ => AnyW13.all _ _) (fun _ => AnyW13.all _ _) 13 (by kernel_rfl) (by decide) ?_
            simp only [pick, List.getD_cons_zero, List.getD_cons_succ]
            go_wp2_with fail
            have hb := one_new za20 (.cells #[.int .i64 (el + x)] 3)
            refine pieceEnd_normal ⟨AnyW13.all _ _, ?_⟩
            have HR3 : Hid (Row (za20.alloc (.cells #[.int .i64 (el + x)] 3)) (some ⟨za20.heap.size, 0, none⟩) 1 1 1 (intsV [el + x])) := Lib.hid (Row.of_block (heap_alloc_new _ _) rfl)
            replace HQ := Lib.hid (HQ.out.later hb)
            clear hb
            generalize za20.alloc (.cells #[.int .i64 (el + x)] 3) = za21 at *
            generalize za20.heap.size = s3 at *
            refine flow_one (F := AnyW13) (fun _ _ _ _ _ => AnyW13.all _ _) (fun _ => AnyW13.all _ _) 14 (by kernel_rfl) (by decide) ?_
            simp only [pick, List.getD_cons_zero, List.getD_cons_succ]
            have hwz := HQ.out.sz
            have hqs : g5 < za21.heap.size := (Array.getElem?_eq_some_iff.1 HQ.out.px).1
            have hqn : (Value.slice (some ⟨bt, 0, none⟩) p.tb.length ct).ownBlock ≠ some g5 := fun h => own_neqT12 HQ.out.tb HQ.out.px (by decide) g5 h rfl
            go_wp2_with (at_builtin; go_must (refine wpList_app2 za21 rfl (.tmp 73) (.tmp 85) 22 22 3 rfl y0.heap.size Try.underlying22 i64_info rfl _ p.tb.length (intsV p.tb) HQ.out.tb rfl _ 1 (intsV [el + x]) (Row.src HR3.out Try.underlying22 (intsV_one _)) rfl (by unfold maxLen; omega) (by omega) hwz ?_); intro v5 z5 ho hb hkp hv; have HO5 := Lib.hid ho; have HB5 := Lib.hid hb; have HKP := Lib.hid hkp; have HV := Lib.hid hv; clear ho hb hkp hv)
            refine pieceEnd_normal ⟨AnyW13.all _ _, ?_⟩
            obtain ⟨A5, c5, hv5, -⟩ := Row.of_own HO5.out
            subst hv5
            have HQ5 := Lib.hid (PQ.apd13 HQ.out (el + x) HB5.out HKP.out HO5.out HV.out)
            have hx5 := (HKP.out g5 hqs hqn).trans HQ.out.px
            clear HQ HR3 HO5 HB5 HKP HV hqs hqn hwz
            refine flow_reads (F := AnyW13) (fun _ => AnyW13.all _ _) (by kernel_rfl) [15] (fuel := 1) (by kernel_rfl) ?_
            simp only [List.map_cons, List.map_nil, pick, List.getD_cons_zero, List.getD_cons_succ]
            repeat (go_big_quiet_step (fail))
            refine wpQuiet_nil ?_
            refine flow_one (F := AnyW13) (fun _ _ _ _ _ => AnyW13.all _ _) (fun _ => AnyW13.all _ _) 16 (by kernel_rfl) (by decide) ?_
            simp only [pick, List.getD_cons_zero, List.getD_cons_succ]
            have hz5 : z5.cell? ⟨g5, 1, none⟩ = some (.slice (some ⟨bt, 0, none⟩) p.tb.length ct) := (cell_of_row _ _ 1 _ _ _ hx5).trans rfl
            have hfz5 : z5.frozen? ⟨g5, 1, none⟩ = false := by unfold World.frozen?; rw [hx5]; simp
            clear hx5
            go_wp2_with fail
            refine pieceEnd_normal ⟨AnyW13.all _ _, ?_⟩
            refine flow_done (by kernel_rfl) ?_
            go_wp2_with fail
            go_meet
            exact ⟨G.sz, _, _, _, Lib.hid (HDT.out _ HQ5.out (by show p.sd.length ≤ 100; omega) (by simp; omega))⟩
          ·
           have hcq : z0.cell? ⟨g5, 1, none⟩ = some (.slice (some ⟨bt, 0, none⟩) p.tb.length ct) := (cell_of_row _ _ 1 _ _ _ HQ.out.px).trans rfl
           go_wp2_with fail
           clear hcq
           refine pieceEnd_normal ⟨AnyW13.all _ _, ?_⟩
           refine flow_reads (F := AnyW13) (fun _ => AnyW13.all _ _) (by kernel_rfl) [6, 7, 8] (fuel := 8) (by kernel_rfl) ?_
           simp only [List.map_cons, List.map_nil, pick, List.getD_cons_zero, List.getD_cons_succ]
           repeat (go_big_quiet_step (fail))
           refine wpQuiet_nil ?_
           refine flow_three (F := AnyW13) (fun _ _ _ _ _ => AnyW13.all _ _) (fun _ => AnyW13.all _ _) 1 9 11 (by kernel_rfl) (by decide) (by decide) (by decide) ?_ ?_ ?_ <;> simp only [pick, List.getD_cons_zero, List.getD_cons_succ]
           ·
            have hcq : z0.cell? ⟨g5, 1, none⟩ = some (.slice (some ⟨bt, 0, none⟩) p.tb.length ct) := (cell_of_row _ _ 1 _ _ _ HQ.out.px).trans rfl
            go_wp2_with fail
            clear hcq
            refine pieceEnd_normal ⟨AnyW13.all _ _, ?_⟩
            refine flow_two (F := AnyW13) (fun _ _ _ _ _ => AnyW13.all _ _) (fun _ => AnyW13.all _ _) 9 11 (by kernel_rfl) (by decide) (by decide) ?_ ?_ <;> simp only [pick, List.getD_cons_zero, List.getD_cons_succ]
            ·
             have hcq : z0.cell? ⟨bt, q0, none⟩ = some (.int .i64 el) := by rw [← HEL.out]; exact (own_i HQ.out.tb hq0l).1
             go_wp2_with fail
             clear hcq
             refine pieceEnd_normal ⟨AnyW13.all _ _, ?_⟩
             refine flow_one (F := AnyW13) (fun _ _ _ _ _ => AnyW13.all _ _) (fun _ => AnyW13.all _ _) 11 (by kernel_rfl) (by decide) ?_
             simp only [pick, List.getD_cons_zero, List.getD_cons_succ]
             go_wp2_with fail
             refine (next_g w.heap.size D t 2 z0 HQ.out.dice (by decide) (by decide)).mono ?_
             rintro e za22 ⟨x, rfl, hx0, hx1, hg⟩
             replace HQ := Lib.hid (HQ.out.gave hg)
             have m2 : RowKit.wrap64 (el + x) = el + x := IntWalk.wrap64_in _ (by omega)
             have m3 : IntKind.i64.wrap (el + x) = el + x := by rw [IntKind.wrap_i64]; omega
             clear hg
             go_wp2_with fail
             refine pieceEnd_normal ⟨AnyW13.all _ _, ?_⟩
             refine flow_reads (F := AnyW13) (fun _ => AnyW13.all _ _) (by kernel_rfl) [12] (fuel := 4) (by kernel_rfl) ?_
             simp only [List.map_cons, List.map_nil, pick, List.getD_cons_zero, List.getD_cons_succ]
             repeat (go_big_quiet_step (fail))
             refine wpQuiet_nil ?_
             refine flow_one (F := AnyW13) (fun _ _ _ _ _ => AnyW13.all _ _) (fun _ => AnyW13.all _ _) 13 (by kernel_rfl) (by decide) ?_
             simp only [pick, List.getD_cons_zero, List.getD_cons_succ]
             go_wp2_with fail
             have hb := one_new za22 (.cells #[.int .i64 (el + x)] 3)
             refine pieceEnd_normal ⟨AnyW13.all _ _, ?_⟩
             have HR3 : Hid (Row (za22.alloc (.cells #[.int .i64 (el + x)] 3)) (some ⟨za22.heap.size, 0, none⟩) 1 1 1 (intsV [el + x])) := Lib.hid (Row.of_block (heap_alloc_new _ _) rfl)
             replace HQ := Lib.hid (HQ.out.later hb)
             clear hb
             generalize za22.alloc (.cells #[.int .i64 (el + x)] 3) = za23 at *
             generalize za22.heap.size = s3 at *
             refine flow_one (F := AnyW13) (fun _ _ _ _ _ => AnyW13.all _ _) (fun _ => AnyW13.all _ _) 14 (by kernel_rfl) (by decide) ?_
             simp only [pick, List.getD_cons_zero, List.getD_cons_succ]
             have hwz := HQ.out.sz
             have hqs : g5 < za23.heap.size := (Array.getElem?_eq_some_iff.1 HQ.out.px).1
             have hqn : (Value.slice (some ⟨bt, 0, none⟩) p.tb.length ct).ownBlock ≠ some g5 := fun h => own_neqT12 HQ.out.tb HQ.out.px (by decide) g5 h rfl
             go_wp2_with (at_builtin; go_must (refine wpList_app2 za23 rfl (.tmp 73) (.tmp 85) 22 22 3 rfl y0.heap.size Try.underlying22 i64_info rfl _ p.tb.length (intsV p.tb) HQ.out.tb rfl _ 1 (intsV [el + x]) (Row.src HR3.out Try.underlying22 (intsV_one _)) rfl (by unfold maxLen; omega) (by omega) hwz ?_); intro v5 z5 ho hb hkp hv; have HO5 := Lib.hid ho; have HB5 := Lib.hid hb; have HKP := Lib.hid hkp; have HV := Lib.hid hv; clear ho hb hkp hv)
             refine pieceEnd_normal ⟨AnyW13.all _ _, ?_⟩
             obtain ⟨A5, c5, hv5, -⟩ := Row.of_own HO5.out
             subst hv5
             have HQ5 := Lib.hid (PQ.apd13 HQ.out (el + x) HB5.out HKP.out HO5.out HV.out)
             have hx5 := (HKP.out g5 hqs hqn).trans HQ.out.px
             clear HQ HR3 HO5 HB5 HKP HV hqs hqn hwz
             refine flow_reads (F := AnyW13) (fun _ => AnyW13.all _ _) (by kernel_rfl) [15] (fuel := 1) (by kernel_rfl) ?_
             simp only [List.map_cons, List.map_nil, pick, List.getD_cons_zero, List.getD_cons_succ]
             repeat (go_big_quiet_step (fail))
             refine wpQuiet_nil ?_
             refine flow_one (F := AnyW13) (fun _ _ _ _ _ => AnyW13.all _ _) (fun _ => AnyW13.all _ _) 16 (by kernel_rfl) (by decide) ?_
             simp only [pick, List.getD_cons_zero, List.getD_cons_succ]
             have hz5 : z5.cell? ⟨g5, 1, none⟩ = some (.slice (some ⟨bt, 0, none⟩) p.tb.length ct) := (cell_of_row _ _ 1 _ _ _ hx5).trans rfl
             have hfz5 : z5.frozen? ⟨g5, 1, none⟩ = false := by unfold World.frozen?; rw [hx5]; simp
             clear hx5
             go_wp2_with fail
             refine pieceEnd_normal ⟨AnyW13.all _ _, ?_⟩
             refine flow_done (by kernel_rfl) ?_
             go_wp2_with fail
             go_meet
             exact ⟨G.sz, _, _, _, Lib.hid (HDT.out _ HQ5.out (by show p.sd.length ≤ 100; omega) (by simp; omega))⟩
            ·
             go_wp2_with fail
             refine (next_g w.heap.size D t 2 z0 HQ.out.dice (by decide) (by decide)).mono ?_
             rintro e za24 ⟨x, rfl, hx0, hx1, hg⟩
             replace HQ := Lib.hid (HQ.out.gave hg)
             have m2 : RowKit.wrap64 (el + x) = el + x := IntWalk.wrap64_in _ (by omega)
             have m3 : IntKind.i64.wrap (el + x) = el + x := by rw [IntKind.wrap_i64]; omega
             clear hg
             go_wp2_with fail
             refine pieceEnd_normal ⟨AnyW13.all _ _, ?_⟩
             refine flow_one (F := AnyW13) (fun _ _ _ _ _ => AnyW13.all _ _) (fun _ => AnyW13.all _ _) 9 (by kernel_rfl) (by decide) ?_
             simp only [pick, List.getD_cons_zero, List.getD_cons_succ]
             have hcq : za24.cell? ⟨bt, q0, none⟩ = some (.int .i64 el) := by rw [← HEL.out]; exact (own_i HQ.out.tb hq0l).1
             go_wp2_with fail
             clear hcq
             refine pieceEnd_normal ⟨AnyW13.all _ _, ?_⟩
             refine flow_reads (F := AnyW13) (fun _ => AnyW13.all _ _) (by kernel_rfl) [12] (fuel := 4) (by kernel_rfl) ?_
             simp only [List.map_cons, List.map_nil, pick, List.getD_cons_zero, List.getD_cons_succ]
             repeat (go_big_quiet_step (fail))
             refine wpQuiet_nil ?_
             refine flow_one (F := AnyW13) (fun _ _ _ _ _ => AnyW13.all _ _) (fun _ => AnyW13.all _ _) 13 (by kernel_rfl) (by decide) ?_
             simp only [pick, List.getD_cons_zero, List.getD_cons_succ]
             go_wp2_with fail
             have hb := one_new za24 (.cells #[.int .i64 (el + x)] 3)
             refine pieceEnd_normal ⟨AnyW13.all _ _, ?_⟩
             have HR3 : Hid (Row (za24.alloc (.cells #[.int .i64 (el + x)] 3)) (some ⟨za24.heap.size, 0, none⟩) 1 1 1 (intsV [el + x])) := Lib.hid (Row.of_block (heap_alloc_new _ _) rfl)
             replace HQ := Lib.hid (HQ.out.later hb)
             clear hb
             generalize za24.alloc (.cells #[.int .i64 (el + x)] 3) = za25 at *
             generalize za24.heap.size = s3 at *
             refine flow_one (F := AnyW13) (fun _ _ _ _ _ => AnyW13.all _ _) (fun _ => AnyW13.all _ _) 14 (by kernel_rfl) (by decide) ?_
             simp only [pick, List.getD_cons_zero, List.getD_cons_succ]
             have hwz := HQ.out.sz
             have hqs : g5 < za25.heap.size := (Array.getElem?_eq_some_iff.1 HQ.out.px).1
             have hqn : (Value.slice (some ⟨bt, 0, none⟩) p.tb.length ct).ownBlock ≠ some g5 := fun h => own_neqT12 HQ.out.tb HQ.out.px (by decide) g5 h rfl
             go_wp2_with (at_builtin; go_must (refine wpList_app2 za25 rfl (.tmp 73) (.tmp 85) 22 22 3 rfl y0.heap.size Try.underlying22 i64_info rfl _ p.tb.length (intsV p.tb) HQ.out.tb rfl _ 1 (intsV [el + x]) (Row.src HR3.out Try.underlying22 (intsV_one _)) rfl (by unfold maxLen; omega) (by omega) hwz ?_); intro v5 z5 ho hb hkp hv; have HO5 := Lib.hid ho; have HB5 := Lib.hid hb; have HKP := Lib.hid hkp; have HV := Lib.hid hv; clear ho hb hkp hv)
             refine pieceEnd_normal ⟨AnyW13.all _ _, ?_⟩
             obtain ⟨A5, c5, hv5, -⟩ := Row.of_own HO5.out
             subst hv5
             have HQ5 := Lib.hid (PQ.apd13 HQ.out (el + x) HB5.out HKP.out HO5.out HV.out)
             have hx5 := (HKP.out g5 hqs hqn).trans HQ.out.px
             clear HQ HR3 HO5 HB5 HKP HV hqs hqn hwz
             refine flow_reads (F := AnyW13) (fun _ => AnyW13.all _ _) (by kernel_rfl) [15] (fuel := 1) (by kernel_rfl) ?_
             simp only [List.map_cons, List.map_nil, pick, List.getD_cons_zero, List.getD_cons_succ]
             repeat (go_big_quiet_step (fail))
             refine wpQuiet_nil ?_
             refine flow_one (F := AnyW13) (fun _ _ _ _ _ => AnyW13.all _ _) (fun _ => AnyW13.all _ _) 16 (by kernel_rfl) (by decide) ?_
             simp only [pick, List.getD_cons_zero, List.getD_cons_succ]
             have hz5 : z5.cell? ⟨g5, 1, none⟩ = some (.slice (some ⟨bt, 0, none⟩) p.tb.length ct) := (cell_of_row _ _ 1 _ _ _ hx5).trans rfl
             have hfz5 : z5.frozen? ⟨g5, 1, none⟩ = false := by unfold World.frozen?; rw [hx5]; simp
             clear hx5
             go_wp2_with fail
             refine pieceEnd_normal ⟨AnyW13.all _ _, ?_⟩
             refine flow_done (by kernel_rfl) ?_
             go_wp2_with fail
             go_meet
             exact ⟨G.sz, _, _, _, Lib.hid (HDT.out _ HQ5.out (by show p.sd.length ≤ 100; omega) (by simp; omega))⟩
           ·
            have hcq : z0.cell? ⟨bt, q0, none⟩ = some (.int .i64 el) := by rw [← HEL.out]; exact (own_i HQ.out.tb hq0l).1
            go_wp2_with fail
            clear hcq
            refine pieceEnd_normal ⟨AnyW13.all _ _, ?_⟩
            refine flow_two (F := AnyW13) (fun _ _ _ _ _ => AnyW13.all _ _) (fun _ => AnyW13.all _ _) 1 11 (by kernel_rfl) (by decide) (by decide) ?_ ?_ <;> simp only [pick, List.getD_cons_zero, List.getD_cons_succ]
            ·
             have hcq : z0.cell? ⟨g5, 1, none⟩ = some (.slice (some ⟨bt, 0, none⟩) p.tb.length ct) := (cell_of_row _ _ 1 _ _ _ HQ.out.px).trans rfl
             go_wp2_with fail
             clear hcq
             refine pieceEnd_normal ⟨AnyW13.all _ _, ?_⟩
             refine flow_one (F := AnyW13) (fun _ _ _ _ _ => AnyW13.all _ _) (fun _ => AnyW13.all _ _) 11 (by kernel_rfl) (by decide) ?_
             simp only [pick, List.getD_cons_zero, List.getD_cons_succ]
             go_wp2_with fail
             refine (next_g w.heap.size D t 2 z0 HQ.out.dice (by decide) (by decide)).mono ?_
             rintro e za26 ⟨x, rfl, hx0, hx1, hg⟩
             replace HQ := Lib.hid (HQ.out.gave hg)
             have m2 : RowKit.wrap64 (el + x) = el + x := IntWalk.wrap64_in _ (by omega)
             have m3 : IntKind.i64.wrap (el + x) = el + x := by rw [IntKind.wrap_i64]; omega
             clear hg
             go_wp2_with fail
             refine pieceEnd_normal ⟨AnyW13.all _ _, ?_⟩
             refine flow_reads (F := AnyW13) (fun _ => AnyW13.all _ _) (by kernel_rfl) [12] (fuel := 4) (by kernel_rfl) ?_
             simp only [List.map_cons, List.map_nil, pick, List.getD_cons_zero, List.getD_cons_succ]
             repeat (go_big_quiet_step (fail))
             refine wpQuiet_nil ?_
             refine flow_one (F := AnyW13) (fun _ _ _ _ _ => AnyW13.all _ _) (fun _ => AnyW13.all _ _) 13 (by kernel_rfl) (by decide) ?_
             simp only [pick, List.getD_cons_zero, List.getD_cons_succ]
             go_wp2_with fail
             have hb := one_new za26 (.cells #[.int .i64 (el + x)] 3)
             refine pieceEnd_normal ⟨AnyW13.all _ _, ?_⟩
             have HR3 : Hid (Row (za26.alloc (.cells #[.int .i64 (el + x)] 3)) (some ⟨za26.heap.size, 0, none⟩) 1 1 1 (intsV [el + x])) := Lib.hid (Row.of_block (heap_alloc_new _ _) rfl)
             replace HQ := Lib.hid (HQ.out.later hb)
             clear hb
             generalize za26.alloc (.cells #[.int .i64 (el + x)] 3) = za27 at *
             generalize za26.heap.size = s3 at *
             refine flow_one (F := AnyW13) (fun _ _ _ _ _ => AnyW13.all _ _) (fun _ => AnyW13.all _ _) 14 (by kernel_rfl) (by decide) ?_
             simp only [pick, List.getD_cons_zero, List.getD_cons_succ]
             have hwz := HQ.out.sz
             have hqs : g5 < za27.heap.size := (Array.getElem?_eq_some_iff.1 HQ.out.px).1
             have hqn : (Value.slice (some ⟨bt, 0, none⟩) p.tb.length ct).ownBlock ≠ some g5 := fun h => own_neqT12 HQ.out.tb HQ.out.px (by decide) g5 h rfl
             go_wp2_with (at_builtin; go_must (refine wpList_app2 za27 rfl (.tmp 73) (.tmp 85) 22 22 3 rfl y0.heap.size Try.underlying22 i64_info rfl _ p.tb.length (intsV p.tb) HQ.out.tb rfl _ 1 (intsV [el + x]) (Row.src HR3.out Try.underlying22 (intsV_one _)) rfl (by unfold maxLen; omega) (by omega) hwz ?_); intro v5 z5 ho hb hkp hv; have HO5 := Lib.hid ho; have HB5 := Lib.hid hb; have HKP := Lib.hid hkp; have HV := Lib.hid hv; clear ho hb hkp hv)
             refine pieceEnd_normal ⟨AnyW13.all _ _, ?_⟩
             obtain ⟨A5, c5, hv5, -⟩ := Row.of_own HO5.out
             subst hv5
             have HQ5 := Lib.hid (PQ.apd13 HQ.out (el + x) HB5.out HKP.out HO5.out HV.out)
             have hx5 := (HKP.out g5 hqs hqn).trans HQ.out.px
             clear HQ HR3 HO5 HB5 HKP HV hqs hqn hwz
             refine flow_reads (F := AnyW13) (fun _ => AnyW13.all _ _) (by kernel_rfl) [15] (fuel := 1) (by kernel_rfl) ?_
             simp only [List.map_cons, List.map_nil, pick, List.getD_cons_zero, List.getD_cons_succ]
             repeat (go_big_quiet_step (fail))
             refine wpQuiet_nil ?_
             refine flow_one (F := AnyW13) (fun _ _ _ _ _ => AnyW13.all _ _) (fun _ => AnyW13.all _ _) 16 (by kernel_rfl) (by decide) ?_
             simp only [pick, List.getD_cons_zero, List.getD_cons_succ]
             have hz5 : z5.cell? ⟨g5, 1, none⟩ = some (.slice (some ⟨bt, 0, none⟩) p.tb.length ct) := (cell_of_row _ _ 1 _ _ _ hx5).trans rfl
             have hfz5 : z5.frozen? ⟨g5, 1, none⟩ = false := by unfold World.frozen?; rw [hx5]; simp
             clear hx5
             go_wp2_with fail
             refine pieceEnd_normal ⟨AnyW13.all _ _, ?_⟩
             refine flow_done (by kernel_rfl) ?_
             go_wp2_with fail
             go_meet
             exact ⟨G.sz, _, _, _, Lib.hid (HDT.out _ HQ5.out (by show p.sd.length ≤ 100; omega) (by simp; omega))⟩
            ·
             go_wp2_with fail
             refine (next_g w.heap.size D t 2 z0 HQ.out.dice (by decide) (by decide)).mono ?_
             rintro e za28 ⟨x, rfl, hx0, hx1, hg⟩
             replace HQ := Lib.hid (HQ.out.gave hg)
             have m2 : RowKit.wrap64 (el + x) = el + x := IntWalk.wrap64_in _ (by omega)
             have m3 : IntKind.i64.wrap (el + x) = el + x := by rw [IntKind.wrap_i64]; omega
             clear hg
             go_wp2_with fail
             refine pieceEnd_normal ⟨AnyW13.all _ _, ?_⟩
             refine flow_reads (F := AnyW13) (fun _ => AnyW13.all _ _) (by kernel_rfl) [12] (fuel := 5) (by kernel_rfl) ?_
             simp only [List.map_cons, List.map_nil, pick, List.getD_cons_zero, List.getD_cons_succ]
             repeat (go_big_quiet_step (fail))
             refine wpQuiet_nil ?_
             refine flow_two (F := AnyW13) (fun _ _ _ _ _ => AnyW13.all _ _) (fun _ => AnyW13.all _ _) 1 13 (by kernel_rfl) (by decide) (by decide) ?_ ?_ <;> simp only [pick, List.getD_cons_zero, List.getD_cons_succ]
             ·
              have hcq : za28.cell? ⟨g5, 1, none⟩ = some (.slice (some ⟨bt, 0, none⟩) p.tb.length ct) := (cell_of_row _ _ 1 _ _ _ HQ.out.px).trans rfl
              go_wp2_with fail
              clear hcq
              refine pieceEnd_normal ⟨AnyW13.all _ _, ?_⟩
              refine flow_one (F := AnyW13) (fun _ _ _ _ _ => AnyW13.all _ _) (fun _ => AnyW13.all _ _) 13 (by kernel_rfl) (by decide) ?_
              simp only [pick, List.getD_cons_zero, List.getD_cons_succ]
              go_wp2_with fail
              have hb := one_new za28 (.cells #[.int .i64 (el + x)] 3)
              refine pieceEnd_normal ⟨AnyW13.all _ _, ?_⟩
              have HR3 : Hid (Row (za28.alloc (.cells #[.int .i64 (el + x)] 3)) (some ⟨za28.heap.size, 0, none⟩) 1 1 1 (intsV [el + x])) := Lib.hid (Row.of_block (heap_alloc_new _ _) rfl)
              replace HQ := Lib.hid (HQ.out.later hb)
              clear hb
              generalize za28.alloc (.cells #[.int .i64 (el + x)] 3) = za29 at *
              generalize za28.heap.size = s3 at *
              refine flow_one (F := AnyW13) (fun _ _ _ _ _ => AnyW13.all _ _) (fun _ => AnyW13.all _ _) 14 (by kernel_rfl) (by decide) ?_
              simp only [pick, List.getD_cons_zero, List.getD_cons_succ]
              have hwz := HQ.out.sz
              have hqs : g5 < za29.heap.size := (Array.getElem?_eq_some_iff.1 HQ.out.px).1
              have hqn : (Value.slice (some ⟨bt, 0, none⟩) p.tb.length ct).ownBlock ≠ some g5 := fun h => own_neqT12 HQ.out.tb HQ.out.px (by decide) g5 h rfl
              go_wp2_with (at_builtin; go_must (refine wpList_app2 za29 rfl (.tmp 73) (.tmp 85) 22 22 3 rfl y0.heap.size Try.underlying22 i64_info rfl _ p.tb.length (intsV p.tb) HQ.out.tb rfl _ 1 (intsV [el + x]) (Row.src HR3.out Try.underlying22 (intsV_one _)) rfl (by unfold maxLen; omega) (by omega) hwz ?_); intro v5 z5 ho hb hkp hv; have HO5 := Lib.hid ho; have HB5 := Lib.hid hb; have HKP := Lib.hid hkp; have HV := Lib.hid hv; clear ho hb hkp hv)
              refine pieceEnd_normal ⟨AnyW13.all _ _, ?_⟩
              obtain ⟨A5, c5, hv5, -⟩ := Row.of_own HO5.out
              subst hv5
              have HQ5 := Lib.hid (PQ.apd13 HQ.out (el + x) HB5.out HKP.out HO5.out HV.out)
              have hx5 := (HKP.out g5 hqs hqn).trans HQ.out.px
              clear HQ HR3 HO5 HB5 HKP HV hqs hqn hwz
              refine flow_reads (F := AnyW13) (fun _ => AnyW13.all _ _) (by kernel_rfl) [15] (fuel := 1) (by kernel_rfl) ?_
              simp only [List.map_cons, List.map_nil, pick, List.getD_cons_zero, List.getD_cons_succ]
              repeat (go_big_quiet_step (fail))
              refine wpQuiet_nil ?_
              refine flow_one (F := AnyW13) (fun _ _ _ _ _ => AnyW13.all _ _) (fun _ => AnyW13.all _ _) 16 (by kernel_rfl) (by decide) ?_
              simp only [pick, List.getD_cons_zero, List.getD_cons_succ]
              have hz5 : z5.cell? ⟨g5, 1, none⟩ = some (.slice (some ⟨bt, 0, none⟩) p.tb.length ct) := (cell_of_row _ _ 1 _ _ _ hx5).trans rfl
              have hfz5 : z5.frozen? ⟨g5, 1, none⟩ = false := by unfold World.frozen?; rw [hx5]; simp
              clear hx5
              go_wp2_with fail
              refine pieceEnd_normal ⟨AnyW13.all _ _, ?_⟩
              refine flow_done (by kernel_rfl) ?_
              go_wp2_with fail
              go_meet
              exact ⟨G.sz, _, _, _, Lib.hid (HDT.out _ HQ5.out (by show p.sd.length ≤ 100; omega) (by simp; omega))⟩
             ·
              go_wp2_with fail
              have hb := one_new za28 (.cells #[.int .i64 (el + x)] 3)
              refine pieceEnd_normal ⟨AnyW13.all _ _, ?_⟩
              have HR3 : Hid (Row (za28.alloc (.cells #[.int .i64 (el + x)] 3)) (some ⟨za28.heap.size, 0, none⟩) 1 1 1 (intsV [el + x])) := Lib.hid (Row.of_block (heap_alloc_new _ _) rfl)
              replace HQ := Lib.hid (HQ.out.later hb)
              clear hb
              generalize za28.alloc (.cells #[.int .i64 (el + x)] 3) = za30 at *
              generalize za28.heap.size = s3 at *
              refine flow_one (F := AnyW13) (fun _ _ _ _ _ => AnyW13.all _ _) (fun _ => AnyW13.all _ _) 1 (by kernel_rfl) (by decide) ?_
              simp only [pick, List.getD_cons_zero, List.getD_cons_succ]
              have hcq : za30.cell? ⟨g5, 1, none⟩ = some (.slice (some ⟨bt, 0, none⟩) p.tb.length ct) := (cell_of_row _ _ 1 _ _ _ HQ.out.px).trans rfl
              go_wp2_with fail
              clear hcq
              refine pieceEnd_normal ⟨AnyW13.all _ _, ?_⟩
              refine flow_one (F := AnyW13) (fun _ _ _ _ _ => AnyW13.all _ _) (fun _ => AnyW13.all _ _) 14 (by kernel_rfl) (by decide) ?_
              simp only [pick, List.getD_cons_zero, List.getD_cons_succ]
              have hwz := HQ.out.sz
              have hqs : g5 < za30.heap.size := (Array.getElem?_eq_some_iff.1 HQ.out.px).1
              have hqn : (Value.slice (some ⟨bt, 0, none⟩) p.tb.length ct).ownBlock ≠ some g5 := fun h => own_neqT12 HQ.out.tb HQ.out.px (by decide) g5 h rfl
              go_wp2_with (at_builtin; go_must (refine wpList_app2 za30 rfl (.tmp 73) (.tmp 85) 22 22 3 rfl y0.heap.size Try.underlying22 i64_info rfl _ p.tb.length (intsV p.tb) HQ.out.tb rfl _ 1 (intsV [el + x]) (Row.src HR3.out Try.underlying22 (intsV_one _)) rfl (by unfold maxLen; omega) (by omega) hwz ?_); intro v5 z5 ho hb hkp hv; have HO5 := Lib.hid ho; have HB5 := Lib.hid hb; have HKP := Lib.hid hkp; have HV := Lib.hid hv; clear ho hb hkp hv)
              refine pieceEnd_normal ⟨AnyW13.all _ _, ?_⟩
              obtain ⟨A5, c5, hv5, -⟩ := Row.of_own HO5.out
              subst hv5
              have HQ5 := Lib.hid (PQ.apd13 HQ.out (el + x) HB5.out HKP.out HO5.out HV.out)
              have hx5 := (HKP.out g5 hqs hqn).trans HQ.out.px
              clear HQ HR3 HO5 HB5 HKP HV hqs hqn hwz
              refine flow_reads (F := AnyW13) (fun _ => AnyW13.all _ _) (by kernel_rfl) [15] (fuel := 1) (by kernel_rfl) ?_
              simp only [List.map_cons, List.map_nil, pick, List.getD_cons_zero, List.getD_cons_succ]
              repeat (go_big_quiet_step (fail))
              refine wpQuiet_nil ?_
              refine flow_one (F := AnyW13) (fun _ _ _ _ _ => AnyW13.all _ _) (fun _ => AnyW13.all _ _) 16 (by kernel_rfl) (by decide) ?_
              simp only [pick, List.getD_cons_zero, List.getD_cons_succ]
              have hz5 : z5.cell? ⟨g5, 1, none⟩ = some (.slice (some ⟨bt, 0, none⟩) p.tb.length ct) := (cell_of_row _ _ 1 _ _ _ hx5).trans rfl
              have hfz5 : z5.frozen? ⟨g5, 1, none⟩ = false := by unfold World.frozen?; rw [hx5]; simp
              clear hx5
              go_wp2_with fail
              refine pieceEnd_normal ⟨AnyW13.all _ _, ?_⟩
              refine flow_done (by kernel_rfl) ?_
              go_wp2_with fail
              go_meet
              exact ⟨G.sz, _, _, _, Lib.hid (HDT.out _ HQ5.out (by show p.sd.length ≤ 100; omega) (by simp; omega))⟩
           ·
            go_wp2_with fail
            refine (next_g w.heap.size D t 2 z0 HQ.out.dice (by decide) (by decide)).mono ?_
            rintro e za31 ⟨x, rfl, hx0, hx1, hg⟩
            replace HQ := Lib.hid (HQ.out.gave hg)
            have m2 : RowKit.wrap64 (el + x) = el + x := IntWalk.wrap64_in _ (by omega)
            have m3 : IntKind.i64.wrap (el + x) = el + x := by rw [IntKind.wrap_i64]; omega
            clear hg
            go_wp2_with fail
            refine pieceEnd_normal ⟨AnyW13.all _ _, ?_⟩
            refine flow_two (F := AnyW13) (fun _ _ _ _ _ => AnyW13.all _ _) (fun _ => AnyW13.all _ _) 1 9 (by kernel_rfl) (by decide) (by decide) ?_ ?_ <;> simp only [pick, List.getD_cons_zero, List.getD_cons_succ]
            ·
             have hcq : za31.cell? ⟨g5, 1, none⟩ = some (.slice (some ⟨bt, 0, none⟩) p.tb.length ct) := (cell_of_row _ _ 1 _ _ _ HQ.out.px).trans rfl
             go_wp2_with fail
             clear hcq
             refine pieceEnd_normal ⟨AnyW13.all _ _, ?_⟩
             refine flow_one (F := AnyW13) (fun _ _ _ _ _ => AnyW13.all _ _) (fun _ => AnyW13.all _ _) 9 (by kernel_rfl) (by decide) ?_
             simp only [pick, List.getD_cons_zero, List.getD_cons_succ]
             have hcq : za31.cell? ⟨bt, q0, none⟩ = some (.int .i64 el) := by rw [← HEL.out]; exact (own_i HQ.out.tb hq0l).1
             go_wp2_with fail
             clear hcq
             refine pieceEnd_normal ⟨AnyW13.all _ _, ?_⟩
             refine flow_reads (F := AnyW13) (fun _ => AnyW13.all _ _) (by kernel_rfl) [12] (fuel := 4) (by kernel_rfl) ?_
             simp only [List.map_cons, List.map_nil, pick, List.getD_cons_zero, List.getD_cons_succ]
             repeat (go_big_quiet_step (fail))
             refine wpQuiet_nil ?_
             refine flow_one (F := AnyW13) (fun _ _ _ _ _ => AnyW13.all _ _) (fun _ => AnyW13.all _ _) 13 (by kernel_rfl) (by decide) ?_
             simp only [pick, List.getD_cons_zero, List.getD_cons_succ]
             go_wp2_with fail
             have hb := one_new za31 (.cells #[.int .i64 (el + x)] 3)
             refine pieceEnd_normal ⟨AnyW13.all _ _, ?_⟩
             have HR3 : Hid (Row (za31.alloc (.cells #[.int .i64 (el + x)] 3)) (some ⟨za31.heap.size, 0, none⟩) 1 1 1 (intsV [el + x])) := Lib.hid (Row.of_block (heap_alloc_new _ _) rfl)
             replace HQ := Lib.hid (HQ.out.later hb)
             clear hb
             generalize za31.alloc (.cells #[.int .i64 (el + x)] 3) = za32 at *
             generalize za31.heap.size = s3 at *
             refine flow_one (F := AnyW13) (fun _ _ _ _ _ => AnyW13.all _ _) (fun _ => AnyW13.all _ _) 14 (by kernel_rfl) (by decide) ?_
             simp only [pick, List.getD_cons_zero, List.getD_cons_succ]
             have hwz := HQ.out.sz
             have hqs : g5 < za32.heap.size := (Array.getElem?_eq_some_iff.1 HQ.out.px).1
             have hqn : (Value.slice (some ⟨bt, 0, none⟩) p.tb.length ct).ownBlock ≠ some g5 := fun h => own_neqT12 HQ.out.tb HQ.out.px (by decide) g5 h rfl
             go_wp2_with (at_builtin; go_must (refine wpList_app2 za32 rfl (.tmp 73) (.tmp 85) 22 22 3 rfl y0.heap.size Try.underlying22 i64_info rfl _ p.tb.length (intsV p.tb) HQ.out.tb rfl _ 1 (intsV [el + x]) (Row.src HR3.out Try.underlying22 (intsV_one _)) rfl (by unfold maxLen; omega) (by omega) hwz ?_); intro v5 z5 ho hb hkp hv; have HO5 := Lib.hid ho; have HB5 := Lib.hid hb; have HKP := Lib.hid hkp; have HV := Lib.hid hv; clear ho hb hkp hv)
             refine pieceEnd_normal ⟨AnyW13.all _ _, ?_⟩
             obtain ⟨A5, c5, hv5, -⟩ := Row.of_own HO5.out
             subst hv5
             have HQ5 := Lib.hid (PQ.apd13 HQ.out (el + x) HB5.out HKP.out HO5.out HV.out)
             have hx5 := (HKP.out g5 hqs hqn).trans HQ.out.px
             clear HQ HR3 HO5 HB5 HKP HV hqs hqn hwz
             refine flow_reads (F := AnyW13) (fun _ => AnyW13.all _ _) (by kernel_rfl) [15] (fuel := 1) (by kernel_rfl) ?_
             simp only [List.map_cons, List.map_nil, pick, List.getD_cons_zero, List.getD_cons_succ]
             repeat (go_big_quiet_step (fail))
             refine wpQuiet_nil ?_
             refine flow_one (F := AnyW13) (fun _ _ _ _ _ => AnyW13.all _ _) (fun _ => AnyW13.all _ _) 16 (by kernel_rfl) (by decide) ?_
             simp only [pick, List.getD_cons_zero, List.getD_cons_succ]
             have hz5 : z5.cell? ⟨g5, 1, none⟩ = some (.slice (some ⟨bt, 0, none⟩) p.tb.length ct) := (cell_of_row _ _ 1 _ _ _ hx5).trans rfl
             have hfz5 : z5.frozen? ⟨g5, 1, none⟩ = false := by unfold World.frozen?; rw [hx5]; simp
             clear hx5
             go_wp2_with fail
             refine pieceEnd_normal ⟨AnyW13.all _ _, ?_⟩
             refine flow_done (by kernel_rfl) ?_
             go_wp2_with fail
             go_meet
             exact ⟨G.sz, _, _, _, Lib.hid (HDT.out _ HQ5.out (by show p.sd.length ≤ 100; omega) (by simp; omega))⟩
            ·
             have hcq : za31.cell? ⟨bt, q0, none⟩ = some (.int .i64 el) := by rw [← HEL.out]; exact (own_i HQ.out.tb hq0l).1
             go_wp2_with fail
             clear hcq
             refine pieceEnd_normal ⟨AnyW13.all _ _, ?_⟩
             refine flow_reads (F := AnyW13) (fun _ => AnyW13.all _ _) (by kernel_rfl) [12] (fuel := 5) (by kernel_rfl) ?_
             simp only [List.map_cons, List.map_nil, pick, List.getD_cons_zero, List.getD_cons_succ]
             repeat (go_big_quiet_step (fail))
             refine wpQuiet_nil ?_
             refine flow_two (F := AnyW13) (fun _ _ _ _ _ => AnyW13.all _ _) (fun _ => AnyW13.all _ _) 1 13 (by kernel_rfl) (by decide) (by decide) ?_ ?_ <;> simp only [pick, List.getD_cons_zero, List.getD_cons_succ]
             ·
              have hcq : za31.cell? ⟨g5, 1, none⟩ = some (.slice (some ⟨bt, 0, none⟩) p.tb.length ct) := (cell_of_row _ _ 1 _ _ _ HQ.out.px).trans rfl
              go_wp2_with fail
              clear hcq
              refine pieceEnd_normal ⟨AnyW13.all _ _, ?_⟩
              refine flow_one (F := AnyW13) (fun _ _ _ _ _ => AnyW13.all _ _) (fun _ => AnyW13.all _ _) 13 (by kernel_rfl) (by decide) ?_
              simp only [pick, List.getD_cons_zero, List.getD_cons_succ]
              go_wp2_with fail
              have hb := one_new za31 (.cells #[.int .i64 (el + x)] 3)
              refine pieceEnd_normal ⟨AnyW13.all _ _, ?_⟩
              have HR3 : Hid (Row (za31.alloc (.cells #[.int .i64 (el + x)] 3)) (some ⟨za31.heap.size, 0, none⟩) 1 1 1 (intsV [el + x])) := Lib.hid (Row.of_block (heap_alloc_new _ _) rfl)
              replace HQ := Lib.hid (HQ.out.later hb)
              clear hb
              generalize za31.alloc (.cells #[.int .i64 (el + x)] 3) = za33 at *
              generalize za31.heap.size = s3 at *
              refine flow_one (F := AnyW13) (fun _ _ _ _ _ => AnyW13.all _ _) (fun _ => AnyW13.all _ _) 14 (by kernel_rfl) (by decide) ?_
              simp only [pick, List.getD_cons_zero, List.getD_cons_succ]
              have hwz := HQ.out.sz
              have hqs : g5 < za33.heap.size := (Array.getElem?_eq_some_iff.1 HQ.out.px).1
              have hqn : (Value.slice (some ⟨bt, 0, none⟩) p.tb.length ct).ownBlock ≠ some g5 := fun h => own_neqT12 HQ.out.tb HQ.out.px (by decide) g5 h rfl
              go_wp2_with (at_builtin; go_must (refine wpList_app2 za33 rfl (.tmp 73) (.tmp 85) 22 22 3 rfl y0.heap.size Try.underlying22 i64_info rfl _ p.tb.length (intsV p.tb) HQ.out.tb rfl _ 1 (intsV [el + x]) (Row.src HR3.out Try.underlying22 (intsV_one _)) rfl (by unfold maxLen; omega) (by omega) hwz ?_); intro v5 z5 ho hb hkp hv; have HO5 := Lib.hid ho; have HB5 := Lib.hid hb; have HKP := Lib.hid hkp; have HV := Lib.hid hv; clear ho hb hkp hv)
              refine pieceEnd_normal ⟨AnyW13.all _ _, ?_⟩
              obtain ⟨A5, c5, hv5, -⟩ := Row.of_own HO5.out
              subst hv5
              have HQ5 := Lib.hid (PQ.apd13 HQ.out (el + x) HB5.out HKP.out HO5.out HV.out)
              have hx5 := (HKP.out g5 hqs hqn).trans HQ.out.px
              clear HQ HR3 HO5 HB5 HKP HV hqs hqn hwz
              refine flow_reads (F := AnyW13) (fun _ => AnyW13.all _ _) (by kernel_rfl) [15] (fuel := 1) (by kernel_rfl) ?_
              simp only [List.map_cons, List.map_nil, pick, List.getD_cons_zero, List.getD_cons_succ]
              repeat (go_big_quiet_step (fail))
              refine wpQuiet_nil ?_
              refine flow_one (F := AnyW13) (fun _ _ _ _ _ => AnyW13.all _ _) (fun _ => AnyW13.all _ _) 16 (by kernel_rfl) (by decide) ?_
              simp only [pick, List.getD_cons_zero, List.getD_cons_succ]
              have hz5 : z5.cell? ⟨g5, 1, none⟩ = some (.slice (some ⟨bt, 0, none⟩) p.tb.length ct) := (cell_of_row _ _ 1 _ _ _ hx5).trans rfl
              have hfz5 : z5.frozen? ⟨g5, 1, none⟩ = false := by unfold World.frozen?; rw [hx5]; simp
              clear hx5
              go_wp2_with fail
              refine pieceEnd_normal ⟨AnyW13.all _ _, ?_⟩
              refine flow_done (by kernel_rfl) ?_
              go_wp2_with fail
              go_meet
              exact ⟨G.sz, _, _, _, Lib.hid (HDT.out _ HQ5.out (by show p.sd.length ≤ 100; omega) (by simp; omega))⟩
             ·
              go_wp2_with fail
              have hb := one_new za31 (.cells #[.int .i64 (el + x)] 3)
              refine pieceEnd_normal ⟨AnyW13.all _ _, ?_⟩
              have HR3 : Hid (Row (za31.alloc (.cells #[.int .i64 (el + x)] 3)) (some ⟨za31.heap.size, 0, none⟩) 1 1 1 (intsV [el + x])) := Lib.hid (Row.of_block (heap_alloc_new _ _) rfl)
              replace HQ := Lib.hid (HQ.out.later hb)
              clear hb
              generalize za31.alloc (.cells #[.int .i64 (el + x)] 3) = za34 at *
              generalize za31.heap.size = s3 at *
              refine flow_one (F := AnyW13) (fun _ _ _ _ _ => AnyW13.all _ _) (fun _ => AnyW13.all _ _) 1 (by kernel_rfl) (by decide) ?_
              simp only [pick, List.getD_cons_zero, List.getD_cons_succ]
              have hcq : za34.cell? ⟨g5, 1, none⟩ = some (.slice (some ⟨bt, 0, none⟩) p.tb.length ct) := (cell_of_row _ _ 1 _ _ _ HQ.out.px).trans rfl
              go_wp2_with fail
              clear hcq
              refine pieceEnd_normal ⟨AnyW13.all _ _, ?_⟩
              refine flow_one (F := AnyW13) (fun _ _ _ _ _ => AnyW13.all _ _) (fun _ => AnyW13.all _ _) 14 (by kernel_rfl) (by decide) ?_
              simp only [pick, List.getD_cons_zero, List.getD_cons_succ]
              have hwz := HQ.out.sz
              have hqs : g5 < za34.heap.size := (Array.getElem?_eq_some_iff.1 HQ.out.px).1
              have hqn : (Value.slice (some ⟨bt, 0, none⟩) p.tb.length ct).ownBlock ≠ some g5 := fun h => own_neqT12 HQ.out.tb HQ.out.px (by decide) g5 h rfl
              go_wp2_with (at_builtin; go_must (refine wpList_app2 za34 rfl (.tmp 73) (.tmp 85) 22 22 3 rfl y0.heap.size Try.underlying22 i64_info rfl _ p.tb.length (intsV p.tb) HQ.out.tb rfl _ 1 (intsV [el + x]) (Row.src HR3.out Try.underlying22 (intsV_one _)) rfl (by unfold maxLen; omega) (by omega) hwz ?_); intro v5 z5 ho hb hkp hv; have HO5 := Lib.hid ho; have HB5 := Lib.hid hb; have HKP := Lib.hid hkp; have HV := Lib.hid hv; clear ho hb hkp hv)
              refine pieceEnd_normal ⟨AnyW13.all _ _, ?_⟩
              obtain ⟨A5, c5, hv5, -⟩ := Row.of_own HO5.out
              subst hv5
              have HQ5 := Lib.hid (PQ.apd13 HQ.out (el + x) HB5.out HKP.out HO5.out HV.out)
              have hx5 := (HKP.out g5 hqs hqn).trans HQ.out.px
              clear HQ HR3 HO5 HB5 HKP HV hqs hqn hwz
              refine flow_reads (F := AnyW13) (fun _ => AnyW13.all _ _) (by kernel_rfl) [15] (fuel := 1) (by kernel_rfl) ?_
              simp only [List.map_cons, List.map_nil, pick, List.getD_cons_zero, List.getD_cons_succ]
              repeat (go_big_quiet_step (fail))
              refine wpQuiet_nil ?_
              refine flow_one (F := AnyW13) (fun _ _ _ _ _ => AnyW13.all _ _) (fun _ => AnyW13.all _ _) 16 (by kernel_rfl) (by decide) ?_
              simp only [pick, List.getD_cons_zero, List.getD_cons_succ]
              have hz5 : z5.cell? ⟨g5, 1, none⟩ = some (.slice (some ⟨bt, 0, none⟩) p.tb.length ct) := (cell_of_row _ _ 1 _ _ _ hx5).trans rfl
              have hfz5 : z5.frozen? ⟨g5, 1, none⟩ = false := by unfold World.frozen?; rw [hx5]; simp
              clear hx5
              go_wp2_with fail
              refine pieceEnd_normal ⟨AnyW13.all _ _, ?_⟩
              refine flow_done (by kernel_rfl) ?_
              go_wp2_with fail
              go_meet
              exact ⟨G.sz, _, _, _, Lib.hid (HDT.out _ HQ5.out (by show p.sd.length ≤ 100; omega) (by simp; omega))⟩
          ·
           go_wp2_with fail
           refine (next_g w.heap.size D t 2 z0 HQ.out.dice (by decide) (by decide)).mono ?_
           rintro e za35 ⟨x, rfl, hx0, hx1, hg⟩
           replace HQ := Lib.hid (HQ.out.gave hg)
           have m2 : RowKit.wrap64 (el + x) = el + x := IntWalk.wrap64_in _ (by omega)
           have m3 : IntKind.i64.wrap (el + x) = el + x := by rw [IntKind.wrap_i64]; omega
           clear hg
           go_wp2_with fail
           refine pieceEnd_normal ⟨AnyW13.all _ _, ?_⟩
           refine flow_two (F := AnyW13) (fun _ _ _ _ _ => AnyW13.all _ _) (fun _ => AnyW13.all _ _) 1 5 (by kernel_rfl) (by decide) (by decide) ?_ ?_ <;> simp only [pick, List.getD_cons_zero, List.getD_cons_succ]
           ·
            have hcq : za35.cell? ⟨g5, 1, none⟩ = some (.slice (some ⟨bt, 0, none⟩) p.tb.length ct) := (cell_of_row _ _ 1 _ _ _ HQ.out.px).trans rfl
            go_wp2_with fail
            clear hcq
            refine pieceEnd_normal ⟨AnyW13.all _ _, ?_⟩
            refine flow_one (F := AnyW13) (fun _ _ _ _ _ => AnyW13.all _ _) (fun _ => AnyW13.all _ _) 5 (by kernel_rfl) (by decide) ?_
            simp only [pick, List.getD_cons_zero, List.getD_cons_succ]
            have hcq : za35.cell? ⟨g5, 1, none⟩ = some (.slice (some ⟨bt, 0, none⟩) p.tb.length ct) := (cell_of_row _ _ 1 _ _ _ HQ.out.px).trans rfl
            go_wp2_with fail
            clear hcq
            refine pieceEnd_normal ⟨AnyW13.all _ _, ?_⟩
            refine flow_reads (F := AnyW13) (fun _ => AnyW13.all _ _) (by kernel_rfl) [6, 7, 8] (fuel := 6) (by kernel_rfl) ?_
            simp only [List.map_cons, List.map_nil, pick, List.getD_cons_zero, List.getD_cons_succ]
            repeat (go_big_quiet_step (fail))
            refine wpQuiet_nil ?_
            refine flow_one (F := AnyW13) (fun _ _ _ _ _ => AnyW13.all _ _) (fun _ => AnyW13.all _ _) 9 (by kernel_rfl) (by decide) ?_
            simp only [pick, List.getD_cons_zero, List.getD_cons_succ]
            have hcq : za35.cell? ⟨bt, q0, none⟩ = some (.int .i64 el) := by rw [← HEL.out]; exact (own_i HQ.out.tb hq0l).1
            go_wp2_with fail
            clear hcq
            refine pieceEnd_normal ⟨AnyW13.all _ _, ?_⟩
            refine flow_reads (F := AnyW13) (fun _ => AnyW13.all _ _) (by kernel_rfl) [12] (fuel := 4) (by kernel_rfl) ?_
            simp only [List.map_cons, List.map_nil, pick, List.getD_cons_zero, List.getD_cons_succ]
            repeat (go_big_quiet_step (fail))
            refine wpQuiet_nil ?_
            refine flow_one (F := AnyW13) (fun _ _ _ _ _ => AnyW13.all _ _) (fun _ => AnyW13.all _ _) 13 (by kernel_rfl) (by decide) ?_
            simp only [pick, List.getD_cons_zero, List.getD_cons_succ]
            go_wp2_with fail
            have hb := one_new za35 (.cells #[.int .i64 (el + x)] 3)
            refine pieceEnd_normal ⟨AnyW13.all _ _, ?_⟩
            have HR3 : Hid (Row (za35.alloc (.cells #[.int .i64 (el + x)] 3)) (some ⟨za35.heap.size, 0, none⟩) 1 1 1 (intsV [el + x])) := Lib.hid (Row.of_block (heap_alloc_new _ _) rfl)
            replace HQ := Lib.hid (HQ.out.later hb)
            clear hb
            generalize za35.alloc (.cells #[.int .i64 (el + x)] 3) = za36 at *
            generalize za35.heap.size = s3 at *
            refine flow_one (F := AnyW13) (fun _ _ _ _ _ => AnyW13.all _ _) (fun _ => AnyW13.all _ _) 14 (by kernel_rfl) (by decide) ?_
            simp only [pick, List.getD_cons_zero, List.getD_cons_succ]
            have hwz := HQ.out.sz
            have hqs : g5 < za36.heap.size := (Array.getElem?_eq_some_iff.1 HQ.out.px).1
            have hqn : (Value.slice (some ⟨bt, 0, none⟩) p.tb.length ct).ownBlock ≠ some g5 := fun h => own_neqT12 HQ.out.tb HQ.out.px (by decide) g5 h rfl
            go_wp2_with (at_builtin; go_must (refine wpList_app2 za36 rfl (.tmp 73) (.tmp 85) 22 22 3 rfl y0.heap.size Try.underlying22 i64_info rfl _ p.tb.length (intsV p.tb) HQ.out.tb rfl _ 1 (intsV [el + x]) (Row.src HR3.out Try.underlying22 (intsV_one _)) rfl (by unfold maxLen; omega) (by omega) hwz ?_); intro v5 z5 ho hb hkp hv; have HO5 := Lib.hid ho; have HB5 := Lib.hid hb; have HKP := Lib.hid hkp; have HV := Lib.hid hv; clear ho hb hkp hv)
            refine pieceEnd_normal ⟨AnyW13.all _ _, ?_⟩
            obtain ⟨A5, c5, hv5, -⟩ := Row.of_own HO5.out
            subst hv5
            have HQ5 := Lib.hid (PQ.apd13 HQ.out (el + x) HB5.out HKP.out HO5.out HV.out)
            have hx5 := (HKP.out g5 hqs hqn).trans HQ.out.px
            clear HQ HR3 HO5 HB5 HKP HV hqs hqn hwz
            refine flow_reads (F := AnyW13) (fun _ => AnyW13.all _ _) (by kernel_rfl) [15] (fuel := 1) (by kernel_rfl) ?_
            simp only [List.map_cons, List.map_nil, pick, List.getD_cons_zero, List.getD_cons_succ]
            repeat (go_big_quiet_step (fail))
            refine wpQuiet_nil ?_
            refine flow_one (F := AnyW13) (fun _ _ _ _ _ => AnyW13.all _ _) (fun _ => AnyW13.all _ _) 16 (by kernel_rfl) (by decide) ?_
            simp only [pick, List.getD_cons_zero, List.getD_cons_succ]
            have hz5 : z5.cell? ⟨g5, 1, none⟩ = some (.slice (some ⟨bt, 0, none⟩) p.tb.length ct) := (cell_of_row _ _ 1 _ _ _ hx5).trans rfl
            have hfz5 : z5.frozen? ⟨g5, 1, none⟩ = false := by unfold World.frozen?; rw [hx5]; simp
            clear hx5
            go_wp2_with fail
            refine pieceEnd_normal ⟨AnyW13.all _ _, ?_⟩
            refine flow_done (by kernel_rfl) ?_
            go_wp2_with fail
            go_meet
            exact ⟨G.sz, _, _, _, Lib.hid (HDT.out _ HQ5.out (by show p.sd.length ≤ 100; omega) (by simp; omega))⟩
           ·
            have hcq : za35.cell? ⟨g5, 1, none⟩ = some (.slice (some ⟨bt, 0, none⟩) p.tb.length ct) := (cell_of_row _ _ 1 _ _ _ HQ.out.px).trans rfl
            go_wp2_with fail
            clear hcq
            refine pieceEnd_normal ⟨AnyW13.all _ _, ?_⟩
            refine flow_reads (F := AnyW13) (fun _ => AnyW13.all _ _) (by kernel_rfl) [6, 7, 8] (fuel := 7) (by kernel_rfl) ?_
            simp only [List.map_cons, List.map_nil, pick, List.getD_cons_zero, List.getD_cons_succ]
            repeat (go_big_quiet_step (fail))
            refine wpQuiet_nil ?_
            refine flow_two (F := AnyW13) (fun _ _ _ _ _ => AnyW13.all _ _) (fun _ => AnyW13.all _ _) 1 9 (by kernel_rfl) (by decide) (by decide) ?_ ?_ <;> simp only [pick, List.getD_cons_zero, List.getD_cons_succ]
            ·
             have hcq : za35.cell? ⟨g5, 1, none⟩ = some (.slice (some ⟨bt, 0, none⟩) p.tb.length ct) := (cell_of_row _ _ 1 _ _ _ HQ.out.px).trans rfl
             go_wp2_with fail
             clear hcq
             refine pieceEnd_normal ⟨AnyW13.all _ _, ?_⟩
             refine flow_one (F := AnyW13) (fun _ _ _ _ _ => AnyW13.all _ _) (fun _ => AnyW13.all _ _) 9 (by kernel_rfl) (by decide) ?_
             simp only [pick, List.getD_cons_zero, List.getD_cons_succ]
             have hcq : za35.cell? ⟨bt, q0, none⟩ = some (.int .i64 el) := by rw [← HEL.out]; exact (own_i HQ.out.tb hq0l).1
             go_wp2_with fail
             clear hcq
             refine pieceEnd_normal ⟨AnyW13.all _ _, ?_⟩
             refine flow_reads (F := AnyW13) (fun _ => AnyW13.all _ _) (by kernel_rfl) [12] (fuel := 4) (by kernel_rfl) ?_
             simp only [List.map_cons, List.map_nil, pick, List.getD_cons_zero, List.getD_cons_succ]
             repeat (go_big_quiet_step (fail))
             refine wpQuiet_nil ?_
             refine flow_one (F := AnyW13) (fun _ _ _ _ _ => AnyW13.all _ _) (fun _ => AnyW13.all _ _) 13 (by kernel_rfl) (by decide) ?_
             simp only [pick, List.getD_cons_zero, List.getD_cons_succ]
             go_wp2_with fail
             have hb := one_new za35 (.cells #[.int .i64 (el + x)] 3)
             refine pieceEnd_normal ⟨AnyW13.all _ _, ?_⟩
             have HR3 : Hid (Row (za35.alloc (.cells #[.int .i64 (el + x)] 3)) (some ⟨za35.heap.size, 0, none⟩) 1 1 1 (intsV [el + x])) := Lib.hid (Row.of_block (heap_alloc_new _ _) rfl)
             replace HQ := Lib.hid (HQ.out.later hb)
             clear hb
             generalize za35.alloc (.cells #[.int .i64 (el + x)] 3) = za37 at *
             generalize za35.heap.size = s3 at *
             refine flow_one (F := AnyW13) (fun _ _ _ _ _ => AnyW13.all _ _) (fun _ => AnyW13.all _ _) 14 (by kernel_rfl) (by decide) ?_
             simp only [pick, List.getD_cons_zero, List.getD_cons_succ]
             have hwz := HQ.out.sz
             have hqs : g5 < za37.heap.size := (Array.getElem?_eq_some_iff.1 HQ.out.px).1
             have hqn : (Value.slice (some ⟨bt, 0, none⟩) p.tb.length ct).ownBlock ≠ some g5 := fun h => own_neqT12 HQ.out.tb HQ.out.px (by decide) g5 h rfl
             go_wp2_with (at_builtin; go_must (refine wpList_app2 za37 rfl (.tmp 73) (.tmp 85) 22 22 3 rfl y0.heap.size Try.underlying22 i64_info rfl _ p.tb.length (intsV p.tb) HQ.out.tb rfl _ 1 (intsV [el + x]) (Row.src HR3.out Try.underlying22 (intsV_one _)) rfl (by unfold maxLen; omega) (by omega) hwz ?_); intro v5 z5 ho hb hkp hv; have HO5 := Lib.hid ho; have HB5 := Lib.hid hb; have HKP := Lib.hid hkp; have HV := Lib.hid hv; clear ho hb hkp hv)
             refine pieceEnd_normal ⟨AnyW13.all _ _, ?_⟩
             obtain ⟨A5, c5, hv5, -⟩ := Row.of_own HO5.out
             subst hv5
             have HQ5 := Lib.hid (PQ.apd13 HQ.out (el + x) HB5.out HKP.out HO5.out HV.out)
             have hx5 := (HKP.out g5 hqs hqn).trans HQ.out.px
             clear HQ HR3 HO5 HB5 HKP HV hqs hqn hwz
             refine flow_reads (F := AnyW13) (fun _ => AnyW13.all _ _) (by kernel_rfl) [15] (fuel := 1) (by kernel_rfl) ?_
             simp only [List.map_cons, List.map_nil, pick, List.getD_cons_zero, List.getD_cons_succ]
             repeat (go_big_quiet_step (fail))
             refine wpQuiet_nil ?_
             refine flow_one (F := AnyW13) (fun _ _ _ _ _ => AnyW13.all _ _) (fun _ => AnyW13.all _ _) 16 (by kernel_rfl) (by decide) ?_
             simp only [pick, List.getD_cons_zero, List.getD_cons_succ]
             have hz5 : z5.cell? ⟨g5, 1, none⟩ = some (.slice (some ⟨bt, 0, none⟩) p.tb.length ct) := (cell_of_row _ _ 1 _ _ _ hx5).trans rfl
             have hfz5 : z5.frozen? ⟨g5, 1, none⟩ = false := by unfold World.frozen?; rw [hx5]; simp
             clear hx5
             go_wp2_with fail
             refine pieceEnd_normal ⟨AnyW13.all _ _, ?_⟩
             refine flow_done (by kernel_rfl) ?_
             go_wp2_with fail
             go_meet
             exact ⟨G.sz, _, _, _, Lib.hid (HDT.out _ HQ5.out (by show p.sd.length ≤ 100; omega) (by simp; omega))⟩
            ·
             have hcq : za35.cell? ⟨bt, q0, none⟩ = some (.int .i64 el) := by rw [← HEL.out]; exact (own_i HQ.out.tb hq0l).1
             go_wp2_with fail
             clear hcq
             refine pieceEnd_normal ⟨AnyW13.all _ _, ?_⟩
             refine flow_reads (F := AnyW13) (fun _ => AnyW13.all _ _) (by kernel_rfl) [12] (fuel := 5) (by kernel_rfl) ?_
             simp only [List.map_cons, List.map_nil, pick, List.getD_cons_zero, List.getD_cons_succ]
             repeat (go_big_quiet_step (fail))
             refine wpQuiet_nil ?_
             refine flow_two (F := AnyW13) (fun _ _ _ _ _ => AnyW13.all _ _) (fun _ => AnyW13.all _ _) 1 13 (by kernel_rfl) (by decide) (by decide) ?_ ?_ <;> simp only [pick, List.getD_cons_zero, List.getD_cons_succ]
             ·
              have hcq : za35.cell? ⟨g5, 1, none⟩ = some (.slice (some ⟨bt, 0, none⟩) p.tb.length ct) := (cell_of_row _ _ 1 _ _ _ HQ.out.px).trans rfl
              go_wp2_with fail
              clear hcq
              refine pieceEnd_normal ⟨AnyW13.all _ _, ?_⟩
              refine flow_one (F := AnyW13) (fun _ _ _ _ _ => AnyW13.all _ _) (fun _ => AnyW13.all _ _) 13 (by kernel_rfl) (by decide) ?_
              simp only [pick, List.getD_cons_zero, List.getD_cons_succ]
              go_wp2_with fail
              have hb := one_new za35 (.cells #[.int .i64 (el + x)] 3)
              refine pieceEnd_normal ⟨AnyW13.all _ _, ?_⟩
              have HR3 : Hid (Row (za35.alloc (.cells #[.int .i64 (el + x)] 3)) (some ⟨za35.heap.size, 0, none⟩) 1 1 1 (intsV [el + x])) := Lib.hid (Row.of_block (heap_alloc_new _ _) rfl)
              replace HQ := Lib.hid (HQ.out.later hb)
              clear hb
              generalize za35.alloc (.cells #[.int .i64 (el + x)] 3) = za38 at *
              generalize za35.heap.size = s3 at *
              refine flow_one (F := AnyW13) (fun _ _ _ _ _ => AnyW13.all _ _) (fun _ => AnyW13.all _ _) 14 (by kernel_rfl) (by decide) ?_
              simp only [pick, List.getD_cons_zero, List.getD_cons_succ]
              have hwz := HQ.out.sz
              have hqs : g5 < za38.heap.size := (Array.getElem?_eq_some_iff.1 HQ.out.px).1
              have hqn : (Value.slice (some ⟨bt, 0, none⟩) p.tb.length ct).ownBlock ≠ some g5 := fun h => own_neqT12 HQ.out.tb HQ.out.px (by decide) g5 h rfl
              go_wp2_with (at_builtin; go_must (refine wpList_app2 za38 rfl (.tmp 73) (.tmp 85) 22 22 3 rfl y0.heap.size Try.underlying22 i64_info rfl _ p.tb.length (intsV p.tb) HQ.out.tb rfl _ 1 (intsV [el + x]) (Row.src HR3.out Try.underlying22 (intsV_one _)) rfl (by unfold maxLen; omega) (by omega) hwz ?_); intro v5 z5 ho hb hkp hv; have HO5 := Lib.hid ho; have HB5 := Lib.hid hb; have HKP := Lib.hid hkp; have HV := Lib.hid hv; clear ho hb hkp hv)
              refine pieceEnd_normal ⟨AnyW13.all _ _, ?_⟩
              obtain ⟨A5, c5, hv5, -⟩ := Row.of_own HO5.out
              subst hv5
              have HQ5 := Lib.hid (PQ.apd13 HQ.out (el + x) HB5.out HKP.out HO5.out HV.out)
              have hx5 := (HKP.out g5 hqs hqn).trans HQ.out.px
              clear HQ HR3 HO5 HB5 HKP HV hqs hqn hwz
              refine flow_reads (F := AnyW13) (fun _ => AnyW13.all _ _) (by kernel_rfl) [15] (fuel := 1) (by kernel_rfl) ?_
              simp only [List.map_cons, List.map_nil, pick, List.getD_cons_zero, List.getD_cons_succ]
              repeat (go_big_quiet_step (fail))
              refine wpQuiet_nil ?_
              refine flow_one (F := AnyW13) (fun _ _ _ _ _ => AnyW13.all _ _) (fun _ => AnyW13.all _ _) 16 (by kernel_rfl) (by decide) ?_
              simp only [pick, List.getD_cons_zero, List.getD_cons_succ]
              have hz5 : z5.cell? ⟨g5, 1, none⟩ = some (.slice (some ⟨bt, 0, none⟩) p.tb.length ct) := (cell_of_row _ _ 1 _ _ _ hx5).trans rfl
              have hfz5 : z5.frozen? ⟨g5, 1, none⟩ = false := by unfold World.frozen?; rw [hx5]; simp
              clear hx5
              go_wp2_with fail
              refine pieceEnd_normal ⟨AnyW13.all _ _, ?_⟩
              refine flow_done (by kernel_rfl) ?_
              go_wp2_with fail
              go_meet
              exact ⟨G.sz, _, _, _, Lib.hid (HDT.out _ HQ5.out (by show p.sd.length ≤ 100; omega) (by simp; omega))⟩
             ·
              go_wp2_with fail
              have hb := one_new za35 (.cells #[.int .i64 (el + x)] 3)
              refine pieceEnd_normal ⟨AnyW13.all _ _, ?_⟩
              have HR3 : Hid (Row (za35.alloc (.cells #[.int .i64 (el + x)] 3)) (some ⟨za35.heap.size, 0, none⟩) 1 1 1 (intsV [el + x])) := Lib.hid (Row.of_block (heap_alloc_new _ _) rfl)
              replace HQ := Lib.hid (HQ.out.later hb)
              clear hb
              generalize za35.alloc (.cells #[.int .i64 (el + x)] 3) = za39 at *
              generalize za35.heap.size = s3 at *
              refine flow_one (F := AnyW13) (fun _ _ _ _ _ => AnyW13.all _ _) (fun _ => AnyW13.all _ _) 1 (by kernel_rfl) (by decide) ?_
              simp only [pick, List.getD_cons_zero, List.getD_cons_succ]
              have hcq : za39.cell? ⟨g5, 1, none⟩ = some (.slice (some ⟨bt, 0, none⟩) p.tb.length ct) := (cell_of_row _ _ 1 _ _ _ HQ.out.px).trans rfl
              go_wp2_with fail
              clear hcq
              refine pieceEnd_normal ⟨AnyW13.all _ _, ?_⟩
              refine flow_one (F := AnyW13) (fun _ _ _ _ _ => AnyW13.all _ _) (fun _ => AnyW13.all _ _) 14 (by kernel_rfl) (by decide) ?_
              simp only [pick, List.getD_cons_zero, List.getD_cons_succ]
              have hwz := HQ.out.sz
              have hqs : g5 < za39.heap.size := (Array.getElem?_eq_some_iff.1 HQ.out.px).1
              have hqn : (Value.slice (some ⟨bt, 0, none⟩) p.tb.length ct).ownBlock ≠ some g5 := fun h => own_neqT12 HQ.out.tb HQ.out.px (by decide) g5 h rfl
              go_wp2_with (at_builtin; go_must (refine wpList_app2 za39 rfl (.tmp 73) (.tmp 85) 22 22 3 rfl y0.heap.size Try.underlying22 i64_info rfl _ p.tb.length (intsV p.tb) HQ.out.tb rfl _ 1 (intsV [el + x]) (Row.src HR3.out Try.underlying22 (intsV_one _)) rfl (by unfold maxLen; omega) (by omega) hwz ?_); intro v5 z5 ho hb hkp hv; have HO5 := Lib.hid ho; have HB5 := Lib.hid hb; have HKP := Lib.hid hkp; have HV := Lib.hid hv; clear ho hb hkp hv)
              refine pieceEnd_normal ⟨AnyW13.all _ _, ?_⟩
              obtain ⟨A5, c5, hv5, -⟩ := Row.of_own HO5.out
              subst hv5
              have HQ5 := Lib.hid (PQ.apd13 HQ.out (el + x) HB5.out HKP.out HO5.out HV.out)
              have hx5 := (HKP.out g5 hqs hqn).trans HQ.out.px
              clear HQ HR3 HO5 HB5 HKP HV hqs hqn hwz
              refine flow_reads (F := AnyW13) (fun _ => AnyW13.all _ _) (by kernel_rfl) [15] (fuel := 1) (by kernel_rfl) ?_
              simp only [List.map_cons, List.map_nil, pick, List.getD_cons_zero, List.getD_cons_succ]
              repeat (go_big_quiet_step (fail))
              refine wpQuiet_nil ?_
              refine flow_one (F := AnyW13) (fun _ _ _ _ _ => AnyW13.all _ _) (fun _ => AnyW13.all _ _) 16 (by kernel_rfl) (by decide) ?_
              simp only [pick, List.getD_cons_zero, List.getD_cons_succ]
              have hz5 : z5.cell? ⟨g5, 1, none⟩ = some (.slice (some ⟨bt, 0, none⟩) p.tb.length ct) := (cell_of_row _ _ 1 _ _ _ hx5).trans rfl
              have hfz5 : z5.frozen? ⟨g5, 1, none⟩ = false := by unfold World.frozen?; rw [hx5]; simp
              clear hx5
              go_wp2_with fail
              refine pieceEnd_normal ⟨AnyW13.all _ _, ?_⟩
              refine flow_done (by kernel_rfl) ?_
              go_wp2_with fail
              go_meet
              exact ⟨G.sz, _, _, _, Lib.hid (HDT.out _ HQ5.out (by show p.sd.length ≤ 100; omega) (by simp; omega))⟩
         ·
          have hcq : z0.cell? ⟨g5, 1, none⟩ = some (.slice (some ⟨bt, 0, none⟩) p.tb.length ct) := (cell_of_row _ _ 1 _ _ _ HQ.out.px).trans rfl
          go_wp2_with fail
          clear hcq
          refine pieceEnd_normal ⟨AnyW13.all _ _, ?_⟩
          refine flow_reads (F := AnyW13) (fun _ => AnyW13.all _ _) (by kernel_rfl) [6, 7] (fuel := 10) (by kernel_rfl) ?_
          simp only [List.map_cons, List.map_nil, pick, List.getD_cons_zero, List.getD_cons_succ]
          repeat (go_big_quiet_step (fail))
          refine wpQuiet_nil ?_
          refine flow_three (F := AnyW13) (fun _ _ _ _ _ => AnyW13.all _ _) (fun _ => AnyW13.all _ _) 1 3 11 (by kernel_rfl) (by decide) (by decide) (by decide) ?_ ?_ ?_ <;> simp only [pick, List.getD_cons_zero, List.getD_cons_succ]
          ·
           have hcq : z0.cell? ⟨g5, 1, none⟩ = some (.slice (some ⟨bt, 0, none⟩) p.tb.length ct) := (cell_of_row _ _ 1 _ _ _ HQ.out.px).trans rfl
           go_wp2_with fail
           clear hcq
           refine pieceEnd_normal ⟨AnyW13.all _ _, ?_⟩
           refine flow_two (F := AnyW13) (fun _ _ _ _ _ => AnyW13.all _ _) (fun _ => AnyW13.all _ _) 3 11 (by kernel_rfl) (by decide) (by decide) ?_ ?_ <;> simp only [pick, List.getD_cons_zero, List.getD_cons_succ]
           ·
            have hcq : z0.cell? ⟨g5, 1, none⟩ = some (.slice (some ⟨bt, 0, none⟩) p.tb.length ct) := (cell_of_row _ _ 1 _ _ _ HQ.out.px).trans rfl
            go_wp2_with fail
            clear hcq
            refine pieceEnd_normal ⟨AnyW13.all _ _, ?_⟩
            refine flow_reads (F := AnyW13) (fun _ => AnyW13.all _ _) (by kernel_rfl) [8] (fuel := 7) (by kernel_rfl) ?_
            simp only [List.map_cons, List.map_nil, pick, List.getD_cons_zero, List.getD_cons_succ]
            repeat (go_big_quiet_step (fail))
            refine wpQuiet_nil ?_
            refine flow_two (F := AnyW13) (fun _ _ _ _ _ => AnyW13.all _ _) (fun _ => AnyW13.all _ _) 9 11 (by kernel_rfl) (by decide) (by decide) ?_ ?_ <;> simp only [pick, List.getD_cons_zero, List.getD_cons_succ]
            ·
             have hcq : z0.cell? ⟨bt, q0, none⟩ = some (.int .i64 el) := by rw [← HEL.out]; exact (own_i HQ.out.tb hq0l).1
             go_wp2_with fail
             clear hcq
             refine pieceEnd_normal ⟨AnyW13.all _ _, ?_⟩
             refine flow_one (F := AnyW13) (fun _ _ _ _ _ => AnyW13.all _ _) (fun _ => AnyW13.all _ _) 11 (by kernel_rfl) (by decide) ?_
             simp only [pick, List.getD_cons_zero, List.getD_cons_succ]
             go_wp2_with fail
             refine (next_g w.heap.size D t 2 z0 HQ.out.dice (by decide) (by decide)).mono ?_
             rintro e za40 ⟨x, rfl, hx0, hx1, hg⟩
             replace HQ := Lib.hid (HQ.out.gave hg)
             have m2 : RowKit.wrap64 (el + x) = el + x := IntWalk.wrap64_in _ (by omega)
             have m3 : IntKind.i64.wrap (el + x) = el + x := by rw [IntKind.wrap_i64]; omega
             clear hg
             go_wp2_with fail
             refine pieceEnd_normal ⟨AnyW13.all _ _, ?_⟩
             refine flow_reads (F := AnyW13) (fun _ => AnyW13.all _ _) (by kernel_rfl) [12] (fuel := 4) (by kernel_rfl) ?_
             simp only [List.map_cons, List.map_nil, pick, List.getD_cons_zero, List.getD_cons_succ]
             repeat (go_big_quiet_step (fail))
             refine wpQuiet_nil ?_
             refine flow_one (F := AnyW13) (fun _ _ _ _ _ => AnyW13.all _ _) (fun _ => AnyW13.all _ _) 13 (by kernel_rfl) (by decide) ?_
             simp only [pick, List.getD_cons_zero, List.getD_cons_succ]
             go_wp2_with fail
             have hb := one_new za40 (.cells #[.int .i64 (el + x)] 3)
             refine pieceEnd_normal ⟨AnyW13.all _ _, ?_⟩
             have HR3 : Hid (Row (za40.alloc (.cells #[.int .i64 (el + x)] 3)) (some ⟨za40.heap.size, 0, none⟩) 1 1 1 (intsV [el + x])) := Lib.hid (Row.of_block (heap_alloc_new _ _) rfl)
             replace HQ := Lib.hid (HQ.out.later hb)
             clear hb
             generalize za40.alloc (.cells #[.int .i64 (el + x)] 3) = za41 at *
             generalize za40.heap.size = s3 at *
             refine flow_one (F := AnyW13) (fun _ _ _ _ _ => AnyW13.all _ _) (fun _ => AnyW13.all _ _) 14 (by kernel_rfl) (by decide) ?_
             simp only [pick, List.getD_cons_zero, List.getD_cons_succ]
             have hwz := HQ.out.sz
             have hqs : g5 < za41.heap.size := (Array.getElem?_eq_some_iff.1 HQ.out.px).1
             have hqn : (Value.slice (some ⟨bt, 0, none⟩) p.tb.length ct).ownBlock ≠ some g5 := fun h => own_neqT12 HQ.out.tb HQ.out.px (by decide) g5 h rfl
             go_wp2_with (at_builtin; go_must (refine wpList_app2 za41 rfl (.tmp 73) (.tmp 85) 22 22 3 rfl y0.heap.size Try.underlying22 i64_info rfl _ p.tb.length (intsV p.tb) HQ.out.tb rfl _ 1 (intsV [el + x]) (Row.src HR3.out Try.underlying22 (intsV_one _)) rfl (by unfold maxLen; omega) (by omega) hwz ?_); intro v5 z5 ho hb hkp hv; have HO5 := Lib.hid ho; have HB5 := Lib.hid hb; have HKP := Lib.hid hkp; have HV := Lib.hid hv; clear ho hb hkp hv)
             refine pieceEnd_normal ⟨AnyW13.all _ _, ?_⟩
             obtain ⟨A5, c5, hv5, -⟩ := Row.of_own HO5.out
             subst hv5
             have HQ5 := Lib.hid (PQ.apd13 HQ.out (el + x) HB5.out HKP.out HO5.out HV.out)
             have hx5 := (HKP.out g5 hqs hqn).trans HQ.out.px
             clear HQ HR3 HO5 HB5 HKP HV hqs hqn hwz
             refine flow_reads (F := AnyW13) (fun _ => AnyW13.all _ _) (by kernel_rfl) [15] (fuel := 1) (by kernel_rfl) ?_
             simp only [List.map_cons, List.map_nil, pick, List.getD_cons_zero, List.getD_cons_succ]
             repeat (go_big_quiet_step (fail))
             refine wpQuiet_nil ?_
             refine flow_one (F := AnyW13) (fun _ _ _ _ _ => AnyW13.all _ _) (fun _ => AnyW13.all _ _) 16 (by kernel_rfl) (by decide) ?_
             simp only [pick, List.getD_cons_zero, List.getD_cons_succ]
             have hz5 : z5.cell? ⟨g5, 1, none⟩ = some (.slice (some ⟨bt, 0, none⟩) p.tb.length ct) := (cell_of_row _ _ 1 _ _ _ hx5).trans rfl
             have hfz5 : z5.frozen? ⟨g5, 1, none⟩ = false := by unfold World.frozen?; rw [hx5]; simp
             clear hx5
             go_wp2_with fail
             refine pieceEnd_normal ⟨AnyW13.all _ _, ?_⟩
             refine flow_done (by kernel_rfl) ?_
             go_wp2_with fail
             go_meet
             exact ⟨G.sz, _, _, _, Lib.hid (HDT.out _ HQ5.out (by show p.sd.length ≤ 100; omega) (by simp; omega))⟩
            ·
             go_wp2_with fail
             refine (next_g w.heap.size D t 2 z0 HQ.out.dice (by decide) (by decide)).mono ?_
             rintro e za42 ⟨x, rfl, hx0, hx1, hg⟩
             replace HQ := Lib.hid (HQ.out.gave hg)
             have m2 : RowKit.wrap64 (el + x) = el + x := IntWalk.wrap64_in _ (by omega)
             have m3 : IntKind.i64.wrap (el + x) = el + x := by rw [IntKind.wrap_i64]; omega
             clear hg
             go_wp2_with fail
             refine pieceEnd_normal ⟨AnyW13.all _ _, ?_⟩
             refine flow_one (F := AnyW13) (fun _ _ _ _ _ => AnyW13.all _ _) (fun _ => AnyW13.all _ _) 9 (by kernel_rfl) (by decide) ?_
             simp only [pick, List.getD_cons_zero, List.getD_cons_succ]
             have hcq : za42.cell? ⟨bt, q0, none⟩ = some (.int .i64 el) := by rw [← HEL.out]; exact (own_i HQ.out.tb hq0l).1
             go_wp2_with fail
             clear hcq
             refine pieceEnd_normal ⟨AnyW13.all _ _, ?_⟩
             refine flow_reads (F := AnyW13) (fun _ => AnyW13.all _ _) (by kernel_rfl) [12] (fuel := 4) (by kernel_rfl) ?_
             simp only [List.map_cons, List.map_nil, pick, List.getD_cons_zero, List.getD_cons_succ]
             repeat (go_big_quiet_step (fail))
             refine wpQuiet_nil ?_
             refine flow_one (F := AnyW13) (fun _ _ _ _ _ => AnyW13.all _ _) (fun _ => AnyW13.all _ _) 13 (by kernel_rfl) (by decide) ?_
             simp only [pick, List.getD_cons_zero, List.getD_cons_succ]
             go_wp2_with fail
             have hb := one_new za42 (.cells #[.int .i64 (el + x)] 3)
             refine pieceEnd_normal ⟨AnyW13.all _ _, ?_⟩
             have HR3 : Hid (Row (za42.alloc (.cells #[.int .i64 (el + x)] 3)) (some ⟨za42.heap.size, 0, none⟩) 1 1 1 (intsV [el + x])) := Lib.hid (Row.of_block (heap_alloc_new _ _) rfl)
             replace HQ := Lib.hid (HQ.out.later hb)
             clear hb
             generalize za42.alloc (.cells #[.int .i64 (el + x)] 3) = za43 at *
             generalize za42.heap.size = s3 at *
             refine flow_one (F := AnyW13) (fun _ _ _ _ _ => AnyW13.all _ _) (fun _ => AnyW13.all _ _) 14 (by kernel_rfl) (by decide) ?_
             simp only [pick, List.getD_cons_zero, List.getD_cons_succ]
             have hwz := HQ.out.sz
             have hqs : g5 < za43.heap.size := (Array.getElem?_eq_some_iff.1 HQ.out.px).1
             have hqn : (Value.slice (some ⟨bt, 0, none⟩) p.tb.length ct).ownBlock ≠ some g5 := fun h => own_neqT12 HQ.out.tb HQ.out.px (by decide) g5 h rfl
             go_wp2_with (at_builtin; go_must (refine wpList_app2 za43 rfl (.tmp 73) (.tmp 85) 22 22 3 rfl y0.heap.size Try.underlying22 i64_info rfl _ p.tb.length (intsV p.tb) HQ.out.tb rfl _ 1 (intsV [el + x]) (Row.src HR3.out Try.underlying22 (intsV_one _)) rfl (by unfold maxLen; omega) (by omega) hwz ?_); intro v5 z5 ho hb hkp hv; have HO5 := Lib.hid ho; have HB5 := Lib.hid hb; have HKP := Lib.hid hkp; have HV := Lib.hid hv; clear ho hb hkp hv)
             refine pieceEnd_normal ⟨AnyW13.all _ _, ?_⟩
             obtain ⟨A5, c5, hv5, -⟩ := Row.of_own HO5.out
             subst hv5
             have HQ5 := Lib.hid (PQ.apd13 HQ.out (el + x) HB5.out HKP.out HO5.out HV.out)
             have hx5 := (HKP.out g5 hqs hqn).trans HQ.out.px
             clear HQ HR3 HO5 HB5 HKP HV hqs hqn hwz
             refine flow_reads (F := AnyW13) (fun _ => AnyW13.all _ _) (by kernel_rfl) [15] (fuel := 1) (by kernel_rfl) ?_
             simp only [List.map_cons, List.map_nil, pick, List.getD_cons_zero, List.getD_cons_succ]
             repeat (go_big_quiet_step (fail))
             refine wpQuiet_nil ?_
             refine flow_one (F := AnyW13) (fun _ _ _ _ _ => AnyW13.all _ _) (fun _ => AnyW13.all _ _) 16 (by kernel_rfl) (by decide) ?_
             simp only [pick, List.getD_cons_zero, List.getD_cons_succ]
             have hz5 : z5.cell? ⟨g5, 1, none⟩ = some (.slice (some ⟨bt, 0, none⟩) p.tb.length ct) := (cell_of_row _ _ 1 _ _ _ hx5).trans rfl
             have hfz5 : z5.frozen? ⟨g5, 1, none⟩ = false := by unfold World.frozen?; rw [hx5]; simp
             clear hx5
             go_wp2_with fail
             refine pieceEnd_normal ⟨AnyW13.all _ _, ?_⟩
             refine flow_done (by kernel_rfl) ?_
             go_wp2_with fail
             go_meet
             exact ⟨G.sz, _, _, _, Lib.hid (HDT.out _ HQ5.out (by show p.sd.length ≤ 100; omega) (by simp; omega))⟩
           ·
            go_wp2_with fail
            refine (next_g w.heap.size D t 2 z0 HQ.out.dice (by decide) (by decide)).mono ?_
            rintro e za44 ⟨x, rfl, hx0, hx1, hg⟩
            replace HQ := Lib.hid (HQ.out.gave hg)
            have m2 : RowKit.wrap64 (el + x) = el + x := IntWalk.wrap64_in _ (by omega)
            have m3 : IntKind.i64.wrap (el + x) = el + x := by rw [IntKind.wrap_i64]; omega
            clear hg
            go_wp2_with fail
            refine pieceEnd_normal ⟨AnyW13.all _ _, ?_⟩
            refine flow_one (F := AnyW13) (fun _ _ _ _ _ => AnyW13.all _ _) (fun _ => AnyW13.all _ _) 3 (by kernel_rfl) (by decide) ?_
            simp only [pick, List.getD_cons_zero, List.getD_cons_succ]
            have hcq : za44.cell? ⟨g5, 1, none⟩ = some (.slice (some ⟨bt, 0, none⟩) p.tb.length ct) := (cell_of_row _ _ 1 _ _ _ HQ.out.px).trans rfl
            go_wp2_with fail
            clear hcq
            refine pieceEnd_normal ⟨AnyW13.all _ _, ?_⟩
            refine flow_reads (F := AnyW13) (fun _ => AnyW13.all _ _) (by kernel_rfl) [8] (fuel := 6) (by kernel_rfl) ?_
            simp only [List.map_cons, List.map_nil, pick, List.getD_cons_zero, List.getD_cons_succ]
            repeat (go_big_quiet_step (fail))
            refine wpQuiet_nil ?_
            refine flow_one (F := AnyW13) (fun _ _ _ _ _ => AnyW13.all _ _) (fun _ => AnyW13.all _ _) 9 (by kernel_rfl) (by decide) ?_
            simp only [pick, List.getD_cons_zero, List.getD_cons_succ]
            have hcq : za44.cell? ⟨bt, q0, none⟩ = some (.int .i64 el) := by rw [← HEL.out]; exact (own_i HQ.out.tb hq0l).1
            go_wp2_with fail
            clear hcq
            refine pieceEnd_normal ⟨AnyW13.all _ _, ?_⟩
            refine flow_reads (F := AnyW13) (fun _ => AnyW13.all _ _) (by kernel_rfl) [12] (fuel := 4) (by kernel_rfl) ?_
            simp only [List.map_cons, List.map_nil, pick, List.getD_cons_zero, List.getD_cons_succ]
            repeat (go_big_quiet_step (fail))
            refine wpQuiet_nil ?_
            refine flow_one (F := AnyW13) (fun _ _ _ _ _ => AnyW13.all _ _) (fun _ => AnyW13.all _ _) 13 (by kernel_rfl) (by decide) ?_
            simp only [pick, List.getD_cons_zero, List.getD_cons_succ]
            go_wp2_with fail
            have hb := one_new za44 (.cells #[.int .i64 (el + x)] 3)
            refine pieceEnd_normal ⟨AnyW13.all _ _, ?_⟩
            have HR3 : Hid (Row (za44.alloc (.cells #[.int .i64 (el + x)] 3)) (some ⟨za44.heap.size, 0, none⟩) 1 1 1 (intsV [el + x])) := Lib.hid (Row.of_block (heap_alloc_new _ _) rfl)
            replace HQ := Lib.hid (HQ.out.later hb)
            clear hb
            generalize za44.alloc (.cells #[.int .i64 (el + x)] 3) = za45 at *
            generalize za44.heap.size = s3 at *
            refine flow_one (F := AnyW13) (fun _ _ _ _ _ => AnyW13.all _ _) (fun _ => AnyW13.all _ _) 14 (by kernel_rfl) (by decide) ?_
            simp only [pick, List.getD_cons_zero, List.getD_cons_succ]
            have hwz := HQ.out.sz
            have hqs : g5 < za45.heap.size := (Array.getElem?_eq_some_iff.1 HQ.out.px).1
            have hqn : (Value.slice (some ⟨bt, 0, none⟩) p.tb.length ct).ownBlock ≠ some g5 := fun h => own_neqT12 HQ.out.tb HQ.out.px (by decide) g5 h rfl
            go_wp2_with (at_builtin; go_must (refine wpList_app2 za45 rfl (.tmp 73) (.tmp 85) 22 22 3 rfl y0.heap.size Try.underlying22 i64_info rfl _ p.tb.length (intsV p.tb) HQ.out.tb rfl _ 1 (intsV [el + x]) (Row.src HR3.out Try.underlying22 (intsV_one _)) rfl (by unfold maxLen; omega) (by omega) hwz ?_); intro v5 z5 ho hb hkp hv; have HO5 := Lib.hid ho; have HB5 := Lib.hid hb; have HKP := Lib.hid hkp; have HV := Lib.hid hv; clear ho hb hkp hv)
            refine pieceEnd_normal ⟨AnyW13.all _ _, ?_⟩
            obtain ⟨A5, c5, hv5, -⟩ := Row.of_own HO5.out
            subst hv5
            have HQ5 := Lib.hid (PQ.apd13 HQ.out (el + x) HB5.out HKP.out HO5.out HV.out)
            have hx5 := (HKP.out g5 hqs hqn).trans HQ.out.px
            clear HQ HR3 HO5 HB5 HKP HV hqs hqn hwz
            refine flow_reads (F := AnyW13) (fun _ => AnyW13.all _ _) (by kernel_rfl) [15] (fuel := 1) (by kernel_rfl) ?_
            simp only [List.map_cons, List.map_nil, pick, List.getD_cons_zero, List.getD_cons_succ]
            repeat (go_big_quiet_step (fail))
            refine wpQuiet_nil ?_
            refine flow_one (F := AnyW13) (fun _ _ _ _ _ => AnyW13.all _ _) (fun _ => AnyW13.all _ _) 16 (by kernel_rfl) (by decide) ?_
            simp only [pick, List.getD_cons_zero, List.getD_cons_succ]
            have hz5 : z5.cell? ⟨g5, 1, none⟩ = some (.slice (some ⟨bt, 0, none⟩) p.tb.length ct) := (cell_of_row _ _ 1 _ _ _ hx5).trans rfl
            have hfz5 : z5.frozen? ⟨g5, 1, none⟩ = false := by unfold World.frozen?; rw [hx5]; simp
            clear hx5
            go_wp2_with fail
            refine pieceEnd_normal ⟨AnyW13.all _ _, ?_⟩
            refine flow_done (by kernel_rfl) ?_
            go_wp2_with fail
            go_meet
            exact ⟨G.sz, _, _, _, Lib.hid (HDT.out _ HQ5.out (by show p.sd.length ≤ 100; omega) (by simp; omega))⟩
          ·
           have hcq : z0.cell? ⟨g5, 1, none⟩ = some (.slice (some ⟨bt, 0, none⟩) p.tb.length ct) := (cell_of_row _ _ 1 _ _ _ HQ.out.px).trans rfl
           go_wp2_with fail
           clear hcq
           refine pieceEnd_normal ⟨AnyW13.all _ _, ?_⟩
           refine flow_reads (F := AnyW13) (fun _ => AnyW13.all _ _) (by kernel_rfl) [8] (fuel := 8) (by kernel_rfl) ?_
           simp only [List.map_cons, List.map_nil, pick, List.getD_cons_zero, List.getD_cons_succ]
           repeat (go_big_quiet_step (fail))
           refine wpQuiet_nil ?_
           refine flow_three (F := AnyW13) (fun _ _ _ _ _ => AnyW13.all _ _) (fun _ => AnyW13.all _ _) 1 9 11 (by kernel_rfl) (by decide) (by decide) (by decide) ?_ ?_ ?_ <;> simp only [pick, List.getD_cons_zero, List.getD_cons_succ]
           ·
            have hcq : z0.cell? ⟨g5, 1, none⟩ = some (.slice (some ⟨bt, 0, none⟩) p.tb.length ct) := (cell_of_row _ _ 1 _ _ _ HQ.out.px).trans rfl
            go_wp2_with fail
            clear hcq
            refine pieceEnd_normal ⟨AnyW13.all _ _, ?_⟩
            refine flow_two (F := AnyW13) (fun _ _ _ _ _ => AnyW13.all _ _) (fun _ => AnyW13.all _ _) 9 11 (by kernel_rfl) (by decide) (by decide) ?_ ?_ <;> simp only [pick, List.getD_cons_zero, List.getD_cons_succ]
            ·
             have hcq : z0.cell? ⟨bt, q0, none⟩ = some (.int .i64 el) := by rw [← HEL.out]; exact (own_i HQ.out.tb hq0l).1
             go_wp2_with fail
             clear hcq
             refine pieceEnd_normal ⟨AnyW13.all _ _, ?_⟩
             refine flow_one (F := AnyW13) (fun _ _ _ _ _ => AnyW13.all _ _) (fun _ => AnyW13.all _ _) 11 (by kernel_rfl) (by decide) ?_
             simp only [pick, List.getD_cons_zero, List.getD_cons_succ]
             go_wp2_with fail
             refine (next_g w.heap.size D t 2 z0 HQ.out.dice (by decide) (by decide)).mono ?_
             rintro e za46 ⟨x, rfl, hx0, hx1, hg⟩
             replace HQ := Lib.hid (HQ.out.gave hg)
             have m2 : RowKit.wrap64 (el + x) = el + x := IntWalk.wrap64_in _ (by omega)
             have m3 : IntKind.i64.wrap (el + x) = el + x := by rw [IntKind.wrap_i64]; omega
             clear hg
             go_wp2_with fail
             refine pieceEnd_normal ⟨AnyW13.all _ _, ?_⟩
             refine flow_reads (F := AnyW13) (fun _ => AnyW13.all _ _) (by kernel_rfl) [12] (fuel := 4) (by kernel_rfl) ?_
             simp only [List.map_cons, List.map_nil, pick, List.getD_cons_zero, List.getD_cons_succ]
             repeat (go_big_quiet_step (fail))
             refine wpQuiet_nil ?_
             refine flow_one (F := AnyW13) (fun _ _ _ _ _ => AnyW13.all _ _) (fun _ => AnyW13.all _ _) 13 (by kernel_rfl) (by decide) ?_
             simp only [pick, List.getD_cons_zero, List.getD_cons_succ]
             go_wp2_with fail
             have hb := one_new za46 (.cells #[.int .i64 (el + x)] 3)
             refine pieceEnd_normal ⟨AnyW13.all _ _, ?_⟩
             have HR3 : Hid (Row (za46.alloc (.cells #[.int .i64 (el + x)] 3)) (some ⟨za46.heap.size, 0, none⟩) 1 1 1 (intsV [el + x])) := Lib.hid (Row.of_block (heap_alloc_new _ _) rfl)
             replace HQ := Lib.hid (HQ.out.later hb)
             clear hb
             generalize za46.alloc (.cells #[.int .i64 (el + x)] 3) = za47 at *
             generalize za46.heap.size = s3 at *
             refine flow_one (F := AnyW13) (fun _ _ _ _ _ => AnyW13.all _ _) (fun _ => AnyW13.all _ _) 14 (by kernel_rfl) (by decide) ?_
             simp only [pick, List.getD_cons_zero, List.getD_cons_succ]
             have hwz := HQ.out.sz
             have hqs : g5 < za47.heap.size := (Array.getElem?_eq_some_iff.1 HQ.out.px).1
             have hqn : (Value.slice (some ⟨bt, 0, none⟩) p.tb.length ct).ownBlock ≠ some g5 := fun h => own_neqT12 HQ.out.tb HQ.out.px (by decide) g5 h rfl
             go_wp2_with (at_builtin; go_must (refine wpList_app2 za47 rfl (.tmp 73) (.tmp 85) 22 22 3 rfl y0.heap.size Try.underlying22 i64_info rfl _ p.tb.length (intsV p.tb) HQ.out.tb rfl _ 1 (intsV [el + x]) (Row.src HR3.out Try.underlying22 (intsV_one _)) rfl (by unfold maxLen; omega) (by omega) hwz ?_); intro v5 z5 ho hb hkp hv; have HO5 := Lib.hid ho; have HB5 := Lib.hid hb; have HKP := Lib.hid hkp; have HV := Lib.hid hv; clear ho hb hkp hv)
             refine pieceEnd_normal ⟨AnyW13.all _ _, ?_⟩
             obtain ⟨A5, c5, hv5, -⟩ := Row.of_own HO5.out
             subst hv5
             have HQ5 := Lib.hid (PQ.apd13 HQ.out (el + x) HB5.out HKP.out HO5.out HV.out)
             have hx5 := (HKP.out g5 hqs hqn).trans HQ.out.px
             clear HQ HR3 HO5 HB5 HKP HV hqs hqn hwz
             refine flow_reads (F := AnyW13) (fun _ => AnyW13.all _ _) (by kernel_rfl) [15] (fuel := 1) (by kernel_rfl) ?_
             simp only [List.map_cons, List.map_nil, pick, List.getD_cons_zero, List.getD_cons_succ]
             repeat (go_big_quiet_step (fail))
             refine wpQuiet_nil ?_
             refine flow_one (F := AnyW13) (fun _ _ _ _ _ => AnyW13.all _ _) (fun _ => AnyW13.all _ _) 16 (by kernel_rfl) (by decide) ?_
             simp only [pick, List.getD_cons_zero, List.getD_cons_succ]
             have hz5 : z5.cell? ⟨g5, 1, none⟩ = some (.slice (some ⟨bt, 0, none⟩) p.tb.length ct) := (cell_of_row _ _ 1 _ _ _ hx5).trans rfl
             have hfz5 : z5.frozen? ⟨g5, 1, none⟩ = false := by unfold World.frozen?; rw [hx5]; simp
             clear hx5
             go_wp2_with fail
             refine pieceEnd_normal ⟨AnyW13.all _ _, ?_⟩
             refine flow_done (by kernel_rfl) ?_
             go_wp2_with fail
             go_meet
             exact ⟨G.sz, _, _, _, Lib.hid (HDT.out _ HQ5.out (by show p.sd.length ≤ 100; omega) (by simp; omega))⟩
            ·
             go_wp2_with fail
             refine (next_g w.heap.size D t 2 z0 HQ.out.dice (by decide) (by decide)).mono ?_
             rintro e za48 ⟨x, rfl, hx0, hx1, hg⟩
             replace HQ := Lib.hid (HQ.out.gave hg)
             have m2 : RowKit.wrap64 (el + x) = el + x := IntWalk.wrap64_in _ (by omega)
             have m3 : IntKind.i64.wrap (el + x) = el + x := by rw [IntKind.wrap_i64]; omega
             clear hg
             go_wp2_with fail
             refine pieceEnd_normal ⟨AnyW13.all _ _, ?_⟩
             refine flow_one (F := AnyW13) (fun _ _ _ _ _ => AnyW13.all _ _) (fun _ => AnyW13.all _ _) 9 (by kernel_rfl) (by decide) ?_
             simp only [pick, List.getD_cons_zero, List.getD_cons_succ]
             have hcq : za48.cell? ⟨bt, q0, none⟩ = some (.int .i64 el) := by rw [← HEL.out]; exact (own_i HQ.out.tb hq0l).1
             go_wp2_with fail
             clear hcq
             refine pieceEnd_normal ⟨AnyW13.all _ _, ?_⟩
             refine flow_reads (F := AnyW13) (fun _ => AnyW13.all _ _) (by kernel_rfl) [12] (fuel := 4) (by kernel_rfl) ?_
             simp only [List.map_cons, List.map_nil, pick, List.getD_cons_zero, List.getD_cons_succ]
             repeat (go_big_quiet_step (fail))
             refine wpQuiet_nil ?_
             refine flow_one (F := AnyW13) (fun _ _ _ _ _ => AnyW13.all _ _) (fun _ => AnyW13.all _ _) 13 (by kernel_rfl) (by decide) ?_
             simp only [pick, List.getD_cons_zero, List.getD_cons_succ]
             go_wp2_with fail
             have hb := one_new za48 (.cells #[.int .i64 (el + x)] 3)
             refine pieceEnd_normal ⟨AnyW13.all _ _, ?_⟩
             have HR3 : Hid (Row (za48.alloc (.cells #[.int .i64 (el + x)] 3)) (some ⟨za48.heap.size, 0, none⟩) 1 1 1 (intsV [el + x])) := Lib.hid (Row.of_block (heap_alloc_new _ _) rfl)
             replace HQ := Lib.hid (HQ.out.later hb)
             clear hb
             generalize za48.alloc (.cells #[.int .i64 (el + x)] 3) = za49 at *
             generalize za48.heap.size = s3 at *
             refine flow_one (F := AnyW13) (fun _ _ _ _ _ => AnyW13.all _ _) (fun _ => AnyW13.all _ _) 14 (by kernel_rfl) (by decide) ?_
             simp only [pick, List.getD_cons_zero, List.getD_cons_succ]
             have hwz := HQ.out.sz
             have hqs : g5 < za49.heap.size := (Array.getElem?_eq_some_iff.1 HQ.out.px).1
             have hqn : (Value.slice (some ⟨bt, 0, none⟩) p.tb.length ct).ownBlock ≠ some g5 := fun h => own_neqT12 HQ.out.tb HQ.out.px (by decide) g5 h rfl
             go_wp2_with (at_builtin; go_must (refine wpList_app2 za49 rfl (.tmp 73) (.tmp 85) 22 22 3 rfl y0.heap.size Try.underlying22 i64_info rfl _ p.tb.length (intsV p.tb) HQ.out.tb rfl _ 1 (intsV [el + x]) (Row.src HR3.out Try.underlying22 (intsV_one _)) rfl (by unfold maxLen; omega) (by omega) hwz ?_); intro v5 z5 ho hb hkp hv; have HO5 := Lib.hid ho; have HB5 := Lib.hid hb; have HKP := Lib.hid hkp; have HV := Lib.hid hv; clear ho hb hkp hv)
             refine pieceEnd_normal ⟨AnyW13.all _ _, ?_⟩
             obtain ⟨A5, c5, hv5, -⟩ := Row.of_own HO5.out
             subst hv5
             have HQ5 := Lib.hid (PQ.apd13 HQ.out (el + x) HB5.out HKP.out HO5.out HV.out)
             have hx5 := (HKP.out g5 hqs hqn).trans HQ.out.px
             clear HQ HR3 HO5 HB5 HKP HV hqs hqn hwz
             refine flow_reads (F := AnyW13) (fun _ => AnyW13.all _ _) (by kernel_rfl) [15] (fuel := 1) (by kernel_rfl) ?_
             simp only [List.map_cons, List.map_nil, pick, List.getD_cons_zero, List.getD_cons_succ]
             repeat (go_big_quiet_step (fail))
             refine wpQuiet_nil ?_
             refine flow_one (F := AnyW13) (fun _ _ _ _ _ => AnyW13.all _ _) (fun _ => AnyW13.all _ _) 16 (by kernel_rfl) (by decide) ?_
             simp only [pick, List.getD_cons_zero, List.getD_cons_succ]
             have hz5 : z5.cell? ⟨g5, 1, none⟩ = some (.slice (some ⟨bt, 0, none⟩) p.tb.length ct) := (cell_of_row _ _ 1 _ _ _ hx5).trans rfl
             have hfz5 : z5.frozen? ⟨g5, 1, none⟩ = false := by unfold World.frozen?; rw [hx5]; simp
             clear hx5
             go_wp2_with fail
             refine pieceEnd_normal ⟨AnyW13.all _ _, ?_⟩
             refine flow_done (by kernel_rfl) ?_
             go_wp2_with fail
             go_meet
             exact ⟨G.sz, _, _, _, Lib.hid (HDT.out _ HQ5.out (by show p.sd.length ≤ 100; omega) (by simp; omega))⟩
           ·
            have hcq : z0.cell? ⟨bt, q0, none⟩ = some (.int .i64 el) := by rw [← HEL.out]; exact (own_i HQ.out.tb hq0l).1
            go_wp2_with fail
            clear hcq
            refine pieceEnd_normal ⟨AnyW13.all _ _, ?_⟩
            refine flow_two (F := AnyW13) (fun _ _ _ _ _ => AnyW13.all _ _) (fun _ => AnyW13.all _ _) 1 11 (by kernel_rfl) (by decide) (by decide) ?_ ?_ <;> simp only [pick, List.getD_cons_zero, List.getD_cons_succ]
            ·
             have hcq : z0.cell? ⟨g5, 1, none⟩ = some (.slice (some ⟨bt, 0, none⟩) p.tb.length ct) := (cell_of_row _ _ 1 _ _ _ HQ.out.px).trans rfl
             go_wp2_with fail
             clear hcq
             refine pieceEnd_normal ⟨AnyW13.all _ _, ?_⟩
             refine flow_one (F := AnyW13) (fun _ _ _ _ _ => AnyW13.all _ _) (fun _ => AnyW13.all _ _) 11 (by kernel_rfl) (by decide) ?_
             simp only [pick, List.getD_cons_zero, List.getD_cons_succ]
             go_wp2_with fail
             refine (next_g w.heap.size D t 2 z0 HQ.out.dice (by decide) (by decide)).mono ?_
             rintro e za50 ⟨x, rfl, hx0, hx1, hg⟩
             replace HQ := Lib.hid (HQ.out.gave hg)
             have m2 : RowKit.wrap64 (el + x) = el + x := IntWalk.wrap64_in _ (by omega)
             have m3 : IntKind.i64.wrap (el + x) = el + x := by rw [IntKind.wrap_i64]; omega
             clear hg
             go_wp2_with fail
             refine pieceEnd_normal ⟨AnyW13.all _ _, ?_⟩
             refine flow_reads (F := AnyW13) (fun _ => AnyW13.all _ _) (by kernel_rfl) [12] (fuel := 4) (by kernel_rfl) ?_
             simp only [List.map_cons, List.map_nil, pick, List.getD_cons_zero, List.getD_cons_succ]
             repeat (go_big_quiet_step (fail))
             refine wpQuiet_nil ?_
             refine flow_one (F := AnyW13) (fun _ _ _ _ _ => AnyW13.all _ _) (fun _ => AnyW13.all _ _) 13 (by kernel_rfl) (by decide) ?_
             simp only [pick, List.getD_cons_zero, List.getD_cons_succ]
             go_wp2_with fail
             have hb := one_new za50 (.cells #[.int .i64 (el + x)] 3)
             refine pieceEnd_normal ⟨AnyW13.all _ _, ?_⟩
             have HR3 : Hid (Row (za50.alloc (.cells #[.int .i64 (el + x)] 3)) (some ⟨za50.heap.size, 0, none⟩) 1 1 1 (intsV [el + x])) := Lib.hid (Row.of_block (heap_alloc_new _ _) rfl)
             replace HQ := Lib.hid (HQ.out.later hb)
             clear hb
             generalize za50.alloc (.cells #[.int .i64 (el + x)] 3) = za51 at *
             generalize za50.heap.size = s3 at *
             refine flow_one (F := AnyW13) (fun _ _ _ _ _ => AnyW13.all _ _) (fun _ => AnyW13.all _ _) 14 (by kernel_rfl) (by decide) ?_
             simp only [pick, List.getD_cons_zero, List.getD_cons_succ]
             have hwz := HQ.out.sz
             have hqs : g5 < za51.heap.size := (Array.getElem?_eq_some_iff.1 HQ.out.px).1
             have hqn : (Value.slice (some ⟨bt, 0, none⟩) p.tb.length ct).ownBlock ≠ some g5 := fun h => own_neqT12 HQ.out.tb HQ.out.px (by decide) g5 h rfl
             go_wp2_with (at_builtin; go_must (refine wpList_app2 za51 rfl (.tmp 73) (.tmp 85) 22 22 3 rfl y0.heap.size Try.underlying22 i64_info rfl _ p.tb.length (intsV p.tb) HQ.out.tb rfl _ 1 (intsV [el + x]) (Row.src HR3.out Try.underlying22 (intsV_one _)) rfl (by unfold maxLen; omega) (by omega) hwz ?_); intro v5 z5 ho hb hkp hv; have HO5 := Lib.hid ho; have HB5 := Lib.hid hb; have HKP := Lib.hid hkp; have HV := Lib.hid hv; clear ho hb hkp hv)
             refine pieceEnd_normal ⟨AnyW13.all _ _, ?_⟩
             obtain ⟨A5, c5, hv5, -⟩ := Row.of_own HO5.out
             subst hv5
             have HQ5 := Lib.hid (PQ.apd13 HQ.out (el + x) HB5.out HKP.out HO5.out HV.out)
             have hx5 := (HKP.out g5 hqs hqn).trans HQ.out.px
             clear HQ HR3 HO5 HB5 HKP HV hqs hqn hwz
             refine flow_reads (F := AnyW13) (fun _ => AnyW13.all _ _) (by kernel_rfl) [15] (fuel := 1) (by kernel_rfl) ?_
             simp only [List.map_cons, List.map_nil, pick, List.getD_cons_zero, List.getD_cons_succ]
             repeat (go_big_quiet_step (fail))
             refine wpQuiet_nil ?_
             refine flow_one (F := AnyW13) (fun _ _ _ _ _ => AnyW13.all _ _) (fun _ => AnyW13.all _ _) 16 (by kernel_rfl) (by decide) ?_
             simp only [pick, List.getD_cons_zero, List.getD_cons_succ]
             have hz5 : z5.cell? ⟨g5, 1, none⟩ = some (.slice (some ⟨bt, 0, none⟩) p.tb.length ct) := (cell_of_row _ _ 1 _ _ _ hx5).trans rfl
             have hfz5 : z5.frozen? ⟨g5, 1, none⟩ = false := by unfold World.frozen?; rw [hx5]; simp
             clear hx5
             go_wp2_with fail
             refine pieceEnd_normal ⟨AnyW13.all _ _, ?_⟩
             refine flow_done (by kernel_rfl) ?_
             go_wp2_with fail
             go_meet
             exact ⟨G.sz, _, _, _, Lib.hid (HDT.out _ HQ5.out (by show p.sd.length ≤ 100; omega) (by simp; omega))⟩
            ·
             go_wp2_with fail
             refine (next_g w.heap.size D t 2 z0 HQ.out.dice (by decide) (by decide)).mono ?_
             rintro e za52 ⟨x, rfl, hx0, hx1, hg⟩
             replace HQ := Lib.hid (HQ.out.gave hg)
             have m2 : RowKit.wrap64 (el + x) = el + x := IntWalk.wrap64_in _ (by omega)
             have m3 : IntKind.i64.wrap (el + x) = el + x := by rw [IntKind.wrap_i64]; omega
             clear hg
             go_wp2_with fail
             refine pieceEnd_normal ⟨AnyW13.all _ _, ?_⟩
             refine flow_reads (F := AnyW13) (fun _ => AnyW13.all _ _) (by kernel_rfl) [12] (fuel := 5) (by kernel_rfl) ?_
             simp only [List.map_cons, List.map_nil, pick, List.getD_cons_zero, List.getD_cons_succ]
             repeat (go_big_quiet_step (fail))
             refine wpQuiet_nil ?_
             refine flow_two (F := AnyW13) (fun _ _ _ _ _ => AnyW13.all _ _) (fun _ => AnyW13.all _ _) 1 13 (by kernel_rfl) (by decide) (by decide) ?_ ?_ <;> simp only [pick, List.getD_cons_zero, List.getD_cons_succ]
             ·
              have hcq : za52.cell? ⟨g5, 1, none⟩ = some (.slice (some ⟨bt, 0, none⟩) p.tb.length ct) := (cell_of_row _ _ 1 _ _ _ HQ.out.px).trans rfl
              go_wp2_with fail
              clear hcq
              refine pieceEnd_normal ⟨AnyW13.all _ _, ?_⟩
              refine flow_one (F := AnyW13) (fun _ _ _ _ _ => AnyW13.all _ _) (fun _ => AnyW13.all _ _) 13 (by kernel_rfl) (by decide) ?_
              simp only [pick, List.getD_cons_zero, List.getD_cons_succ]
              go_wp2_with fail
              have hb := one_new za52 (.cells #[.int .i64 (el + x)] 3)
              refine pieceEnd_normal ⟨AnyW13.all _ _, ?_⟩
              have HR3 : Hid (Row (za52.alloc (.cells #[.int .i64 (el + x)] 3)) (some ⟨za52.heap.size, 0, none⟩) 1 1 1 (intsV [el + x])) := Lib.hid (Row.of_block (heap_alloc_new _ _) rfl)
              replace HQ := Lib.hid (HQ.out.later hb)
              clear hb
              generalize za52.alloc (.cells #[.int .i64 (el + x)] 3) = za53 at *
              generalize za52.heap.size = s3 at *
              refine flow_one (F := AnyW13) (fun _ _ _ _ _ => AnyW13.all _ _) (fun _ => AnyW13.all _ _) 14 (by kernel_rfl) (by decide) ?_
              simp only [pick, List.getD_cons_zero, List.getD_cons_succ]
              have hwz := HQ.out.sz
              have hqs : g5 < za53.heap.size := (Array.getElem?_eq_some_iff.1 HQ.out.px).1
              have hqn : (Value.slice (some ⟨bt, 0, none⟩) p.tb.length ct).ownBlock ≠ some g5 := fun h => own_neqT12 HQ.out.tb HQ.out.px (by decide) g5 h rfl
              go_wp2_with (at_builtin; go_must (refine wpList_app2 za53 rfl (.tmp 73) (.tmp 85) 22 22 3 rfl y0.heap.size Try.underlying22 i64_info rfl _ p.tb.length (intsV p.tb) HQ.out.tb rfl _ 1 (intsV [el + x]) (Row.src HR3.out Try.underlying22 (intsV_one _)) rfl (by unfold maxLen; omega) (by omega) hwz ?_); intro v5 z5 ho hb hkp hv; have HO5 := Lib.hid ho; have HB5 := Lib.hid hb; have HKP := Lib.hid hkp; have HV := Lib.hid hv; clear ho hb hkp hv)
              refine pieceEnd_normal ⟨AnyW13.all _ _, ?_⟩
              obtain ⟨A5, c5, hv5, -⟩ := Row.of_own HO5.out
              subst hv5
              have HQ5 := Lib.hid (PQ.apd13 HQ.out (el + x) HB5.out HKP.out HO5.out HV.out)
              have hx5 := (HKP.out g5 hqs hqn).trans HQ.out.px
              clear HQ HR3 HO5 HB5 HKP HV hqs hqn hwz
              refine flow_reads (F := AnyW13) (fun _ => AnyW13.all _ _) (by kernel_rfl) [15] (fuel := 1) (by kernel_rfl) ?_
              simp only [List.map_cons, List.map_nil, pick, List.getD_cons_zero, List.getD_cons_succ]
              repeat (go_big_quiet_step (fail))
              refine wpQuiet_nil ?_
              refine flow_one (F := AnyW13) (fun _ _ _ _ _ => AnyW13.all _ _) (fun _ => AnyW13.all _ _) 16 (by kernel_rfl) (by decide) ?_
              simp only [pick, List.getD_cons_zero, List.getD_cons_succ]
              have hz5 : z5.cell? ⟨g5, 1, none⟩ = some (.slice (some ⟨bt, 0, none⟩) p.tb.length ct) := (cell_of_row _ _ 1 _ _ _ hx5).trans rfl
              have hfz5 : z5.frozen? ⟨g5, 1, none⟩ = false := by unfold World.frozen?; rw [hx5]; simp
              clear hx5
              go_wp2_with fail
              refine pieceEnd_normal ⟨AnyW13.all _ _, ?_⟩
              refine flow_done (by kernel_rfl) ?_
              go_wp2_with fail
              go_meet
              exact ⟨G.sz, _, _, _, Lib.hid (HDT.out _ HQ5.out (by show p.sd.length ≤ 100; omega) (by simp; omega))⟩
             ·
              go_wp2_with fail
              have hb := one_new za52 (.cells #[.int .i64 (el + x)] 3)
              refine pieceEnd_normal ⟨AnyW13.all _ _, ?_⟩
              have HR3 : Hid (Row (za52.alloc (.cells #[.int .i64 (el + x)] 3)) (some ⟨za52.heap.size, 0, none⟩) 1 1 1 (intsV [el + x])) := Lib.hid (Row.of_block (heap_alloc_new _ _) rfl)
              replace HQ := Lib.hid (HQ.out.later hb)
              clear hb
              generalize za52.alloc (.cells #[.int .i64 (el + x)] 3) = za54 at *
              generalize za52.heap.size = s3 at *
              refine flow_one (F := AnyW13) (fun _ _ _ _ _ => AnyW13.all _ _) (fun _ => AnyW13.all _ _) 1 (by kernel_rfl) (by decide) ?_
              simp only [pick, List.getD_cons_zero, List.getD_cons_succ]
              have hcq : za54.cell? ⟨g5, 1, none⟩ = some (.slice (some ⟨bt, 0, none⟩) p.tb.length ct) := (cell_of_row _ _ 1 _ _ _ HQ.out.px).trans rfl
              go_wp2_with fail
              clear hcq
              refine pieceEnd_normal ⟨AnyW13.all _ _, ?_⟩
              refine flow_one (F := AnyW13) (fun _ _ _ _ _ => AnyW13.all _ _) (fun _ => AnyW13.all _ _) 14 (by kernel_rfl) (by decide) ?_
              simp only [pick, List.getD_cons_zero, List.getD_cons_succ]
              have hwz := HQ.out.sz
              have hqs : g5 < za54.heap.size := (Array.getElem?_eq_some_iff.1 HQ.out.px).1
              have hqn : (Value.slice (some ⟨bt, 0, none⟩) p.tb.length ct).ownBlock ≠ some g5 := fun h => own_neqT12 HQ.out.tb HQ.out.px (by decide) g5 h rfl
              go_wp2_with (at_builtin; go_must (refine wpList_app2 za54 rfl (.tmp 73) (.tmp 85) 22 22 3 rfl y0.heap.size Try.underlying22 i64_info rfl _ p.tb.length (intsV p.tb) HQ.out.tb rfl _ 1 (intsV [el + x]) (Row.src HR3.out Try.underlying22 (intsV_one _)) rfl (by unfold maxLen; omega) (by omega) hwz ?_); intro v5 z5 ho hb hkp hv; have HO5 := Lib.hid ho; have HB5 := Lib.hid hb; have HKP := Lib.hid hkp; have HV := Lib.hid hv; clear ho hb hkp hv)
              refine pieceEnd_normal ⟨AnyW13.all _ _, ?_⟩
              obtain ⟨A5, c5, hv5, -⟩ := Row.of_own HO5.out
              subst hv5
              have HQ5 := Lib.hid (PQ.apd13 HQ.out (el + x) HB5.out HKP.out HO5.out HV.out)
              have hx5 := (HKP.out g5 hqs hqn).trans HQ.out.px
              clear HQ HR3 HO5 HB5 HKP HV hqs hqn hwz
              refine flow_reads (F := AnyW13) (fun _ => AnyW13.all _ _) (by kernel_rfl) [15] (fuel := 1) (by kernel_rfl) ?_
              simp only [List.map_cons, List.map_nil, pick, List.getD_cons_zero, List.getD_cons_succ]
              repeat (go_big_quiet_step (fail))
              refine wpQuiet_nil ?_
              refine flow_one (F := AnyW13) (fun _ _ _ _ _ => AnyW13.all _ _) (fun _ => AnyW13.all _ _) 16 (by kernel_rfl) (by decide) ?_
              simp only [pick, List.getD_cons_zero, List.getD_cons_succ]
              have hz5 : z5.cell? ⟨g5, 1, none⟩ = some (.slice (some ⟨bt, 0, none⟩) p.tb.length ct) := (cell_of_row _ _ 1 _ _ _ hx5).trans rfl
              have hfz5 : z5.frozen? ⟨g5, 1, none⟩ = false := by unfold World.frozen?; rw [hx5]; simp
              clear hx5
              go_wp2_with fail
              refine pieceEnd_normal ⟨AnyW13.all _ _, ?_⟩
              refine flow_done (by kernel_rfl) ?_
              go_wp2_with fail
              go_meet
              exact ⟨G.sz, _, _, _, Lib.hid (HDT.out _ HQ5.out (by show p.sd.length ≤ 100; omega) (by simp; omega))⟩
           ·
            go_wp2_with fail
            refine (next_g w.heap.size D t 2 z0 HQ.out.dice (by decide) (by decide)).mono ?_
            rintro e za55 ⟨x, rfl, hx0, hx1, hg⟩
            replace HQ := Lib.hid (HQ.out.gave hg)
            have m2 : RowKit.wrap64 (el + x) = el + x := IntWalk.wrap64_in _ (by omega)
            have m3 : IntKind.i64.wrap (el + x) = el + x := by rw [IntKind.wrap_i64]; omega
            clear hg
            go_wp2_with fail
            refine pieceEnd_normal ⟨AnyW13.all _ _, ?_⟩
            refine flow_two (F := AnyW13) (fun _ _ _ _ _ => AnyW13.all _ _) (fun _ => AnyW13.all _ _) 1 9 (by kernel_rfl) (by decide) (by decide) ?_ ?_ <;> simp only [pick, List.getD_cons_zero, List.getD_cons_succ]
            ·
             have hcq : za55.cell? ⟨g5, 1, none⟩ = some (.slice (some ⟨bt, 0, none⟩) p.tb.length ct) := (cell_of_row _ _ 1 _ _ _ HQ.out.px).trans rfl
             go_wp2_with fail
             clear hcq
             refine pieceEnd_normal ⟨AnyW13.all _ _, ?_⟩
             refine flow_one (F := AnyW13) (fun _ _ _ _ _ => AnyW13.all _ _) (fun _ => AnyW13.all _ _) 9 (by kernel_rfl) (by decide) ?_
             simp only [pick, List.getD_cons_zero, List.getD_cons_succ]
             have hcq : za55.cell? ⟨bt, q0, none⟩ = some (.int .i64 el) := by rw [← HEL.out]; exact (own_i HQ.out.tb hq0l).1
             go_wp2_with fail
             clear hcq
             refine pieceEnd_normal ⟨AnyW13.all _ _, ?_⟩
             refine flow_reads (F := AnyW13) (fun _ => AnyW13.all _ _) (by kernel_rfl) [12] (fuel := 4) (by kernel_rfl) ?_
             simp only [List.map_cons, List.map_nil, pick, List.getD_cons_zero, List.getD_cons_succ]
             repeat (go_big_quiet_step (fail))
             refine wpQuiet_nil ?_
             refine flow_one (F := AnyW13) (fun _ _ _ _ _ => AnyW13.all _ _) (fun _ => AnyW13.all _ _) 13 (by kernel_rfl) (by decide) ?_
             simp only [pick, List.getD_cons_zero, List.getD_cons_succ]
             go_wp2_with fail
             have hb := one_new za55 (.cells #[.int .i64 (el + x)] 3)
             refine pieceEnd_normal ⟨AnyW13.all _ _, ?_⟩
             have HR3 : Hid (Row (za55.alloc (.cells #[.int .i64 (el + x)] 3)) (some ⟨za55.heap.size, 0, none⟩) 1 1 1 (intsV [el + x])) := Lib.hid (Row.of_block (heap_alloc_new _ _) rfl)
             replace HQ := Lib.hid (HQ.out.later hb)
             clear hb
             generalize za55.alloc (.cells #[.int .i64 (el + x)] 3) = za56 at *
             generalize za55.heap.size = s3 at *
             refine flow_one (F := AnyW13) (fun _ _ _ _ _ => AnyW13.all _ _) (fun _ => AnyW13.all _ _) 14 (by kernel_rfl) (by decide) ?_
             simp only [pick, List.getD_cons_zero, List.getD_cons_succ]
             have hwz := HQ.out.sz
             have hqs : g5 < za56.heap.size := (Array.getElem?_eq_some_iff.1 HQ.out.px).1
             have hqn : (Value.slice (some ⟨bt, 0, none⟩) p.tb.length ct).ownBlock ≠ some g5 := fun h => own_neqT12 HQ.out.tb HQ.out.px (by decide) g5 h rfl
             go_wp2_with (at_builtin; go_must (refine wpList_app2 za56 rfl (.tmp 73) (.tmp 85) 22 22 3 rfl y0.heap.size Try.underlying22 i64_info rfl _ p.tb.length (intsV p.tb) HQ.out.tb rfl _ 1 (intsV [el + x]) (Row.src HR3.out Try.underlying22 (intsV_one _)) rfl (by unfold maxLen; omega) (by omega) hwz ?_); intro v5 z5 ho hb hkp hv; have HO5 := Lib.hid ho; have HB5 := Lib.hid hb; have HKP := Lib.hid hkp; have HV := Lib.hid hv; clear ho hb hkp hv)
             refine pieceEnd_normal ⟨AnyW13.all _ _, ?_⟩
             obtain ⟨A5, c5, hv5, -⟩ := Row.of_own HO5.out
             subst hv5
             have HQ5 := Lib.hid (PQ.apd13 HQ.out (el + x) HB5.out HKP.out HO5.out HV.out)
             have hx5 := (HKP.out g5 hqs hqn).trans HQ.out.px
             clear HQ HR3 HO5 HB5 HKP HV hqs hqn hwz
             refine flow_reads (F := AnyW13) (fun _ => AnyW13.all _ _) (by kernel_rfl) [15] (fuel := 1) (by kernel_rfl) ?_
             simp only [List.map_cons, List.map_nil, pick, List.getD_cons_zero, List.getD_cons_succ]
             repeat (go_big_quiet_step (fail))
             refine wpQuiet_nil ?_
             refine flow_one (F := AnyW13) (fun _ _ _ _ _ => AnyW13.all _ _) (fun _ => AnyW13.all _ _) 16 (by kernel_rfl) (by decide) ?_
             simp only [pick, List.getD_cons_zero, List.getD_cons_succ]
             have hz5 : z5.cell? ⟨g5, 1, none⟩ = some (.slice (some ⟨bt, 0, none⟩) p.tb.length ct) := (cell_of_row _ _ 1 _ _ _ hx5).trans rfl
             have hfz5 : z5.frozen? ⟨g5, 1, none⟩ = false := by unfold World.frozen?; rw [hx5]; simp
             clear hx5
             go_wp2_with fail
             refine pieceEnd_normal ⟨AnyW13.all _ _, ?_⟩
             refine flow_done (by kernel_rfl) ?_
             go_wp2_with fail
             go_meet
             exact ⟨G.sz, _, _, _, Lib.hid (HDT.out _ HQ5.out (by show p.sd.length ≤ 100; omega) (by simp; omega))⟩
            ·
             have hcq : za55.cell? ⟨bt, q0, none⟩ = some (.int .i64 el) := by rw [← HEL.out]; exact (own_i HQ.out.tb hq0l).1
             go_wp2_with fail
             clear hcq
             refine pieceEnd_normal ⟨AnyW13.all _ _, ?_⟩
             refine flow_reads (F := AnyW13) (fun _ => AnyW13.all _ _) (by kernel_rfl) [12] (fuel := 5) (by kernel_rfl) ?_
             simp only [List.map_cons, List.map_nil, pick, List.getD_cons_zero, List.getD_cons_succ]
             repeat (go_big_quiet_step (fail))
             refine wpQuiet_nil ?_
             refine flow_two (F := AnyW13) (fun _ _ _ _ _ => AnyW13.all _ _) (fun _ => AnyW13.all _ _) 1 13 (by kernel_rfl) (by decide) (by decide) ?_ ?_ <;> simp only [pick, List.getD_cons_zero, List.getD_cons_succ]
             ·
              have hcq : za55.cell? ⟨g5, 1, none⟩ = some (.slice (some ⟨bt, 0, none⟩) p.tb.length ct) := (cell_of_row _ _ 1 _ _ _ HQ.out.px).trans rfl
              go_wp2_with fail
              clear hcq
              refine pieceEnd_normal ⟨AnyW13.all _ _, ?_⟩
              refine flow_one (F := AnyW13) (fun _ _ _ _ _ => AnyW13.all _ _) (fun _ => AnyW13.all _ _) 13 (by kernel_rfl) (by decide) ?_
              simp only [pick, List.getD_cons_zero, List.getD_cons_succ]
              go_wp2_with fail
              have hb := one_new za55 (.cells #[.int .i64 (el + x)] 3)
              refine pieceEnd_normal ⟨AnyW13.all _ _, ?_⟩
              have HR3 : Hid (Row (za55.alloc (.cells #[.int .i64 (el + x)] 3)) (some ⟨za55.heap.size, 0, none⟩) 1 1 1 (intsV [el + x])) := Lib.hid (Row.of_block (heap_alloc_new _ _) rfl)
              replace HQ := Lib.hid (HQ.out.later hb)
              clear hb
              generalize za55.alloc (.cells #[.int .i64 (el + x)] 3) = za57 at *
              generalize za55.heap.size = s3 at *
              refine flow_one (F := AnyW13) (fun _ _ _ _ _ => AnyW13.all _ _) (fun _ => AnyW13.all _ _) 14 (by kernel_rfl) (by decide) ?_
              simp only [pick, List.getD_cons_zero, List.getD_cons_succ]
              have hwz := HQ.out.sz
              have hqs : g5 < za57.heap.size := (Array.getElem?_eq_some_iff.1 HQ.out.px).1
              have hqn : (Value.slice (some ⟨bt, 0, none⟩) p.tb.length ct).ownBlock ≠ some g5 := fun h => own_neqT12 HQ.out.tb HQ.out.px (by decide) g5 h rfl
              go_wp2_with (at_builtin; go_must (refine wpList_app2 za57 rfl (.tmp 73) (.tmp 85) 22 22 3 rfl y0.heap.size Try.underlying22 i64_info rfl _ p.tb.length (intsV p.tb) HQ.out.tb rfl _ 1 (intsV [el + x]) (Row.src HR3.out Try.underlying22 (intsV_one _)) rfl (by unfold maxLen; omega) (by omega) hwz ?_); intro v5 z5 ho hb hkp hv; have HO5 := Lib.hid ho; have HB5 := Lib.hid hb; have HKP := Lib.hid hkp; have HV := Lib.hid hv; clear ho hb hkp hv)
              refine pieceEnd_normal ⟨AnyW13.all _ _, ?_⟩
              obtain ⟨A5, c5, hv5, -⟩ := Row.of_own HO5.out
              subst hv5
              have HQ5 := Lib.hid (PQ.apd13 HQ.out (el + x) HB5.out HKP.out HO5.out HV.out)
              have hx5 := (HKP.out g5 hqs hqn).trans HQ.out.px
              clear HQ HR3 HO5 HB5 HKP HV hqs hqn hwz
              refine flow_reads (F := AnyW13) (fun _ => AnyW13.all _ _) (by kernel_rfl) [15] (fuel := 1) (by kernel_rfl) ?_
              simp only [List.map_cons, List.map_nil, pick, List.getD_cons_zero, List.getD_cons_succ]
              repeat (go_big_quiet_step (fail))
              refine wpQuiet_nil ?_
              refine flow_one (F := AnyW13) (fun _ _ _ _ _ => AnyW13.all _ _) (fun _ => AnyW13.all _ _) 16 (by kernel_rfl) (by decide) ?_
              simp only [pick, List.getD_cons_zero, List.getD_cons_succ]
              have hz5 : z5.cell? ⟨g5, 1, none⟩ = some (.slice (some ⟨bt, 0, none⟩) p.tb.length ct) := (cell_of_row _ _ 1 _ _ _ hx5).trans rfl
              have hfz5 : z5.frozen? ⟨g5, 1, none⟩ = false := by unfold World.frozen?; rw [hx5]; simp
              clear hx5
              go_wp2_with fail
              refine pieceEnd_normal ⟨AnyW13.all _ _, ?_⟩
              refine flow_done (by kernel_rfl) ?_
              go_wp2_with fail
              go_meet
              exact ⟨G.sz, _, _, _, Lib.hid (HDT.out _ HQ5.out (by show p.sd.length ≤ 100; omega) (by simp; omega))⟩
             ·
              go_wp2_with fail
              have hb := one_new za55 (.cells #[.int .i64 (el + x)] 3)
              refine pieceEnd_normal ⟨AnyW13.all _ _, ?_⟩
              have HR3 : Hid (Row (za55.alloc (.cells #[.int .i64 (el + x)] 3)) (some ⟨za55.heap.size, 0, none⟩) 1 1 1 (intsV [el + x])) := Lib.hid (Row.of_block (heap_alloc_new _ _) rfl)
              replace HQ := Lib.hid (HQ.out.later hb)
              clear hb
              generalize za55.alloc (.cells #[.int .i64 (el + x)] 3) = za58 at *
              generalize za55.heap.size = s3 at *
              refine flow_one (F := AnyW13) (fun _ _ _ _ _ => AnyW13.all _ _) (fun _ => AnyW13.all _ _) 1 (by kernel_rfl) (by decide) ?_
              simp only [pick, List.getD_cons_zero, List.getD_cons_succ]
              have hcq : za58.cell? ⟨g5, 1, none⟩ = some (.slice (some ⟨bt, 0, none⟩) p.tb.length ct) := (cell_of_row _ _ 1 _ _ _ HQ.out.px).trans rfl
              go_wp2_with fail
              clear hcq
              refine pieceEnd_normal ⟨AnyW13.all _ _, ?_⟩
              refine flow_one (F := AnyW13) (fun _ _ _ _ _ => AnyW13.all _ _) (fun _ => AnyW13.all _ _) 14 (by kernel_rfl) (by decide) ?_
              simp only [pick, List.getD_cons_zero, List.getD_cons_succ]
              have hwz := HQ.out.sz
              have hqs : g5 < za58.heap.size := (Array.getElem?_eq_some_iff.1 HQ.out.px).1
              have hqn : (Value.slice (some ⟨bt, 0, none⟩) p.tb.length ct).ownBlock ≠ some g5 := fun h => own_neqT12 HQ.out.tb HQ.out.px (by decide) g5 h rfl
              go_wp2_with (at_builtin; go_must (refine wpList_app2 za58 rfl (.tmp 73) (.tmp 85) 22 22 3 rfl y0.heap.size Try.underlying22 i64_info rfl _ p.tb.length (intsV p.tb) HQ.out.tb rfl _ 1 (intsV [el + x]) (Row.src HR3.out Try.underlying22 (intsV_one _)) rfl (by unfold maxLen; omega) (by omega) hwz ?_); intro v5 z5 ho hb hkp hv; have HO5 := Lib.hid ho; have HB5 := Lib.hid hb; have HKP := Lib.hid hkp; have HV := Lib.hid hv; clear ho hb hkp hv)
              refine pieceEnd_normal ⟨AnyW13.all _ _, ?_⟩
              obtain ⟨A5, c5, hv5, -⟩ := Row.of_own HO5.out
              subst hv5
              have HQ5 := Lib.hid (PQ.apd13 HQ.out (el + x) HB5.out HKP.out HO5.out HV.out)
              have hx5 := (HKP.out g5 hqs hqn).trans HQ.out.px
              clear HQ HR3 HO5 HB5 HKP HV hqs hqn hwz
              refine flow_reads (F := AnyW13) (fun _ => AnyW13.all _ _) (by kernel_rfl) [15] (fuel := 1) (by kernel_rfl) ?_
              simp only [List.map_cons, List.map_nil, pick, List.getD_cons_zero, List.getD_cons_succ]
              repeat (go_big_quiet_step (fail))
              refine wpQuiet_nil ?_
              refine flow_one (F := AnyW13) (fun _ _ _ _ _ => AnyW13.all _ _) (fun _ => AnyW13.all _ _) 16 (by kernel_rfl) (by decide) ?_
              simp only [pick, List.getD_cons_zero, List.getD_cons_succ]
              have hz5 : z5.cell? ⟨g5, 1, none⟩ = some (.slice (some ⟨bt, 0, none⟩) p.tb.length ct) := (cell_of_row _ _ 1 _ _ _ hx5).trans rfl
              have hfz5 : z5.frozen? ⟨g5, 1, none⟩ = false := by unfold World.frozen?; rw [hx5]; simp
              clear hx5
              go_wp2_with fail
              refine pieceEnd_normal ⟨AnyW13.all _ _, ?_⟩
              refine flow_done (by kernel_rfl) ?_
              go_wp2_with fail
              go_meet
              exact ⟨G.sz, _, _, _, Lib.hid (HDT.out _ HQ5.out (by show p.sd.length ≤ 100; omega) (by simp; omega))⟩
          ·
           go_wp2_with fail
           refine (next_g w.heap.size D t 2 z0 HQ.out.dice (by decide) (by decide)).mono ?_
           rintro e za59 ⟨x, rfl, hx0, hx1, hg⟩
           replace HQ := Lib.hid (HQ.out.gave hg)
           have m2 : RowKit.wrap64 (el + x) = el + x := IntWalk.wrap64_in _ (by omega)
           have m3 : IntKind.i64.wrap (el + x) = el + x := by rw [IntKind.wrap_i64]; omega
           clear hg
           go_wp2_with fail
           refine pieceEnd_normal ⟨AnyW13.all _ _, ?_⟩
           refine flow_two (F := AnyW13) (fun _ _ _ _ _ => AnyW13.all _ _) (fun _ => AnyW13.all _ _) 1 3 (by kernel_rfl) (by decide) (by decide) ?_ ?_ <;> simp only [pick, List.getD_cons_zero, List.getD_cons_succ]
           ·
            have hcq : za59.cell? ⟨g5, 1, none⟩ = some (.slice (some ⟨bt, 0, none⟩) p.tb.length ct) := (cell_of_row _ _ 1 _ _ _ HQ.out.px).trans rfl
            go_wp2_with fail
            clear hcq
            refine pieceEnd_normal ⟨AnyW13.all _ _, ?_⟩
            refine flow_one (F := AnyW13) (fun _ _ _ _ _ => AnyW13.all _ _) (fun _ => AnyW13.all _ _) 3 (by kernel_rfl) (by decide) ?_
            simp only [pick, List.getD_cons_zero, List.getD_cons_succ]
            have hcq : za59.cell? ⟨g5, 1, none⟩ = some (.slice (some ⟨bt, 0, none⟩) p.tb.length ct) := (cell_of_row _ _ 1 _ _ _ HQ.out.px).trans rfl
            go_wp2_with fail
            clear hcq
            refine pieceEnd_normal ⟨AnyW13.all _ _, ?_⟩
            refine flow_reads (F := AnyW13) (fun _ => AnyW13.all _ _) (by kernel_rfl) [8] (fuel := 6) (by kernel_rfl) ?_
            simp only [List.map_cons, List.map_nil, pick, List.getD_cons_zero, List.getD_cons_succ]
            repeat (go_big_quiet_step (fail))
            refine wpQuiet_nil ?_
            refine flow_one (F := AnyW13) (fun _ _ _ _ _ => AnyW13.all _ _) (fun _ => AnyW13.all _ _) 9 (by kernel_rfl) (by decide) ?_
            simp only [pick, List.getD_cons_zero, List.getD_cons_succ]
            have hcq : za59.cell? ⟨bt, q0, none⟩ = some (.int .i64 el) := by rw [← HEL.out]; exact (own_i HQ.out.tb hq0l).1
            go_wp2_with fail
            clear hcq
            refine pieceEnd_normal ⟨AnyW13.all _ _, ?_⟩
            refine flow_reads (F := AnyW13) (fun _ => AnyW13.all _ _) (by kernel_rfl) [12] (fuel := 4) (by kernel_rfl) ?_
            simp only [List.map_cons, List.map_nil, pick, List.getD_cons_zero, List.getD_cons_succ]
            repeat (go_big_quiet_step (fail))
            refine wpQuiet_nil ?_
            refine flow_one (F := AnyW13) (fun _ _ _ _ _ => AnyW13.all _ _) (fun _ => AnyW13.all _ _) 13 (by kernel_rfl) (by decide) ?_
            simp only [pick, List.getD_cons_zero, List.getD_cons_succ]
            go_wp2_with fail
            have hb := one_new za59 (.cells #[.int .i64 (el + x)] 3)
            refine pieceEnd_normal ⟨AnyW13.all _ _, ?_⟩
            have HR3 : Hid (Row (za59.alloc (.cells #[.int .i64 (el + x)] 3)) (some ⟨za59.heap.size, 0, none⟩) 1 1 1 (intsV [el + x])) := Lib.hid (Row.of_block (heap_alloc_new _ _) rfl)
            replace HQ := Lib.hid (HQ.out.later hb)
            clear hb
            generalize za59.alloc (.cells #[.int .i64 (el + x)] 3) = za60 at *
            generalize za59.heap.size = s3 at *
            refine flow_one (F := AnyW13) (fun _ _ _ _ _ => AnyW13.all _ _) (fun _ => AnyW13.all _ _) 14 (by kernel_rfl) (by decide) ?_
            simp only [pick, List.getD_cons_zero, List.getD_cons_succ]
            have hwz := HQ.out.sz
            have hqs : g5 < za60.heap.size := (Array.getElem?_eq_some_iff.1 HQ.out.px).1
            have hqn : (Value.slice (some ⟨bt, 0, none⟩) p.tb.length ct).ownBlock ≠ some g5 := fun h => own_neqT12 HQ.out.tb HQ.out.px (by decide) g5 h rfl
            go_wp2_with (at_builtin; go_must (refine wpList_app2 za60 rfl (.tmp 73) (.tmp 85) 22 22 3 rfl y0.heap.size Try.underlying22 i64_info rfl _ p.tb.length (intsV p.tb) HQ.out.tb rfl _ 1 (intsV [el + x]) (Row.src HR3.out Try.underlying22 (intsV_one _)) rfl (by unfold maxLen; omega) (by omega) hwz ?_); intro v5 z5 ho hb hkp hv; have HO5 := Lib.hid ho; have HB5 := Lib.hid hb; have HKP := Lib.hid hkp; have HV := Lib.hid hv; clear ho hb hkp hv)
            refine pieceEnd_normal ⟨AnyW13.all _ _, ?_⟩
            obtain ⟨A5, c5, hv5, -⟩ := Row.of_own HO5.out
            subst hv5
            have HQ5 := Lib.hid (PQ.apd13 HQ.out (el + x) HB5.out HKP.out HO5.out HV.out)
            have hx5 := (HKP.out g5 hqs hqn).trans HQ.out.px
            clear HQ HR3 HO5 HB5 HKP HV hqs hqn hwz
            refine flow_reads (F := AnyW13) (fun _ => AnyW13.all _ _) (by kernel_rfl) [15] (fuel := 1) (by kernel_rfl) ?_
            simp only [List.map_cons, List.map_nil, pick, List.getD_cons_zero, List.getD_cons_succ]
            repeat (go_big_quiet_step (fail))
            refine wpQuiet_nil ?_
            refine flow_one (F := AnyW13) (fun _ _ _ _ _ => AnyW13.all _ _) (fun _ => AnyW13.all _ _) 16 (by kernel_rfl) (by decide) ?_
            simp only [pick, List.getD_cons_zero, List.getD_cons_succ]
            have hz5 : z5.cell? ⟨g5, 1, none⟩ = some (.slice (some ⟨bt, 0, none⟩) p.tb.length ct) := (cell_of_row _ _ 1 _ _ _ hx5).trans rfl
            have hfz5 : z5.frozen? ⟨g5, 1, none⟩ = false := by unfold World.frozen?; rw [hx5]; simp
            clear hx5
            go_wp2_with fail
            refine pieceEnd_normal ⟨AnyW13.all _ _, ?_⟩
            refine flow_done (by kernel_rfl) ?_
            go_wp2_with fail
            go_meet
            exact ⟨G.sz, _, _, _, Lib.hid (HDT.out _ HQ5.out (by show p.sd.length ≤ 100; omega) (by simp; omega))⟩
           ·
            have hcq : za59.cell? ⟨g5, 1, none⟩ = some (.slice (some ⟨bt, 0, none⟩) p.tb.length ct) := (cell_of_row _ _ 1 _ _ _ HQ.out.px).trans rfl
            go_wp2_with fail
            clear hcq
            refine pieceEnd_normal ⟨AnyW13.all _ _, ?_⟩
            refine flow_reads (F := AnyW13) (fun _ => AnyW13.all _ _) (by kernel_rfl) [8] (fuel := 7) (by kernel_rfl) ?_
            simp only [List.map_cons, List.map_nil, pick, List.getD_cons_zero, List.getD_cons_succ]
            repeat (go_big_quiet_step (fail))
            refine wpQuiet_nil ?_
            refine flow_two (F := AnyW13) (fun _ _ _ _ _ => AnyW13.all _ _) (fun _ => AnyW13.all _ _) 1 9 (by kernel_rfl) (by decide) (by decide) ?_ ?_ <;> simp only [pick, List.getD_cons_zero, List.getD_cons_succ]
            ·
             have hcq : za59.cell? ⟨g5, 1, none⟩ = some (.slice (some ⟨bt, 0, none⟩) p.tb.length ct) := (cell_of_row _ _ 1 _ _ _ HQ.out.px).trans rfl
             go_wp2_with fail
             clear hcq
             refine pieceEnd_normal ⟨AnyW13.all _ _, ?_⟩
             refine flow_one (F := AnyW13) (fun _ _ _ _ _ => AnyW13.all _ _) (fun _ => AnyW13.all _ _) 9 (by kernel_rfl) (by decide) ?_
             simp only [pick, List.getD_cons_zero, List.getD_cons_succ]
             have hcq : za59.cell? ⟨bt, q0, none⟩ = some (.int .i64 el) := by rw [← HEL.out]; exact (own_i HQ.out.tb hq0l).1
             go_wp2_with fail
             clear hcq
             refine pieceEnd_normal ⟨AnyW13.all _ _, ?_⟩
             refine flow_reads (F := AnyW13) (fun _ => AnyW13.all _ _) (by kernel_rfl) [12] (fuel := 4) (by kernel_rfl) ?_
             simp only [List.map_cons, List.map_nil, pick, List.getD_cons_zero, List.getD_cons_succ]
             repeat (go_big_quiet_step (fail))
             refine wpQuiet_nil ?_
             refine flow_one (F := AnyW13) (fun _ _ _ _ _ => AnyW13.all _ _) (fun _ => AnyW13.all _ _) 13 (by kernel_rfl) (by decide) ?_
             simp only [pick, List.getD_cons_zero, List.getD_cons_succ]
             go_wp2_with fail
             have hb := one_new za59 (.cells #[.int .i64 (el + x)] 3)
             refine pieceEnd_normal ⟨AnyW13.all _ _, ?_⟩
             have HR3 : Hid (Row (za59.alloc (.cells #[.int .i64 (el + x)] 3)) (some ⟨za59.heap.size, 0, none⟩) 1 1 1 (intsV [el + x])) := Lib.hid (Row.of_block (heap_alloc_new _ _) rfl)
             replace HQ := Lib.hid (HQ.out.later hb)
             clear hb
             generalize za59.alloc (.cells #[.int .i64 (el + x)] 3) = za61 at *
             generalize za59.heap.size = s3 at *
             refine flow_one (F := AnyW13) (fun _ _ _ _ _ => AnyW13.all _ _) (fun _ => AnyW13.all _ _) 14 (by kernel_rfl) (by decide) ?_
             simp only [pick, List.getD_cons_zero, List.getD_cons_succ]
             have hwz := HQ.out.sz
             have hqs : g5 < za61.heap.size := (Array.getElem?_eq_some_iff.1 HQ.out.px).1
             have hqn : (Value.slice (some ⟨bt, 0, none⟩) p.tb.length ct).ownBlock ≠ some g5 := fun h => own_neqT12 HQ.out.tb HQ.out.px (by decide) g5 h rfl
             go_wp2_with (at_builtin; go_must (refine wpList_app2 za61 rfl (.tmp 73) (.tmp 85) 22 22 3 rfl y0.heap.size Try.underlying22 i64_info rfl _ p.tb.length (intsV p.tb) HQ.out.tb rfl _ 1 (intsV [el + x]) (Row.src HR3.out Try.underlying22 (intsV_one _)) rfl (by unfold maxLen; omega) (by omega) hwz ?_); intro v5 z5 ho hb hkp hv; have HO5 := Lib.hid ho; have HB5 := Lib.hid hb; have HKP := Lib.hid hkp; have HV := Lib.hid hv; clear ho hb hkp hv)
             refine pieceEnd_normal ⟨AnyW13.all _ _, ?_⟩
             obtain ⟨A5, c5, hv5, -⟩ := Row.of_own HO5.out
             subst hv5
             have HQ5 := Lib.hid (PQ.apd13 HQ.out (el + x) HB5.out HKP.out HO5.out HV.out)
             have hx5 := (HKP.out g5 hqs hqn).trans HQ.out.px
             clear HQ HR3 HO5 HB5 HKP HV hqs hqn hwz
             refine flow_reads (F := AnyW13) (fun _ => AnyW13.all _ _) (by kernel_rfl) [15] (fuel := 1) (by kernel_rfl) ?_
             simp only [List.map_cons, List.map_nil, pick, List.getD_cons_zero, List.getD_cons_succ]
             repeat (go_big_quiet_step (fail))
             refine wpQuiet_nil ?_
             refine flow_one (F := AnyW13) (fun _ _ _ _ _ => AnyW13.all _ _) (fun _ => AnyW13.all _ _) 16 (by kernel_rfl) (by decide) ?_
             simp only [pick, List.getD_cons_zero, List.getD_cons_succ]
             have hz5 : z5.cell? ⟨g5, 1, none⟩ = some (.slice (some ⟨bt, 0, none⟩) p.tb.length ct) := (cell_of_row _ _ 1 _ _ _ hx5).trans rfl
             have hfz5 : z5.frozen? ⟨g5, 1, none⟩ = false := by unfold World.frozen?; rw [hx5]; simp
             clear hx5
             go_wp2_with fail
             refine pieceEnd_normal ⟨AnyW13.all _ _, ?_⟩
             refine flow_done (by kernel_rfl) ?_
             go_wp2_with fail
             go_meet
             exact ⟨G.sz, _, _, _, Lib.hid (HDT.out _ HQ5.out (by show p.sd.length ≤ 100; omega) (by simp; omega))⟩
            ·
             have hcq : za59.cell? ⟨bt, q0, none⟩ = some (.int .i64 el) := by rw [← HEL.out]; exact (own_i HQ.out.tb hq0l).1
             go_wp2_with fail
             clear hcq
             refine pieceEnd_normal ⟨AnyW13.all _ _, ?_⟩
             refine flow_reads (F := AnyW13) (fun _ => AnyW13.all _ _) (by kernel_rfl) [12] (fuel := 5) (by kernel_rfl) ?_
             simp only [List.map_cons, List.map_nil, pick, List.getD_cons_zero, List.getD_cons_succ]
             repeat (go_big_quiet_step (fail))
             refine wpQuiet_nil ?_
             refine flow_two (F := AnyW13) (fun _ _ _ _ _ => AnyW13.all _ _) (fun _ => AnyW13.all _ _) 1 13 (by kernel_rfl) (by decide) (by decide) ?_ ?_ <;> simp only [pick, List.getD_cons_zero, List.getD_cons_succ]
             ·
              have hcq : za59.cell? ⟨g5, 1, none⟩ = some (.slice (some ⟨bt, 0, none⟩) p.tb.length ct) := (cell_of_row _ _ 1 _ _ _ HQ.out.px).trans rfl
              go_wp2_with fail
              clear hcq
              refine pieceEnd_normal ⟨AnyW13.all _ _, ?_⟩
              refine flow_one (F := AnyW13) (fun _ _ _ _ _ => AnyW13.all _ _) (fun _ => AnyW13.all _ _) 13 (by kernel_rfl) (by decide) ?_
              simp only [pick, List.getD_cons_zero, List.getD_cons_succ]
              go_wp2_with fail
              have hb := one_new za59 (.cells #[.int .i64 (el + x)] 3)
              refine pieceEnd_normal ⟨AnyW13.all _ _, ?_⟩
              have HR3 : Hid (Row (za59.alloc (.cells #[.int .i64 (el + x)] 3)) (some ⟨za59.heap.size, 0, none⟩) 1 1 1 (intsV [el + x])) := Lib.hid (Row.of_block (heap_alloc_new _ _) rfl)
              replace HQ := Lib.hid (HQ.out.later hb)
              clear hb
              generalize za59.alloc (.cells #[.int .i64 (el + x)] 3) = za62 at *
              generalize za59.heap.size = s3 at *
              refine flow_one (F := AnyW13) (fun _ _ _ _ _ => AnyW13.all _ _) (fun _ => AnyW13.all _ _) 14 (by kernel_rfl) (by decide) ?_
              simp only [pick, List.getD_cons_zero, List.getD_cons_succ]
              have hwz := HQ.out.sz
              have hqs : g5 < za62.heap.size := (Array.getElem?_eq_some_iff.1 HQ.out.px).1
              have hqn : (Value.slice (some ⟨bt, 0, none⟩) p.tb.length ct).ownBlock ≠ some g5 := fun h => own_neqT12 HQ.out.tb HQ.out.px (by decide) g5 h rfl
              go_wp2_with (at_builtin; go_must (refine wpList_app2 za62 rfl (.tmp 73) (.tmp 85) 22 22 3 rfl y0.heap.size Try.underlying22 i64_info rfl _ p.tb.length (intsV p.tb) HQ.out.tb rfl _ 1 (intsV [el + x]) (Row.src HR3.out Try.underlying22 (intsV_one _)) rfl (by unfold maxLen; omega) (by omega) hwz ?_); intro v5 z5 ho hb hkp hv; have HO5 := Lib.hid ho; have HB5 := Lib.hid hb; have HKP := Lib.hid hkp; have HV := Lib.hid hv; clear ho hb hkp hv)
              refine pieceEnd_normal ⟨AnyW13.all _ _, ?_⟩
              obtain ⟨A5, c5, hv5, -⟩ := Row.of_own HO5.out
              subst hv5
              have HQ5 := Lib.hid (PQ.apd13 HQ.out (el + x) HB5.out HKP.out HO5.out HV.out)
              have hx5 := (HKP.out g5 hqs hqn).trans HQ.out.px
              clear HQ HR3 HO5 HB5 HKP HV hqs hqn hwz
              refine flow_reads (F := AnyW13) (fun _ => AnyW13.all _ _) (by kernel_rfl) [15] (fuel := 1) (by kernel_rfl) ?_
              simp only [List.map_cons, List.map_nil, pick, List.getD_cons_zero, List.getD_cons_succ]
              repeat (go_big_quiet_step (fail))
              refine wpQuiet_nil ?_
              refine flow_one (F := AnyW13) (fun _ _ _ _ _ => AnyW13.all _ _) (fun _ => AnyW13.all _ _) 16 (by kernel_rfl) (by decide) ?_
              simp only [pick, List.getD_cons_zero, List.getD_cons_succ]
              have hz5 : z5.cell? ⟨g5, 1, none⟩ = some (.slice (some ⟨bt, 0, none⟩) p.tb.length ct) := (cell_of_row _ _ 1 _ _ _ hx5).trans rfl
              have hfz5 : z5.frozen? ⟨g5, 1, none⟩ = false := by unfold World.frozen?; rw [hx5]; simp
              clear hx5
              go_wp2_with fail
              refine pieceEnd_normal ⟨AnyW13.all _ _, ?_⟩
              refine flow_done (by kernel_rfl) ?_
              go_wp2_with fail
              go_meet
              exact ⟨G.sz, _, _, _, Lib.hid (HDT.out _ HQ5.out (by show p.sd.length ≤ 100; omega) (by simp; omega))⟩
             ·
              go_wp2_with fail
              have hb := one_new za59 (.cells #[.int .i64 (el + x)] 3)
              refine pieceEnd_normal ⟨AnyW13.all _ _, ?_⟩
              have HR3 : Hid (Row (za59.alloc (.cells #[.int .i64 (el + x)] 3)) (some ⟨za59.heap.size, 0, none⟩) 1 1 1 (intsV [el + x])) := Lib.hid (Row.of_block (heap_alloc_new _ _) rfl)
              replace HQ := Lib.hid (HQ.out.later hb)
              clear hb
              generalize za59.alloc (.cells #[.int .i64 (el + x)] 3) = za63 at *
              generalize za59.heap.size = s3 at *
              refine flow_one (F := AnyW13) (fun _ _ _ _ _ => AnyW13.all _ _) (fun _ => AnyW13.all _ _) 1 (by kernel_rfl) (by decide) ?_
              simp only [pick, List.getD_cons_zero, List.getD_cons_succ]
              have hcq : za63.cell? ⟨g5, 1, none⟩ = some (.slice (some ⟨bt, 0, none⟩) p.tb.length ct) := (cell_of_row _ _ 1 _ _ _ HQ.out.px).trans rfl
              go_wp2_with fail
              clear hcq
              refine pieceEnd_normal ⟨AnyW13.all _ _, ?_⟩
              refine flow_one (F := AnyW13) (fun _ _ _ _ _ => AnyW13.all _ _) (fun _ => AnyW13.all _ _) 14 (by kernel_rfl) (by decide) ?_
              simp only [pick, List.getD_cons_zero, List.getD_cons_succ]
              have hwz := HQ.out.sz
              have hqs : g5 < za63.heap.size := (Array.getElem?_eq_some_iff.1 HQ.out.px).1
              have hqn : (Value.slice (some ⟨bt, 0, none⟩) p.tb.length ct).ownBlock ≠ some g5 := fun h => own_neqT12 HQ.out.tb HQ.out.px (by decide) g5 h rfl
              go_wp2_with (at_builtin; go_must (refine wpList_app2 za63 rfl (.tmp 73) (.tmp 85) 22 22 3 rfl y0.heap.size Try.underlying22 i64_info rfl _ p.tb.length (intsV p.tb) HQ.out.tb rfl _ 1 (intsV [el + x]) (Row.src HR3.out Try.underlying22 (intsV_one _)) rfl (by unfold maxLen; omega) (by omega) hwz ?_); intro v5 z5 ho hb hkp hv; have HO5 := Lib.hid ho; have HB5 := Lib.hid hb; have HKP := Lib.hid hkp; have HV := Lib.hid hv; clear ho hb hkp hv)
              refine pieceEnd_normal ⟨AnyW13.all _ _, ?_⟩
              obtain ⟨A5, c5, hv5, -⟩ := Row.of_own HO5.out
              subst hv5
              have HQ5 := Lib.hid (PQ.apd13 HQ.out (el + x) HB5.out HKP.out HO5.out HV.out)
              have hx5 := (HKP.out g5 hqs hqn).trans HQ.out.px
              clear HQ HR3 HO5 HB5 HKP HV hqs hqn hwz
              refine flow_reads (F := AnyW13) (fun _ => AnyW13.all _ _) (by kernel_rfl) [15] (fuel := 1) (by kernel_rfl) ?_
              simp only [List.map_cons, List.map_nil, pick, List.getD_cons_zero, List.getD_cons_succ]
              repeat (go_big_quiet_step (fail))
              refine wpQuiet_nil ?_
              refine flow_one (F := AnyW13) (fun _ _ _ _ _ => AnyW13.all _ _) (fun _ => AnyW13.all _ _) 16 (by kernel_rfl) (by decide) ?_
              simp only [pick, List.getD_cons_zero, List.getD_cons_succ]
              have hz5 : z5.cell? ⟨g5, 1, none⟩ = some (.slice (some ⟨bt, 0, none⟩) p.tb.length ct) := (cell_of_row _ _ 1 _ _ _ hx5).trans rfl
              have hfz5 : z5.frozen? ⟨g5, 1, none⟩ = false := by unfold World.frozen?; rw [hx5]; simp
              clear hx5
              go_wp2_with fail
              refine pieceEnd_normal ⟨AnyW13.all _ _, ?_⟩
              refine flow_done (by kernel_rfl) ?_
              go_wp2_with fail
              go_meet
              exact ⟨G.sz, _, _, _, Lib.hid (HDT.out _ HQ5.out (by show p.sd.length ≤ 100; omega) (by simp; omega))⟩
         ·
          go_wp2_with fail
          refine (next_g w.heap.size D t 2 z0 HQ.out.dice (by decide) (by decide)).mono ?_
          rintro e za64 ⟨x, rfl, hx0, hx1, hg⟩
          replace HQ := Lib.hid (HQ.out.gave hg)
          have m2 : RowKit.wrap64 (el + x) = el + x := IntWalk.wrap64_in _ (by omega)
          have m3 : IntKind.i64.wrap (el + x) = el + x := by rw [IntKind.wrap_i64]; omega
          clear hg
          go_wp2_with fail
          refine pieceEnd_normal ⟨AnyW13.all _ _, ?_⟩
          refine flow_three (F := AnyW13) (fun _ _ _ _ _ => AnyW13.all _ _) (fun _ => AnyW13.all _ _) 1 3 5 (by kernel_rfl) (by decide) (by decide) (by decide) ?_ ?_ ?_ <;> simp only [pick, List.getD_cons_zero, List.getD_cons_succ]
          ·
           have hcq : za64.cell? ⟨g5, 1, none⟩ = some (.slice (some ⟨bt, 0, none⟩) p.tb.length ct) := (cell_of_row _ _ 1 _ _ _ HQ.out.px).trans rfl
           go_wp2_with fail
           clear hcq
           refine pieceEnd_normal ⟨AnyW13.all _ _, ?_⟩
           refine flow_two (F := AnyW13) (fun _ _ _ _ _ => AnyW13.all _ _) (fun _ => AnyW13.all _ _) 3 5 (by kernel_rfl) (by decide) (by decide) ?_ ?_ <;> simp only [pick, List.getD_cons_zero, List.getD_cons_succ]
           ·
            have hcq : za64.cell? ⟨g5, 1, none⟩ = some (.slice (some ⟨bt, 0, none⟩) p.tb.length ct) := (cell_of_row _ _ 1 _ _ _ HQ.out.px).trans rfl
            go_wp2_with fail
            clear hcq
            refine pieceEnd_normal ⟨AnyW13.all _ _, ?_⟩
            refine flow_one (F := AnyW13) (fun _ _ _ _ _ => AnyW13.all _ _) (fun _ => AnyW13.all _ _) 5 (by kernel_rfl) (by decide) ?_
            simp only [pick, List.getD_cons_zero, List.getD_cons_succ]
            have hcq : za64.cell? ⟨g5, 1, none⟩ = some (.slice (some ⟨bt, 0, none⟩) p.tb.length ct) := (cell_of_row _ _ 1 _ _ _ HQ.out.px).trans rfl
            go_wp2_with fail
            clear hcq
            refine pieceEnd_normal ⟨AnyW13.all _ _, ?_⟩
            refine flow_reads (F := AnyW13) (fun _ => AnyW13.all _ _) (by kernel_rfl) [6, 7, 8] (fuel := 6) (by kernel_rfl) ?_
            simp only [List.map_cons, List.map_nil, pick, List.getD_cons_zero, List.getD_cons_succ]
            repeat (go_big_quiet_step (fail))
            refine wpQuiet_nil ?_
            refine flow_one (F := AnyW13) (fun _ _ _ _ _ => AnyW13.all _ _) (fun _ => AnyW13.all _ _) 9 (by kernel_rfl) (by decide) ?_
            simp only [pick, List.getD_cons_zero, List.getD_cons_succ]
            have hcq : za64.cell? ⟨bt, q0, none⟩ = some (.int .i64 el) := by rw [← HEL.out]; exact (own_i HQ.out.tb hq0l).1
            go_wp2_with fail
            clear hcq
            refine pieceEnd_normal ⟨AnyW13.all _ _, ?_⟩
            refine flow_reads (F := AnyW13) (fun _ => AnyW13.all _ _) (by kernel_rfl) [12] (fuel := 4) (by kernel_rfl) ?_
            simp only [List.map_cons, List.map_nil, pick, List.getD_cons_zero, List.getD_cons_succ]
            repeat (go_big_quiet_step (fail))
            refine wpQuiet_nil ?_
            refine flow_one (F := AnyW13) (fun _ _ _ _ _ => AnyW13.all _ _) (fun _ => AnyW13.all _ _) 13 (by kernel_rfl) (by decide) ?_
            simp only [pick, List.getD_cons_zero, List.getD_cons_succ]
            go_wp2_with fail
            have hb := one_new za64 (.cells #[.int .i64 (el + x)] 3)
            refine pieceEnd_normal ⟨AnyW13.all _ _, ?_⟩
            have HR3 : Hid (Row (za64.alloc (.cells #[.int .i64 (el + x)] 3)) (some ⟨za64.heap.size, 0, none⟩) 1 1 1 (intsV [el + x])) := Lib.hid (Row.of_block (heap_alloc_new _ _) rfl)
            replace HQ := Lib.hid (HQ.out.later hb)
            clear hb
            generalize za64.alloc (.cells #[.int .i64 (el + x)] 3) = za65 at *
            generalize za64.heap.size = s3 at *
            refine flow_one (F := AnyW13) (fun _ _ _ _ _ => AnyW13.all _ _) (fun _ => AnyW13.all _ _) 14 (by kernel_rfl) (by decide) ?_
            simp only [pick, List.getD_cons_zero, List.getD_cons_succ]
            have hwz := HQ.out.sz
            have hqs : g5 < za65.heap.size := (Array.getElem?_eq_some_iff.1 HQ.out.px).1
            have hqn : (Value.slice (some ⟨bt, 0, none⟩) p.tb.length ct).ownBlock ≠ some g5 := fun h => own_neqT12 HQ.out.tb HQ.out.px (by decide) g5 h rfl
            go_wp2_with (at_builtin; go_must (refine wpList_app2 za65 rfl (.tmp 73) (.tmp 85) 22 22 3 rfl y0.heap.size Try.underlying22 i64_info rfl _ p.tb.length (intsV p.tb) HQ.out.tb rfl _ 1 (intsV [el + x]) (Row.src HR3.out Try.underlying22 (intsV_one _)) rfl (by unfold maxLen; omega) (by omega) hwz ?_); intro v5 z5 ho hb hkp hv; have HO5 := Lib.hid ho; have HB5 := Lib.hid hb; have HKP := Lib.hid hkp; have HV := Lib.hid hv; clear ho hb hkp hv)
            refine pieceEnd_normal ⟨AnyW13.all _ _, ?_⟩
            obtain ⟨A5, c5, hv5, -⟩ := Row.of_own HO5.out
            subst hv5
            have HQ5 := Lib.hid (PQ.apd13 HQ.out (el + x) HB5.out HKP.out HO5.out HV.out)
            have hx5 := (HKP.out g5 hqs hqn).trans HQ.out.px
            clear HQ HR3 HO5 HB5 HKP HV hqs hqn hwz
            refine flow_reads (F := AnyW13) (fun _ => AnyW13.all _ _) (by kernel_rfl) [15] (fuel := 1) (by kernel_rfl) ?_
            simp only [List.map_cons, List.map_nil, pick, List.getD_cons_zero, List.getD_cons_succ]
            repeat (go_big_quiet_step (fail))
            refine wpQuiet_nil ?_
            refine flow_one (F := AnyW13) (fun _ _ _ _ _ => AnyW13.all _ _) (fun _ => AnyW13.all _ _) 16 (by kernel_rfl) (by decide) ?_
            simp only [pick, List.getD_cons_zero, List.getD_cons_succ]
            have hz5 : z5.cell? ⟨g5, 1, none⟩ = some (.slice (some ⟨bt, 0, none⟩) p.tb.length ct) := (cell_of_row _ _ 1 _ _ _ hx5).trans rfl
            have hfz5 : z5.frozen? ⟨g5, 1, none⟩ = false := by unfold World.frozen?; rw [hx5]; simp
            clear hx5
            go_wp2_with fail
            refine pieceEnd_normal ⟨AnyW13.all _ _, ?_⟩
            refine flow_done (by kernel_rfl) ?_
            go_wp2_with fail
            go_meet
            exact ⟨G.sz, _, _, _, Lib.hid (HDT.out _ HQ5.out (by show p.sd.length ≤ 100; omega) (by simp; omega))⟩
           ·
            have hcq : za64.cell? ⟨g5, 1, none⟩ = some (.slice (some ⟨bt, 0, none⟩) p.tb.length ct) := (cell_of_row _ _ 1 _ _ _ HQ.out.px).trans rfl
            go_wp2_with fail
            clear hcq
            refine pieceEnd_normal ⟨AnyW13.all _ _, ?_⟩
            refine flow_reads (F := AnyW13) (fun _ => AnyW13.all _ _) (by kernel_rfl) [6, 7] (fuel := 8) (by kernel_rfl) ?_
            simp only [List.map_cons, List.map_nil, pick, List.getD_cons_zero, List.getD_cons_succ]
            repeat (go_big_quiet_step (fail))
            refine wpQuiet_nil ?_
            refine flow_one (F := AnyW13) (fun _ _ _ _ _ => AnyW13.all _ _) (fun _ => AnyW13.all _ _) 3 (by kernel_rfl) (by decide) ?_
            simp only [pick, List.getD_cons_zero, List.getD_cons_succ]
            have hcq : za64.cell? ⟨g5, 1, none⟩ = some (.slice (some ⟨bt, 0, none⟩) p.tb.length ct) := (cell_of_row _ _ 1 _ _ _ HQ.out.px).trans rfl
            go_wp2_with fail
            clear hcq
            refine pieceEnd_normal ⟨AnyW13.all _ _, ?_⟩
            refine flow_reads (F := AnyW13) (fun _ => AnyW13.all _ _) (by kernel_rfl) [8] (fuel := 6) (by kernel_rfl) ?_
            simp only [List.map_cons, List.map_nil, pick, List.getD_cons_zero, List.getD_cons_succ]
            repeat (go_big_quiet_step (fail))
            refine wpQuiet_nil ?_
            refine flow_one (F := AnyW13) (fun _ _ _ _ _ => AnyW13.all _ _) (fun _ => AnyW13.all _ _) 9 (by kernel_rfl) (by decide) ?_
            simp only [pick, List.getD_cons_zero, List.getD_cons_succ]
            have hcq : za64.cell? ⟨bt, q0, none⟩ = some (.int .i64 el) := by rw [← HEL.out]; exact (own_i HQ.out.tb hq0l).1
            go_wp2_with fail
            clear hcq
            refine pieceEnd_normal ⟨AnyW13.all _ _, ?_⟩
            refine flow_reads (F := AnyW13) (fun _ => AnyW13.all _ _) (by kernel_rfl) [12] (fuel := 4) (by kernel_rfl) ?_
            simp only [List.map_cons, List.map_nil, pick, List.getD_cons_zero, List.getD_cons_succ]
            repeat (go_big_quiet_step (fail))
            refine wpQuiet_nil ?_
            refine flow_one (F := AnyW13) (fun _ _ _ _ _ => AnyW13.all _ _) (fun _ => AnyW13.all _ _) 13 (by kernel_rfl) (by decide) ?_
            simp only [pick, List.getD_cons_zero, List.getD_cons_succ]
            go_wp2_with fail
            have hb := one_new za64 (.cells #[.int .i64 (el + x)] 3)
            refine pieceEnd_normal ⟨AnyW13.all _ _, ?_⟩
            have HR3 : Hid (Row (za64.alloc (.cells #[.int .i64 (el + x)] 3)) (some ⟨za64.heap.size, 0, none⟩) 1 1 1 (intsV [el + x])) := Lib.hid (Row.of_block (heap_alloc_new _ _) rfl)
            replace HQ := Lib.hid (HQ.out.later hb)
            clear hb
            generalize za64.alloc (.cells #[.int .i64 (el + x)] 3) = za66 at *
            generalize za64.heap.size = s3 at *
            refine flow_one (F := AnyW13) (fun _ _ _ _ _ => AnyW13.all _ _) (fun _ => AnyW13.all _ _) 14 (by kernel_rfl) (by decide) ?_
            simp only [pick, List.getD_cons_zero, List.getD_cons_succ]
            have hwz := HQ.out.sz
            have hqs : g5 < za66.heap.size := (Array.getElem?_eq_some_iff.1 HQ.out.px).1
            have hqn : (Value.slice (some ⟨bt, 0, none⟩) p.tb.length ct).ownBlock ≠ some g5 := fun h => own_neqT12 HQ.out.tb HQ.out.px (by decide) g5 h rfl
            go_wp2_with (at_builtin; go_must (refine wpList_app2 za66 rfl (.tmp 73) (.tmp 85) 22 22 3 rfl y0.heap.size Try.underlying22 i64_info rfl _ p.tb.length (intsV p.tb) HQ.out.tb rfl _ 1 (intsV [el + x]) (Row.src HR3.out Try.underlying22 (intsV_one _)) rfl (by unfold maxLen; omega) (by omega) hwz ?_); intro v5 z5 ho hb hkp hv; have HO5 := Lib.hid ho; have HB5 := Lib.hid hb; have HKP := Lib.hid hkp; have HV := Lib.hid hv; clear ho hb hkp hv)
            refine pieceEnd_normal ⟨AnyW13.all _ _, ?_⟩
            obtain ⟨A5, c5, hv5, -⟩ := Row.of_own HO5.out
            subst hv5
            have HQ5 := Lib.hid (PQ.apd13 HQ.out (el + x) HB5.out HKP.out HO5.out HV.out)
            have hx5 := (HKP.out g5 hqs hqn).trans HQ.out.px
            clear HQ HR3 HO5 HB5 HKP HV hqs hqn hwz
            refine flow_reads (F := AnyW13) (fun _ => AnyW13.all _ _) (by kernel_rfl) [15] (fuel := 1) (by kernel_rfl) ?_
            simp only [List.map_cons, List.map_nil, pick, List.getD_cons_zero, List.getD_cons_succ]
            repeat (go_big_quiet_step (fail))
            refine wpQuiet_nil ?_
            refine flow_one (F := AnyW13) (fun _ _ _ _ _ => AnyW13.all _ _) (fun _ => AnyW13.all _ _) 16 (by kernel_rfl) (by decide) ?_
            simp only [pick, List.getD_cons_zero, List.getD_cons_succ]
            have hz5 : z5.cell? ⟨g5, 1, none⟩ = some (.slice (some ⟨bt, 0, none⟩) p.tb.length ct) := (cell_of_row _ _ 1 _ _ _ hx5).trans rfl
            have hfz5 : z5.frozen? ⟨g5, 1, none⟩ = false := by unfold World.frozen?; rw [hx5]; simp
            clear hx5
            go_wp2_with fail
            refine pieceEnd_normal ⟨AnyW13.all _ _, ?_⟩
            refine flow_done (by kernel_rfl) ?_
            go_wp2_with fail
            go_meet
            exact ⟨G.sz, _, _, _, Lib.hid (HDT.out _ HQ5.out (by show p.sd.length ≤ 100; omega) (by simp; omega))⟩
          ·
           have hcq : za64.cell? ⟨g5, 1, none⟩ = some (.slice (some ⟨bt, 0, none⟩) p.tb.length ct) := (cell_of_row _ _ 1 _ _ _ HQ.out.px).trans rfl
           go_wp2_with fail
           clear hcq
           refine pieceEnd_normal ⟨AnyW13.all _ _, ?_⟩
           refine flow_two (F := AnyW13) (fun _ _ _ _ _ => AnyW13.all _ _) (fun _ => AnyW13.all _ _) 1 5 (by kernel_rfl) (by decide) (by decide) ?_ ?_ <;> simp only [pick, List.getD_cons_zero, List.getD_cons_succ]
           ·
            have hcq : za64.cell? ⟨g5, 1, none⟩ = some (.slice (some ⟨bt, 0, none⟩) p.tb.length ct) := (cell_of_row _ _ 1 _ _ _ HQ.out.px).trans rfl
            go_wp2_with fail
            clear hcq
            refine pieceEnd_normal ⟨AnyW13.all _ _, ?_⟩
            refine flow_one (F := AnyW13) (fun _ _ _ _ _ => AnyW13.all _ _) (fun _ => AnyW13.all _ _) 5 (by kernel_rfl) (by decide) ?_
            simp only [pick, List.getD_cons_zero, List.getD_cons_succ]
            have hcq : za64.cell? ⟨g5, 1, none⟩ = some (.slice (some ⟨bt, 0, none⟩) p.tb.length ct) := (cell_of_row _ _ 1 _ _ _ HQ.out.px).trans rfl
            go_wp2_with fail
            clear hcq
            refine pieceEnd_normal ⟨AnyW13.all _ _, ?_⟩
            refine flow_reads (F := AnyW13) (fun _ => AnyW13.all _ _) (by kernel_rfl) [6, 7, 8] (fuel := 6) (by kernel_rfl) ?_
            simp only [List.map_cons, List.map_nil, pick, List.getD_cons_zero, List.getD_cons_succ]
            repeat (go_big_quiet_step (fail))
            refine wpQuiet_nil ?_
            refine flow_one (F := AnyW13) (fun _ _ _ _ _ => AnyW13.all _ _) (fun _ => AnyW13.all _ _) 9 (by kernel_rfl) (by decide) ?_
            simp only [pick, List.getD_cons_zero, List.getD_cons_succ]
            have hcq : za64.cell? ⟨bt, q0, none⟩ = some (.int .i64 el) := by rw [← HEL.out]; exact (own_i HQ.out.tb hq0l).1
            go_wp2_with fail
            clear hcq
            refine pieceEnd_normal ⟨AnyW13.all _ _, ?_⟩
            refine flow_reads (F := AnyW13) (fun _ => AnyW13.all _ _) (by kernel_rfl) [12] (fuel := 4) (by kernel_rfl) ?_
            simp only [List.map_cons, List.map_nil, pick, List.getD_cons_zero, List.getD_cons_succ]
            repeat (go_big_quiet_step (fail))
            refine wpQuiet_nil ?_
            refine flow_one (F := AnyW13) (fun _ _ _ _ _ => AnyW13.all _ _) (fun _ => AnyW13.all _ _) 13 (by kernel_rfl) (by decide) ?_
            simp only [pick, List.getD_cons_zero, List.getD_cons_succ]
            go_wp2_with fail
            have hb := one_new za64 (.cells #[.int .i64 (el + x)] 3)
            refine pieceEnd_normal ⟨AnyW13.all _ _, ?_⟩
            have HR3 : Hid (Row (za64.alloc (.cells #[.int .i64 (el + x)] 3)) (some ⟨za64.heap.size, 0, none⟩) 1 1 1 (intsV [el + x])) := Lib.hid (Row.of_block (heap_alloc_new _ _) rfl)
            replace HQ := Lib.hid (HQ.out.later hb)
            clear hb
            generalize za64.alloc (.cells #[.int .i64 (el + x)] 3) = za67 at *
            generalize za64.heap.size = s3 at *
            refine flow_one (F := AnyW13) (fun _ _ _ _ _ => AnyW13.all _ _) (fun _ => AnyW13.all _ _) 14 (by kernel_rfl) (by decide) ?_
            simp only [pick, List.getD_cons_zero, List.getD_cons_succ]
            have hwz := HQ.out.sz
            have hqs : g5 < za67.heap.size := (Array.getElem?_eq_some_iff.1 HQ.out.px).1
            have hqn : (Value.slice (some ⟨bt, 0, none⟩) p.tb.length ct).ownBlock ≠ some g5 := fun h => own_neqT12 HQ.out.tb HQ.out.px (by decide) g5 h rfl
            go_wp2_with (at_builtin; go_must (refine wpList_app2 za67 rfl (.tmp 73) (.tmp 85) 22 22 3 rfl y0.heap.size Try.underlying22 i64_info rfl _ p.tb.length (intsV p.tb) HQ.out.tb rfl _ 1 (intsV [el + x]) (Row.src HR3.out Try.underlying22 (intsV_one _)) rfl (by unfold maxLen; omega) (by omega) hwz ?_); intro v5 z5 ho hb hkp hv; have HO5 := Lib.hid ho; have HB5 := Lib.hid hb; have HKP := Lib.hid hkp; have HV := Lib.hid hv; clear ho hb hkp hv)
            refine pieceEnd_normal ⟨AnyW13.all _ _, ?_⟩
            obtain ⟨A5, c5, hv5, -⟩ := Row.of_own HO5.out
            subst hv5
            have HQ5 := Lib.hid (PQ.apd13 HQ.out (el + x) HB5.out HKP.out HO5.out HV.out)
            have hx5 := (HKP.out g5 hqs hqn).trans HQ.out.px
            clear HQ HR3 HO5 HB5 HKP HV hqs hqn hwz
            refine flow_reads (F := AnyW13) (fun _ => AnyW13.all _ _) (by kernel_rfl) [15] (fuel := 1) (by kernel_rfl) ?_
            simp only [List.map_cons, List.map_nil, pick, List.getD_cons_zero, List.getD_cons_succ]
            repeat (go_big_quiet_step (fail))
            refine wpQuiet_nil ?_
            refine flow_one (F := AnyW13) (fun _ _ _ _ _ => AnyW13.all _ _) (fun _ => AnyW13.all _ _) 16 (by kernel_rfl) (by decide) ?_
            simp only [pick, List.getD_cons_zero, List.getD_cons_succ]
            have hz5 : z5.cell? ⟨g5, 1, none⟩ = some (.slice (some ⟨bt, 0, none⟩) p.tb.length ct) := (cell_of_row _ _ 1 _ _ _ hx5).trans rfl
            have hfz5 : z5.frozen? ⟨g5, 1, none⟩ = false := by unfold World.frozen?; rw [hx5]; simp
            clear hx5
            go_wp2_with fail
            refine pieceEnd_normal ⟨AnyW13.all _ _, ?_⟩
            refine flow_done (by kernel_rfl) ?_
            go_wp2_with fail
            go_meet
            exact ⟨G.sz, _, _, _, Lib.hid (HDT.out _ HQ5.out (by show p.sd.length ≤ 100; omega) (by simp; omega))⟩
           ·
            have hcq : za64.cell? ⟨g5, 1, none⟩ = some (.slice (some ⟨bt, 0, none⟩) p.tb.length ct) := (cell_of_row _ _ 1 _ _ _ HQ.out.px).trans rfl
            go_wp2_with fail
            clear hcq
            refine pieceEnd_normal ⟨AnyW13.all _ _, ?_⟩
            refine flow_reads (F := AnyW13) (fun _ => AnyW13.all _ _) (by kernel_rfl) [6, 7, 8] (fuel := 7) (by kernel_rfl) ?_
            simp only [List.map_cons, List.map_nil, pick, List.getD_cons_zero, List.getD_cons_succ]
            repeat (go_big_quiet_step (fail))
            refine wpQuiet_nil ?_
            refine flow_two (F := AnyW13) (fun _ _ _ _ _ => AnyW13.all _ _) (fun _ => AnyW13.all _ _) 1 9 (by kernel_rfl) (by decide) (by decide) ?_ ?_ <;> simp only [pick, List.getD_cons_zero, List.getD_cons_succ]
            ·
             have hcq : za64.cell? ⟨g5, 1, none⟩ = some (.slice (some ⟨bt, 0, none⟩) p.tb.length ct) := (cell_of_row _ _ 1 _ _ _ HQ.out.px).trans rfl
             go_wp2_with fail
             clear hcq
             refine pieceEnd_normal ⟨AnyW13.all _ _, ?_⟩
             refine flow_one (F := AnyW13) (fun _ _ _ _ _ => AnyW13.all _ _) (fun _ => AnyW13.all _ _) 9 (by kernel_rfl) (by decide) ?_
             simp only [pick, List.getD_cons_zero, List.getD_cons_succ]
             have hcq : za64.cell? ⟨bt, q0, none⟩ = some (.int .i64 el) := by rw [← HEL.out]; exact (own_i HQ.out.tb hq0l).1
             go_wp2_with fail
             clear hcq
             refine pieceEnd_normal ⟨AnyW13.all _ _, ?_⟩
             refine flow_reads (F := AnyW13) (fun _ => AnyW13.all _ _) (by kernel_rfl) [12] (fuel := 4) (by kernel_rfl) ?_
             simp only [List.map_cons, List.map_nil, pick, List.getD_cons_zero, List.getD_cons_succ]
             repeat (go_big_quiet_step (fail))
             refine wpQuiet_nil ?_
             refine flow_one (F := AnyW13) (fun _ _ _ _ _ => AnyW13.all _ _) (fun _ => AnyW13.all _ _) 13 (by kernel_rfl) (by decide) ?_
             simp only [pick, List.getD_cons_zero, List.getD_cons_succ]
             go_wp2_with fail
             have hb := one_new za64 (.cells #[.int .i64 (el + x)] 3)
             refine pieceEnd_normal ⟨AnyW13.all _ _, ?_⟩
             have HR3 : Hid (Row (za64.alloc (.cells #[.int .i64 (el + x)] 3)) (some ⟨za64.heap.size, 0, none⟩) 1 1 1 (intsV [el + x])) := Lib.hid (Row.of_block (heap_alloc_new _ _) rfl)
             replace HQ := Lib.hid (HQ.out.later hb)
             clear hb
             generalize za64.alloc (.cells #[.int .i64 (el + x)] 3) = za68 at *
             generalize za64.heap.size = s3 at *
             refine flow_one (F := AnyW13) (fun _ _ _ _ _ => AnyW13.all _ _) (fun _ => AnyW13.all _ _) 14 (by kernel_rfl) (by decide) ?_
             simp only [pick, List.getD_cons_zero, List.getD_cons_succ]
             have hwz := HQ.out.sz
             have hqs : g5 < za68.heap.size := (Array.getElem?_eq_some_iff.1 HQ.out.px).1
             have hqn : (Value.slice (some ⟨bt, 0, none⟩) p.tb.length ct).ownBlock ≠ some g5 := fun h => own_neqT12 HQ.out.tb HQ.out.px (by decide) g5 h rfl
             go_wp2_with (at_builtin; go_must (refine wpList_app2 za68 rfl (.tmp 73) (.tmp 85) 22 22 3 rfl y0.heap.size Try.underlying22 i64_info rfl _ p.tb.length (intsV p.tb) HQ.out.tb rfl _ 1 (intsV [el + x]) (Row.src HR3.out Try.underlying22 (intsV_one _)) rfl (by unfold maxLen; omega) (by omega) hwz ?_); intro v5 z5 ho hb hkp hv; have HO5 := Lib.hid ho; have HB5 := Lib.hid hb; have HKP := Lib.hid hkp; have HV := Lib.hid hv; clear ho hb hkp hv)
             refine pieceEnd_normal ⟨AnyW13.all _ _, ?_⟩
             obtain ⟨A5, c5, hv5, -⟩ := Row.of_own HO5.out
             subst hv5
             have HQ5 := Lib.hid (PQ.apd13 HQ.out (el + x) HB5.out HKP.out HO5.out HV.out)
             have hx5 := (HKP.out g5 hqs hqn).trans HQ.out.px
             clear HQ HR3 HO5 HB5 HKP HV hqs hqn hwz
             refine flow_reads (F := AnyW13) (fun _ => AnyW13.all _ _) (by kernel_rfl) [15] (fuel := 1) (by kernel_rfl) ?_
             simp only [List.map_cons, List.map_nil, pick, List.getD_cons_zero, List.getD_cons_succ]
             repeat (go_big_quiet_step (fail))
             refine wpQuiet_nil ?_
             refine flow_one (F := AnyW13) (fun _ _ _ _ _ => AnyW13.all _ _) (fun _ => AnyW13.all _ _) 16 (by kernel_rfl) (by decide) ?_
             simp only [pick, List.getD_cons_zero, List.getD_cons_succ]
             have hz5 : z5.cell? ⟨g5, 1, none⟩ = some (.slice (some ⟨bt, 0, none⟩) p.tb.length ct) := (cell_of_row _ _ 1 _ _ _ hx5).trans rfl
             have hfz5 : z5.frozen? ⟨g5, 1, none⟩ = false := by unfold World.frozen?; rw [hx5]; simp
             clear hx5
             go_wp2_with fail
             refine pieceEnd_normal ⟨AnyW13.all _ _, ?_⟩
             refine flow_done (by kernel_rfl) ?_
             go_wp2_with fail
             go_meet
             exact ⟨G.sz, _, _, _, Lib.hid (HDT.out _ HQ5.out (by show p.sd.length ≤ 100; omega) (by simp; omega))⟩
            ·
             have hcq : za64.cell? ⟨bt, q0, none⟩ = some (.int .i64 el) := by rw [← HEL.out]; exact (own_i HQ.out.tb hq0l).1
             go_wp2_with fail
             clear hcq
             refine pieceEnd_normal ⟨AnyW13.all _ _, ?_⟩
             refine flow_reads (F := AnyW13) (fun _ => AnyW13.all _ _) (by kernel_rfl) [12] (fuel := 5) (by kernel_rfl) ?_
             simp only [List.map_cons, List.map_nil, pick, List.getD_cons_zero, List.getD_cons_succ]
             repeat (go_big_quiet_step (fail))
             refine wpQuiet_nil ?_
             refine flow_two (F := AnyW13) (fun _ _ _ _ _ => AnyW13.all _ _) (fun _ => AnyW13.all _ _) 1 13 (by kernel_rfl) (by decide) (by decide) ?_ ?_ <;> simp only [pick, List.getD_cons_zero, List.getD_cons_succ]
             ·
              have hcq : za64.cell? ⟨g5, 1, none⟩ = some (.slice (some ⟨bt, 0, none⟩) p.tb.length ct) := (cell_of_row _ _ 1 _ _ _ HQ.out.px).trans rfl
              go_wp2_with fail
              clear hcq
              refine pieceEnd_normal ⟨AnyW13.all _ _, ?_⟩
              refine flow_one (F := AnyW13) (fun _ _ _ _ _ => AnyW13.all _ _) (fun _ => AnyW13.all _ _) 13 (by kernel_rfl) (by decide) ?_
              simp only [pick, List.getD_cons_zero, List.getD_cons_succ]
              go_wp2_with fail
              have hb := one_new za64 (.cells #[.int .i64 (el + x)] 3)
              refine pieceEnd_normal ⟨AnyW13.all _ _, ?_⟩
              have HR3 : Hid (Row (za64.alloc (.cells #[.int .i64 (el + x)] 3)) (some ⟨za64.heap.size, 0, none⟩) 1 1 1 (intsV [el + x])) := Lib.hid (Row.of_block (heap_alloc_new _ _) rfl)
              replace HQ := Lib.hid (HQ.out.later hb)
              clear hb
              generalize za64.alloc (.cells #[.int .i64 (el + x)] 3) = za69 at *
              generalize za64.heap.size = s3 at *
              refine flow_one (F := AnyW13) (fun _ _ _ _ _ => AnyW13.all _ _) (fun _ => AnyW13.all _ _) 14 (by kernel_rfl) (by decide) ?_
              simp only [pick, List.getD_cons_zero, List.getD_cons_succ]
              have hwz := HQ.out.sz
              have hqs : g5 < za69.heap.size := (Array.getElem?_eq_some_iff.1 HQ.out.px).1
              have hqn : (Value.slice (some ⟨bt, 0, none⟩) p.tb.length ct).ownBlock ≠ some g5 := fun h => own_neqT12 HQ.out.tb HQ.out.px (by decide) g5 h rfl
              go_wp2_with (at_builtin; go_must (refine wpList_app2 za69 rfl (.tmp 73) (.tmp 85) 22 22 3 rfl y0.heap.size Try.underlying22 i64_info rfl _ p.tb.length (intsV p.tb) HQ.out.tb rfl _ 1 (intsV [el + x]) (Row.src HR3.out Try.underlying22 (intsV_one _)) rfl (by unfold maxLen; omega) (by omega) hwz ?_); intro v5 z5 ho hb hkp hv; have HO5 := Lib.hid ho; have HB5 := Lib.hid hb; have HKP := Lib.hid hkp; have HV := Lib.hid hv; clear ho hb hkp hv)
              refine pieceEnd_normal ⟨AnyW13.all _ _, ?_⟩
              obtain ⟨A5, c5, hv5, -⟩ := Row.of_own HO5.out
              subst hv5
              have HQ5 := Lib.hid (PQ.apd13 HQ.out (el + x) HB5.out HKP.out HO5.out HV.out)
              have hx5 := (HKP.out g5 hqs hqn).trans HQ.out.px
              clear HQ HR3 HO5 HB5 HKP HV hqs hqn hwz
              refine flow_reads (F := AnyW13) (fun _ => AnyW13.all _ _) (by kernel_rfl) [15] (fuel := 1) (by kernel_rfl) ?_
              simp only [List.map_cons, List.map_nil, pick, List.getD_cons_zero, List.getD_cons_succ]
              repeat (go_big_quiet_step (fail))
              refine wpQuiet_nil ?_
              refine flow_one (F := AnyW13) (fun _ _ _ _ _ => AnyW13.all _ _) (fun _ => AnyW13.all _ _) 16 (by kernel_rfl) (by decide) ?_
              simp only [pick, List.getD_cons_zero, List.getD_cons_succ]
              have hz5 : z5.cell? ⟨g5, 1, none⟩ = some (.slice (some ⟨bt, 0, none⟩) p.tb.length ct) := (cell_of_row _ _ 1 _ _ _ hx5).trans rfl
              have hfz5 : z5.frozen? ⟨g5, 1, none⟩ = false := by unfold World.frozen?; rw [hx5]; simp
              clear hx5
              go_wp2_with fail
              refine pieceEnd_normal ⟨AnyW13.all _ _, ?_⟩
              refine flow_done (by kernel_rfl) ?_
              go_wp2_with fail
              go_meet
              exact ⟨G.sz, _, _, _, Lib.hid (HDT.out _ HQ5.out (by show p.sd.length ≤ 100; omega) (by simp; omega))⟩
             ·
              go_wp2_with fail
              have hb := one_new za64 (.cells #[.int .i64 (el + x)] 3)
              refine pieceEnd_normal ⟨AnyW13.all _ _, ?_⟩
              have HR3 : Hid (Row (za64.alloc (.cells #[.int .i64 (el + x)] 3)) (some ⟨za64.heap.size, 0, none⟩) 1 1 1 (intsV [el + x])) := Lib.hid (Row.of_block (heap_alloc_new _ _) rfl)
              replace HQ := Lib.hid (HQ.out.later hb)
              clear hb
              generalize za64.alloc (.cells #[.int .i64 (el + x)] 3) = za70 at *
              generalize za64.heap.size = s3 at *
              refine flow_one (F := AnyW13) (fun _ _ _ _ _ => AnyW13.all _ _) (fun _ => AnyW13.all _ _) 1 (by kernel_rfl) (by decide) ?_
              simp only [pick, List.getD_cons_zero, List.getD_cons_succ]
              have hcq : za70.cell? ⟨g5, 1, none⟩ = some (.slice (some ⟨bt, 0, none⟩) p.tb.length ct) := (cell_of_row _ _ 1 _ _ _ HQ.out.px).trans rfl
              go_wp2_with fail
              clear hcq
              refine pieceEnd_normal ⟨AnyW13.all _ _, ?_⟩
              refine flow_one (F := AnyW13) (fun _ _ _ _ _ => AnyW13.all _ _) (fun _ => AnyW13.all _ _) 14 (by kernel_rfl) (by decide) ?_
              simp only [pick, List.getD_cons_zero, List.getD_cons_succ]
              have hwz := HQ.out.sz
              have hqs : g5 < za70.heap.size := (Array.getElem?_eq_some_iff.1 HQ.out.px).1
              have hqn : (Value.slice (some ⟨bt, 0, none⟩) p.tb.length ct).ownBlock ≠ some g5 := fun h => own_neqT12 HQ.out.tb HQ.out.px (by decide) g5 h rfl
              go_wp2_with (at_builtin; go_must (refine wpList_app2 za70 rfl (.tmp 73) (.tmp 85) 22 22 3 rfl y0.heap.size Try.underlying22 i64_info rfl _ p.tb.length (intsV p.tb) HQ.out.tb rfl _ 1 (intsV [el + x]) (Row.src HR3.out Try.underlying22 (intsV_one _)) rfl (by unfold maxLen; omega) (by omega) hwz ?_); intro v5 z5 ho hb hkp hv; have HO5 := Lib.hid ho; have HB5 := Lib.hid hb; have HKP := Lib.hid hkp; have HV := Lib.hid hv; clear ho hb hkp hv)
              refine pieceEnd_normal ⟨AnyW13.all _ _, ?_⟩
              obtain ⟨A5, c5, hv5, -⟩ := Row.of_own HO5.out
              subst hv5
              have HQ5 := Lib.hid (PQ.apd13 HQ.out (el + x) HB5.out HKP.out HO5.out HV.out)
              have hx5 := (HKP.out g5 hqs hqn).trans HQ.out.px
              clear HQ HR3 HO5 HB5 HKP HV hqs hqn hwz
              refine flow_reads (F := AnyW13) (fun _ => AnyW13.all _ _) (by kernel_rfl) [15] (fuel := 1) (by kernel_rfl) ?_
              simp only [List.map_cons, List.map_nil, pick, List.getD_cons_zero, List.getD_cons_succ]
              repeat (go_big_quiet_step (fail))
              refine wpQuiet_nil ?_
              refine flow_one (F := AnyW13) (fun _ _ _ _ _ => AnyW13.all _ _) (fun _ => AnyW13.all _ _) 16 (by kernel_rfl) (by decide) ?_
              simp only [pick, List.getD_cons_zero, List.getD_cons_succ]
              have hz5 : z5.cell? ⟨g5, 1, none⟩ = some (.slice (some ⟨bt, 0, none⟩) p.tb.length ct) := (cell_of_row _ _ 1 _ _ _ hx5).trans rfl
              have hfz5 : z5.frozen? ⟨g5, 1, none⟩ = false := by unfold World.frozen?; rw [hx5]; simp
              clear hx5
              go_wp2_with fail
              refine pieceEnd_normal ⟨AnyW13.all _ _, ?_⟩
              refine flow_done (by kernel_rfl) ?_
              go_wp2_with fail
              go_meet
              exact ⟨G.sz, _, _, _, Lib.hid (HDT.out _ HQ5.out (by show p.sd.length ≤ 100; omega) (by simp; omega))⟩
          ·
           have hcq : za64.cell? ⟨g5, 1, none⟩ = some (.slice (some ⟨bt, 0, none⟩) p.tb.length ct) := (cell_of_row _ _ 1 _ _ _ HQ.out.px).trans rfl
           go_wp2_with fail
           clear hcq
           refine pieceEnd_normal ⟨AnyW13.all _ _, ?_⟩
           refine flow_reads (F := AnyW13) (fun _ => AnyW13.all _ _) (by kernel_rfl) [6, 7] (fuel := 9) (by kernel_rfl) ?_
           simp only [List.map_cons, List.map_nil, pick, List.getD_cons_zero, List.getD_cons_succ]
           repeat (go_big_quiet_step (fail))
           refine wpQuiet_nil ?_
           refine flow_two (F := AnyW13) (fun _ _ _ _ _ => AnyW13.all _ _) (fun _ => AnyW13.all _ _) 1 3 (by kernel_rfl) (by decide) (by decide) ?_ ?_ <;> simp only [pick, List.getD_cons_zero, List.getD_cons_succ]
           ·
            have hcq : za64.cell? ⟨g5, 1, none⟩ = some (.slice (some ⟨bt, 0, none⟩) p.tb.length ct) := (cell_of_row _ _ 1 _ _ _ HQ.out.px).trans rfl
            go_wp2_with fail
            clear hcq
            refine pieceEnd_normal ⟨AnyW13.all _ _, ?_⟩
            refine flow_one (F := AnyW13) (fun _ _ _ _ _ => AnyW13.all _ _) (fun _ => AnyW13.all _ _) 3 (by kernel_rfl) (by decide) ?_
            simp only [pick, List.getD_cons_zero, List.getD_cons_succ]
            have hcq : za64.cell? ⟨g5, 1, none⟩ = some (.slice (some ⟨bt, 0, none⟩) p.tb.length ct) := (cell_of_row _ _ 1 _ _ _ HQ.out.px).trans rfl
            go_wp2_with fail
            clear hcq
            refine pieceEnd_normal ⟨AnyW13.all _ _, ?_⟩
            refine flow_reads (F := AnyW13) (fun _ => AnyW13.all _ _) (by kernel_rfl) [8] (fuel := 6) (by kernel_rfl) ?_
            simp only [List.map_cons, List.map_nil, pick, List.getD_cons_zero, List.getD_cons_succ]
            repeat (go_big_quiet_step (fail))
            refine wpQuiet_nil ?_
            refine flow_one (F := AnyW13) (fun _ _ _ _ _ => AnyW13.all _ _) (fun _ => AnyW13.all _ _) 9 (by kernel_rfl) (by decide) ?_
            simp only [pick, List.getD_cons_zero, List.getD_cons_succ]
            have hcq : za64.cell? ⟨bt, q0, none⟩ = some (.int .i64 el) := by rw [← HEL.out]; exact (own_i HQ.out.tb hq0l).1
            go_wp2_with fail
            clear hcq
            refine pieceEnd_normal ⟨AnyW13.all _ _, ?_⟩
            refine flow_reads (F := AnyW13) (fun _ => AnyW13.all _ _) (by kernel_rfl) [12] (fuel := 4) (by kernel_rfl) ?_
            simp only [List.map_cons, List.map_nil, pick, List.getD_cons_zero, List.getD_cons_succ]
            repeat (go_big_quiet_step (fail))
            refine wpQuiet_nil ?_
            refine flow_one (F := AnyW13) (fun _ _ _ _ _ => AnyW13.all _ _) (fun _ => AnyW13.all _ _) 13 (by kernel_rfl) (by decide) ?_
            simp only [pick, List.getD_cons_zero, List.getD_cons_succ]
            go_wp2_with fail
            have hb := one_new za64 (.cells #[.int .i64 (el + x)] 3)
            refine pieceEnd_normal ⟨AnyW13.all _ _, ?_⟩
            have HR3 : Hid (Row (za64.alloc (.cells #[.int .i64 (el + x)] 3)) (some ⟨za64.heap.size, 0, none⟩) 1 1 1 (intsV [el + x])) := Lib.hid (Row.of_block (heap_alloc_new _ _) rfl)
            replace HQ := Lib.hid (HQ.out.later hb)
            clear hb
            generalize za64.alloc (.cells #[.int .i64 (el + x)] 3) = za71 at *
            generalize za64.heap.size = s3 at *
            refine flow_one (F := AnyW13) (fun _ _ _ _ _ => AnyW13.all _ _) (fun _ => AnyW13.all _ _) 14 (by kernel_rfl) (by decide) ?_
            simp only [pick, List.getD_cons_zero, List.getD_cons_succ]
            have hwz := HQ.out.sz
            have hqs : g5 < za71.heap.size := (Array.getElem?_eq_some_iff.1 HQ.out.px).1
            have hqn : (Value.slice (some ⟨bt, 0, none⟩) p.tb.length ct).ownBlock ≠ some g5 := fun h => own_neqT12 HQ.out.tb HQ.out.px (by decide) g5 h rfl
            go_wp2_with (at_builtin; go_must (refine wpList_app2 za71 rfl (.tmp 73) (.tmp 85) 22 22 3 rfl y0.heap.size Try.underlying22 i64_info rfl _ p.tb.length (intsV p.tb) HQ.out.tb rfl _ 1 (intsV [el + x]) (Row.src HR3.out Try.underlying22 (intsV_one _)) rfl (by unfold maxLen; omega) (by omega) hwz ?_); intro v5 z5 ho hb hkp hv; have HO5 := Lib.hid ho; have HB5 := Lib.hid hb; have HKP := Lib.hid hkp; have HV := Lib.hid hv; clear ho hb hkp hv)
            refine pieceEnd_normal ⟨AnyW13.all _ _, ?_⟩
            obtain ⟨A5, c5, hv5, -⟩ := Row.of_own HO5.out
            subst hv5
            have HQ5 := Lib.hid (PQ.apd13 HQ.out (el + x) HB5.out HKP.out HO5.out HV.out)
            have hx5 := (HKP.out g5 hqs hqn).trans HQ.out.px
            clear HQ HR3 HO5 HB5 HKP HV hqs hqn hwz
            refine flow_reads (F := AnyW13) (fun _ => AnyW13.all _ _) (by kernel_rfl) [15] (fuel := 1) (by kernel_rfl) ?_
            simp only [List.map_cons, List.map_nil, pick, List.getD_cons_zero, List.getD_cons_succ]
            repeat (go_big_quiet_step (fail))
            refine wpQuiet_nil ?_
            refine flow_one (F := AnyW13) (fun _ _ _ _ _ => AnyW13.all _ _) (fun _ => AnyW13.all _ _) 16 (by kernel_rfl) (by decide) ?_
            simp only [pick, List.getD_cons_zero, List.getD_cons_succ]
            have hz5 : z5.cell? ⟨g5, 1, none⟩ = some (.slice (some ⟨bt, 0, none⟩) p.tb.length ct) := (cell_of_row _ _ 1 _ _ _ hx5).trans rfl
            have hfz5 : z5.frozen? ⟨g5, 1, none⟩ = false := by unfold World.frozen?; rw [hx5]; simp
            clear hx5
            go_wp2_with fail
            refine pieceEnd_normal ⟨AnyW13.all _ _, ?_⟩
            refine flow_done (by kernel_rfl) ?_
            go_wp2_with fail
            go_meet
            exact ⟨G.sz, _, _, _, Lib.hid (HDT.out _ HQ5.out (by show p.sd.length ≤ 100; omega) (by simp; omega))⟩
           ·
            have hcq : za64.cell? ⟨g5, 1, none⟩ = some (.slice (some ⟨bt, 0, none⟩) p.tb.length ct) := (cell_of_row _ _ 1 _ _ _ HQ.out.px).trans rfl
            go_wp2_with fail
            clear hcq
            refine pieceEnd_normal ⟨AnyW13.all _ _, ?_⟩
            refine flow_reads (F := AnyW13) (fun _ => AnyW13.all _ _) (by kernel_rfl) [8] (fuel := 7) (by kernel_rfl) ?_
            simp only [List.map_cons, List.map_nil, pick, List.getD_cons_zero, List.getD_cons_succ]
            repeat (go_big_quiet_step (fail))
            refine wpQuiet_nil ?_
            refine flow_two (F := AnyW13) (fun _ _ _ _ _ => AnyW13.all _ _) (fun _ => AnyW13.all _ _) 1 9 (by kernel_rfl) (by decide) (by decide) ?_ ?_ <;> simp only [pick, List.getD_cons_zero, List.getD_cons_succ]
            ·
             have hcq : za64.cell? ⟨g5, 1, none⟩ = some (.slice (some ⟨bt, 0, none⟩) p.tb.length ct) := (cell_of_row _ _ 1 _ _ _ HQ.out.px).trans rfl
             go_wp2_with fail
             clear hcq
             refine pieceEnd_normal ⟨AnyW13.all _ _, ?_⟩
             refine flow_one (F := AnyW13) (fun _ _ _ _ _ => AnyW13.all _ _) (fun _ => AnyW13.all _ _) 9 (by kernel_rfl) (by decide) ?_
             simp only [pick, List.getD_cons_zero, List.getD_cons_succ]
             have hcq : za64.cell? ⟨bt, q0, none⟩ = some (.int .i64 el) := by rw [← HEL.out]; exact (own_i HQ.out.tb hq0l).1
             go_wp2_with fail
             clear hcq
             refine pieceEnd_normal ⟨AnyW13.all _ _, ?_⟩
             refine flow_reads (F := AnyW13) (fun _ => AnyW13.all _ _) (by kernel_rfl) [12] (fuel := 4) (by kernel_rfl) ?_
             simp only [List.map_cons, List.map_nil, pick, List.getD_cons_zero, List.getD_cons_succ]
             repeat (go_big_quiet_step (fail))
             refine wpQuiet_nil ?_
             refine flow_one (F := AnyW13) (fun _ _ _ _ _ => AnyW13.all _ _) (fun _ => AnyW13.all _ _) 13 (by kernel_rfl) (by decide) ?_
             simp only [pick, List.getD_cons_zero, List.getD_cons_succ]
             go_wp2_with fail
             have hb := one_new za64 (.cells #[.int .i64 (el + x)] 3)
             refine pieceEnd_normal ⟨AnyW13.all _ _, ?_⟩
             have HR3 : Hid (Row (za64.alloc (.cells #[.int .i64 (el + x)] 3)) (some ⟨za64.heap.size, 0, none⟩) 1 1 1 (intsV [el + x])) := Lib.hid (Row.of_block (heap_alloc_new _ _) rfl)
             replace HQ := Lib.hid (HQ.out.later hb)
             clear hb
             generalize za64.alloc (.cells #[.int .i64 (el + x)] 3) = za72 at *
             generalize za64.heap.size = s3 at *
             refine flow_one (F := AnyW13) (fun _ _ _ _ _ => AnyW13.all _ _) (fun _ => AnyW13.all _ _) 14 (by kernel_rfl) (by decide) ?_
             simp only [pick, List.getD_cons_zero, List.getD_cons_succ]
             have hwz := HQ.out.sz
             have hqs : g5 < za72.heap.size := (Array.getElem?_eq_some_iff.1 HQ.out.px).1
             have hqn : (Value.slice (some ⟨bt, 0, none⟩) p.tb.length ct).ownBlock ≠ some g5 := fun h => own_neqT12 HQ.out.tb HQ.out.px (by decide) g5 h rfl
             go_wp2_with (at_builtin; go_must (refine wpList_app2 za72 rfl (.tmp 73) (.tmp 85) 22 22 3 rfl y0.heap.size Try.underlying22 i64_info rfl _ p.tb.length (intsV p.tb) HQ.out.tb rfl _ 1 (intsV [el + x]) (Row.src HR3.out Try.underlying22 (intsV_one _)) rfl (by unfold maxLen; omega) (by omega) hwz ?_); intro v5 z5 ho hb hkp hv; have HO5 := Lib.hid ho; have HB5 := Lib.hid hb; have HKP := Lib.hid hkp; have HV := Lib.hid hv; clear ho hb hkp hv)
             refine pieceEnd_normal ⟨AnyW13.all _ _, ?_⟩
             obtain ⟨A5, c5, hv5, -⟩ := Row.of_own HO5.out
             subst hv5
             have HQ5 := Lib.hid (PQ.apd13 HQ.out (el + x) HB5.out HKP.out HO5.out HV.out)
             have hx5 := (HKP.out g5 hqs hqn).trans HQ.out.px
             clear HQ HR3 HO5 HB5 HKP HV hqs hqn hwz
             refine flow_reads (F := AnyW13) (fun _ => AnyW13.all _ _) (by kernel_rfl) [15] (fuel := 1) (by kernel_rfl) ?_
             simp only [List.map_cons, List.map_nil, pick, List.getD_cons_zero, List.getD_cons_succ]
             repeat (go_big_quiet_step (fail))
             refine wpQuiet_nil ?_
             refine flow_one (F := AnyW13) (fun _ _ _ _ _ => AnyW13.all _ _) (fun _ => AnyW13.all _ _) 16 (by kernel_rfl) (by decide) ?_
             simp only [pick, List.getD_cons_zero, List.getD_cons_succ]
             have hz5 : z5.cell? ⟨g5, 1, none⟩ = some (.slice (some ⟨bt, 0, none⟩) p.tb.length ct) := (cell_of_row _ _ 1 _ _ _ hx5).trans rfl
             have hfz5 : z5.frozen? ⟨g5, 1, none⟩ = false := by unfold World.frozen?; rw [hx5]; simp
             clear hx5
             go_wp2_with fail
             refine pieceEnd_normal ⟨AnyW13.all _ _, ?_⟩
             refine flow_done (by kernel_rfl) ?_
             go_wp2_with fail
             go_meet
             exact ⟨G.sz, _, _, _, Lib.hid (HDT.out _ HQ5.out (by show p.sd.length ≤ 100; omega) (by simp; omega))⟩
            ·
             have hcq : za64.cell? ⟨bt, q0, none⟩ = some (.int .i64 el) := by rw [← HEL.out]; exact (own_i HQ.out.tb hq0l).1
             go_wp2_with fail
             clear hcq
             refine pieceEnd_normal ⟨AnyW13.all _ _, ?_⟩
             refine flow_reads (F := AnyW13) (fun _ => AnyW13.all _ _) (by kernel_rfl) [12] (fuel := 5) (by kernel_rfl) ?_
             simp only [List.map_cons, List.map_nil, pick, List.getD_cons_zero, List.getD_cons_succ]
             repeat (go_big_quiet_step (fail))
             refine wpQuiet_nil ?_
             refine flow_two (F := AnyW13) (fun _ _ _ _ _ => AnyW13.all _ _) (fun _ => AnyW13.all _ _) 1 13 (by kernel_rfl) (by decide) (by decide) ?_ ?_ <;> simp only [pick, List.getD_cons_zero, List.getD_cons_succ]
             ·
              have hcq : za64.cell? ⟨g5, 1, none⟩ = some (.slice (some ⟨bt, 0, none⟩) p.tb.length ct) := (cell_of_row _ _ 1 _ _ _ HQ.out.px).trans rfl
              go_wp2_with fail
              clear hcq
              refine pieceEnd_normal ⟨AnyW13.all _ _, ?_⟩
              refine flow_one (F := AnyW13) (fun _ _ _ _ _ => AnyW13.all _ _) (fun _ => AnyW13.all _ _) 13 (by kernel_rfl) (by decide) ?_
              simp only [pick, List.getD_cons_zero, List.getD_cons_succ]
              go_wp2_with fail
              have hb := one_new za64 (.cells #[.int .i64 (el + x)] 3)
              refine pieceEnd_normal ⟨AnyW13.all _ _, ?_⟩
              have HR3 : Hid (Row (za64.alloc (.cells #[.int .i64 (el + x)] 3)) (some ⟨za64.heap.size, 0, none⟩) 1 1 1 (intsV [el + x])) := Lib.hid (Row.of_block (heap_alloc_new _ _) rfl)
              replace HQ := Lib.hid (HQ.out.later hb)
              clear hb
              generalize za64.alloc (.cells #[.int .i64 (el + x)] 3) = za73 at *
              generalize za64.heap.size = s3 at *
              refine flow_one (F := AnyW13) (fun _ _ _ _ _ => AnyW13.all _ _) (fun _ => AnyW13.all _ _) 14 (by kernel_rfl) (by decide) ?_
              simp only [pick, List.getD_cons_zero, List.getD_cons_succ]
              have hwz := HQ.out.sz
              have hqs : g5 < za73.heap.size := (Array.getElem?_eq_some_iff.1 HQ.out.px).1
              have hqn : (Value.slice (some ⟨bt, 0, none⟩) p.tb.length ct).ownBlock ≠ some g5 := fun h => own_neqT12 HQ.out.tb HQ.out.px (by decide) g5 h rfl
              go_wp2_with (at_builtin; go_must (refine wpList_app2 za73 rfl (.tmp 73) (.tmp 85) 22 22 3 rfl y0.heap.size Try.underlying22 i64_info rfl _ p.tb.length (intsV p.tb) HQ.out.tb rfl _ 1 (intsV [el + x]) (Row.src HR3.out Try.underlying22 (intsV_one _)) rfl (by unfold maxLen; omega) (by omega) hwz ?_); intro v5 z5 ho hb hkp hv; have HO5 := Lib.hid ho; have HB5 := Lib.hid hb; have HKP := Lib.hid hkp; have HV := Lib.hid hv; clear ho hb hkp hv)
              refine pieceEnd_normal ⟨AnyW13.all _ _, ?_⟩
              obtain ⟨A5, c5, hv5, -⟩ := Row.of_own HO5.out
              subst hv5
              have HQ5 := Lib.hid (PQ.apd13 HQ.out (el + x) HB5.out HKP.out HO5.out HV.out)
              have hx5 := (HKP.out g5 hqs hqn).trans HQ.out.px
              clear HQ HR3 HO5 HB5 HKP HV hqs hqn hwz
              refine flow_reads (F := AnyW13) (fun _ => AnyW13.all _ _) (by kernel_rfl) [15] (fuel := 1) (by kernel_rfl) ?_
              simp only [List.map_cons, List.map_nil, pick, List.getD_cons_zero, List.getD_cons_succ]
              repeat (go_big_quiet_step (fail))
              refine wpQuiet_nil ?_
              refine flow_one (F := AnyW13) (fun _ _ _ _ _ => AnyW13.all _ _) (fun _ => AnyW13.all _ _) 16 (by kernel_rfl) (by decide) ?_
              simp only [pick, List.getD_cons_zero, List.getD_cons_succ]
              have hz5 : z5.cell? ⟨g5, 1, none⟩ = some (.slice (some ⟨bt, 0, none⟩) p.tb.length ct) := (cell_of_row _ _ 1 _ _ _ hx5).trans rfl
              have hfz5 : z5.frozen? ⟨g5, 1, none⟩ = false := by unfold World.frozen?; rw [hx5]; simp
              clear hx5
              go_wp2_with fail
              refine pieceEnd_normal ⟨AnyW13.all _ _, ?_⟩
              refine flow_done (by kernel_rfl) ?_
              go_wp2_with fail
              go_meet
              exact ⟨G.sz, _, _, _, Lib.hid (HDT.out _ HQ5.out (by show p.sd.length ≤ 100; omega) (by simp; omega))⟩
             ·
              go_wp2_with fail
              have hb := one_new za64 (.cells #[.int .i64 (el + x)] 3)
              refine pieceEnd_normal ⟨AnyW13.all _ _, ?_⟩
              have HR3 : Hid (Row (za64.alloc (.cells #[.int .i64 (el + x)] 3)) (some ⟨za64.heap.size, 0, none⟩) 1 1 1 (intsV [el + x])) := Lib.hid (Row.of_block (heap_alloc_new _ _) rfl)
              replace HQ := Lib.hid (HQ.out.later hb)
              clear hb
              generalize za64.alloc (.cells #[.int .i64 (el + x)] 3) = za74 at *
              generalize za64.heap.size = s3 at *
              refine flow_one (F := AnyW13) (fun _ _ _ _ _ => AnyW13.all _ _) (fun _ => AnyW13.all _ _) 1 (by kernel_rfl) (by decide) ?_
              simp only [pick, List.getD_cons_zero, List.getD_cons_succ]
              have hcq : za74.cell? ⟨g5, 1, none⟩ = some (.slice (some ⟨bt, 0, none⟩) p.tb.length ct) := (cell_of_row _ _ 1 _ _ _ HQ.out.px).trans rfl
              go_wp2_with fail
              clear hcq
              refine pieceEnd_normal ⟨AnyW13.all _ _, ?_⟩
              refine flow_one (F := AnyW13) (fun _ _ _ _ _ => AnyW13.all _ _) (fun _ => AnyW13.all _ _) 14 (by kernel_rfl) (by decide) ?_
              simp only [pick, List.getD_cons_zero, List.getD_cons_succ]
              have hwz := HQ.out.sz
              have hqs : g5 < za74.heap.size := (Array.getElem?_eq_some_iff.1 HQ.out.px).1
              have hqn : (Value.slice (some ⟨bt, 0, none⟩) p.tb.length ct).ownBlock ≠ some g5 := fun h => own_neqT12 HQ.out.tb HQ.out.px (by decide) g5 h rfl
              go_wp2_with (at_builtin; go_must (refine wpList_app2 za74 rfl (.tmp 73) (.tmp 85) 22 22 3 rfl y0.heap.size Try.underlying22 i64_info rfl _ p.tb.length (intsV p.tb) HQ.out.tb rfl _ 1 (intsV [el + x]) (Row.src HR3.out Try.underlying22 (intsV_one _)) rfl (by unfold maxLen; omega) (by omega) hwz ?_); intro v5 z5 ho hb hkp hv; have HO5 := Lib.hid ho; have HB5 := Lib.hid hb; have HKP := Lib.hid hkp; have HV := Lib.hid hv; clear ho hb hkp hv)
              refine pieceEnd_normal ⟨AnyW13.all _ _, ?_⟩
              obtain ⟨A5, c5, hv5, -⟩ := Row.of_own HO5.out
              subst hv5
              have HQ5 := Lib.hid (PQ.apd13 HQ.out (el + x) HB5.out HKP.out HO5.out HV.out)
              have hx5 := (HKP.out g5 hqs hqn).trans HQ.out.px
              clear HQ HR3 HO5 HB5 HKP HV hqs hqn hwz
              refine flow_reads (F := AnyW13) (fun _ => AnyW13.all _ _) (by kernel_rfl) [15] (fuel := 1) (by kernel_rfl) ?_
              simp only [List.map_cons, List.map_nil, pick, List.getD_cons_zero, List.getD_cons_succ]
              repeat (go_big_quiet_step (fail))
              refine wpQuiet_nil ?_
              refine flow_one (F := AnyW13) (fun _ _ _ _ _ => AnyW13.all _ _) (fun _ => AnyW13.all _ _) 16 (by kernel_rfl) (by decide) ?_
              simp only [pick, List.getD_cons_zero, List.getD_cons_succ]
              have hz5 : z5.cell? ⟨g5, 1, none⟩ = some (.slice (some ⟨bt, 0, none⟩) p.tb.length ct) := (cell_of_row _ _ 1 _ _ _ hx5).trans rfl
              have hfz5 : z5.frozen? ⟨g5, 1, none⟩ = false := by unfold World.frozen?; rw [hx5]; simp
              clear hx5
              go_wp2_with fail
              refine pieceEnd_normal ⟨AnyW13.all _ _, ?_⟩
              refine flow_done (by kernel_rfl) ?_
              go_wp2_with fail
              go_meet
              exact ⟨G.sz, _, _, _, Lib.hid (HDT.out _ HQ5.out (by show p.sd.length ≤ 100; omega) (by simp; omega))⟩
      · go_wp2_with fail
        have hb := one_new y9 (.cells #[.int .i64 0, .int .i64 4, .int .i64 nn] 3)
        have HR3 : Hid (Row (y9.alloc (.cells #[.int .i64 0, .int .i64 4, .int .i64 nn] 3)) (some ⟨y9.heap.size, 0, none⟩) 3 3 1 (intsV [0, 4, nn])) := Lib.hid (Row.of_block (heap_alloc_new _ _) rfl)
        have HZD : Hid (y9.heap.size ≠ D) := Lib.hid (by have h1 := HQ.out.dq; have h2 := HQ.out.sz; omega)
        replace HQ := Lib.hid (HQ.out.later hb)
        clear hb
        generalize y9.alloc (.cells #[.int .i64 0, .int .i64 4, .int .i64 nn] 3) = z1 at *
        generalize y9.heap.size = s0 at *
        have HC := Lib.hid (of_g w.heap.size D t (some ⟨s0, 0, none⟩) 3 3 [0, 4, nn] z1 HQ.out.dice HR3.out (fun ad e => by injection e with e; subst e; exact HZD.out) (by decide) (by decide))
        refine HC.out.mono ?_
        rintro e zo ⟨x, rfl, -, hg⟩
        replace HQ := Lib.hid (HQ.out.gave hg)
        clear hg HC HR3 HZD
        have hfz : zo.frozen? ⟨g5, 2, none⟩ = false := by unfold World.frozen?; rw [HQ.out.px]; simp
        have hc : zo.cell? ⟨g5, 2, none⟩ = some (.int .i64 p.lv) := (cell_of_row _ _ 2 _ _ _ HQ.out.px).trans rfl
        go_wp2_with fail
        go_meet
        exact ⟨G.sz, ⟨p.sd, p.tb, x⟩, _, _, Lib.hid (HDT.out _ (HQ.out.cell (q' := ⟨p.sd, p.tb, x⟩) (Below.refl _ _) rfl rfl HQ.out.sd HQ.out.tb HQ.out.ap) (by show p.sd.length ≤ 100; omega) (by show p.tb.length ≤ 100; omega))⟩
      · go_wp2_with fail
        have hb := one_new y9 (.cells #[.int .i64 65, .int .i64 (-1), .int .i64 0] 3)
        have HR3 : Hid (Row (y9.alloc (.cells #[.int .i64 65, .int .i64 (-1), .int .i64 0] 3)) (some ⟨y9.heap.size, 0, none⟩) 3 3 1 (intsV [65, -1, 0])) := Lib.hid (Row.of_block (heap_alloc_new _ _) rfl)
        have HZD : Hid (y9.heap.size ≠ D) := Lib.hid (by have h1 := HQ.out.dq; have h2 := HQ.out.sz; omega)
        replace HQ := Lib.hid (HQ.out.later hb)
        clear hb
        generalize y9.alloc (.cells #[.int .i64 65, .int .i64 (-1), .int .i64 0] 3) = z1 at *
        generalize y9.heap.size = s0 at *
        have HC := Lib.hid (of_g w.heap.size D t (some ⟨s0, 0, none⟩) 3 3 [65, -1, 0] z1 HQ.out.dice HR3.out (fun ad e => by injection e with e; subst e; exact HZD.out) (by decide) (by decide))
        refine HC.out.mono ?_
        rintro e zo ⟨x, rfl, -, hg⟩
        replace HQ := Lib.hid (HQ.out.gave hg)
        clear hg HC HR3 HZD
        have HPX := Lib.hid (HDT.out _ HQ.out (by omega) (by omega))
        have hfz : zo.frozen? ⟨g0, 0, none⟩ = false := by unfold World.frozen?; rw [HPX.out.ds.box]; simp
        have hc : zo.cell? ⟨g0, 0, none⟩ = some (.int .i64 G.sz) := (cell_of_row _ _ 0 _ _ _ HPX.out.ds.box).trans rfl
        go_wp2_with fail
        go_meet
        exact ⟨x, p, _, _, Lib.hid (HPX.out.size x)⟩
    case rest =>
      clear HQ HDT HD0
      obtain ⟨zz, q, s1, t1, HX⟩ := hcut
      go_upto_region 25 with fail
      obtain ⟨n0, hn0⟩ : ∃ n0, wc.drew.heap.size = n0 := ⟨_, rfl⟩
      refine wp_region_grow (by kernel_rfl) (BN D n0) (BN.refl D n0) (fun _ _ _ => BN.trans) [7, 8] [([], 0), ([1, 2, 3, 4], 5), ([], 6)] (by kernel_rfl) (by kernel_rfl) (by kernel_rfl) ?_
      simp only [List.map_cons, List.map_nil, pick, List.getD_cons_zero, List.getD_cons_succ]
      replace HX := Lib.hid (HX.out.later (Below.refl _ _).drew)
      have HN : Hid (n0 ≤ wc.drew.heap.size) := Lib.hid (Nat.le_of_eq hn0.symm)
      have HGN : Hid (g0 < n0 ∧ D < g0) := Lib.hid ⟨by rw [← hn0]; exact (Array.getElem?_eq_some_iff.1 HX.out.ds.box).1, HX.out.ds.dg⟩
      have HG5 : Hid (g5 < n0 ∧ D < g5) := Lib.hid ⟨by rw [← hn0]; exact (Array.getElem?_eq_some_iff.1 HX.out.px).1, HX.out.pl⟩
      clear hn0
      generalize wc.drew = z0 at *
      refine wpGrow_cons ?_
      refine wpQuiet_nil ?_
      go_wp2_with fail
      refine (HAW.out z0).mono ?_
      rintro e z1 ⟨rfl, hb⟩
      have HF : Hid (BN D n0 z0 z1) := Lib.hid (BN.later hb HN.out)
      replace HX := Lib.hid (HX.out.later hb)
      replace HN := Lib.hid (Nat.le_trans HN.out hb.size)
      clear hb
      go_wp2_with fail
      refine pieceEnd_normal ⟨HF.out, ?_⟩
      clear HF
      have hfg : ∀ x, (loadVar 31 ⟨g0, 0, none⟩).run Try.prog (fut (BN D n0) z1 x) = .ok (.agg #[.int .i64 zz, .slice A n c, .slice B m k]) (fut (BN D n0) z1 x) := fun x => run_loadVar_row _ g0 31 31 #[.int .i64 zz, .slice A n c, .slice B m k] (0, 0) _ (((fut_ok (BN.refl D n0) z1 x).keep g0 HGN.out.1 (by have := HGN.out.2; omega)).trans HX.out.ds.box) Try.underlying31 rfl gr_size
      have hfp : ∀ x, (loadVar 24 ⟨g5, 0, none⟩).run Try.prog (fut (BN D n0) z1 x) = .ok (.agg #[s1, t1, .int .i64 q.lv]) (fut (BN D n0) z1 x) := fun x => run_loadVar_row _ g5 24 24 #[s1, t1, .int .i64 q.lv] (0, 0) _ (((fut_ok (BN.refl D n0) z1 x).keep g5 HG5.out.1 (by have := HG5.out.2; omega)).trans HX.out.px) Try.underlying24 rfl po_size
      refine wpGrow_cons ?_
      repeat (first | (refine wpQuiet_load rfl 31 (.tmp 6) rfl ⟨g0, 0, none⟩ rfl (.agg #[.int .i64 zz, .slice A n c, .slice B m k]) (fun w' h => by obtain ⟨x, rfl⟩ := h; exact hfg x) ?_; simp only [Act.put, List.setIfInBounds_toArray, List.set_cons_succ, List.set_cons_zero]) | (refine wpQuiet_load rfl 24 (.tmp 7) rfl ⟨g5, 0, none⟩ rfl (.agg #[s1, t1, .int .i64 q.lv]) (fun w' h => by obtain ⟨x, rfl⟩ := h; exact hfp x) ?_; simp only [Act.put, List.setIfInBounds_toArray, List.set_cons_succ, List.set_cons_zero]) | go_big_quiet_step (fail))
      refine wpQuiet_nil ?_
      clear hfg hfp
      go_wp2_with fail
      refine (some_g12 w.heap.size D t 9 z1 HX.out.ds.dice (by decide)).mono ?_
      rintro e z2 ⟨v1, S1, rfl, ho, hsl, hg⟩
      obtain ⟨A7, c7, rfl, hr⟩ := Row.of_own ho
      have HR1 : Hid (IRow z2 A7 S1.length c7 S1) := Lib.hid hr
      have HF : Hid (BN D n0 z1 z2) := Lib.hid (BN.but hg.2 HN.out)
      replace HX := Lib.hid (HX.out.gave hg)
      replace HN := Lib.hid (Nat.le_trans HN.out hg.2.size)
      clear hg hr ho
      go_wp2_with fail
      refine pieceEnd_normal ⟨HF.out, ?_⟩
      clear HF
      refine wpGrow_cons ?_
      refine wpQuiet_nil ?_
      have HC := Lib.hid (agree13_any HCC0.out ⟨zz, G.es, G.gn⟩ _ q _ A7 S1.length c7 S1 z2 HX.out.ds.hold HX.out.phold HLA.out HLB.out (Nat.le_trans HX.out.l1 (by decide)) (Nat.le_trans HX.out.l2 (by decide)) HR1.out (by omega))
      go_wp2_with fail
      refine HC.out.mono ?_
      rintro e z3 ⟨rfl, hb⟩
      have HF : Hid (BN D n0 z2 z3) := Lib.hid (BN.later hb HN.out)
      replace HX := Lib.hid (HX.out.later hb)
      clear hb HC HR1
      go_wp2_with fail
      refine pieceEnd_normal ⟨HF.out, ?_⟩
      refine wpGrow_nil ?_
      repeat (go_big_quiet_step (fail))
      refine wpQuiet_nil ?_
      go_wp2_with fail
      go_ret
      exact ⟨rfl, HX.out.ds.base⟩
  · have gd0 : decide (tn ≤ 400) = false := decide_eq_false hn
    go_wp2_with fail
    clear gd0
    refine (HAW.out w).mono ?_
    rintro e w1 ⟨rfl, hb⟩
    have HB := Lib.hid hb; clear hb
    go_wp2_with fail
    go_ret
    exact ⟨rfl, HB.out⟩
end Go.Proofs.Ytdildmfjekdlgaa
