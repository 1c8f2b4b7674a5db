import Derived.Test.YtikmffdmgnjpbaaPackAQ
import Derived.Test.YtikmffdmgnjpbaaPackAR
import Derived.Test.YtikmffdmgnjpbaaPackAC
import Derived.Deep.LoopGhost
import Derived.Test.YtikmffdmgnjpbaaPackAJ
/- The walk of distance's search. -/
namespace Go.Proofs.Ytikmffdmgnjpbaa
open Go.RowKit
set_option maxRecDepth 100000 in
set_option maxHeartbeats 4000000 in
theorem search_any (G : Gr) (v : Value) (A2 : Option Addr) (n2 c2 : Nat) (seeds : List Int) (w : World) (h : GHold w G v) (hgd : Good11 G) (hs : IRow w A2 n2 c2 seeds) (hn2 : n2 ≤ 100000) : Calls Try.prog 27 #[v, .slice A2 n2 c2] w (GivesSr G seeds w) := by
  have HGH := Lib.hid h
  obtain ⟨A, n, c, B, m, k, rfl, h1, h2⟩ := h
  have HNW := Lib.hid (one_new w (.cells #[.int .i64 G.sz, .slice A n c, .slice B m k] 29))
  have HX : Hid ((w.alloc (.cells #[.int .i64 G.sz, .slice A n c, .slice B m k] 29)).heap[w.heap.size]? = some (.cells #[.int .i64 G.sz, .slice A n c, .slice B m k] 29 (0, 0))) := Lib.hid (heap_alloc_new _ _)
  have HCK : Hid (∀ y, Below w.heap.size w y → Calls Try.prog 35 #[.agg #[.int .i64 G.sz, .slice A n c, .slice B m k]] y (SaysL (.int .i64 0) y)) := Lib.hid fun y hy => by
    have h := checkGr_any G _ y (HGH.out.later hy) hgd.few.1 hgd.few.2
    unfold checkG at h
    rw [if_pos ((okG_iff G).2 hgd)] at h
    exact h
  have HFI : Hid (∀ y, Below w.heap.size w y → Calls Try.prog 37 #[.agg #[.int .i64 G.sz, .slice A n c, .slice B m k], .slice A2 n2 c2] y fun e w' => ∃ v', e = .returned v' ∧ w'.ownsRow y.heap.size 3 1 v' (firstS (seedB G.gn seeds) G.sz.toNat).length (intsV (firstS (seedB G.gn seeds) G.sz.toNat)) ∧ Below y.heap.size y w') := Lib.hid fun y hy => first_any G _ A2 n2 c2 seeds y (HGH.out.later hy) hgd (hs.later hy) hn2
  have HOU : Hid (∀ y key, Below w.heap.size w y → Calls Try.prog 38 #[.agg #[.int .i64 G.sz, .slice A n c, .slice B m k], .int .i64 key] y fun e w' => ∃ v', e = .returned v' ∧ w'.ownsRow y.heap.size 3 1 v' (outS G.es key).length (intsV (outS G.es key)) ∧ Below y.heap.size y w') := Lib.hid fun y key hy => outGr_own G _ key y (HGH.out.later hy) hgd.few.1
  have HIZ := Lib.hid (good_inZ hgd)
  have HASC : Hid (∀ key, (outS G.es key).Pairwise (· < ·)) := Lib.hid fun key => outS_asc hgd.asc key
  have HOL : Hid (∀ key, (outS G.es key).length ≤ 500) := Lib.hid fun key => by
    have h1 := outS_len G.es key G.es.length (Nat.le_refl _)
    rw [List.take_length] at h1
    exact Nat.le_trans h1 hgd.len
  have hlo := hgd.lo
  have hhi := hgd.hi
  obtain ⟨z, hz⟩ : ∃ z : Nat, G.sz.toNat = z := ⟨_, rfl⟩
  have HGZ : Hid (G.sz = (z : Int)) := Lib.hid (by omega)
  have hz64 : z ≤ 64 := by omega
  have hz1 : z ≤ 100000 := by omega
  unfold GivesSr
  rw [hz] at HFI HIZ ⊢
  clear hz hlo hhi h1 h2 hs hgd HGH
  generalize seedB G.gn seeds = sd at *
  generalize G.es = es at *
  go_enter Try.func27, Try.ntmps27
  go_upto_region 1 with fail
  have HBW : Hid (w.heap.size + 1 = (w.alloc (.cells #[.int .i64 G.sz, .slice A n c, .slice B m k] 29)).heap.size) := Lib.hid (by simp)
  generalize w.alloc (.cells #[.int .i64 G.sz, .slice A n c, .slice B m k] 29) = y0 at *
  generalize hg0 : w.heap.size = g0 at *
  have HG0 := Lib.hid hg0
  clear hg0
  go_wp2_with (refine wpList_load_row rfl 29 (.tmp 2) rfl g0 rfl 29 #[.int .i64 G.sz, .slice A n c, .slice B m k] (0, 0) _ HX.out Try.underlying29 rfl gr_size ?_)
  refine (HCK.out y0 HNW.out).mono ?_
  rintro e w1 ⟨rfl, hb⟩
  have HB := Lib.hid hb
  clear hb HCK
  have HX1 : Hid (w1.heap[g0]? = _) := Lib.hid ((HB.out.block _ (by have := HBW.out; omega)).trans HX.out)
  go_upto_region 3 with fail
  go_cut [4, 5] (fun v4 v5 wx => ∃ gd gb, v4 = .slice (some ⟨gd, 0, none⟩) z z ∧ v5 = .slice (some ⟨gb, 0, none⟩) z z ∧ Hid (Below y0.heap.size y0 wx ∧ IBlk wx gd (List.replicate z (-1)) ∧ IBlk wx gb (List.replicate z 0) ∧ y0.heap.size ≤ gd ∧ y0.heap.size ≤ gb ∧ gd ≠ gb))
  case first =>
    refine wp_region_flow (by kernel_rfl) Later ?_
    replace HB : Hid (Below y0.heap.size y0 w1.drew) := Lib.hid HB.out.drew
    replace HX1 : Hid (w1.drew.heap[g0]? = _) := HX1
    generalize w1.drew = z0 at *
    have hf0 : ∀ x, (fut Later z0 x).cell? ⟨g0, 0, none⟩ = some (.int .i64 G.sz) := fun x => (cell_of_row _ _ 0 _ _ _ (((fut_ok Later.refl z0 x).block _ (Array.getElem?_eq_some_iff.1 HX1.out).1).trans HX1.out)).trans rfl
    rw [HGZ.out] at hf0
    clear HX1
    refine flow_reads (F := Later) Later.refl (by kernel_rfl) [1, 2, 4, 5] (fuel := 5) (by kernel_rfl) ?_
    simp only [List.map_cons, List.map_nil, pick, List.getD_cons_zero, List.getD_cons_succ]
    repeat (go_big_quiet_step (fail))
    refine wpQuiet_nil ?_
    clear hf0
    refine flow_two (F := Later) (fun _ _ _ => Later.trans) Later.refl 0 6 (by kernel_rfl) (by decide) (by decide) ?_ ?_ <;> simp only [pick, List.getD_cons_zero, List.getD_cons_succ]
    · skip
      go_wp2_with fail
      have hb := one_new z0 (.cells #[.int .i64 (-1)] 3)
      refine pieceEnd_normal ⟨hb, ?_⟩
      replace HB := Lib.hid (HB.out.trans (hb.mono HB.out.size))
      have HA : Hid (IBlk (z0.alloc (.cells #[.int .i64 (-1)] 3)) z0.heap.size [-1]) := Lib.hid (heap_alloc_new _ _)
      clear hb
      generalize z0.alloc (.cells #[.int .i64 (-1)] 3) = z1 at *
      generalize z0.heap.size = p2 at *
      refine flow_two (F := Later) (fun _ _ _ => Later.trans) Later.refl 3 6 (by kernel_rfl) (by decide) (by decide) ?_ ?_ <;> simp only [pick, List.getD_cons_zero, List.getD_cons_succ]
      · skip
        go_wp2_with fail
        refine (repeat_any (-1) z hz1 (some ⟨p2, 0, none⟩) 1 z1 HA.out.row).mono ?_
        rintro e z3 ⟨rfl, hg, hb⟩
        have HF := Lib.hid hb
        have hgd := HB.out.size
        replace HB := Lib.hid (HB.out.trans (hb.mono HB.out.size))
        replace HA := Lib.hid (HA.out.later hb)
        have HD : Hid (IBlk z3 z1.heap.size (List.replicate z (-1))) := Lib.hid hg
        have HGD : Hid (y0.heap.size ≤ z1.heap.size) := Lib.hid hgd
        clear hb hg hgd HA
        go_wp2_with fail
        refine pieceEnd_normal ⟨HF.out, ?_⟩
        clear HF
        generalize z1.heap.size = gd4 at *
        refine flow_reads (F := Later) Later.refl (by kernel_rfl) [7] (fuel := 2) (by kernel_rfl) ?_
        simp only [List.map_cons, List.map_nil, pick, List.getD_cons_zero, List.getD_cons_succ]
        repeat (go_big_quiet_step (fail))
        refine wpQuiet_nil ?_
        refine flow_one (F := Later) (fun _ _ _ => Later.trans) Later.refl 6 (by kernel_rfl) (by decide) ?_
        simp only [pick, List.getD_cons_zero, List.getD_cons_succ]
        have hgb := HB.out.size
        go_wp2_with (at_make; go_must (refine wpList_make _ rfl (.tmp 20) (.tmp 20) 22 3 rfl z3.heap.size Try.underlying22 i64_info rfl z z rfl rfl rfl rfl (Nat.le_refl _) (by omega) (by unfold maxLen; omega) (Nat.le_refl _) ?_); intro z5 ho hb; have HM : Hid (IBlk z5 z3.heap.size (List.replicate z 0)) := Lib.hid (by have h := own_cells ho; unfold IBlk intsV; rw [List.map_replicate]; exact h); clear ho; have HF := Lib.hid hb; clear hb)
        refine pieceEnd_normal ⟨HF.out, ?_⟩
        have hb := HF.out
        have HNE : Hid (gd4 ≠ z3.heap.size) := Lib.hid (by have := HD.out.lt; omega)
        replace HB := Lib.hid (HB.out.trans (hb.mono HB.out.size))
        replace HD := Lib.hid (HD.out.later hb)
        have HGB : Hid (y0.heap.size ≤ z3.heap.size) := Lib.hid hgb
        clear hb hgb HF
        generalize z3.heap.size = gb6 at *
        refine flow_reads (F := Later) Later.refl (by kernel_rfl) [8] (fuel := 0) (by kernel_rfl) ?_
        simp only [List.map_cons, List.map_nil, pick, List.getD_cons_zero, List.getD_cons_succ]
        repeat (go_big_quiet_step (fail))
        refine wpQuiet_nil ?_
        refine flow_done (by kernel_rfl) ?_
        go_wp2_with fail
        go_meet
        exact ⟨gd4, gb6, rfl, rfl, Lib.hid ⟨HB.out, HD.out, HM.out, HGD.out, HGB.out, HNE.out⟩⟩
      · skip
        have hgb := HB.out.size
        go_wp2_with (at_make; go_must (refine wpList_make _ rfl (.tmp 20) (.tmp 20) 22 3 rfl z1.heap.size Try.underlying22 i64_info rfl z z rfl rfl rfl rfl (Nat.le_refl _) (by omega) (by unfold maxLen; omega) (Nat.le_refl _) ?_); intro z7 ho hb; have HM : Hid (IBlk z7 z1.heap.size (List.replicate z 0)) := Lib.hid (by have h := own_cells ho; unfold IBlk intsV; rw [List.map_replicate]; exact h); clear ho; have HF := Lib.hid hb; clear hb)
        refine pieceEnd_normal ⟨HF.out, ?_⟩
        have hb := HF.out
        replace HB := Lib.hid (HB.out.trans (hb.mono HB.out.size))
        replace HA := Lib.hid (HA.out.later hb)
        have HGB : Hid (y0.heap.size ≤ z1.heap.size) := Lib.hid hgb
        clear hb hgb HF
        generalize z1.heap.size = gb8 at *
        refine flow_one (F := Later) (fun _ _ _ => Later.trans) Later.refl 3 (by kernel_rfl) (by decide) ?_
        simp only [pick, List.getD_cons_zero, List.getD_cons_succ]
        go_wp2_with fail
        refine (repeat_any (-1) z hz1 (some ⟨p2, 0, none⟩) 1 z7 HA.out.row).mono ?_
        rintro e z9 ⟨rfl, hg, hb⟩
        have HF := Lib.hid hb
        have hgd := HB.out.size
        have HNE : Hid (z7.heap.size ≠ gb8) := Lib.hid (by have := HM.out.lt; omega)
        replace HB := Lib.hid (HB.out.trans (hb.mono HB.out.size))
        replace HA := Lib.hid (HA.out.later hb)
        replace HM := Lib.hid (HM.out.later hb)
        have HD : Hid (IBlk z9 z7.heap.size (List.replicate z (-1))) := Lib.hid hg
        have HGD : Hid (y0.heap.size ≤ z7.heap.size) := Lib.hid hgd
        clear hb hg hgd HA
        go_wp2_with fail
        refine pieceEnd_normal ⟨HF.out, ?_⟩
        clear HF
        generalize z7.heap.size = gd10 at *
        refine flow_reads (F := Later) Later.refl (by kernel_rfl) [7, 8] (fuel := 0) (by kernel_rfl) ?_
        simp only [List.map_cons, List.map_nil, pick, List.getD_cons_zero, List.getD_cons_succ]
        repeat (go_big_quiet_step (fail))
        refine wpQuiet_nil ?_
        refine flow_done (by kernel_rfl) ?_
        go_wp2_with fail
        go_meet
        exact ⟨gd10, gb8, rfl, rfl, Lib.hid ⟨HB.out, HD.out, HM.out, HGD.out, HGB.out, HNE.out⟩⟩
    · skip
      have hgb := HB.out.size
      go_wp2_with (at_make; go_must (refine wpList_make _ rfl (.tmp 20) (.tmp 20) 22 3 rfl z0.heap.size Try.underlying22 i64_info rfl z z rfl rfl rfl rfl (Nat.le_refl _) (by omega) (by unfold maxLen; omega) (Nat.le_refl _) ?_); intro z11 ho hb; have HM : Hid (IBlk z11 z0.heap.size (List.replicate z 0)) := Lib.hid (by have h := own_cells ho; unfold IBlk intsV; rw [List.map_replicate]; exact h); clear ho; have HF := Lib.hid hb; clear hb)
      refine pieceEnd_normal ⟨HF.out, ?_⟩
      have hb := HF.out
      replace HB := Lib.hid (HB.out.trans (hb.mono HB.out.size))
      have HGB : Hid (y0.heap.size ≤ z0.heap.size) := Lib.hid hgb
      clear hb hgb HF
      generalize z0.heap.size = gb12 at *
      refine flow_one (F := Later) (fun _ _ _ => Later.trans) Later.refl 0 (by kernel_rfl) (by decide) ?_
      simp only [pick, List.getD_cons_zero]
      go_wp2_with fail
      have hb := one_new z11 (.cells #[.int .i64 (-1)] 3)
      refine pieceEnd_normal ⟨hb, ?_⟩
      replace HB := Lib.hid (HB.out.trans (hb.mono HB.out.size))
      replace HM := Lib.hid (HM.out.later hb)
      have HA : Hid (IBlk (z11.alloc (.cells #[.int .i64 (-1)] 3)) z11.heap.size [-1]) := Lib.hid (heap_alloc_new _ _)
      clear hb
      generalize z11.alloc (.cells #[.int .i64 (-1)] 3) = z13 at *
      generalize z11.heap.size = p14 at *
      refine flow_one (F := Later) (fun _ _ _ => Later.trans) Later.refl 3 (by kernel_rfl) (by decide) ?_
      simp only [pick, List.getD_cons_zero, List.getD_cons_succ]
      go_wp2_with fail
      refine (repeat_any (-1) z hz1 (some ⟨p14, 0, none⟩) 1 z13 HA.out.row).mono ?_
      rintro e z15 ⟨rfl, hg, hb⟩
      have HF := Lib.hid hb
      have hgd := HB.out.size
      have HNE : Hid (z13.heap.size ≠ gb12) := Lib.hid (by have := HM.out.lt; omega)
      replace HB := Lib.hid (HB.out.trans (hb.mono HB.out.size))
      replace HA := Lib.hid (HA.out.later hb)
      replace HM := Lib.hid (HM.out.later hb)
      have HD : Hid (IBlk z15 z13.heap.size (List.replicate z (-1))) := Lib.hid hg
      have HGD : Hid (y0.heap.size ≤ z13.heap.size) := Lib.hid hgd
      clear hb hg hgd HA
      go_wp2_with fail
      refine pieceEnd_normal ⟨HF.out, ?_⟩
      clear HF
      generalize z13.heap.size = gd16 at *
      refine flow_reads (F := Later) Later.refl (by kernel_rfl) [7, 8] (fuel := 0) (by kernel_rfl) ?_
      simp only [List.map_cons, List.map_nil, pick, List.getD_cons_zero, List.getD_cons_succ]
      repeat (go_big_quiet_step (fail))
      refine wpQuiet_nil ?_
      refine flow_done (by kernel_rfl) ?_
      go_wp2_with fail
      go_meet
      exact ⟨gd16, gb12, rfl, rfl, Lib.hid ⟨HB.out, HD.out, HM.out, HGD.out, HGB.out, HNE.out⟩⟩
  case rest =>
    obtain ⟨gd, gb, rfl, rfl, HC⟩ := hcut
    clear HB HX1
    have HXc : Hid (wc.heap[g0]? = _) := Lib.hid ((HC.out.1.block _ (by have := HBW.out; omega)).trans HX.out)
    have HWC : Hid (Below g0 w wc) := Lib.hid (HNW.out.trans (HC.out.1.mono (by have := HBW.out; omega)))
    go_wp2_with (refine wpList_load_row rfl 29 (.tmp 2) rfl g0 rfl 29 #[.int .i64 G.sz, .slice A n c, .slice B m k] (0, 0) _ HXc.out Try.underlying29 rfl gr_size ?_)
    refine (HFI.out wc (by have := HWC.out; have e := HG0.out; rw [← e] at this ⊢; exact this)).mono ?_
    rintro e w2 ⟨v6, rfl, ho, hb⟩
    have HS0 : Hid (SMem y0 y0.heap.size gd gb (List.replicate z (-1)) (List.replicate z 0) v6 (firstS sd z) w2) := Lib.hid
      ⟨HC.out.1.trans (hb.mono HC.out.1.size), Nat.le_trans HC.out.1.size hb.size, HC.out.2.1.later hb, HC.out.2.2.1.later hb, QOwn.of_own (own_mono ho HC.out.1.size), HC.out.2.2.2.1, HC.out.2.2.2.2.1, HC.out.2.2.2.2.2, fun e => by have h1 := own_ge ho gd e; have h2 := HC.out.2.1.lt; omega, fun e => by have h1 := own_ge ho gb e; have h2 := HC.out.2.2.1.lt; omega⟩
    have HLM : Hid (∀ k, k ∈ firstS sd z ↔ 0 ≤ k ∧ k < z ∧ sd k = true) := Lib.hid fun k => firstS_mem sd k z
    have HLA := Lib.hid (firstS_asc sd z)
    have HLL := Lib.hid (firstS_len sd z)
    generalize firstS sd z = L at *
    clear ho hb HC HXc HWC HFI
    obtain ⟨A6, c6, rfl, hr6⟩ := HS0.out.q.row
    clear hr6
    have hL64 : L.length ≤ 64 := by have := HLL.out; omega
    go_wp2_with fail
    go_loopw [27] (fun i wr => ∃ j : Nat, j ≤ L.length ∧ i = .int .i64 j ∧ Hid (SMem y0 y0.heap.size gd gb (zeroD (List.replicate z (-1)) (L.take j)) (List.replicate z 0) (.slice A6 L.length c6) L wr)) (fun i _ => L.length - (intOf i).toNat)
    case atStart => exact ⟨0, Nat.zero_le _, rfl, HS0⟩
    case round =>
      clear HS0
      obtain ⟨j, hj, rfl, HQ⟩ := hrel
      by_cases hlt : j < L.length
      · have hlt2 : (j : Int) < (L.length : Int) := by omega
        obtain ⟨A7, c7, he7, hr7⟩ := HQ.out.q.row
        injection he7 with e1 e2 e3
        subst e1 e3
        clear e2
        obtain ⟨b, off, hA, hc⟩ := IRow.cell (l := L) hr7 j hlt
        subst hA
        have hin := (HLM.out (L.getD j 0)).1 (by rw [List.getD_eq_getElem?_getD, List.getElem?_eq_getElem hlt]; exact List.getElem_mem hlt)
        have HZS := Lib.hid (zeroD_snoc (List.replicate z (-1)) L j hlt)
        obtain ⟨na, hna⟩ : ∃ na : Nat, L.getD j 0 = (na : Int) := ⟨(L.getD j 0).toNat, by omega⟩
        rw [hna] at hc hin HZS
        have hn1 : (na : Int) < (z : Int) := hin.2.1
        have HL0 := Lib.hid (zeroD_len (L.take j) (List.replicate z (-1)))
        rw [List.length_replicate] at HL0
        generalize zeroD (List.replicate z (-1)) (L.take j) = D at *
        have hdc := HQ.out.ds.cell na (by rw [HL0.out]; omega)
        have hdf := HQ.out.ds.frozen na
        clear hna hr7 hin
        generalize D.getD na 0 = old at *
        go_wp2_with fail
        have HN2 := Lib.hid (HQ.out.setd na 0)
        rw [Int.toNat_natCast] at HZS
        rw [← HZS.out] at HN2
        exact ⟨⟨j + 1, hlt, by go_num, HN2⟩, by simp [intOf]; omega⟩
      · have hlt2 : ¬ (j : Int) < (L.length : Int) := by omega
        have HS1 : Hid (SMem y0 y0.heap.size gd gb (zeroD (List.replicate z (-1)) L) (List.replicate z 0) (.slice A6 L.length c6) (keysQ (seedsQ L) 0) wr) := Lib.hid (by
          have h := HQ.out
          rw [List.take_of_length_le (by omega)] at h
          rw [keysQ_seeds]
          exact h)
        have HR1 : Hid (Srch z es sd 0 [] (seedsQ L) (zeroD (List.replicate z (-1)) L) (List.replicate z 0)) := Lib.hid (Srch.start HLA.out HLM.out (by rw [zeroD_len, List.length_replicate]) (by rw [List.length_replicate]) fun k k0 k1 => by
          rw [zeroD_at L _ (fun x hx => by rw [List.length_replicate]; have := (HLM.out x).1 hx; exact ⟨this.1, this.2.1⟩) k k0, dAt_rep (-1) rfl]
          by_cases hk : k ∈ L
          · rw [if_pos hk, if_pos ((HLM.out k).1 hk).2.2]
          · rw [if_neg hk, if_neg fun q => hk ((HLM.out k).2 ⟨k0, k1, q⟩)])
        clear HQ hj hlt
        generalize zeroD (List.replicate z (-1)) L = D1 at *
        generalize List.replicate z (0 : Int) = E1 at *
        generalize seedsQ L = T1 at *
        generalize Value.slice A6 L.length c6 = v6 at *
        clear HLM HLA HLL hL64
        go_wp2_with fail
        go_loopg [6] z (fun kx v wr => ∃ (h : Nat) (T : List Qd) (d bf : List Int), z - h ≤ kx ∧ Hid (Srch z es sd h [] T d bf ∧ SMem y0 y0.heap.size gd gb d bf v (keysQ T h) wr))
        case atStart => exact ⟨0, T1, D1, E1, Nat.le_refl _, Lib.hid ⟨HR1.out, HS1.out⟩⟩
        case round =>
          clear HS1 HR1
          obtain ⟨h, T, d, bf, hkx, HQ⟩ := hrel
          have hfew := HQ.out.1.few
          have hle := HQ.out.1.hle
          have HSR := Lib.hid HQ.out.1
          have HSM := Lib.hid HQ.out.2
          clear HQ
          obtain ⟨A7, c7, he7, hr7⟩ := HSM.out.q.row
          subst he7
          have hkl := keysQ_len T h
          by_cases hlt : h < T.length
          · obtain ⟨m2, hm2⟩ : ∃ m2, T.length - h = m2 + 1 := ⟨T.length - h - 1, by omega⟩
            have HKC := Lib.hid (keysQ_cons hlt)
            have hkm : (keysQ T h).length = m2 + 1 := by omega
            have HM2 : Hid ((keysQ T (h + 1)).length = m2) := Lib.hid (by rw [keysQ_len]; omega)
            rw [hkm] at hr7 ⊢
            have HSM2 := HSM.out
            rw [hkm, HKC.out] at HSM2
            have HTL := Lib.hid (HSM2.tail HM2.out)
            clear HSM2
            obtain ⟨b, off, hA, hc⟩ := IRow.cell (l := keysQ T h) hr7 0 (Nat.succ_pos _)
            have HZ0 : Hid ((keysQ T h).getD 0 0 = qk T h) := Lib.hid (by rw [HKC.out]; rfl)
            rw [HZ0.out] at hc
            have hin := HSR.out.inz h hlt
            obtain ⟨nk, hnk⟩ : ∃ nk : Nat, qk T h = (nk : Int) := ⟨(qk T h).toNat, by omega⟩
            have HNK := Lib.hid hnk
            rw [hnk] at hc hin
            clear hnk
            have hn1 : (nk : Int) < (z : Int) := hin.2
            have h0m : (0 : Int) < (m2 : Int) + 1 := by omega
            have h0m2 : 0 < m2 + 1 := Nat.succ_pos _
            have hm64 : m2 ≤ 64 := by omega
            have hsl := fun w' => run_slice_from (P := Try.prog) (t := 22) Try.underlying22 i64_size (A := A7) (n := m2 + 1) (c := c7) (k := 1) (i := 1) rfl (Nat.succ_le_succ (Nat.zero_le _)) .i64 w'
            simp only [Nat.add_sub_cancel] at hsl
            have HXr : Hid (wr.heap[g0]? = some (.cells #[.int .i64 G.sz, .slice A n c, .slice B m k] 29 (0, 0))) := Lib.hid ((HTL.out.base.block _ (by have := HBW.out; omega)).trans HX.out)
            have HWr : Hid (Below g0 w wr) := Lib.hid (HNW.out.trans (HTL.out.base.mono (by have := HBW.out; omega)))
            subst hA
            have hc2 : wr.cell? ⟨b, off, none⟩ = some (.int .i64 (nk : Int)) := hc
            clear hr7 hkl hkm HKC HZ0 HSM hin hc
            go_wp2_with (refine wpList_load_row rfl 29 (.tmp 2) rfl g0 rfl 29 #[.int .i64 G.sz, .slice A n c, .slice B m k] (0, 0) _ HXr.out Try.underlying29 rfl gr_size ?_)
            clear hsl hc2
            refine (HOU.out wr (nk : Int) HWr.out).mono ?_
            rintro e w3 ⟨v45, rfl, ho, hb⟩
            have HSO : Hid (SMemO y0 y0.heap.size gd gb d bf (.slice (dropA (some ⟨b, off, none⟩) c7 1 1) m2 (c7 - 1)) (keysQ T (h + 1)) v45 (outS es (nk : Int)) w3) := Lib.hid
              ⟨HTL.out.later hb, own_mono ho HTL.out.size, fun q hq => by
                have h1 := own_ge ho q hq
                refine ⟨?_, ?_, fun e => ?_⟩
                · have := HTL.out.ds.lt; omega
                · have := HTL.out.bs.lt; omega
                · have := (HTL.out.q.lt q e).2; omega⟩
            have HOA := Lib.hid (HASC.out (nk : Int))
            have HON := Lib.hid (HOL.out (nk : Int))
            have HOM : Hid (∀ x, x ∈ outS es (nk : Int) ↔ ∃ e ∈ es, e.fr = (nk : Int) ∧ e.tu = x) := Lib.hid fun x => outS_mem
            generalize outS es (nk : Int) = O at *
            generalize Value.slice (dropA (some ⟨b, off, none⟩) c7 1 1) m2 (c7 - 1) = v7 at *
            clear ho hb HTL HXr HWr h0m h0m2 hm64 HM2 hm2
            obtain ⟨A45, c45, rfl, hr45⟩ := Row.of_own HSO.out.o
            clear hr45
            have hO500 : O.length ≤ 500 := HON.out
            have HHT := Lib.hid hlt
            have HKX := Lib.hid hkx
            clear hlt hkx hfew hle
            go_wp2_with fail
            go_loopw [6, 47] (fun v i wr => ∃ j : Nat, j ≤ O.length ∧ i = .int .i64 j ∧ Hid (∃ (T : List Qd) (d bf : List Int), h < T.length ∧ qk T h = (nk : Int) ∧ Srch z es sd h (O.take j) T d bf ∧ SMemO y0 y0.heap.size gd gb d bf v (keysQ T (h + 1)) (.slice A45 O.length c45) O wr)) (fun _ i _ => O.length - (intOf i).toNat)
            case atStart => exact ⟨0, Nat.zero_le _, rfl, Lib.hid ⟨T, d, bf, HHT.out, HNK.out, HSR.out, HSO.out⟩⟩
            case round =>
              clear HSO HSR HHT HNK
              obtain ⟨j, hj, rfl, HQ⟩ := hrel
              obtain ⟨T2, d2, bf2, HE⟩ := HQ.out
              clear HQ
              have HT2 := Lib.hid HE.1
              have HK2 := Lib.hid HE.2.1
              have HSR := Lib.hid HE.2.2.1
              have HSO := Lib.hid HE.2.2.2
              clear HE
              by_cases hlt : j < O.length
              · have hlt2 : (j : Int) < (O.length : Int) := by omega
                obtain ⟨A8, c8, he8, hr8⟩ := Row.of_own HSO.out.o
                injection he8 with e1 e2 e3
                subst e1 e3
                clear e2
                obtain ⟨b8, off8, hA, hc⟩ := IRow.cell (l := O) hr8 j hlt
                subst hA
                have hmem : O.getD j 0 ∈ O := by rw [List.getD_eq_getElem?_getD, List.getElem?_eq_getElem hlt]; exact List.getElem_mem hlt
                have HED := Lib.hid ((HOM.out _).1 hmem)
                have hin : 0 ≤ O.getD j 0 ∧ O.getD j 0 < z := by
                  obtain ⟨e, he, e1, e2⟩ := HED.out
                  have h1 := HIZ.out e he
                  unfold InZ at h1
                  rw [← e2]
                  exact ⟨h1.2.2.1, h1.2.2.2⟩
                have HTK : Hid (O.take (j + 1) = O.take j ++ [O.getD j 0]) := Lib.hid (by rw [List.take_add_one, List.getElem?_eq_getElem hlt, List.getD_eq_getElem?_getD, List.getElem?_eq_getElem hlt]; rfl)
                have HPA : Hid (∀ x ∈ O.take j, x < O.getD j 0) := Lib.hid fun x hx => by
                  obtain ⟨i, hi, rfl⟩ := List.getElem_of_mem hx
                  rw [List.length_take] at hi
                  rw [List.getElem_take, List.getD_eq_getElem?_getD, List.getElem?_eq_getElem hlt]
                  exact List.pairwise_iff_getElem.1 HOA.out i j (by omega) hlt (by omega)
                obtain ⟨nx, hnx⟩ : ∃ nx : Nat, O.getD j 0 = (nx : Int) := ⟨(O.getD j 0).toNat, by omega⟩
                rw [hnx] at hc hin HTK HPA HED
                clear hnx hmem hr8
                have hn2 : (nx : Int) < (z : Int) := hin.2
                have hdl : nx < d2.length := by rw [HSR.out.len]; omega
                have hbl : nx < bf2.length := by rw [HSR.out.blen]; omega
                have hdc := HSO.out.mem.ds.cell nx hdl
                rw [dAt_cell hdl] at hdc
                have hdf := HSO.out.mem.ds.frozen nx
                have HLO := Lib.hid (HSR.out.low (nx : Int) hin.1 hin.2)
                by_cases hnew : dAt d2 (nx : Int) = -1
                · have b0 : (dAt d2 (nx : Int) == -1) = true := by rw [hnew]; rfl
                  have HNEW := Lib.hid hnew
                  have HDK := Lib.hid (HSR.out.nn h HT2.out)
                  have HDL := Lib.hid (HSR.out.dle h HT2.out)
                  have HTZ := Lib.hid HSR.out.few
                  have hkl2 : nk < d2.length := by rw [HSR.out.len]; omega
                  have hkc := HSO.out.mem.ds.cell nk hkl2
                  rw [dAt_cell hkl2] at hkc
                  have hdk : 0 ≤ dAt d2 (nk : Int) ∧ dAt d2 (nk : Int) ≤ 64 := by
                    have h1 := HDK.out
                    have h2 := HDL.out
                    have h3 := HTZ.out
                    have h4 := HT2.out
                    rw [HK2.out] at h1 h2
                    exact ⟨h1, by omega⟩
                  have HNS : Hid (Srch z es sd h (O.take (j + 1)) (T2 ++ [⟨h + 1, (nx : Int)⟩]) (d2.set nx (dAt d2 (nk : Int) + 1)) (bf2.set nx (nk : Int))) := Lib.hid (by
                    have h1 := HSR.out.new HT2.out hin.1 hin.2 HNEW.out (by rw [HK2.out]; exact HED.out) HPA.out
                    rw [HK2.out, Int.toNat_natCast] at h1
                    rw [HTK.out]
                    exact h1)
                  generalize dAt d2 (nk : Int) = dk at *
                  have dk0 := hdk.1
                  have dk1 := hdk.2
                  have HS1 := Lib.hid (HSO.out.setd nx (dk + 1))
                  have hbc := HS1.out.mem.bs.cell nx hbl
                  have hbf := HS1.out.mem.bs.frozen nx
                  have HS2 := Lib.hid (HS1.out.setb nx (nk : Int))
                  generalize bf2.getD nx 0 = ob at *
                  rw [hnew] at hdc
                  clear hnew HLO HDK HDL hdk HSO
                  go_upto_region 18 with fail
                  clear hdc hdf hkc hbc hbf HS1
                  generalize (wr.setCell ⟨gd, nx, none⟩ (.int .i64 (dk + 1))).setCell ⟨gb, nx, none⟩ (.int .i64 (nk : Int)) = w4 at *
                  have HQN := Lib.hid HS2.out.mem.q
                  have HQL : Hid ((keysQ T2 (h + 1)).length ≤ 64) := Lib.hid (by rw [keysQ_len]; have := HTZ.out; omega)
                  have hql := HQL.out
                  have hbs := HS2.out.mem.size
                  have HKS : Hid (keysQ (T2 ++ [⟨h + 1, (nx : Int)⟩]) (h + 1) = keysQ T2 (h + 1) ++ [(nx : Int)]) := Lib.hid (keysQ_snoc HT2.out ⟨h + 1, (nx : Int)⟩)
                  have HKN : Hid (qk (T2 ++ [⟨h + 1, (nx : Int)⟩]) h = (nk : Int)) := Lib.hid (by rw [qk_lo _ HT2.out]; exact HK2.out)
                  have HTN : Hid (h < (T2 ++ [(⟨h + 1, (nx : Int)⟩ : Qd)]).length) := Lib.hid (by rw [List.length_append]; have := HT2.out; omega)
                  generalize T2 ++ [(⟨h + 1, (nx : Int)⟩ : Qd)] = T3 at *
                  generalize d2.set nx (dk + 1) = d3 at *
                  generalize bf2.set nx (nk : Int) = bf3 at *
                  go_wp2_with (at_builtin; go_must (refine wpList_appQ_new w4 rfl (.tmp 68) (.tmp 70) 22 rfl y0.heap.size Try.underlying22 i64_info rfl _ (keysQ T2 (h + 1)).length (intsV (keysQ T2 (h + 1))) HQN.out rfl #[.int .i64 (nx : Int)] rfl (by simp [Value.oneCell']) rfl rfl (by unfold maxLen; omega) (by omega) hbs ?_); intro v9 w9 hq9 hb9 hk9 ho9; have HS9 := Lib.hid (HS2.out.app hq9 hb9 hk9 ho9); clear hq9 hb9 hk9 ho9)
                  exact ⟨⟨j + 1, hlt, by go_num, Lib.hid ⟨T3, d3, bf3, HTN.out, HKN.out, HNS.out, by rw [HKS.out]; exact HS9.out⟩⟩, by simp [intOf]; omega⟩
                · have b0 : (dAt d2 (nx : Int) == -1) = false := by rw [beq_eq_false_iff_ne]; exact hnew
                  have HNN : Hid (0 ≤ dAt d2 (nx : Int)) := Lib.hid (by have := HLO.out; omega)
                  have HOLD : Hid (Srch z es sd h (O.take (j + 1)) T2 d2 bf2) := Lib.hid (by rw [HTK.out]; exact HSR.out.old hin.1 hin.2 HNN.out)
                  clear hnew HLO hdf HNN hin
                  generalize dAt d2 (nx : Int) = dv at *
                  go_wp2_with fail
                  exact ⟨⟨j + 1, hlt, by go_num, Lib.hid ⟨T2, d2, bf2, HT2.out, HK2.out, HOLD.out, HSO.out⟩⟩, by simp [intOf]; omega⟩
              · have hlt2 : ¬ (j : Int) < (O.length : Int) := by omega
                have HNX : Hid (Srch z es sd (h + 1) [] T2 d2 bf2) := Lib.hid (HSR.out.next HT2.out fun e he hf => by
                  rw [List.take_of_length_le (by omega)]
                  exact (HOM.out _).2 ⟨e, he, hf.trans HK2.out, rfl⟩)
                have HTZ := Lib.hid HSR.out.few
                go_wp2_with fail
                go_roundg (z - (h + 1))
                case measure => have h1 := HTZ.out; have h2 := HT2.out; have h3 := HKX.out; omega
                case rel => exact ⟨h + 1, T2, d2, bf2, Nat.le_refl _, Lib.hid ⟨HNX.out, HSO.out.mem⟩⟩
          · have hh : h = T.length := by omega
            have hk0 : keysQ T h = [] := List.eq_nil_of_length_eq_zero (by omega)
            rw [hk0] at HSM ⊢
            rw [hh] at HSR
            clear hr7 hkl hkx hfew hle hlt hk0 hh
            go_wp2_with fail
            go_ret2
            have h1 := HSM.out
            exact ⟨gd, gb, d, bf, T, rfl, h1.ds, h1.bs, HSR.out, by have := HBW.out; have := HG0.out; have := h1.hd; omega, by have := HBW.out; have := HG0.out; have := h1.hb; omega, h1.ne, by have e := HG0.out; rw [e]; exact HNW.out.trans (h1.base.mono (by have := HBW.out; omega))⟩
end Go.Proofs.Ytikmffdmgnjpbaa
/- The walk of distance's All. -/
namespace Go.Proofs.Ytikmffdmgnjpbaa
open Go.RowKit
/-- What All gives. -/
def GivesAll (G : Gr) (seeds : List Int) (w : World) (e : Ending) (w' : World) : Prop := ∃ gd, e = .returned (.slice (some ⟨gd, 0, none⟩) G.sz.toNat G.sz.toNat) ∧ IBlk w' gd (allD G seeds) ∧ w.heap.size ≤ gd ∧ Below w.heap.size w w'
set_option maxRecDepth 100000 in
set_option maxHeartbeats 4000000 in
theorem all_any (G : Gr) (v : Value) (A2 : Option Addr) (n2 c2 : Nat) (seeds : List Int) (w : World) (h : GHold w G v) (hgd : Good11 G) (hs : IRow w A2 n2 c2 seeds) (hn2 : n2 ≤ 100000) : Calls Try.prog 15 #[v, .slice A2 n2 c2] w (GivesAll G seeds w) := by
  have HGH := Lib.hid h
  obtain ⟨A, n, c, B, m, k, rfl, -, -⟩ := h
  have HNW := Lib.hid (one_new w (.cells #[.int .i64 G.sz, .slice A n c, .slice B m k] 29))
  have HX : Hid ((w.alloc (.cells #[.int .i64 G.sz, .slice A n c, .slice B m k] 29)).heap[w.heap.size]? = some (.cells #[.int .i64 G.sz, .slice A n c, .slice B m k] 29 (0, 0))) := Lib.hid (heap_alloc_new _ _)
  have HSE : Hid (∀ y, Below w.heap.size w y → Calls Try.prog 27 #[.agg #[.int .i64 G.sz, .slice A n c, .slice B m k], .slice A2 n2 c2] y (GivesSr G seeds y)) := Lib.hid fun y hy => search_any G _ A2 n2 c2 seeds y (HGH.out.later hy) hgd (hs.later hy) hn2
  have HIZ := Lib.hid (allD_dist hgd seeds)
  clear hs hgd HGH
  go_enter Try.func15, Try.ntmps15
  go_upto_region 1 with fail
  have HSZ : Hid (w.heap.size ≤ (w.alloc (.cells #[.int .i64 G.sz, .slice A n c, .slice B m k] 29)).heap.size) := Lib.hid HNW.out.size
  generalize w.alloc (.cells #[.int .i64 G.sz, .slice A n c, .slice B m k] 29) = y0 at *
  go_wp2_with (refine wpList_load_row rfl 29 (.tmp 2) rfl w.heap.size rfl 29 #[.int .i64 G.sz, .slice A n c, .slice B m k] (0, 0) _ HX.out Try.underlying29 rfl gr_size ?_)
  refine (HSE.out y0 HNW.out).mono ?_
  rintro e w1 ⟨gd, gb, d, bf, T, rfl, h1, h2, h3, h4, h5, h6, hb⟩
  have HD : Hid (d = allD G seeds) := Lib.hid ((h3.dist rfl).uniq HIZ.out)
  have H1 := Lib.hid h1
  have H4 := Lib.hid h4
  have HB := Lib.hid hb
  clear h1 h2 h3 h4 h5 h6 hb HSE HX
  go_wp2_with fail
  go_ret
  refine ⟨gd, rfl, ?_, Nat.le_trans HSZ.out H4.out, HNW.out.trans (HB.out.mono HSZ.out)⟩
  rw [← HD.out]
  exact H1.out
end Go.Proofs.Ytikmffdmgnjpbaa
/- The walk of distance's Way. -/
namespace Go.Proofs.Ytikmffdmgnjpbaa
open Go.RowKit
/-- The way to a key, and whether there is one. -/
def wayD (G : Gr) (seeds : List Int) (key : Int) : List Int × Bool := if 0 ≤ key ∧ key < G.sz ∧ 0 ≤ dAt (allD G seeds) key then (wayUp (allD G seeds) G.es (marked (allD G seeds) G.es G.sz.toNat key) G.sz.toNat ((dAt (allD G seeds) key).toNat + 1), true) else ([], false)
def GivesIB (w : World) (R : List Int × Bool) (e : Ending) (w' : World) : Prop := ∃ A n c, e = .returned (.tuple #[.slice A n c, .bool R.2]) ∧ IRow w' A n c R.1 ∧ Below w.heap.size w w'
def bkL (bf : List Int) (key : Int) (m : Nat) : List Int := (List.range (m + 1)).map (bk bf key)
theorem bkL_snoc (bf : List Int) (key : Int) (m : Nat) : bkL bf key (m + 1) = bkL bf key m ++ [bk bf key (m + 1)] := by
  unfold bkL
  rw [List.range_succ (n := m + 1), List.map_append]; rfl
theorem bkL_len (bf : List Int) (key : Int) (m : Nat) : (bkL bf key m).length = m + 1 := by unfold bkL; rw [List.length_map, List.length_range]
theorem bkL_rev (bf : List Int) (key : Int) (n : Nat) : (bkL bf key n).reverse = (List.range (n + 1)).map fun i => bk bf key (n - i) := by
  unfold bkL
  apply List.ext_getElem
  · simp
  · intro k h1 h2
    rw [List.getElem_reverse]
    simp only [List.getElem_map, List.getElem_range, List.length_map, List.length_range]
    congr 1
theorem Srch.upto {z : Nat} {es : List Edg} {sd : Int → Bool} {T : List Qd} {d bf : List Int} {key : Int} {n : Nat} (S : Srch z es sd T.length [] T d bf) (hz : ∀ e ∈ es, InZ z e) (hk0 : 0 ≤ key) (hk1 : key < z) (hn : dAt d key = (n : Int)) : (bkL bf key n).reverse = wayUp d es (marked d es z key) z (n + 1) := by
  rw [S.way hz hk0 hk1 hn (n + 1) (Nat.le_refl _), bkL_rev]
theorem Srch.bkin {z : Nat} {es : List Edg} {sd : Int → Bool} {T : List Qd} {d bf : List Int} {key : Int} {n : Nat} (S : Srch z es sd T.length [] T d bf) (hk0 : 0 ≤ key) (hk1 : key < z) (hn : dAt d key = (n : Int)) (m : Nat) (hm : m ≤ n) : 0 ≤ bk bf key m ∧ bk bf key m < z ∧ dAt d (bk bf key m) = ((n - m : Nat) : Int) := by
  obtain ⟨⟨x, hx, e⟩, hd, -⟩ := S.back hk0 hk1 hn m hm
  have h := S.inz x hx
  rw [e] at h
  exact ⟨h.1, h.2, hd⟩
set_option maxRecDepth 100000 in
set_option maxHeartbeats 4000000 in
theorem way_any (G : Gr) (v : Value) (A2 : Option Addr) (n2 c2 : Nat) (seeds : List Int) (key : Int) (w : World) (h : GHold w G v) (hgd : Good11 G) (hs : IRow w A2 n2 c2 seeds) (hn2 : n2 ≤ 100000) : Calls Try.prog 16 #[v, .slice A2 n2 c2, .int .i64 key] w (GivesIB w (wayD G seeds key)) := by
  have HGH := Lib.hid h
  obtain ⟨A, n, c, B, m, k, rfl, -, -⟩ := h
  have HNW := Lib.hid (one_new w (.cells #[.int .i64 G.sz, .slice A n c, .slice B m k] 29))
  have HX : Hid ((w.alloc (.cells #[.int .i64 G.sz, .slice A n c, .slice B m k] 29)).heap[w.heap.size]? = some (.cells #[.int .i64 G.sz, .slice A n c, .slice B m k] 29 (0, 0))) := Lib.hid (heap_alloc_new _ _)
  have HSE : Hid (∀ y, Below w.heap.size w y → Calls Try.prog 27 #[.agg #[.int .i64 G.sz, .slice A n c, .slice B m k], .slice A2 n2 c2] y (GivesSr G seeds y)) := Lib.hid fun y hy => search_any G _ A2 n2 c2 seeds y (HGH.out.later hy) hgd (hs.later hy) hn2
  have HAD := Lib.hid (allD_dist hgd seeds)
  have HIZ := Lib.hid (good_inZ hgd)
  have hlo := hgd.lo
  have hhi := hgd.hi
  obtain ⟨z, hz⟩ : ∃ z : Nat, G.sz.toNat = z := ⟨_, rfl⟩
  have HGZ : Hid (G.sz = (z : Int)) := Lib.hid (by omega)
  have hz64 : z ≤ 64 := by omega
  unfold GivesSr at HSE
  rw [hz] at HSE HIZ HAD
  have HZZ := Lib.hid hz
  clear hs hgd HGH hz hlo hhi
  go_enter Try.func16, Try.ntmps16
  go_upto_region 1 with fail
  have HSZ : Hid (w.heap.size ≤ (w.alloc (.cells #[.int .i64 G.sz, .slice A n c, .slice B m k] 29)).heap.size) := Lib.hid HNW.out.size
  generalize w.alloc (.cells #[.int .i64 G.sz, .slice A n c, .slice B m k] 29) = y0 at *
  go_wp2_with (refine wpList_load_row rfl 29 (.tmp 3) rfl w.heap.size rfl 29 #[.int .i64 G.sz, .slice A n c, .slice B m k] (0, 0) _ HX.out Try.underlying29 rfl gr_size ?_)
  refine (HSE.out y0 HNW.out).mono ?_
  rintro e w1 ⟨gd, gb, d, bf, T, rfl, h1, h2, h3, h4, h5, h6, hb⟩
  have HD : Hid (d = allD G seeds) := Lib.hid ((h3.dist rfl).uniq HAD.out)
  have HDS := Lib.hid h1
  have HBF := Lib.hid h2
  have HSR := Lib.hid h3
  have HB := Lib.hid hb
  have HBW : Hid (Below w.heap.size w w1) := Lib.hid (HNW.out.trans (hb.mono HSZ.out))
  have HLT : Hid (gd < w1.heap.size ∧ gb < w1.heap.size) := Lib.hid ⟨h1.lt, h2.lt⟩
  clear h1 h2 h3 h4 h5 h6 hb HSE HX HAD
  by_cases hk0 : key < 0
  · have d0 : decide (key < 0) = true := decide_eq_true hk0
    have HNO : Hid (¬ (0 ≤ key ∧ key < G.sz ∧ 0 ≤ dAt (allD G seeds) key)) := Lib.hid (by omega)
    clear hk0
    have HE : Hid (wayD G seeds key = ([], false)) := Lib.hid (by unfold wayD; rw [if_neg HNO.out])
    go_wp2_with fail
    go_ret2
    rw [HE.out]
    exact ⟨none, 0, 0, rfl, Row.nilRow _ _, HBW.out⟩
  have d0 : decide (key < 0) = false := decide_eq_false hk0
  by_cases hk1 : (z : Int) ≤ key
  · have d1 : decide (key ≥ (z : Int)) = true := decide_eq_true hk1
    have d1' : decide ((z : Int) ≤ key) = true := d1
    have HNO : Hid (¬ (0 ≤ key ∧ key < G.sz ∧ 0 ≤ dAt (allD G seeds) key)) := Lib.hid (by have := HGZ.out; omega)
    clear hk0 hk1
    have HE : Hid (wayD G seeds key = ([], false)) := Lib.hid (by unfold wayD; rw [if_neg HNO.out])
    go_wp2_with fail
    go_ret2
    rw [HE.out]
    exact ⟨none, 0, 0, rfl, Row.nilRow _ _, HBW.out⟩
  have d1 : decide (key ≥ (z : Int)) = false := decide_eq_false hk1
  have d1' : decide ((z : Int) ≤ key) = false := d1
  obtain ⟨nk, hnk⟩ : ∃ nk : Nat, key = (nk : Int) := ⟨key.toNat, by omega⟩
  have hn1 : (nk : Int) < (z : Int) := by omega
  have hdl : nk < d.length := by rw [HSR.out.len]; omega
  have hdc := HDS.out.cell nk hdl
  rw [dAt_cell hdl] at hdc
  subst hnk
  have HLO := Lib.hid (HSR.out.low (nk : Int) (by omega) hn1)
  clear hk0 hk1
  by_cases hun : dAt d (nk : Int) = -1
  · have b0 : (dAt d (nk : Int) == -1) = true := by rw [hun]; rfl
    have HNO : Hid (¬ (0 ≤ (nk : Int) ∧ (nk : Int) < G.sz ∧ 0 ≤ dAt (allD G seeds) (nk : Int))) := Lib.hid (by rw [← HD.out]; omega)
    clear hun HLO
    generalize dAt d (nk : Int) = dv at *
    have HE : Hid (wayD G seeds (nk : Int) = ([], false)) := Lib.hid (by unfold wayD; rw [if_neg HNO.out])
    go_wp2_with fail
    go_ret2
    rw [HE.out]
    exact ⟨none, 0, 0, rfl, Row.nilRow _ _, HBW.out⟩
  have b0 : (dAt d (nk : Int) == -1) = false := by rw [beq_eq_false_iff_ne]; exact hun
  obtain ⟨n, hn⟩ : ∃ n : Nat, dAt d (nk : Int) = (n : Int) := ⟨(dAt d (nk : Int)).toNat, by have := HLO.out; omega⟩
  have HN := Lib.hid hn
  have HE : Hid (wayD G seeds (nk : Int) = ((bkL bf (nk : Int) n).reverse, true)) := Lib.hid (by
    unfold wayD
    rw [← HD.out, HZZ.out, if_pos ⟨by omega, by have := HGZ.out; omega, by omega⟩, HSR.out.upto HIZ.out (by omega) hn1 hn, hn, Int.toNat_natCast])
  have HIN : Hid (∀ m, m ≤ n → 0 ≤ bk bf (nk : Int) m ∧ bk bf (nk : Int) m < z ∧ dAt d (bk bf (nk : Int) m) = ((n - m : Nat) : Int)) := Lib.hid fun m hm => HSR.out.bkin (by omega) hn1 hn m hm
  have hnz : n ≤ 64 := by
    have h1 := (HSR.out.dist rfl).lt (k := (nk : Int)) (by omega) hn1
    omega
  have HBK : Hid (∀ m, bk bf (nk : Int) (m + 1) = bfAt bf (bk bf (nk : Int) m)) := Lib.hid fun m => rfl
  have HB0 : Hid (bk bf (nk : Int) 0 = (nk : Int)) := Lib.hid rfl
  have HL0 : Hid (bkL bf (nk : Int) 0 = [(nk : Int)]) := Lib.hid rfl
  have HLS : Hid (∀ m, bkL bf (nk : Int) (m + 1) = bkL bf (nk : Int) m ++ [bk bf (nk : Int) (m + 1)]) := Lib.hid fun m => bkL_snoc _ _ m
  have HLL : Hid (∀ m, (bkL bf (nk : Int) m).length = m + 1) := Lib.hid fun m => bkL_len _ _ m
  have HBL : Hid (bf.length = z) := Lib.hid HSR.out.blen
  have HDL : Hid (d.length = z) := Lib.hid HSR.out.len
  have hzlt : nk < z := by omega
  have d1n : decide (z ≤ nk) = false := decide_eq_false (by omega)
  clear hun HLO HSR HIZ hn
  generalize dAt d (nk : Int) = dv at *
  generalize bkL bf (nk : Int) = BL at *
  generalize bk bf (nk : Int) = BK at *
  go_upto_region 4 with fail
  clear hdc d0 d1 d1' d1n b0
  have HOW : Hid ((w1.alloc (.cells #[.int .i64 (nk : Int)] 3)).ownsRow w1.heap.size 3 1 (.slice (some ⟨w1.heap.size, 0, none⟩) 1 1) 1 (intsV (BL 0))) := Lib.hid (by rw [HL0.out]; exact World.ownsRow_lit w1 #[.int .i64 (nk : Int)] 1 (Nat.le_refl _) (by unfold maxLen; omega) rfl)
  have HBA := Lib.hid (one_new w1 (.cells #[.int .i64 (nk : Int)] 3))
  go_wp2_with fail
  generalize w1.alloc (.cells #[.int .i64 (nk : Int)] 3) = x0 at *
  generalize hq1 : w1.heap.size = q1 at *
  have HQ1 := Lib.hid hq1
  clear hq1
  go_loopg [2, 10] n (fun kx a v wr => ∃ m : Nat, m ≤ n ∧ n - m ≤ kx ∧ a = .int .i64 (BK m) ∧ Hid (wr.ownsRow q1 3 1 v (m + 1) (intsV (BL m)) ∧ Below q1 w1 wr ∧ q1 ≤ wr.heap.size))
  case atStart => exact ⟨0, Nat.zero_le _, Nat.le_refl _, by rw [HB0.out], Lib.hid ⟨HOW.out, HBA.out, by have := HBA.out.size; have := HQ1.out; omega⟩⟩
  case round =>
    clear HOW HBA
    obtain ⟨m, hm, hkx, rfl, HQ⟩ := hrel
    have HO := Lib.hid HQ.out.1
    have HBr := Lib.hid HQ.out.2.1
    have HSr := Lib.hid HQ.out.2.2
    clear HQ
    have HIM := Lib.hid (HIN.out m hm)
    have hin := HIM.out
    obtain ⟨nb, hnb⟩ : ∃ nb : Nat, BK m = (nb : Int) := ⟨(BK m).toNat, by omega⟩
    have HDr : Hid (IBlk wr gd d) := Lib.hid (HDS.out.keep (HBr.out.block gd HLT.out.1))
    have HBFr : Hid (IBlk wr gb bf) := Lib.hid (HBF.out.keep (HBr.out.block gb HLT.out.2))
    obtain ⟨r, hr⟩ : ∃ r, n - m = r := ⟨_, rfl⟩
    have hnz2 : (nb : Int) < (z : Int) := by omega
    have hd3 : d.getD nb 0 = (r : Int) := by
      rw [dAt_cell (by have := HDL.out; omega), ← hnb, hin.2.2, hr]
    have hdc := HDr.out.cell nb (by have := HDL.out; omega)
    rw [hd3] at hdc
    have hbc := HBFr.out.cell nb (by have := HBL.out; omega)
    have hb3 : bf.getD nb 0 = BK (m + 1) := by
      rw [HBK.out m, hnb]
      unfold bfAt
      rw [Int.toNat_natCast]
    rw [hb3] at hbc
    rw [hnb]
    have HRM := Lib.hid hr
    have HNB := Lib.hid hnb
    clear hd3 hb3 hin hr hnb
    by_cases h0 : 0 < r
    · have h01 : (r : Int) > 0 := by omega
      have h02 : (0 : Int) < (r : Int) := by omega
      have HMN : Hid (m < n) := Lib.hid (by have := HRM.out; omega)
      have hm1 : m + 1 ≤ 64 := by have := HMN.out; omega
      have hsr := HSr.out
      obtain ⟨A9, c9, hv9, -⟩ := Row.of_own HO.out
      subst hv9
      have HLSm := Lib.hid (HLS.out m)
      generalize hkn : BK (m + 1) = kn at *
      have HKN := Lib.hid hkn
      clear hkn
      go_wp2_with (at_builtin; go_must (refine wpList_app_new wr rfl (.tmp 43) (.tmp 45) 22 3 rfl q1 Try.underlying22 i64_info rfl _ (m + 1) (intsV (BL m)) HO.out rfl 1 #[.int .i64 kn] rfl (by simp [Value.oneCell']) rfl rfl (by unfold maxLen; omega) (by omega) hsr ?_); intro v3 w3 ho3 hb3; have HO3 := Lib.hid ho3; have HB3 : Hid (Below q1 w1 w3) := Lib.hid (HBr.out.trans hb3); have HS3 : Hid (q1 ≤ w3.heap.size) := Lib.hid (Nat.le_trans hsr hb3.size); clear ho3 hb3)
      go_roundg (n - (m + 1))
      case measure => have := HMN.out; omega
      case rel => exact ⟨m + 1, HMN.out, Nat.le_refl _, by rw [HKN.out], Lib.hid ⟨by rw [HLSm.out, intsV_app]; exact HO3.out, HB3.out, HS3.out⟩⟩
    · have h01 : ¬ (r : Int) > 0 := by omega
      have h02 : ¬ (0 : Int) < (r : Int) := by omega
      have hmn : m = n := by have := HRM.out; omega
      subst hmn
      obtain ⟨g9, c9, hv9⟩ := own_someI HO.out (Nat.succ_pos _)
      subst hv9
      have HG9 : Hid (q1 ≤ g9) := Lib.hid (own_ge HO.out g9 rfl)
      have HRV := Lib.hid (reverse_any q1 g9 (m + 1) c9 (BL m) wr HO.out (by omega) (Nat.succ_pos _))
      clear hbc
      go_wp2_with fail
      refine HRV.out.mono ?_
      rintro e w5 ⟨rfl, ho5, hb5⟩
      have HR5 := Lib.hid (own_rowI12 ho5)
      have HB5 : Hid (Below w.heap.size w w5) := Lib.hid (HBW.out.trans ((HBr.out.trans (hb5.below HG9.out HSr.out)).mono (by have := HBW.out.size; have := HQ1.out; omega)))
      clear ho5 hb5 HRV
      go_wp2_with fail
      go_ret2
      rw [HE.out]
      exact ⟨_, _, _, rfl, HR5.out, HB5.out⟩
end Go.Proofs.Ytikmffdmgnjpbaa
/- The walk of the reference's Way. -/
namespace Go.Proofs.Ytikmffdmgnjpbaa
open Go.RowKit
end Go.Proofs.Ytikmffdmgnjpbaa
