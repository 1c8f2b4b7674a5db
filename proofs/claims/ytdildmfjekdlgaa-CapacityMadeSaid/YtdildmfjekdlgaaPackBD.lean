import Derived.Test.YtdildmfjekdlgaaPackAR
import Derived.Test.YtdildmfjekdlgaaPackBC
import Derived.Test.YtdildmfjekdlgaaPackAC
import Derived.Deep.LoopGhost
import Derived.Lib.LazyBuf
import Derived.Test.YtdildmfjekdlgaaPackAB
/- The walk of distance's search. -/
namespace Go.Proofs.Ytdildmfjekdlgaa
open Go.RowKit
set_option maxRecDepth 100000 in
set_option maxHeartbeats 4000000 in
theorem search_any (G : Gr) (v : Value) (A2 : Option Addr) (n2 c2 : Nat) (seeds : List Int) (w : World) (h : GHold w G v) (hgd : Good11 G) (hs : IRow w A2 n2 c2 seeds) (hn2 : n2 ≤ 100000) : Calls Try.prog 53 #[v, .slice A2 n2 c2] w (GivesSr G seeds w) := by
  have HGH := Lib.hid h
  obtain ⟨A, n, c, B, m, k, rfl, h1, h2⟩ := h
  have HNW := Lib.hid (one_new w (.cells #[.int .i64 G.sz, .slice A n c, .slice B m k] 31))
  have HX : Hid ((w.alloc (.cells #[.int .i64 G.sz, .slice A n c, .slice B m k] 31)).heap[w.heap.size]? = some (.cells #[.int .i64 G.sz, .slice A n c, .slice B m k] 31 (0, 0))) := Lib.hid (heap_alloc_new _ _)
  have HCK : Hid (∀ y, Below w.heap.size w y → Calls Try.prog 34 #[.agg #[.int .i64 G.sz, .slice A n c, .slice B m k]] y (SaysL (.int .i64 0) y)) := Lib.hid fun y hy => by
    have h := checkGr_any G _ y (HGH.out.later hy) hgd.few.1 hgd.few.2
    unfold checkG at h
    rw [if_pos ((okG_iff G).2 hgd)] at h
    exact h
  have HFI : Hid (∀ y, Below w.heap.size w y → Calls Try.prog 64 #[.agg #[.int .i64 G.sz, .slice A n c, .slice B m k], .slice A2 n2 c2] y fun e w' => ∃ v', e = .returned v' ∧ w'.ownsRow y.heap.size 3 1 v' (firstS (seedB G.gn seeds) G.sz.toNat).length (intsV (firstS (seedB G.gn seeds) G.sz.toNat)) ∧ Below y.heap.size y w') := Lib.hid fun y hy => first_any G _ A2 n2 c2 seeds y (HGH.out.later hy) hgd (hs.later hy) hn2
  have HOU : Hid (∀ y key, Below w.heap.size w y → Calls Try.prog 40 #[.agg #[.int .i64 G.sz, .slice A n c, .slice B m k], .int .i64 key] y fun e w' => ∃ v', e = .returned v' ∧ w'.ownsRow y.heap.size 3 1 v' (outS G.es key).length (intsV (outS G.es key)) ∧ Below y.heap.size y w') := Lib.hid fun y key hy => outGr_own G _ key y (HGH.out.later hy) hgd.few.1
  have HIZ := Lib.hid (good_inZ hgd)
  have HASC : Hid (∀ key, (outS G.es key).Pairwise (· < ·)) := Lib.hid fun key => outS_asc hgd.asc key
  have HOL : Hid (∀ key, (outS G.es key).length ≤ 500) := Lib.hid fun key => by
    have h1 := outS_len G.es key G.es.length (Nat.le_refl _)
    rw [List.take_length] at h1
    exact Nat.le_trans h1 hgd.len
  have hlo := hgd.lo
  have hhi := hgd.hi
  obtain ⟨z, hz⟩ : ∃ z : Nat, G.sz.toNat = z := ⟨_, rfl⟩
  have HGZ : Hid (G.sz = (z : Int)) := Lib.hid (by omega)
  have hz64 : z ≤ 64 := by omega
  have hz1 : z ≤ 100000 := by omega
  unfold GivesSr
  rw [hz] at HFI HIZ ⊢
  clear hz hlo hhi h1 h2 hs hgd HGH
  generalize seedB G.gn seeds = sd at *
  generalize G.es = es at *
  go_enter Try.func53, Try.ntmps53
  go_upto_region 1 with fail
  have HBW : Hid (w.heap.size + 1 = (w.alloc (.cells #[.int .i64 G.sz, .slice A n c, .slice B m k] 31)).heap.size) := Lib.hid (by simp)
  generalize w.alloc (.cells #[.int .i64 G.sz, .slice A n c, .slice B m k] 31) = y0 at *
  generalize hg0 : w.heap.size = g0 at *
  have HG0 := Lib.hid hg0
  clear hg0
  go_wp2_with (refine wpList_load_row rfl 31 (.tmp 2) rfl g0 rfl 31 #[.int .i64 G.sz, .slice A n c, .slice B m k] (0, 0) _ HX.out Try.underlying31 rfl gr_size ?_)
  refine (HCK.out y0 HNW.out).mono ?_
  rintro e w1 ⟨rfl, hb⟩
  have HB := Lib.hid hb
  clear hb HCK
  have HX1 : Hid (w1.heap[g0]? = _) := Lib.hid ((HB.out.block _ (by have := HBW.out; omega)).trans HX.out)
  go_upto_region 3 with fail
  go_cut [4, 5] (fun v4 v5 wx => ∃ gd gb, v4 = .slice (some ⟨gd, 0, none⟩) z z ∧ v5 = .slice (some ⟨gb, 0, none⟩) z z ∧ Hid (Below y0.heap.size y0 wx ∧ IBlk wx gd (List.replicate z (-1)) ∧ IBlk wx gb (List.replicate z 0) ∧ y0.heap.size ≤ gd ∧ y0.heap.size ≤ gb ∧ gd ≠ gb))
  case first =>
    refine wp_region_flow (by kernel_rfl) Later ?_
    replace HB : Hid (Below y0.heap.size y0 w1.drew) := Lib.hid HB.out.drew
    replace HX1 : Hid (w1.drew.heap[g0]? = _) := HX1
    generalize w1.drew = z0 at *
    have hf0 : ∀ x, (fut Later z0 x).cell? ⟨g0, 0, none⟩ = some (.int .i64 G.sz) := fun x => (cell_of_row _ _ 0 _ _ _ (((fut_ok Later.refl z0 x).block _ (Array.getElem?_eq_some_iff.1 HX1.out).1).trans HX1.out)).trans rfl
    rw [HGZ.out] at hf0
    clear HX1
    refine flow_reads (F := Later) Later.refl (by kernel_rfl) [1, 2, 4, 5] (fuel := 5) (by kernel_rfl) ?_
    simp only [List.map_cons, List.map_nil, pick, List.getD_cons_zero, List.getD_cons_succ]
    repeat (go_big_quiet_step (fail))
    refine wpQuiet_nil ?_
    clear hf0
    refine flow_two (F := Later) (fun _ _ _ => Later.trans) Later.refl 0 6 (by kernel_rfl) (by decide) (by decide) ?_ ?_ <;> simp only [pick, List.getD_cons_zero, List.getD_cons_succ]
    · skip
      go_wp2_with fail
      have hb := one_new z0 (.cells #[.int .i64 (-1)] 3)
      refine pieceEnd_normal ⟨hb, ?_⟩
      replace HB := Lib.hid (HB.out.trans (hb.mono HB.out.size))
      have HA : Hid (IBlk (z0.alloc (.cells #[.int .i64 (-1)] 3)) z0.heap.size [-1]) := Lib.hid (heap_alloc_new _ _)
      clear hb
      generalize z0.alloc (.cells #[.int .i64 (-1)] 3) = z1 at *
      generalize z0.heap.size = p2 at *
      refine flow_two (F := Later) (fun _ _ _ => Later.trans) Later.refl 3 6 (by kernel_rfl) (by decide) (by decide) ?_ ?_ <;> simp only [pick, List.getD_cons_zero, List.getD_cons_succ]
      · skip
        go_wp2_with fail
        refine (repeat_any (-1) z hz1 (some ⟨p2, 0, none⟩) 1 z1 HA.out.row).mono ?_
        rintro e z3 ⟨rfl, hg, hb⟩
        have HF := Lib.hid hb
        have hgd := HB.out.size
        replace HB := Lib.hid (HB.out.trans (hb.mono HB.out.size))
        replace HA := Lib.hid (HA.out.later hb)
        have HD : Hid (IBlk z3 z1.heap.size (List.replicate z (-1))) := Lib.hid hg
        have HGD : Hid (y0.heap.size ≤ z1.heap.size) := Lib.hid hgd
        clear hb hg hgd HA
        go_wp2_with fail
        refine pieceEnd_normal ⟨HF.out, ?_⟩
        clear HF
        generalize z1.heap.size = gd4 at *
        refine flow_reads (F := Later) Later.refl (by kernel_rfl) [7] (fuel := 2) (by kernel_rfl) ?_
        simp only [List.map_cons, List.map_nil, pick, List.getD_cons_zero, List.getD_cons_succ]
        repeat (go_big_quiet_step (fail))
        refine wpQuiet_nil ?_
        refine flow_one (F := Later) (fun _ _ _ => Later.trans) Later.refl 6 (by kernel_rfl) (by decide) ?_
        simp only [pick, List.getD_cons_zero, List.getD_cons_succ]
        have hgb := HB.out.size
        go_wp2_with (at_make; go_must (refine wpList_make _ rfl (.tmp 20) (.tmp 20) 22 3 rfl z3.heap.size Try.underlying22 i64_info rfl z z rfl rfl rfl rfl (Nat.le_refl _) (by omega) (by unfold maxLen; omega) (Nat.le_refl _) ?_); intro z5 ho hb; have HM : Hid (IBlk z5 z3.heap.size (List.replicate z 0)) := Lib.hid (by have h := own_cells ho; unfold IBlk intsV; rw [List.map_replicate]; exact h); clear ho; have HF := Lib.hid hb; clear hb)
        refine pieceEnd_normal ⟨HF.out, ?_⟩
        have hb := HF.out
        have HNE : Hid (gd4 ≠ z3.heap.size) := Lib.hid (by have := HD.out.lt; omega)
        replace HB := Lib.hid (HB.out.trans (hb.mono HB.out.size))
        replace HD := Lib.hid (HD.out.later hb)
        have HGB : Hid (y0.heap.size ≤ z3.heap.size) := Lib.hid hgb
        clear hb hgb HF
        generalize z3.heap.size = gb6 at *
        refine flow_reads (F := Later) Later.refl (by kernel_rfl) [8] (fuel := 0) (by kernel_rfl) ?_
        simp only [List.map_cons, List.map_nil, pick, List.getD_cons_zero, List.getD_cons_succ]
        repeat (go_big_quiet_step (fail))
        refine wpQuiet_nil ?_
        refine flow_done (by kernel_rfl) ?_
        go_wp2_with fail
        go_meet
        exact ⟨gd4, gb6, rfl, rfl, Lib.hid ⟨HB.out, HD.out, HM.out, HGD.out, HGB.out, HNE.out⟩⟩
      · skip
        have hgb := HB.out.size
        go_wp2_with (at_make; go_must (refine wpList_make _ rfl (.tmp 20) (.tmp 20) 22 3 rfl z1.heap.size Try.underlying22 i64_info rfl z z rfl rfl rfl rfl (Nat.le_refl _) (by omega) (by unfold maxLen; omega) (Nat.le_refl _) ?_); intro z7 ho hb; have HM : Hid (IBlk z7 z1.heap.size (List.replicate z 0)) := Lib.hid (by have h := own_cells ho; unfold IBlk intsV; rw [List.map_replicate]; exact h); clear ho; have HF := Lib.hid hb; clear hb)
        refine pieceEnd_normal ⟨HF.out, ?_⟩
        have hb := HF.out
        replace HB := Lib.hid (HB.out.trans (hb.mono HB.out.size))
        replace HA := Lib.hid (HA.out.later hb)
        have HGB : Hid (y0.heap.size ≤ z1.heap.size) := Lib.hid hgb
        clear hb hgb HF
        generalize z1.heap.size = gb8 at *
        refine flow_one (F := Later) (fun _ _ _ => Later.trans) Later.refl 3 (by kernel_rfl) (by decide) ?_
        simp only [pick, List.getD_cons_zero, List.getD_cons_succ]
        go_wp2_with fail
        refine (repeat_any (-1) z hz1 (some ⟨p2, 0, none⟩) 1 z7 HA.out.row).mono ?_
        rintro e z9 ⟨rfl, hg, hb⟩
        have HF := Lib.hid hb
        have hgd := HB.out.size
        have HNE : Hid (z7.heap.size ≠ gb8) := Lib.hid (by have := HM.out.lt; omega)
        replace HB := Lib.hid (HB.out.trans (hb.mono HB.out.size))
        replace HA := Lib.hid (HA.out.later hb)
        replace HM := Lib.hid (HM.out.later hb)
        have HD : Hid (IBlk z9 z7.heap.size (List.replicate z (-1))) := Lib.hid hg
        have HGD : Hid (y0.heap.size ≤ z7.heap.size) := Lib.hid hgd
        clear hb hg hgd HA
        go_wp2_with fail
        refine pieceEnd_normal ⟨HF.out, ?_⟩
        clear HF
        generalize z7.heap.size = gd10 at *
        refine flow_reads (F := Later) Later.refl (by kernel_rfl) [7, 8] (fuel := 0) (by kernel_rfl) ?_
        simp only [List.map_cons, List.map_nil, pick, List.getD_cons_zero, List.getD_cons_succ]
        repeat (go_big_quiet_step (fail))
        refine wpQuiet_nil ?_
        refine flow_done (by kernel_rfl) ?_
        go_wp2_with fail
        go_meet
        exact ⟨gd10, gb8, rfl, rfl, Lib.hid ⟨HB.out, HD.out, HM.out, HGD.out, HGB.out, HNE.out⟩⟩
    · skip
      have hgb := HB.out.size
      go_wp2_with (at_make; go_must (refine wpList_make _ rfl (.tmp 20) (.tmp 20) 22 3 rfl z0.heap.size Try.underlying22 i64_info rfl z z rfl rfl rfl rfl (Nat.le_refl _) (by omega) (by unfold maxLen; omega) (Nat.le_refl _) ?_); intro z11 ho hb; have HM : Hid (IBlk z11 z0.heap.size (List.replicate z 0)) := Lib.hid (by have h := own_cells ho; unfold IBlk intsV; rw [List.map_replicate]; exact h); clear ho; have HF := Lib.hid hb; clear hb)
      refine pieceEnd_normal ⟨HF.out, ?_⟩
      have hb := HF.out
      replace HB := Lib.hid (HB.out.trans (hb.mono HB.out.size))
      have HGB : Hid (y0.heap.size ≤ z0.heap.size) := Lib.hid hgb
      clear hb hgb HF
      generalize z0.heap.size = gb12 at *
      refine flow_one (F := Later) (fun _ _ _ => Later.trans) Later.refl 0 (by kernel_rfl) (by decide) ?_
      simp only [pick, List.getD_cons_zero]
      go_wp2_with fail
      have hb := one_new z11 (.cells #[.int .i64 (-1)] 3)
      refine pieceEnd_normal ⟨hb, ?_⟩
      replace HB := Lib.hid (HB.out.trans (hb.mono HB.out.size))
      replace HM := Lib.hid (HM.out.later hb)
      have HA : Hid (IBlk (z11.alloc (.cells #[.int .i64 (-1)] 3)) z11.heap.size [-1]) := Lib.hid (heap_alloc_new _ _)
      clear hb
      generalize z11.alloc (.cells #[.int .i64 (-1)] 3) = z13 at *
      generalize z11.heap.size = p14 at *
      refine flow_one (F := Later) (fun _ _ _ => Later.trans) Later.refl 3 (by kernel_rfl) (by decide) ?_
      simp only [pick, List.getD_cons_zero, List.getD_cons_succ]
      go_wp2_with fail
      refine (repeat_any (-1) z hz1 (some ⟨p14, 0, none⟩) 1 z13 HA.out.row).mono ?_
      rintro e z15 ⟨rfl, hg, hb⟩
      have HF := Lib.hid hb
      have hgd := HB.out.size
      have HNE : Hid (z13.heap.size ≠ gb12) := Lib.hid (by have := HM.out.lt; omega)
      replace HB := Lib.hid (HB.out.trans (hb.mono HB.out.size))
      replace HA := Lib.hid (HA.out.later hb)
      replace HM := Lib.hid (HM.out.later hb)
      have HD : Hid (IBlk z15 z13.heap.size (List.replicate z (-1))) := Lib.hid hg
      have HGD : Hid (y0.heap.size ≤ z13.heap.size) := Lib.hid hgd
      clear hb hg hgd HA
      go_wp2_with fail
      refine pieceEnd_normal ⟨HF.out, ?_⟩
      clear HF
      generalize z13.heap.size = gd16 at *
      refine flow_reads (F := Later) Later.refl (by kernel_rfl) [7, 8] (fuel := 0) (by kernel_rfl) ?_
      simp only [List.map_cons, List.map_nil, pick, List.getD_cons_zero, List.getD_cons_succ]
      repeat (go_big_quiet_step (fail))
      refine wpQuiet_nil ?_
      refine flow_done (by kernel_rfl) ?_
      go_wp2_with fail
      go_meet
      exact ⟨gd16, gb12, rfl, rfl, Lib.hid ⟨HB.out, HD.out, HM.out, HGD.out, HGB.out, HNE.out⟩⟩
  case rest =>
    obtain ⟨gd, gb, rfl, rfl, HC⟩ := hcut
    clear HB HX1
    have HXc : Hid (wc.heap[g0]? = _) := Lib.hid ((HC.out.1.block _ (by have := HBW.out; omega)).trans HX.out)
    have HWC : Hid (Below g0 w wc) := Lib.hid (HNW.out.trans (HC.out.1.mono (by have := HBW.out; omega)))
    go_wp2_with (refine wpList_load_row rfl 31 (.tmp 2) rfl g0 rfl 31 #[.int .i64 G.sz, .slice A n c, .slice B m k] (0, 0) _ HXc.out Try.underlying31 rfl gr_size ?_)
    refine (HFI.out wc (by have := HWC.out; have e := HG0.out; rw [← e] at this ⊢; exact this)).mono ?_
    rintro e w2 ⟨v6, rfl, ho, hb⟩
    have HS0 : Hid (SMem y0 y0.heap.size gd gb (List.replicate z (-1)) (List.replicate z 0) v6 (firstS sd z) w2) := Lib.hid
      ⟨HC.out.1.trans (hb.mono HC.out.1.size), Nat.le_trans HC.out.1.size hb.size, HC.out.2.1.later hb, HC.out.2.2.1.later hb, QOwn.of_own (own_mono ho HC.out.1.size), HC.out.2.2.2.1, HC.out.2.2.2.2.1, HC.out.2.2.2.2.2, fun e => by have h1 := own_ge ho gd e; have h2 := HC.out.2.1.lt; omega, fun e => by have h1 := own_ge ho gb e; have h2 := HC.out.2.2.1.lt; omega⟩
    have HLM : Hid (∀ k, k ∈ firstS sd z ↔ 0 ≤ k ∧ k < z ∧ sd k = true) := Lib.hid fun k => firstS_mem sd k z
    have HLA := Lib.hid (firstS_asc sd z)
    have HLL := Lib.hid (firstS_len sd z)
    generalize firstS sd z = L at *
    clear ho hb HC HXc HWC HFI
    obtain ⟨A6, c6, rfl, hr6⟩ := HS0.out.q.row
    clear hr6
    have hL64 : L.length ≤ 64 := by have := HLL.out; omega
    go_wp2_with fail
    go_loopw [27] (fun i wr => ∃ j : Nat, j ≤ L.length ∧ i = .int .i64 j ∧ Hid (SMem y0 y0.heap.size gd gb (zeroD (List.replicate z (-1)) (L.take j)) (List.replicate z 0) (.slice A6 L.length c6) L wr)) (fun i _ => L.length - (intOf i).toNat)
    case atStart => exact ⟨0, Nat.zero_le _, rfl, HS0⟩
    case round =>
      clear HS0
      obtain ⟨j, hj, rfl, HQ⟩ := hrel
      by_cases hlt : j < L.length
      · have hlt2 : (j : Int) < (L.length : Int) := by omega
        obtain ⟨A7, c7, he7, hr7⟩ := HQ.out.q.row
        injection he7 with e1 e2 e3
        subst e1 e3
        clear e2
        obtain ⟨b, off, hA, hc⟩ := IRow.cell (l := L) hr7 j hlt
        subst hA
        have hin := (HLM.out (L.getD j 0)).1 (by rw [List.getD_eq_getElem?_getD, List.getElem?_eq_getElem hlt]; exact List.getElem_mem hlt)
        have HZS := Lib.hid (zeroD_snoc (List.replicate z (-1)) L j hlt)
        obtain ⟨na, hna⟩ : ∃ na : Nat, L.getD j 0 = (na : Int) := ⟨(L.getD j 0).toNat, by omega⟩
        rw [hna] at hc hin HZS
        have hn1 : (na : Int) < (z : Int) := hin.2.1
        have HL0 := Lib.hid (zeroD_len (L.take j) (List.replicate z (-1)))
        rw [List.length_replicate] at HL0
        generalize zeroD (List.replicate z (-1)) (L.take j) = D at *
        have hdc := HQ.out.ds.cell na (by rw [HL0.out]; omega)
        have hdf := HQ.out.ds.frozen na
        clear hna hr7 hin
        generalize D.getD na 0 = old at *
        go_wp2_with fail
        have HN2 := Lib.hid (HQ.out.setd na 0)
        rw [Int.toNat_natCast] at HZS
        rw [← HZS.out] at HN2
        exact ⟨⟨j + 1, hlt, by go_num, HN2⟩, by simp [intOf]; omega⟩
      · have hlt2 : ¬ (j : Int) < (L.length : Int) := by omega
        have HS1 : Hid (SMem y0 y0.heap.size gd gb (zeroD (List.replicate z (-1)) L) (List.replicate z 0) (.slice A6 L.length c6) (keysQ (seedsQ L) 0) wr) := Lib.hid (by
          have h := HQ.out
          rw [List.take_of_length_le (by omega)] at h
          rw [keysQ_seeds]
          exact h)
        have HR1 : Hid (Srch z es sd 0 [] (seedsQ L) (zeroD (List.replicate z (-1)) L) (List.replicate z 0)) := Lib.hid (Srch.start HLA.out HLM.out (by rw [zeroD_len, List.length_replicate]) (by rw [List.length_replicate]) fun k k0 k1 => by
          rw [zeroD_at L _ (fun x hx => by rw [List.length_replicate]; have := (HLM.out x).1 hx; exact ⟨this.1, this.2.1⟩) k k0, dAt_rep (-1) rfl]
          by_cases hk : k ∈ L
          · rw [if_pos hk, if_pos ((HLM.out k).1 hk).2.2]
          · rw [if_neg hk, if_neg fun q => hk ((HLM.out k).2 ⟨k0, k1, q⟩)])
        clear HQ hj hlt
        generalize zeroD (List.replicate z (-1)) L = D1 at *
        generalize List.replicate z (0 : Int) = E1 at *
        generalize seedsQ L = T1 at *
        generalize Value.slice A6 L.length c6 = v6 at *
        clear HLM HLA HLL hL64
        go_wp2_with fail
        go_loopg [6] z (fun kx v wr => ∃ (h : Nat) (T : List Qd) (d bf : List Int), z - h ≤ kx ∧ Hid (Srch z es sd h [] T d bf ∧ SMem y0 y0.heap.size gd gb d bf v (keysQ T h) wr))
        case atStart => exact ⟨0, T1, D1, E1, Nat.le_refl _, Lib.hid ⟨HR1.out, HS1.out⟩⟩
        case round =>
          clear HS1 HR1
          obtain ⟨h, T, d, bf, hkx, HQ⟩ := hrel
          have hfew := HQ.out.1.few
          have hle := HQ.out.1.hle
          have HSR := Lib.hid HQ.out.1
          have HSM := Lib.hid HQ.out.2
          clear HQ
          obtain ⟨A7, c7, he7, hr7⟩ := HSM.out.q.row
          subst he7
          have hkl := keysQ_len T h
          by_cases hlt : h < T.length
          · obtain ⟨m2, hm2⟩ : ∃ m2, T.length - h = m2 + 1 := ⟨T.length - h - 1, by omega⟩
            have HKC := Lib.hid (keysQ_cons hlt)
            have hkm : (keysQ T h).length = m2 + 1 := by omega
            have HM2 : Hid ((keysQ T (h + 1)).length = m2) := Lib.hid (by rw [keysQ_len]; omega)
            rw [hkm] at hr7 ⊢
            have HSM2 := HSM.out
            rw [hkm, HKC.out] at HSM2
            have HTL := Lib.hid (HSM2.tail HM2.out)
            clear HSM2
            obtain ⟨b, off, hA, hc⟩ := IRow.cell (l := keysQ T h) hr7 0 (Nat.succ_pos _)
            have HZ0 : Hid ((keysQ T h).getD 0 0 = qk T h) := Lib.hid (by rw [HKC.out]; rfl)
            rw [HZ0.out] at hc
            have hin := HSR.out.inz h hlt
            obtain ⟨nk, hnk⟩ : ∃ nk : Nat, qk T h = (nk : Int) := ⟨(qk T h).toNat, by omega⟩
            have HNK := Lib.hid hnk
            rw [hnk] at hc hin
            clear hnk
            have hn1 : (nk : Int) < (z : Int) := hin.2
            have h0m : (0 : Int) < (m2 : Int) + 1 := by omega
            have h0m2 : 0 < m2 + 1 := Nat.succ_pos _
            have hm64 : m2 ≤ 64 := by omega
            have hsl := fun w' => run_slice_from (P := Try.prog) (t := 22) Try.underlying22 i64_size (A := A7) (n := m2 + 1) (c := c7) (k := 1) (i := 1) rfl (Nat.succ_le_succ (Nat.zero_le _)) .i64 w'
            simp only [Nat.add_sub_cancel] at hsl
            have HXr : Hid (wr.heap[g0]? = some (.cells #[.int .i64 G.sz, .slice A n c, .slice B m k] 31 (0, 0))) := Lib.hid ((HTL.out.base.block _ (by have := HBW.out; omega)).trans HX.out)
            have HWr : Hid (Below g0 w wr) := Lib.hid (HNW.out.trans (HTL.out.base.mono (by have := HBW.out; omega)))
            subst hA
            have hc2 : wr.cell? ⟨b, off, none⟩ = some (.int .i64 (nk : Int)) := hc
            clear hr7 hkl hkm HKC HZ0 HSM hin hc
            go_wp2_with (refine wpList_load_row rfl 31 (.tmp 2) rfl g0 rfl 31 #[.int .i64 G.sz, .slice A n c, .slice B m k] (0, 0) _ HXr.out Try.underlying31 rfl gr_size ?_)
            clear hsl hc2
            refine (HOU.out wr (nk : Int) HWr.out).mono ?_
            rintro e w3 ⟨v45, rfl, ho, hb⟩
            have HSO : Hid (SMemO y0 y0.heap.size gd gb d bf (.slice (dropA (some ⟨b, off, none⟩) c7 1 1) m2 (c7 - 1)) (keysQ T (h + 1)) v45 (outS es (nk : Int)) w3) := Lib.hid
              ⟨HTL.out.later hb, own_mono ho HTL.out.size, fun q hq => by
                have h1 := own_ge ho q hq
                refine ⟨?_, ?_, fun e => ?_⟩
                · have := HTL.out.ds.lt; omega
                · have := HTL.out.bs.lt; omega
                · have := (HTL.out.q.lt q e).2; omega⟩
            have HOA := Lib.hid (HASC.out (nk : Int))
            have HON := Lib.hid (HOL.out (nk : Int))
            have HOM : Hid (∀ x, x ∈ outS es (nk : Int) ↔ ∃ e ∈ es, e.fr = (nk : Int) ∧ e.tu = x) := Lib.hid fun x => outS_mem
            generalize outS es (nk : Int) = O at *
            generalize Value.slice (dropA (some ⟨b, off, none⟩) c7 1 1) m2 (c7 - 1) = v7 at *
            clear ho hb HTL HXr HWr h0m h0m2 hm64 HM2 hm2
            obtain ⟨A45, c45, rfl, hr45⟩ := Row.of_own HSO.out.o
            clear hr45
            have hO500 : O.length ≤ 500 := HON.out
            have HHT := Lib.hid hlt
            have HKX := Lib.hid hkx
            clear hlt hkx hfew hle
            go_wp2_with fail
            go_loopw [6, 47] (fun v i wr => ∃ j : Nat, j ≤ O.length ∧ i = .int .i64 j ∧ Hid (∃ (T : List Qd) (d bf : List Int), h < T.length ∧ qk T h = (nk : Int) ∧ Srch z es sd h (O.take j) T d bf ∧ SMemO y0 y0.heap.size gd gb d bf v (keysQ T (h + 1)) (.slice A45 O.length c45) O wr)) (fun _ i _ => O.length - (intOf i).toNat)
            case atStart => exact ⟨0, Nat.zero_le _, rfl, Lib.hid ⟨T, d, bf, HHT.out, HNK.out, HSR.out, HSO.out⟩⟩
            case round =>
              clear HSO HSR HHT HNK
              obtain ⟨j, hj, rfl, HQ⟩ := hrel
              obtain ⟨T2, d2, bf2, HE⟩ := HQ.out
              clear HQ
              have HT2 := Lib.hid HE.1
              have HK2 := Lib.hid HE.2.1
              have HSR := Lib.hid HE.2.2.1
              have HSO := Lib.hid HE.2.2.2
              clear HE
              by_cases hlt : j < O.length
              · have hlt2 : (j : Int) < (O.length : Int) := by omega
                obtain ⟨A8, c8, he8, hr8⟩ := Row.of_own HSO.out.o
                injection he8 with e1 e2 e3
                subst e1 e3
                clear e2
                obtain ⟨b8, off8, hA, hc⟩ := IRow.cell (l := O) hr8 j hlt
                subst hA
                have hmem : O.getD j 0 ∈ O := by rw [List.getD_eq_getElem?_getD, List.getElem?_eq_getElem hlt]; exact List.getElem_mem hlt
                have HED := Lib.hid ((HOM.out _).1 hmem)
                have hin : 0 ≤ O.getD j 0 ∧ O.getD j 0 < z := by
                  obtain ⟨e, he, e1, e2⟩ := HED.out
                  have h1 := HIZ.out e he
                  unfold InZ at h1
                  rw [← e2]
                  exact ⟨h1.2.2.1, h1.2.2.2⟩
                have HTK : Hid (O.take (j + 1) = O.take j ++ [O.getD j 0]) := Lib.hid (by rw [List.take_add_one, List.getElem?_eq_getElem hlt, List.getD_eq_getElem?_getD, List.getElem?_eq_getElem hlt]; rfl)
                have HPA : Hid (∀ x ∈ O.take j, x < O.getD j 0) := Lib.hid fun x hx => by
                  obtain ⟨i, hi, rfl⟩ := List.getElem_of_mem hx
                  rw [List.length_take] at hi
                  rw [List.getElem_take, List.getD_eq_getElem?_getD, List.getElem?_eq_getElem hlt]
                  exact List.pairwise_iff_getElem.1 HOA.out i j (by omega) hlt (by omega)
                obtain ⟨nx, hnx⟩ : ∃ nx : Nat, O.getD j 0 = (nx : Int) := ⟨(O.getD j 0).toNat, by omega⟩
                rw [hnx] at hc hin HTK HPA HED
                clear hnx hmem hr8
                have hn2 : (nx : Int) < (z : Int) := hin.2
                have hdl : nx < d2.length := by rw [HSR.out.len]; omega
                have hbl : nx < bf2.length := by rw [HSR.out.blen]; omega
                have hdc := HSO.out.mem.ds.cell nx hdl
                rw [dAt_cell hdl] at hdc
                have hdf := HSO.out.mem.ds.frozen nx
                have HLO := Lib.hid (HSR.out.low (nx : Int) hin.1 hin.2)
                by_cases hnew : dAt d2 (nx : Int) = -1
                · have b0 : (dAt d2 (nx : Int) == -1) = true := by rw [hnew]; rfl
                  have HNEW := Lib.hid hnew
                  have HDK := Lib.hid (HSR.out.nn h HT2.out)
                  have HDL := Lib.hid (HSR.out.dle h HT2.out)
                  have HTZ := Lib.hid HSR.out.few
                  have hkl2 : nk < d2.length := by rw [HSR.out.len]; omega
                  have hkc := HSO.out.mem.ds.cell nk hkl2
                  rw [dAt_cell hkl2] at hkc
                  have hdk : 0 ≤ dAt d2 (nk : Int) ∧ dAt d2 (nk : Int) ≤ 64 := by
                    have h1 := HDK.out
                    have h2 := HDL.out
                    have h3 := HTZ.out
                    have h4 := HT2.out
                    rw [HK2.out] at h1 h2
                    exact ⟨h1, by omega⟩
                  have HNS : Hid (Srch z es sd h (O.take (j + 1)) (T2 ++ [⟨h + 1, (nx : Int)⟩]) (d2.set nx (dAt d2 (nk : Int) + 1)) (bf2.set nx (nk : Int))) := Lib.hid (by
                    have h1 := HSR.out.new HT2.out hin.1 hin.2 HNEW.out (by rw [HK2.out]; exact HED.out) HPA.out
                    rw [HK2.out, Int.toNat_natCast] at h1
                    rw [HTK.out]
                    exact h1)
                  generalize dAt d2 (nk : Int) = dk at *
                  have dk0 := hdk.1
                  have dk1 := hdk.2
                  have HS1 := Lib.hid (HSO.out.setd nx (dk + 1))
                  have hbc := HS1.out.mem.bs.cell nx hbl
                  have hbf := HS1.out.mem.bs.frozen nx
                  have HS2 := Lib.hid (HS1.out.setb nx (nk : Int))
                  generalize bf2.getD nx 0 = ob at *
                  rw [hnew] at hdc
                  clear hnew HLO HDK HDL hdk HSO
                  go_upto_region 18 with fail
                  clear hdc hdf hkc hbc hbf HS1
                  generalize (wr.setCell ⟨gd, nx, none⟩ (.int .i64 (dk + 1))).setCell ⟨gb, nx, none⟩ (.int .i64 (nk : Int)) = w4 at *
                  have HQN := Lib.hid HS2.out.mem.q
                  have HQL : Hid ((keysQ T2 (h + 1)).length ≤ 64) := Lib.hid (by rw [keysQ_len]; have := HTZ.out; omega)
                  have hql := HQL.out
                  have hbs := HS2.out.mem.size
                  have HKS : Hid (keysQ (T2 ++ [⟨h + 1, (nx : Int)⟩]) (h + 1) = keysQ T2 (h + 1) ++ [(nx : Int)]) := Lib.hid (keysQ_snoc HT2.out ⟨h + 1, (nx : Int)⟩)
                  have HKN : Hid (qk (T2 ++ [⟨h + 1, (nx : Int)⟩]) h = (nk : Int)) := Lib.hid (by rw [qk_lo _ HT2.out]; exact HK2.out)
                  have HTN : Hid (h < (T2 ++ [(⟨h + 1, (nx : Int)⟩ : Qd)]).length) := Lib.hid (by rw [List.length_append]; have := HT2.out; omega)
                  generalize T2 ++ [(⟨h + 1, (nx : Int)⟩ : Qd)] = T3 at *
                  generalize d2.set nx (dk + 1) = d3 at *
                  generalize bf2.set nx (nk : Int) = bf3 at *
                  go_wp2_with (at_builtin; go_must (refine wpList_appQ_new w4 rfl (.tmp 68) (.tmp 70) 22 rfl y0.heap.size Try.underlying22 i64_info rfl _ (keysQ T2 (h + 1)).length (intsV (keysQ T2 (h + 1))) HQN.out rfl #[.int .i64 (nx : Int)] rfl (by simp [Value.oneCell']) rfl rfl (by unfold maxLen; omega) (by omega) hbs ?_); intro v9 w9 hq9 hb9 hk9 ho9; have HS9 := Lib.hid (HS2.out.app hq9 hb9 hk9 ho9); clear hq9 hb9 hk9 ho9)
                  exact ⟨⟨j + 1, hlt, by go_num, Lib.hid ⟨T3, d3, bf3, HTN.out, HKN.out, HNS.out, by rw [HKS.out]; exact HS9.out⟩⟩, by simp [intOf]; omega⟩
                · have b0 : (dAt d2 (nx : Int) == -1) = false := by rw [beq_eq_false_iff_ne]; exact hnew
                  have HNN : Hid (0 ≤ dAt d2 (nx : Int)) := Lib.hid (by have := HLO.out; omega)
                  have HOLD : Hid (Srch z es sd h (O.take (j + 1)) T2 d2 bf2) := Lib.hid (by rw [HTK.out]; exact HSR.out.old hin.1 hin.2 HNN.out)
                  clear hnew HLO hdf HNN hin
                  generalize dAt d2 (nx : Int) = dv at *
                  go_wp2_with fail
                  exact ⟨⟨j + 1, hlt, by go_num, Lib.hid ⟨T2, d2, bf2, HT2.out, HK2.out, HOLD.out, HSO.out⟩⟩, by simp [intOf]; omega⟩
              · have hlt2 : ¬ (j : Int) < (O.length : Int) := by omega
                have HNX : Hid (Srch z es sd (h + 1) [] T2 d2 bf2) := Lib.hid (HSR.out.next HT2.out fun e he hf => by
                  rw [List.take_of_length_le (by omega)]
                  exact (HOM.out _).2 ⟨e, he, hf.trans HK2.out, rfl⟩)
                have HTZ := Lib.hid HSR.out.few
                go_wp2_with fail
                go_roundg (z - (h + 1))
                case measure => have h1 := HTZ.out; have h2 := HT2.out; have h3 := HKX.out; omega
                case rel => exact ⟨h + 1, T2, d2, bf2, Nat.le_refl _, Lib.hid ⟨HNX.out, HSO.out.mem⟩⟩
          · have hh : h = T.length := by omega
            have hk0 : keysQ T h = [] := List.eq_nil_of_length_eq_zero (by omega)
            rw [hk0] at HSM ⊢
            rw [hh] at HSR
            clear hr7 hkl hkx hfew hle hlt hk0 hh
            go_wp2_with fail
            go_ret2
            have h1 := HSM.out
            exact ⟨gd, gb, d, bf, T, rfl, h1.ds, h1.bs, HSR.out, by have := HBW.out; have := HG0.out; have := h1.hd; omega, by have := HBW.out; have := HG0.out; have := h1.hb; omega, h1.ne, by have e := HG0.out; rw [e]; exact HNW.out.trans (h1.base.mono (by have := HBW.out; omega))⟩
end Go.Proofs.Ytdildmfjekdlgaa
/- The walk of distance's All. -/
namespace Go.Proofs.Ytdildmfjekdlgaa
open Go.RowKit
/-- What All gives. -/
def GivesAll (G : Gr) (seeds : List Int) (w : World) (e : Ending) (w' : World) : Prop := ∃ gd, e = .returned (.slice (some ⟨gd, 0, none⟩) G.sz.toNat G.sz.toNat) ∧ IBlk w' gd (allD G seeds) ∧ w.heap.size ≤ gd ∧ Below w.heap.size w w'
set_option maxRecDepth 100000 in
set_option maxHeartbeats 4000000 in
theorem all_any (G : Gr) (v : Value) (A2 : Option Addr) (n2 c2 : Nat) (seeds : List Int) (w : World) (h : GHold w G v) (hgd : Good11 G) (hs : IRow w A2 n2 c2 seeds) (hn2 : n2 ≤ 100000) : Calls Try.prog 35 #[v, .slice A2 n2 c2] w (GivesAll G seeds w) := by
  have HGH := Lib.hid h
  obtain ⟨A, n, c, B, m, k, rfl, -, -⟩ := h
  have HNW := Lib.hid (one_new w (.cells #[.int .i64 G.sz, .slice A n c, .slice B m k] 31))
  have HX : Hid ((w.alloc (.cells #[.int .i64 G.sz, .slice A n c, .slice B m k] 31)).heap[w.heap.size]? = some (.cells #[.int .i64 G.sz, .slice A n c, .slice B m k] 31 (0, 0))) := Lib.hid (heap_alloc_new _ _)
  have HSE : Hid (∀ y, Below w.heap.size w y → Calls Try.prog 53 #[.agg #[.int .i64 G.sz, .slice A n c, .slice B m k], .slice A2 n2 c2] y (GivesSr G seeds y)) := Lib.hid fun y hy => search_any G _ A2 n2 c2 seeds y (HGH.out.later hy) hgd (hs.later hy) hn2
  have HIZ := Lib.hid (allD_dist hgd seeds)
  clear hs hgd HGH
  go_enter Try.func35, Try.ntmps35
  go_upto_region 1 with fail
  have HSZ : Hid (w.heap.size ≤ (w.alloc (.cells #[.int .i64 G.sz, .slice A n c, .slice B m k] 31)).heap.size) := Lib.hid HNW.out.size
  generalize w.alloc (.cells #[.int .i64 G.sz, .slice A n c, .slice B m k] 31) = y0 at *
  go_wp2_with (refine wpList_load_row rfl 31 (.tmp 2) rfl w.heap.size rfl 31 #[.int .i64 G.sz, .slice A n c, .slice B m k] (0, 0) _ HX.out Try.underlying31 rfl gr_size ?_)
  refine (HSE.out y0 HNW.out).mono ?_
  rintro e w1 ⟨gd, gb, d, bf, T, rfl, h1, h2, h3, h4, h5, h6, hb⟩
  have HD : Hid (d = allD G seeds) := Lib.hid ((h3.dist rfl).uniq HIZ.out)
  have H1 := Lib.hid h1
  have H4 := Lib.hid h4
  have HB := Lib.hid hb
  clear h1 h2 h3 h4 h5 h6 hb HSE HX
  go_wp2_with fail
  go_ret
  refine ⟨gd, rfl, ?_, Nat.le_trans HSZ.out H4.out, HNW.out.trans (HB.out.mono HSZ.out)⟩
  rw [← HD.out]
  exact H1.out
end Go.Proofs.Ytdildmfjekdlgaa
/- Blocks of edges; the walks of slices.Clone and slices.Delete. -/
namespace Go.Proofs.Ytdildmfjekdlgaa
open Go.RowKit
/-- A block of edges: a list, and whatever stands behind it. -/
structure EBlk (w : World) (B g n cap : Nat) (l : List Edg) (T : List Value) : Prop where
  lo : B ≤ g
  at_ : w.heap[g]? = some (.cells (rowC Edg.cells l ++ T).toArray 45 (0, 0))
  len : l.length = n
  room : n ≤ cap
  mx : cap ≤ maxLen
  size : (rowC Edg.cells l ++ T).length = cap * 3
theorem eblk_of_own {w : World} {B : Nat} {v : Value} {n : Nat} {l : List Edg} (ho : w.ownsRow B 45 3 v n (rowC Edg.cells l)) (h0 : 0 < n) : ∃ g cap T, v = .slice (some ⟨g, 0, none⟩) n cap ∧ EBlk w B g n cap l T := by
  obtain ⟨hlen, ⟨rfl, hz⟩ | ⟨g, cap, cur, rfl, hBg, hg, hnc, hcm, hcs, htk⟩⟩ := ho
  · omega
  · have hl : l.length = n := by
      rw [rowC_len Edg.len] at hlen
      exact Nat.eq_of_mul_eq_mul_right (by decide) hlen
    have hc : rowC Edg.cells l ++ cur.toList.drop (n * 3) = cur.toList := by rw [← htk, List.take_append_drop]
    refine ⟨g, cap, cur.toList.drop (n * 3), rfl, hBg, ?_, hl, hnc, hcm, ?_⟩
    · rw [hc]; simpa using hg
    · rw [hc]; simpa using hcs
theorem EBlk.own {w : World} {B g n cap : Nat} {l : List Edg} {T : List Value} (h : EBlk w B g n cap l T) : w.ownsRow B 45 3 (.slice (some ⟨g, 0, none⟩) n cap) n (rowC Edg.cells l) := by
  have hl : (rowC Edg.cells l).length = n * 3 := by rw [rowC_len Edg.len, h.len]
  refine ⟨hl, .inr ⟨g, cap, _, rfl, h.lo, h.at_, h.room, h.mx, ?_, ?_⟩⟩
  · rw [List.size_toArray]; exact h.size
  · rw [← hl]; exact List.take_left
theorem EBlk.row {w : World} {B g n cap : Nat} {l : List Edg} {T : List Value} (h : EBlk w B g n cap l T) : ERow w (some ⟨g, 0, none⟩) n cap l := by
  obtain ⟨A, c, hv, hr⟩ := Row.of_own h.own
  injection hv with e1 _ e2
  subst e1 e2
  exact hr
theorem EBlk.lt {w : World} {B g n cap : Nat} {l : List Edg} {T : List Value} (h : EBlk w B g n cap l T) : g < w.heap.size := (Array.getElem?_eq_some_iff.1 h.at_).1
theorem EBlk.later {w w' : World} {B g n cap : Nat} {l : List Edg} {T : List Value} (h : EBlk w B g n cap l T) (hb : Below w.heap.size w w') : EBlk w' B g n cap l T := ⟨h.lo, (hb.block _ h.lt).trans h.at_, h.len, h.room, h.mx, h.size⟩
/-- The cells of a block that holds edges, cut. -/
theorem ecut {l : List Edg} {T : List Value} {i : Nat} (hi : i ≤ l.length) : (rowC Edg.cells l ++ T).take (i * 3) = rowC Edg.cells (l.take i) := by
  have h1 : (rowC Edg.cells l).length = l.length * 3 := rowC_len Edg.len l
  rw [List.take_append_of_le_length (by rw [h1]; omega), rowC_take Edg.len l i hi]
theorem ecut_drop {l : List Edg} {T : List Value} {i : Nat} (hi : i ≤ l.length) : (rowC Edg.cells l ++ T).drop (i * 3) = rowC Edg.cells (l.drop i) ++ T := by
  have h1 : (rowC Edg.cells l).length = l.length * 3 := rowC_len Edg.len l
  rw [List.drop_append_of_le_length (by rw [h1]; omega), rowC_drop Edg.len l i]
section
variable {P : Program}
theorem run_slice_off {t e : TypeId} (ht : P.underlying t = some (.slice e)) {sz : Nat} (hz : (P.info? e).map (·.size) = some sz) {g n c i : Nat} {x : Int} (hx : x = (i : Int)) (hin : i ≤ n) (hic : i < c) (k1 : IntKind) (w : World) :
    (Instr.slice t (.slice (some ⟨g, 0, none⟩) n c) (some (.int k1 x)) none none).run P w = .ok (.slice (some ⟨g, i * sz, none⟩) (n - i) (c - i)) w := by
  rw [run_slice_from ht hz hx hin k1 w]
  unfold dropA
  rw [if_neg (by omega), Option.map_some, Addr.add_lit, Nat.zero_add]
theorem run_slice_low {t e : TypeId} (ht : P.underlying t = some (.slice e)) {sz : Nat} (hz : (P.info? e).map (·.size) = some sz) {g n c i : Nat} {x : Int} (hx : x = (i : Int)) (hic : i ≤ c) (k1 : IntKind) (w : World) :
    (Instr.slice t (.slice (some ⟨g, 0, none⟩) n c) none (some (.int k1 x)) none).run P w = .ok (.slice (some ⟨g, 0, none⟩) i c) w := by
  subst hx
  obtain ⟨i0, hi0, rfl⟩ := size_of_info hz
  have h4 : (⟨g, 0, none⟩ : Addr).add 0 = ⟨g, 0, none⟩ := by rw [Addr.add_lit]
  simp [Instr.slice, run_underlying ht, Instr.sliceBounds, Instr.sliceBound, asIntOf, hic, sizeOf, typeInfo, hi0, h4]
end
theorem edg_zero (w : World) : (zeroValue 45).run Try.prog w = .ok (.agg #[.int .i64 0, .int .i64 0, .int .i64 0]) w := Try.zeroValue45 w
theorem edg_zeros (n : Nat) : ∀ u ∈ (Builtin.zeroCells (Value.agg #[.int .i64 0, .int .i64 0, .int .i64 0]).cells n).toList, u.oneCell' = true := by
  intro u hu
  simp only [Builtin.zeroCells, Value.cells, Array.toList_map, List.mem_map] at hu
  obtain ⟨i, -, rfl⟩ := hu
  have h3 : i % 3 < 3 := Nat.mod_lt _ (by decide)
  rcases (by omega : i % 3 = 0 ∨ i % 3 = 1 ∨ i % 3 = 2) with h4 | h4 | h4 <;> simp [h4, Value.oneCell']
theorem cloneEd_nil (w : World) : Calls Try.prog 55 #[.slice none 0 0] w fun e w' => e = .returned (.slice none 0 0) ∧ w' = w := by
  have en := fun w a n c => Lib.run_eql_slice_nil (P := Try.prog) w 29 45 a n c 0 0 Try.underlying29
  go_enter Try.func55, Try.ntmps55
  go_wp2
  go_ret
  exact ⟨rfl, rfl⟩
set_option maxRecDepth 100000 in
set_option maxHeartbeats 4000000 in
theorem cloneEd_some (ad : Addr) (n c : Nat) (l : List Edg) (w : World) (hl : ERow w (some ad) n c l) (hn : n ≤ 100000) :
    Calls Try.prog 55 #[.slice (some ad) n c] w fun e w' => ∃ v, e = .returned v ∧ w'.ownsRow w.heap.size 45 3 v l.length (rowC Edg.cells l) ∧ Below w.heap.size w w' := by
  have HL := Lib.hid hl; have HLN : Hid (l.length = n) := Lib.hid (ERow.len hl)
  clear hl
  have en := fun w a n c => Lib.run_eql_slice_nil (P := Try.prog) w 29 45 a n c 0 0 Try.underlying29
  go_enter Try.func55, Try.ntmps55
  have HO : Hid ((w.alloc (.cells #[] 45)).ownsRow w.heap.size 45 3 (.slice (some ⟨w.heap.size, 0, none⟩) 0 0) 0 []) := Lib.hid ⟨rfl, .inr ⟨w.heap.size, 0, #[], rfl, Nat.le_refl _, heap_alloc_new _ _, Nat.le_refl _, Nat.zero_le _, rfl, rfl⟩⟩
  have HN := Lib.hid (one_new w (.cells #[] 45))
  have HL2 := Lib.hid (GRow.later HL.out HN.out)
  have HZ := Lib.hid HN.out.size
  obtain ⟨x1, hx1⟩ : ∃ x1, w.alloc (.cells #[] 45) = x1 := ⟨_, rfl⟩
  have HX1 := Lib.hid hx1
  rw [hx1] at HO HN HL2 HZ
  clear hx1
  go_wp2_with (at_builtin; rw [HX1.out]; go_must (refine wpList_app x1 rfl (.tmp 5) (.tmp 6) 29 29 45 rfl w.heap.size Try.underlying29 edg_info rfl _ 0 [] HO.out rfl _ n (rowC Edg.cells l) (Row.src HL2.out Try.underlying29 (rowC_ones Edg.ones l)) rfl (by unfold maxLen; omega) (by omega) HZ.out ?_); intro v1 z1 ho hb; rw [Nat.zero_add, List.nil_append, ← HLN.out] at ho; have HO2 := Lib.hid ho; have HU := Lib.hid (HN.out.trans hb); clear ho hb)
  go_ret
  exact ⟨_, rfl, HO2.out, HU.out⟩
theorem cloneEd_any (A : Option Addr) (n c : Nat) (l : List Edg) (w : World) (hl : ERow w A n c l) (hn : n ≤ 100000) :
    Calls Try.prog 55 #[.slice A n c] w fun e w' => ∃ v, e = .returned v ∧ w'.ownsRow w.heap.size 45 3 v l.length (rowC Edg.cells l) ∧ Below w.heap.size w w' := by
  cases A with
  | some ad => exact cloneEd_some ad n c l w hl hn
  | none =>
    obtain ⟨rfl, rfl⟩ := Row.nil hl rfl
    have h0 : l = [] := List.eq_nil_of_length_eq_zero (ERow.len hl)
    subst h0
    exact (cloneEd_nil w).mono fun e w' ⟨h1, h2⟩ => ⟨_, h1, by rw [h2]; exact World.ownsRow_nil _ _ _ _, by rw [h2]; exact Below.refl _ _⟩
end Go.Proofs.Ytdildmfjekdlgaa
/- The walks of slices.IndexFunc and slices.DeleteFunc over edges. -/
namespace Go.Proofs.Ytdildmfjekdlgaa
open Go.RowKit
set_option maxRecDepth 100000 in
set_option maxHeartbeats 4000000 in
theorem indexEd_any (f : Edg → Bool) (fn : Nat) (cb : Array Value) (A : Option Addr) (n c : Nat) (l : List Edg) (w : World) (hl : ERow w A n c l) (hn : n ≤ 100000)
    (eg : ∀ args w, (callFunc fn args).run Try.prog w = .ok (.enter fn args) w) (hf : ∀ y (p : Edg), Below w.heap.size w y → Calls Try.prog fn (#[.agg p.arr] ++ cb) y (SaysL (.bool (f p)) y)) :
    Calls Try.prog 65 #[.slice A n c, .func (.func fn) #[] cb] w fun e w' => (∃ r : Int, e = .returned (.int .i64 r) ∧ ((r = -1 ∧ ∀ q, q < n → f (l.getD q noEdg) = false) ∨ (∃ k : Nat, k < n ∧ r = (k : Int) ∧ f (l.getD k noEdg) = true ∧ ∀ q, q < k → f (l.getD q noEdg) = false))) ∧ Below w.heap.size w w' := by
  have HL := Lib.hid hl; have HF := Lib.hid hf
  clear hl hf
  go_enter Try.func65, Try.ntmps65
  go_wp2_with fail
  go_loopw [8] (fun i wr => ∃ j : Nat, j ≤ n ∧ i = .int .i64 j ∧ Hid ((∀ q, q < j → f (l.getD q noEdg) = false) ∧ Below w.heap.size w wr)) (fun i _ => n - (intOf i).toNat)
  case atStart => exact ⟨0, Nat.zero_le _, rfl, Lib.hid ⟨fun q h => absurd h (Nat.not_lt_zero _), Below.refl _ _⟩⟩
  case round =>
    obtain ⟨j, hj, rfl, HQ⟩ := hrel
    by_cases hlt : j < n
    · have hlt2 : (j : Int) < (n : Int) := by omega
      obtain ⟨b, off, hA, hc⟩ := GRow.cells Edg.len (by decide) (GRow.later HL.out HQ.out.2) noEdg j hlt
      subst hA
      obtain ⟨p, hp⟩ : ∃ p, l.getD j noEdg = p := ⟨_, rfl⟩
      rw [hp] at hc
      have HP := Lib.hid hp
      have HC : Hid (∀ q, q < p.arr.size → wr.cell? ⟨b, off + j * 3 + q, none⟩ = p.arr[q]?) := Lib.hid fun q hq => (hc q hq).trans (by rw [← Edg.list, Array.getElem?_toList])
      have HFC := Lib.hid (HF.out wr p HQ.out.2)
      have HK := Lib.hid HQ.out.1; have HB := Lib.hid HQ.out.2
      clear hc hp HQ
      cases hfp : f p
      · rw [hfp] at HFC
        have HT : Hid (f p = false) := Lib.hid hfp
        clear hfp
        go_wp2_with (refine wpList_load_cells rfl 45 (.tmp 14) rfl b (off + j * 3) rfl p.arr _ Try.underlying45 rfl p.info HC.out ?_)
        refine HFC.out.mono ?_
        rintro e w1 ⟨rfl, hb⟩
        have HB1 := Lib.hid (HB.out.trans (hb.mono HB.out.size))
        clear hb HFC HC
        go_wp2_with fail
        exact ⟨⟨j + 1, hlt, by go_num, Lib.hid ⟨fun q hq => (Nat.lt_or_ge q j).elim (fun h => HK.out q h) (fun h => by rw [show q = j by omega, HP.out]; exact HT.out), HB1.out⟩⟩, by simp [intOf]; omega⟩
      · rw [hfp] at HFC
        have HT : Hid (f p = true) := Lib.hid hfp
        clear hfp
        go_wp2_with (refine wpList_load_cells rfl 45 (.tmp 14) rfl b (off + j * 3) rfl p.arr _ Try.underlying45 rfl p.info HC.out ?_)
        refine HFC.out.mono ?_
        rintro e w1 ⟨rfl, hb⟩
        have HB1 := Lib.hid (HB.out.trans (hb.mono HB.out.size))
        clear hb HFC HC
        go_wp2_with fail
        go_ret
        exact ⟨⟨_, rfl, .inr ⟨j, hlt, rfl, by rw [HP.out]; exact HT.out, HK.out⟩⟩, HB1.out⟩
    · have hlt2 : ¬ (j : Int) < (n : Int) := by omega
      have HK := Lib.hid HQ.out.1; have HB := Lib.hid HQ.out.2
      clear HQ
      go_wp2_with fail
      go_ret
      exact ⟨⟨_, rfl, .inl ⟨rfl, fun q hq => HK.out q (by omega)⟩⟩, HB.out⟩
theorem eset {l : List Edg} {T : List Value} {i : Nat} (p : Edg) (hi : i < l.length) : (rowC Edg.cells l ++ T).take (i * 3) ++ p.arr.toList ++ (rowC Edg.cells l ++ T).drop (i * 3 + p.arr.size) = rowC Edg.cells (l.take i ++ p :: l.drop (i + 1)) ++ T := by
  rw [show i * 3 + p.arr.size = (i + 1) * 3 by rw [Edg.size]; omega, ecut (by omega), ecut_drop (by omega), rowC_app, Edg.list]
  simp [rowC]
theorem filter_keep {f : Edg → Bool} {l : List Edg} (h : ∀ q, q < l.length → f (l.getD q noEdg) = false) : l.filter (fun e => !f e) = l := by
  rw [List.filter_eq_self]
  intro e he
  obtain ⟨i, hi, rfl⟩ := memE.1 he
  rw [h i hi]; rfl
theorem take_snocE (l : List Edg) (j : Nat) (h : j < l.length) : l.take (j + 1) = l.take j ++ [l.getD j noEdg] := by
  rw [List.take_add_one, List.getElem?_eq_getElem h, getDE h]; rfl
set_option maxRecDepth 100000 in
set_option maxHeartbeats 4000000 in
theorem delFuncEd_any (f : Edg → Bool) (fn : Nat) (cb : Array Value) (B : Nat) (v : Value) (n : Nat) (l : List Edg) (w : World) (ho : w.ownsRow B 45 3 v n (rowC Edg.cells l)) (hB : B ≤ w.heap.size) (hn : n ≤ 100000)
    (eg : ∀ args w, (callFunc fn args).run Try.prog w = .ok (.enter fn args) w) (hf : ∀ y (p : Edg), Below B w y → Calls Try.prog fn (#[.agg p.arr] ++ cb) y (SaysL (.bool (f p)) y)) :
    Calls Try.prog 54 #[v, .func (.func fn) #[] cb] w fun e w' => ∃ v2, e = .returned v2 ∧ w'.ownsRow B 45 3 v2 (l.filter fun e => !f e).length (rowC Edg.cells (l.filter fun e => !f e)) ∧ Below B w w' := by
  have HO := Lib.hid ho
  obtain ⟨A, c, rfl, hr⟩ := Row.of_own ho
  have HLN : Hid (l.length = n) := Lib.hid (ERow.len hr)
  have HF := Lib.hid hf
  have HIX := Lib.hid (indexEd_any f fn cb A n c l w hr hn eg fun y p h => hf y p (h.mono hB))
  clear ho hr hf
  go_enter Try.func54, Try.ntmps54
  go_wp2_with fail
  refine HIX.out.mono ?_
  rintro e w1 ⟨⟨r, rfl, hr⟩, hb⟩
  have HB1 : Hid (Below B w w1) := Lib.hid (hb.mono hB)
  have HO1 := Lib.hid (own_later HO.out hb)
  clear HIX hb HO
  rcases hr with ⟨rfl, hall⟩ | ⟨k, hk, rfl, ht, hall⟩
  · have HE : Hid (l.filter (fun e => !f e) = l) := Lib.hid (filter_keep fun q hq => hall q (by rw [← HLN.out]; exact hq))
    clear hall
    go_wp2_with fail
    go_ret
    rw [HE.out, HLN.out]
    exact ⟨_, rfl, HO1.out, HB1.out⟩
  · obtain ⟨g, cap, T, hv, hek⟩ := eblk_of_own HO1.out (by omega)
    injection hv with hv _ hv2
    subst hv hv2
    have HEK := Lib.hid hek
    have hnc := hek.room
    have hne1 : ((k : Int) == -1) = false := beq_eq_false_iff_ne.2 (by omega)
    have HS : Hid (l.take k = (l.take (k + 1)).filter (fun e => !f e)) := Lib.hid (by
      rw [take_snocE l k (by rw [HLN.out]; exact hk), List.filter_append, filter_keep (l := l.take k) (fun q hq => by
        rw [List.length_take] at hq
        rw [List.getD_eq_getElem?_getD, List.getElem?_take_of_lt (by omega), ← List.getD_eq_getElem?_getD]
        exact hall q (by omega)), List.filter_cons_of_neg (by rw [ht]; decide), List.filter_nil, List.append_nil])
    have HSZ : Hid ((rowC Edg.cells l ++ T).length = c * 3) := Lib.hid hek.size
    have HTL : Hid (T.length + n * 3 = c * 3) := Lib.hid (by have h := hek.size; rw [List.length_append, rowC_len Edg.len, HLN.out] at h; omega)
    clear hek hall ht HO1
    go_wp2_with fail
    clear hne1
    go_loopw [5, 6] (fun a b wr => ∃ (i j : Nat) (L : List Edg), a = .int .i64 i ∧ b = .int .i64 j ∧ i < j ∧ j ≤ n ∧ L.length = n ∧ Hid (wr.heap[g]? = some (.cells (rowC Edg.cells L ++ T).toArray 45 (0, 0)) ∧ L.take i = (l.take j).filter (fun e => !f e) ∧ L.drop j = l.drop j ∧ Below B w wr)) (fun _ b _ => n - (intOf b).toNat)
    case atStart => exact ⟨k, k + 1, l, rfl, by go_num, by omega, hk, HLN.out, Lib.hid ⟨HEK.out.at_, HS.out, rfl, HB1.out⟩⟩
    case round =>
      clear HB1
      obtain ⟨i, j, L, rfl, rfl, hij, hj, hL, HQ⟩ := hrel
      by_cases hlt : j < n
      · have hlt2 : (j : Int) < (n : Int) := by omega
        have hin : i < n := by omega
        have hin2 : (i : Int) < (n : Int) := by omega
        have HG := Lib.hid HQ.out.1; have HLT := Lib.hid HQ.out.2.1; have HLD := Lib.hid HQ.out.2.2.1; have HB := Lib.hid HQ.out.2.2.2
        clear HQ
        obtain ⟨p, hp⟩ : ∃ p, l.getD j noEdg = p := ⟨_, rfl⟩
        have hpL : L.getD j noEdg = p := by
          have h1 := congrArg (fun x : List Edg => x.getD 0 noEdg) HLD.out
          simp only [List.getD_eq_getElem?_getD, List.getElem?_drop, Nat.add_zero] at h1
          rw [List.getD_eq_getElem?_getD, h1, ← List.getD_eq_getElem?_getD, hp]
        have HST : Hid ((l.take (j + 1)).filter (fun e => !f e) = (l.take j).filter (fun e => !f e) ++ [p].filter (fun e => !f e)) := Lib.hid (by rw [take_snocE l j (by rw [HLN.out]; exact hlt), List.filter_append, hp])
        have hrow : ERow wr (some ⟨g, 0, none⟩) n c L := EBlk.row (B := 0) ⟨Nat.zero_le _, HG.out, hL, hnc, HEK.out.mx, by rw [List.length_append, rowC_len Edg.len, hL]; have := HTL.out; omega⟩
        obtain ⟨b, off, hA, hc⟩ := GRow.cells Edg.len (by decide) hrow noEdg j hlt
        injection hA with hA
        injection hA with e1 e2
        subst e1 e2
        rw [hpL] at hc
        have HC : Hid (∀ q, q < p.arr.size → wr.cell? ⟨g, 0 + j * 3 + q, none⟩ = p.arr[q]?) := Lib.hid fun q hq => (hc q hq).trans (by rw [← Edg.list, Array.getElem?_toList])
        clear hc hrow hpL hp
        go_upto_region 8 with (first | (refine wpList_load_cells rfl 45 (.tmp 24) rfl g (0 + j * 3) rfl p.arr _ Try.underlying45 rfl p.info HC.out ?_) | (refine wpList_load_cells rfl 45 (.tmp 24) rfl g (j * 3) rfl p.arr _ Try.underlying45 rfl p.info (fun q hq => (by rw [← Nat.zero_add (j * 3)]; exact HC.out q hq)) ?_) | (refine wpList_store_new rfl 45 (.tmp 7) (.tmp 25) rfl 45 _ p.arr rfl rfl p.info rfl p.one ?_))
        have HN3 := Lib.hid (one_new wr (.cells p.arr 45))
        have HY : Hid ((wr.alloc (.cells p.arr 45)).heap[wr.heap.size]? = some (.cells p.arr 45 (0, 0))) := Lib.hid (heap_alloc_new _ _)
        have HGY : Hid (g < wr.heap.size) := Lib.hid (Array.getElem?_eq_some_iff.1 HG.out).1
        replace HG := Lib.hid ((HN3.out.block _ HGY.out).trans HG.out)
        replace HB := Lib.hid (HB.out.trans (HN3.out.mono (Nat.le_trans hB HB.out.size)))
        clear HN3 HC
        generalize wr.alloc (.cells p.arr 45) = x2 at *
        generalize wr.heap.size = g4 at *
        have HFC := Lib.hid (HF.out x2 p HB.out)
        cases hfp : f p
        · rw [hfp] at HFC
          rw [List.filter_cons_of_pos (by rw [hfp]; rfl), List.filter_nil] at HST
          clear hfp
          go_wp2_with (refine wpList_load_row rfl 45 (.tmp 7) rfl g4 rfl 45 p.arr (0, 0) _ HY.out Try.underlying45 rfl p.info ?_)
          refine HFC.out.mono ?_
          rintro e w2 ⟨rfl, hb⟩
          have HY2 := Lib.hid ((hb.block _ (Array.getElem?_eq_some_iff.1 HY.out).1).trans HY.out)
          have HG2 := Lib.hid ((hb.block _ (Array.getElem?_eq_some_iff.1 HG.out).1).trans HG.out)
          have HB2 := Lib.hid (HB.out.trans (hb.mono (Nat.le_trans hB HB.out.size)))
          clear hb HY HG HB HFC
          have hfit : i * 3 + p.arr.size ≤ (rowC Edg.cells L ++ T).length := by rw [List.length_append, rowC_len Edg.len, hL, Edg.size]; omega
          go_wp2_with (first | (refine wpList_load_row rfl 45 (.tmp 7) rfl g4 rfl 45 p.arr (0, 0) _ HY2.out Try.underlying45 rfl p.info ?_) | (refine wpList_store_partE w2 rfl 45 (.tmp 33) (.tmp 32) rfl g (i * 3) _ 45 (rowC Edg.cells L ++ T) HG2.out p.arr rfl (by omega) rfl p.info (fun u hu => p.ones u hu) hfit ?_; intro w3 hg3 hb3 _; rw [eset p (by rw [hL]; exact hin)] at hg3; have HG3 := Lib.hid hg3; have HB3 : Hid (Below B w w3) := Lib.hid (HB2.out.trans (hb3.below HEK.out.lo (Nat.le_trans hB HB2.out.size))); clear hg3 hb3))
          refine ⟨⟨i + 1, j + 1, L.take i ++ p :: L.drop (i + 1), by go_num, by go_num, by omega, hlt, by simp; omega, Lib.hid ⟨HG3.out, ?_, ?_, HB3.out⟩⟩, by simp [intOf]; omega⟩
          · rw [HST.out, ← HLT.out, List.take_append, List.take_of_length_le (by rw [List.length_take]; omega), List.length_take, show i + 1 - min i L.length = 1 by omega]; rfl
          · have h1 := congrArg (List.drop 1) HLD.out
            rw [List.drop_drop, List.drop_drop] at h1
            rw [List.drop_append, List.length_take, List.drop_eq_nil_of_le (by rw [List.length_take]; omega), List.nil_append, show j + 1 - min i L.length = (j - i) + 1 by omega, List.drop_succ_cons, List.drop_drop, show i + 1 + (j - i) = j + 1 by omega]
            exact h1
        · rw [hfp] at HFC
          rw [List.filter_cons_of_neg (by rw [hfp]; decide), List.filter_nil, List.append_nil] at HST
          clear hfp
          go_wp2_with (refine wpList_load_row rfl 45 (.tmp 7) rfl g4 rfl 45 p.arr (0, 0) _ HY.out Try.underlying45 rfl p.info ?_)
          refine HFC.out.mono ?_
          rintro e w2 ⟨rfl, hb⟩
          have HG2 := Lib.hid ((hb.block _ (Array.getElem?_eq_some_iff.1 HG.out).1).trans HG.out)
          have HB2 := Lib.hid (HB.out.trans (hb.mono (Nat.le_trans hB HB.out.size)))
          clear hb HY HG HB HFC
          go_wp2_with fail
          refine ⟨⟨i, j + 1, L, rfl, by go_num, by omega, hlt, hL, Lib.hid ⟨HG2.out, by rw [HST.out]; exact HLT.out, ?_, HB2.out⟩⟩, by simp [intOf]; omega⟩
          have h1 := congrArg (List.drop 1) HLD.out
          rw [List.drop_drop, List.drop_drop] at h1
          exact h1
      · obtain rfl : j = n := by omega
        have hlt2 : ¬ (j : Int) < (j : Int) := by omega
        have HG := Lib.hid HQ.out.1; have HB := Lib.hid HQ.out.2.2.2
        have HLT : Hid (L.take i = l.filter (fun e => !f e)) := Lib.hid (by rw [HQ.out.2.1, List.take_of_length_le (by rw [HLN.out]; exact Nat.le_refl _)])
        clear HQ
        have hic : i < c := by omega
        have hfit : (i + (j - i)) * 3 ≤ (rowC Edg.cells L ++ T).length := by rw [List.length_append, rowC_len Edg.len, hL]; omega
        have hs1 := fun w' => run_slice_off (P := Try.prog) (t := 29) Try.underlying29 edg_size (g := g) (n := j) (c := c) (i := i) rfl (Nat.le_of_lt hij) hic .i64 w'
        have hs2 := fun w' => run_slice_low (P := Try.prog) (t := 29) Try.underlying29 edg_size (g := g) (n := j) (c := c) (i := i) rfl (Nat.le_of_lt hic) .i64 w'
        obtain ⟨w3, zs, hz, hcl, hg3, hb3⟩ := run_clear_row (P := Try.prog) wr 29 45 Try.underlying29 (size := 3) edg_zero rfl edg_zeros g i (j - i) (c - i) (rowC Edg.cells L ++ T) HG.out (some ⟨g, i * 3, none⟩) (fun _ => rfl) hfit
        rw [ecut (by omega), List.append_assoc] at hg3
        have HZ := Lib.hid hz; have HG3 := Lib.hid hg3; have HB3 : Hid (Below B w w3) := Lib.hid (HB.out.trans (hb3.below HEK.out.lo (Nat.le_trans hB HB.out.size)))
        clear hz hg3 hb3 hfit
        go_wp2_with fail
        go_ret
        have h3 := HZ.out
        have he : EBlk w3 B g i c (L.take i) (zs ++ (rowC Edg.cells L ++ T).drop ((i + (j - i)) * 3)) := ⟨HEK.out.lo, HG3.out, by rw [List.length_take]; omega, by omega, HEK.out.mx, by
          rw [List.length_append, List.length_append, List.length_drop, List.length_append, rowC_len Edg.len, rowC_len Edg.len, List.length_take, hL, h3]
          have := HTL.out
          rw [show min i j = i by omega]
          omega⟩
        have hlen : (l.filter fun e => !f e).length = i := by rw [← HLT.out, List.length_take]; omega
        rw [hlen, ← HLT.out]
        exact ⟨_, rfl, he.own, HB3.out⟩
end Go.Proofs.Ytdildmfjekdlgaa
