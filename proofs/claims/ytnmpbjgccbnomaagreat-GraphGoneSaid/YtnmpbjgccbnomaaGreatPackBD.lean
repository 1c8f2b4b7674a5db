import Derived.Test.YtnmpbjgccbnomaaGreatPackAZ
import Derived.Test.YtnmpbjgccbnomaaGreatPackAW
import Derived.Test.YtnmpbjgccbnomaaGreatPackBC
import Derived.Test.YtnmpbjgccbnomaaGreatPackAV
/- The walk of graph's At. -/
namespace Go.Proofs.YtnmpbjgccbnomaaGreat
open Go.RowKit
theorem mapE_snoc (l : List Vou) (j : Nat) (h : j < l.length) : (l.take (j + 1)).map edgeOf = (l.take j).map edgeOf ++ [edgeOf (l.getD j noVou)] := by
  rw [List.take_add_one, List.getElem?_eq_getElem h, List.map_append, List.getD_eq_getElem?_getD, List.getElem?_eq_getElem h]; rfl
theorem own_rowE8 {w : World} {B : Nat} {A : Option Addr} {n c : Nat} {l : List Edg} (h : w.ownsRow B 53 3 (.slice A n c) n (rowC Edg.cells l)) : ERow w A n c l := by
  obtain ⟨A7, c7, he, hr⟩ := Row.of_own h
  injection he with e1 e2 e3
  subst e1 e3
  exact hr
theorem level_up (all : List Vou) (gone : List Int) (lv : Int) : levelG ⟨64, all.map edgeOf, gone⟩ lv = ⟨64, upE all lv, gone⟩ := by
  unfold levelG upE
  rw [List.filter_map]
  rfl
set_option maxRecDepth 100000 in
set_option maxHeartbeats 4000000 in
theorem atGr_any (A : Option Addr) (n c : Nat) (l : List Pl) (tm lv : Int) (w : World) (hl : LRow w A n c l) (hn : n ≤ 100000) (ho : Ord10 (l.map (·.s))) : Calls Tryz.prog 11 #[.slice A n c, .int .i64 tm, .int .i64 lv] w (GivesGE w (atG (l.map (·.s)) tm lv)) := by
  have HB : Hid (Below w.heap.size w (w.alloc (.cells #[.int .i64 0, .slice none 0 0, .slice none 0 0] 35))) := Lib.hid (one_new w _)
  have HR : Hid ((w.alloc (.cells #[.int .i64 0, .slice none 0 0, .slice none 0 0] 35)).heap[w.heap.size]? = some (.cells #[.int .i64 0, .slice none 0 0, .slice none 0 0] 35 (0, 0))) := Lib.hid (heap_alloc_new _ _)
  have HGO : Hid (∀ y, Below w.heap.size w y → Calls Tryz.prog 28 #[.slice A n c, .int .i64 tm] y fun e w' => ∃ A2 n2 c2, e = .returned (.slice A2 n2 c2) ∧ IRow w' A2 n2 c2 (goneS (l.map (·.s)) tm) ∧ (∀ ad, A2 = some ad → 0 < n2 → y.heap.size ≤ ad.block) ∧ Below y.heap.size y w') := Lib.hid fun y h => vGone_new A n c l tm y (hl.later h) hn ho
  have HAC : Hid (∀ y, Below w.heap.size w y → Calls Tryz.prog 29 #[.slice A n c, .int .i64 tm] y (GivesV y (activeS (l.map (·.s)) tm))) := Lib.hid fun y h => vActive_any A n c l tm y (hl.later h) hn ho
  have HAL : Hid ((activeS (l.map (·.s)) tm).length ≤ 100000) := Lib.hid (by have h := Nat.le_trans (activeUp_len (vouchesS (l.map (·.s))) (goneS (l.map (·.s)) tm) tm (vouchesS (l.map (·.s))).length) (vouchesS_len (l.map (·.s))); rw [List.length_map, hl.len] at h; exact Nat.le_trans h hn)
  have HRW : Hid (atG (l.map (·.s)) tm lv = if lv < 1 ∨ 3 < lv then (noGr, 2) else if 500 < (upE (activeS (l.map (·.s)) tm) lv).length then (noGr, 3) else (⟨64, upE (activeS (l.map (·.s)) tm) lv, goneS (l.map (·.s)) tm⟩, 0)) := Lib.hid rfl
  generalize atG (l.map (·.s)) tm lv = RW at *
  generalize activeS (l.map (·.s)) tm = all at *
  generalize goneS (l.map (·.s)) tm = gone at *
  clear hl ho
  go_enter Tryz.func11, Tryz.ntmps11
  go_upto_region 1 with fail
  generalize (w.alloc (.cells #[.int .i64 0, .slice none 0 0, .slice none 0 0] 35)) = y0 at *
  have HSZ : Hid (w.heap.size + 1 ≤ y0.heap.size) := Lib.hid (Array.getElem?_eq_some_iff.1 HR.out).1
  go_wp2_with fail
  refine (levGr_any lv y0).mono ?_
  rintro e1 y1 ⟨rfl, rfl⟩
  by_cases t0 : lv < 1 ∨ 3 < lv
  · have f0 : (decide (1 ≤ lv) && decide (lv ≤ 3)) = false := by
      rcases t0 with h | h
      · rw [decide_eq_false (by omega : ¬ 1 ≤ lv), Bool.false_and]
      · rw [decide_eq_false (by omega : ¬ lv ≤ 3), Bool.and_false]
    have HE : Hid (RW = (noGr, 2)) := Lib.hid (by rw [HRW.out, if_pos t0])
    rw [f0]
    clear t0 f0
    go_wp2_with (refine wpList_store_row rfl 35 (.tmp 6) (.tmp 14) rfl w.heap.size #[.int .i64 0, .slice none 0 0, .slice none 0 0] rfl rfl 35 _ HR.out gr_size rfl (by simp [Value.oneCell']) ?_)
    refine bodyPost_ret (results_ge rfl rfl rfl (setRow_heap _ _ _ #[.int .i64 0, .slice none 0 0, .slice none 0 0] _ _ HR.out) rfl) rfl ?_
    rw [HE.out]
    exact ⟨_, rfl, (GOwn.none _ 0).hold, below_setRow HB.out (Nat.le_refl _) _⟩
  · have f0 : (decide (1 ≤ lv) && decide (lv ≤ 3)) = true := by rw [decide_eq_true (by omega : 1 ≤ lv), decide_eq_true (by omega : lv ≤ 3)]; rfl
    replace HRW : Hid (RW = if 500 < (upE all lv).length then (noGr, 3) else (⟨64, upE all lv, gone⟩, 0)) := Lib.hid (by rw [HRW.out, if_neg t0])
    rw [f0]
    clear t0 f0
    go_wp2_with fail
    refine (HGO.out y1 HB.out).mono ?_
    rintro e1 w1 ⟨Ag, ng, cg, rfl, hg, hgn, hb⟩
    have HG1 := Lib.hid hg
    have HGW : Hid (∀ ad, Ag = some ad → 0 < ng → w.heap.size + 1 ≤ ad.block) := Lib.hid fun ad hA h0 => Nat.le_trans HSZ.out (hgn ad hA h0)
    replace HR := Lib.hid ((hb.block _ (by have := HSZ.out; omega)).trans HR.out)
    replace HB := Lib.hid (HB.out.trans (hb.mono HB.out.size))
    replace HSZ : Hid (w.heap.size + 1 ≤ w1.heap.size) := Lib.hid (Nat.le_trans HSZ.out hb.size)
    clear hg hgn hb HGO
    go_upto_region 4 with (refine wpList_store_new rfl 35 (.tmp 8) (.tmp 18) rfl 35 _ #[.int .i64 64, .slice none 0 0, .slice Ag ng cg] rfl rfl gr_size rfl (by simp [Value.oneCell']) ?_)
    have HO8 : Hid ((w1.alloc (.cells #[.int .i64 64, .slice none 0 0, .slice Ag ng cg] 35)).heap[w1.heap.size]? = some (.cells #[.int .i64 64, .slice none 0 0, .slice Ag ng cg] 35 (0, 0))) := Lib.hid (heap_alloc_new _ _)
    have hb := one_new w1 (.cells #[.int .i64 64, .slice none 0 0, .slice Ag ng cg] 35)
    have HBG : Hid (Below w1.heap.size w1 (w1.alloc (.cells #[.int .i64 64, .slice none 0 0, .slice Ag ng cg] 35))) := Lib.hid hb
    replace HR := Lib.hid ((hb.block _ (by have := HSZ.out; omega)).trans HR.out)
    replace HB := Lib.hid (HB.out.trans (hb.mono HB.out.size))
    clear hb
    obtain ⟨g8, hg8⟩ : ∃ g8, w1.heap.size = g8 := ⟨_, rfl⟩
    rw [hg8] at HO8 HBG ⊢
    have HG8 : Hid (w.heap.size + 1 ≤ g8) := Lib.hid (by rw [← hg8]; exact HSZ.out)
    have HGK : Hid (∀ y, Below g8 w1 y → IRow y Ag ng cg gone) := Lib.hid fun y hy => HG1.out.later (by show Below w1.heap.size w1 y; rw [hg8]; exact hy)
    clear HG1 hg8
    generalize w1.alloc (.cells #[.int .i64 64, .slice none 0 0, .slice Ag ng cg] 35) = u0 at *
    try dsimp only [Act.put]
    go_wp2_with fail
    refine (HAC.out u0 HB.out).mono ?_
    rintro e1 u1 ⟨A2, n2, c2, rfl, hv, hb⟩
    have hgs : g8 < u0.heap.size := (Array.getElem?_eq_some_iff.1 HO8.out).1
    have HV := Lib.hid hv
    have HLN : Hid (all.length = n2) := Lib.hid (VRow.len hv)
    have hn2 : n2 ≤ 100000 := by rw [← HLN.out]; exact HAL.out
    replace HBG := Lib.hid (HBG.out.trans (hb.mono (Nat.le_of_lt hgs)))
    replace HO8 := Lib.hid ((hb.block _ hgs).trans HO8.out)
    replace HR := Lib.hid ((hb.block _ (by have := HG8.out; omega)).trans HR.out)
    replace HB := Lib.hid (HB.out.trans (hb.mono HB.out.size))
    obtain ⟨n0, hn0⟩ : ∃ n0, u1.heap.size = n0 := ⟨_, rfl⟩
    have HN0 := Lib.hid hn0
    have HGN : Hid (g8 < n0) := Lib.hid (by rw [← hn0]; exact Nat.lt_of_lt_of_le hgs hb.size)
    have HVK : Hid (∀ y, Midst g8 n0 u1 y → VRow y A2 n2 c2 all) := Lib.hid fun y hy => Row.keep HV.out fun ad hA h1 hlt => hy.2 _ (by rw [← hn0]; exact hlt) (vrow_not HV.out HO8.out ad hA h1)
    clear hv hb hgs hn0 HAC HV HAL
    go_wp2_with fail
    go_loopw [23] (fun i wr => ∃ (j : Nat) (ve : Value), j ≤ n2 ∧ i = .int .i64 j ∧ Hid (wr.heap[g8]? = some (.cells #[.int .i64 64, ve, .slice Ag ng cg] 35 (0, 0)) ∧ wr.ownsRow n0 53 3 ve ((all.take j).map edgeOf).length (rowC Edg.cells ((all.take j).map edgeOf)) ∧ Midst g8 n0 u1 wr ∧ n0 ≤ wr.heap.size)) (fun i _ => n2 - (intOf i).toNat)
    case atStart => exact ⟨0, .slice none 0 0, Nat.zero_le _, rfl, Lib.hid ⟨HO8.out, World.ownsRow_nil _ _ _ _, Midst.refl _ _ _, Nat.le_of_eq HN0.out.symm⟩⟩
    case round =>
      clear HO8
      obtain ⟨j, ve, hj, rfl, HQ⟩ := hrel
      have HO := Lib.hid HQ.out.1; have HE := Lib.hid HQ.out.2.1; have HZ := Lib.hid HQ.out.2.2.1; have HN := Lib.hid HQ.out.2.2.2
      clear HQ
      obtain ⟨Ae, ce, hve, -⟩ := Row.of_own HE.out
      subst hve
      by_cases hlt : j < n2
      · have hlt2 : (j : Int) < (n2 : Int) := by omega
        obtain ⟨b, off, hA, hc⟩ := GRow.cells Vou.len (by decide) (HVK.out wr HZ.out) noVou j hlt
        subst hA
        have HST := Lib.hid (mapE_snoc all j (by rw [HLN.out]; exact hlt))
        have HUL : Hid (((all.take j).map edgeOf).length ≤ 100000) := Lib.hid (by rw [List.length_map, List.length_take]; omega)
        obtain ⟨p, hp⟩ : ∃ p, all.getD j noVou = p := ⟨_, rfl⟩
        rw [hp] at hc HST
        have HC : Hid (∀ q, q < p.arr.size → wr.cell? ⟨b, off + j * 7 + q, none⟩ = p.arr[q]?) := Lib.hid fun q hq => (hc q hq).trans (by rw [← Vou.list, Array.getElem?_toList])
        clear hc hp
        generalize (all.take j).map edgeOf = U at *
        go_upto_region 7 with (first | (refine wpList_load_cells rfl 67 (.tmp 25) rfl b (off + j * 7) rfl p.arr _ Tryz.underlying67 rfl p.info HC.out ?_) | (refine wpList_store_new rfl 67 (.tmp 10) (.tmp 26) rfl 67 _ p.arr rfl rfl p.info rfl p.one ?_))
        have hb : Below n0 wr (wr.alloc (.cells p.arr 67)) := (one_new wr _).mono HN.out
        have HY : Hid ((wr.alloc (.cells p.arr 67)).heap[wr.heap.size]? = some (.cells p.arr 67 (0, 0))) := Lib.hid (heap_alloc_new _ _)
        have hgn := HGN.out
        replace HE := Lib.hid (World.ownsRow.alloc HE.out (.cells p.arr 67))
        replace HO := Lib.hid ((hb.block g8 hgn).trans HO.out)
        replace HZ := Lib.hid (HZ.out.trans (Midst.of hb (Nat.le_of_lt hgn)))
        replace HN := Lib.hid (Nat.le_trans HN.out hb.size)
        clear hb HC
        generalize wr.alloc (.cells p.arr 67) = x2 at *
        generalize wr.heap.size = g9 at *
        obtain ⟨hy0, hy1, hy2, -, -, -, -⟩ := vou_cells7 HY.out
        have hz1 : x2.cell? ⟨g8, 1, none⟩ = some (.slice Ae U.length ce) := (cell_of_row _ _ 1 _ _ _ HO.out).trans rfl
        have hul := HUL.out
        have hsz := HN.out
        have HEP : Hid (edgeOf p = ⟨p.fr, p.tu, p.lv⟩) := Lib.hid rfl
        generalize p.fr = pf at *
        generalize p.tu = pt at *
        generalize p.lv = pl at *
        go_wp2_with (at_builtin; go_must (refine wpList_app_newK x2 rfl (.tmp 28) (.tmp 36) 33 53 rfl n0 Tryz.underlying33 edg_info rfl _ U.length (rowC Edg.cells U) HE.out rfl 1 #[.int .i64 pf, .int .i64 pt, .int .i64 pl] rfl (by simp [Value.oneCell']) rfl rfl (by unfold maxLen; omega) (by omega) hsz ?_); intro v4 z7 ho hb hk1 _; have HE3 := Lib.hid ho; have HBB : Hid (Below n0 x2 z7) := Lib.hid hb; have HO7 : Hid (z7.heap[g8]? = some (.cells #[.int .i64 64, .slice Ae U.length ce, .slice Ag ng cg] 35 (0, 0))) := Lib.hid ((hb.block g8 hgn).trans HO.out); (obtain ⟨A4, c4, hv4, _⟩ := Row.of_own ho); subst hv4; have hz1 : z7.cell? ⟨g8, 1, none⟩ = some (.slice Ae U.length ce) := (cell_of_row _ _ 1 _ _ _ HO7.out).trans rfl; have hfz : z7.frozen? ⟨g8, 1, none⟩ = false := (by unfold World.frozen?; rw [HO7.out]; simp); clear ho hb hk1)
        have HO9 : Hid ((z7.setCell ⟨g8, 1, none⟩ (.slice A4 (U.length + 1) c4)).heap[g8]? = some (.cells #[.int .i64 64, .slice A4 (U.length + 1) c4, .slice Ag ng cg] 35 (0, 0))) := Lib.hid (heap_setCell_same z7 g8 1 _ _ _ HO7.out)
        have HE9 := Lib.hid (own_keepL HE3.out fun q hq => Below.heap_setCell z7 ⟨g8, 1, none⟩ (.slice A4 (U.length + 1) c4) q (by have := own_ge HE3.out q hq; show q ≠ g8; omega))
        have HZ9 := Lib.hid ((HZ.out.trans (Midst.of HBB.out (Nat.le_of_lt hgn))).trans (Midst.cell z7 1 (.slice A4 (U.length + 1) c4)))
        have HN9 : Hid (n0 ≤ (z7.setCell ⟨g8, 1, none⟩ (.slice A4 (U.length + 1) c4)).heap.size) := Lib.hid (by rw [World.size_setCell]; exact Nat.le_trans HN.out HBB.out.size)
        exact ⟨⟨j + 1, _, by omega, by go_num, Lib.hid ⟨HO9.out, by rw [HST.out, List.length_append, rowC_app, HEP.out]; exact HE9.out, HZ9.out, HN9.out⟩⟩, by simp [intOf]; omega⟩
      · have hlt2 : ¬ (j : Int) < (n2 : Int) := by omega
        have HT : Hid (all.take j = all) := Lib.hid (List.take_of_length_le (by rw [HLN.out]; omega))
        rw [HT.out] at HE HO
        clear HT
        have hgg := HG8.out
        have hgn := HGN.out
        replace HR : Hid (wr.heap[w.heap.size]? = some (.cells #[.int .i64 0, .slice none 0 0, .slice none 0 0] 35 (0, 0))) := Lib.hid ((HZ.out.1.block _ (by omega)).trans HR.out)
        have HBW : Hid (Below w.heap.size w wr) := Lib.hid (HB.out.trans (HZ.out.1.mono (by omega)))
        have HGB : Hid (Below g8 w1 wr) := Lib.hid (HBG.out.trans HZ.out.1)
        have HLV := Lib.hid (levelGr_own (⟨64, all.map edgeOf, gone⟩ : Gr) Ae _ ce Ag ng cg lv wr (own_rowE8 HE.out) (HGK.out wr HGB.out) (by show (all.map edgeOf).length ≤ 100000; rw [List.length_map, HLN.out]; exact hn2))
        rw [level_up] at HLV
        generalize (all.map edgeOf).length = LL at *
        go_wp2_with (refine wpList_load_row rfl 35 (.tmp 8) rfl g8 rfl 35 #[.int .i64 64, .slice Ae LL ce, .slice Ag ng cg] (0, 0) _ HO.out Tryz.underlying35 rfl gr_size ?_)
        refine HLV.out.mono ?_
        rintro e1 w4 ⟨A5, c5, rfl, h5, hb⟩
        replace HO := Lib.hid ((hb.block _ (Array.getElem?_eq_some_iff.1 HO.out).1).trans HO.out)
        replace HR := Lib.hid ((hb.block _ (Array.getElem?_eq_some_iff.1 HR.out).1).trans HR.out)
        replace HBW := Lib.hid (HBW.out.trans (hb.mono HBW.out.size))
        have hgw : g8 < wr.heap.size := Nat.lt_of_lt_of_le hgn HN.out
        have HGB4 : Hid (Below g8 w1 w4) := Lib.hid (HGB.out.trans (hb.mono (Nat.le_of_lt hgw)))
        have HE5 : Hid (w4.ownsRow wr.heap.size 53 3 (.slice A5 (upE all lv).length c5) (upE all lv).length (rowC Edg.cells (upE all lv))) := Lib.hid h5
        clear h5 hb HLV
        go_upto_region 10 with (refine wpList_store_row rfl 35 (.tmp 8) (.tmp 42) rfl g8 #[.int .i64 64, .slice A5 (upE all lv).length c5, .slice Ag ng cg] rfl rfl 35 _ HO.out gr_size rfl (by simp [Value.oneCell']) ?_)
        try dsimp only [Act.put]
        have HO5 : Hid ((w4.setRow g8 #[.int .i64 64, .slice A5 (upE all lv).length c5, .slice Ag ng cg]).heap[g8]? = some (.cells #[.int .i64 64, .slice A5 (upE all lv).length c5, .slice Ag ng cg] 35 (0, 0))) := Lib.hid (setRow_heap _ _ _ #[.int .i64 64, .slice A5 (upE all lv).length c5, .slice Ag ng cg] _ _ HO.out)
        have HKR : Hid (∀ q, q ≠ g8 → (w4.setRow g8 #[.int .i64 64, .slice A5 (upE all lv).length c5, .slice Ag ng cg]).heap[q]? = w4.heap[q]?) := Lib.hid fun q hq => setRow_other _ _ _ _ hq
        have HR5 := Lib.hid ((HKR.out w.heap.size (by omega)).trans HR.out)
        have HB5 : Hid (Below w.heap.size w (w4.setRow g8 #[.int .i64 64, .slice A5 (upE all lv).length c5, .slice Ag ng cg])) := Lib.hid (below_setRow HBW.out (by omega) _)
        have HGB5 : Hid (Below g8 w1 (w4.setRow g8 #[.int .i64 64, .slice A5 (upE all lv).length c5, .slice Ag ng cg])) := Lib.hid (below_setRow HGB4.out (Nat.le_refl _) _)
        have HE6 := Lib.hid (own_keepL HE5.out fun q hq => HKR.out q (by have := own_ge HE5.out q hq; omega))
        clear HO HR HBW HGB4 HE5 HKR
        generalize w4.setRow g8 #[.int .i64 64, .slice A5 (upE all lv).length c5, .slice Ag ng cg] = w5 at *
        have hc1 : w5.cell? ⟨g8, 1, none⟩ = some (.slice A5 (upE all lv).length c5) := (cell_of_row _ _ 1 _ _ _ HO5.out).trans rfl
        by_cases hk : 500 < (upE all lv).length
        · have b0 : decide (((upE all lv).length : Int) > 500) = true := decide_eq_true (by omega)
          have b0' : decide ((500 : Int) < ((upE all lv).length : Int)) = true := b0
          have HX : Hid (RW = (noGr, 3)) := Lib.hid (by rw [HRW.out, if_pos hk])
          clear hk
          go_wp2_with (refine wpList_store_row rfl 35 (.tmp 6) (.tmp 47) rfl w.heap.size #[.int .i64 0, .slice none 0 0, .slice none 0 0] rfl rfl 35 _ HR5.out gr_size rfl (by simp [Value.oneCell']) ?_)
          refine bodyPost_ret (results_ge rfl rfl rfl (setRow_heap _ _ _ #[.int .i64 0, .slice none 0 0, .slice none 0 0] _ _ HR5.out) rfl) rfl ?_
          rw [HX.out]
          exact ⟨_, rfl, (GOwn.none _ 0).hold, below_setRow HB5.out (Nat.le_refl _) _⟩
        · have b0 : decide (((upE all lv).length : Int) > 500) = false := decide_eq_false (by omega)
          have b0' : decide ((500 : Int) < ((upE all lv).length : Int)) = false := b0
          have HX : Hid (RW = (⟨64, upE all lv, gone⟩, 0)) := Lib.hid (by rw [HRW.out, if_neg hk])
          clear hk
          go_wp2_with (first | (refine wpList_load_row rfl 35 (.tmp 8) rfl g8 rfl 35 #[.int .i64 64, .slice A5 (upE all lv).length c5, .slice Ag ng cg] (0, 0) _ HO5.out Tryz.underlying35 rfl gr_size ?_) | (refine wpList_store_row rfl 35 (.tmp 6) (.tmp 48) rfl w.heap.size #[.int .i64 64, .slice A5 (upE all lv).length c5, .slice Ag ng cg] rfl rfl 35 _ HR5.out gr_size rfl (by simp [Value.oneCell']) ?_))
          refine bodyPost_ret (results_ge rfl rfl rfl (setRow_heap _ _ _ #[.int .i64 64, .slice A5 (upE all lv).length c5, .slice Ag ng cg] _ _ HR5.out) rfl) rfl ?_
          rw [HX.out]
          have hbf : Below w.heap.size w (w5.setRow w.heap.size #[.int .i64 64, .slice A5 (upE all lv).length c5, .slice Ag ng cg]) := below_setRow HB5.out (Nat.le_refl _) _
          refine ⟨_, rfl, ⟨A5, _, c5, Ag, ng, cg, rfl, own_rowE8 (own_keepL HE6.out fun q hq => setRow_other w5 w.heap.size q #[.int .i64 64, .slice A5 (upE all lv).length c5, .slice Ag ng cg] (by have := own_ge HE6.out q hq; omega)), ?_⟩, hbf⟩
          exact Row.keep (HGK.out w5 HGB5.out) fun ad hA h0 _ => setRow_other w5 w.heap.size ad.block #[.int .i64 64, .slice A5 (upE all lv).length c5, .slice Ag ng cg] (by have := HGW.out ad hA h0; omega)
end Go.Proofs.YtnmpbjgccbnomaaGreat
/- Plain facts on the graph of a time. -/
namespace Go.Proofs.YtnmpbjgccbnomaaGreat
open Go.RowKit
theorem check_range {s : Stm} (h : checkV s = 0) : isKeyB s.author = true ∧ rangeB s = true := by
  unfold checkV at h
  split at h
  · exact absurd h (by decide)
  · rename_i h1
    split at h
    · exact absurd h (by decide)
    · split at h
      · exact absurd h (by decide)
      · split at h
        · exact absurd h (by decide)
        · rename_i h4
          exact ⟨by simpa using h1, by simpa using h4⟩
theorem btw_iff (v lo hi : Int) : btw v lo hi = true ↔ lo ≤ v ∧ v ≤ hi := by
  unfold btw
  rw [Bool.and_eq_true, decide_eq_true_eq, decide_eq_true_eq]
/-- What a vouch that is well formed says. -/
theorem vouch_fits {s : Stm} (h : checkV s = 0) (hk : s.kind = 1) : (0 ≤ s.author ∧ s.author < 64) ∧ (0 ≤ s.a ∧ s.a < 64) ∧ s.author ≠ s.a ∧ 1 ≤ s.b ∧ s.b ≤ 3 := by
  obtain ⟨h1, h2⟩ := check_range h
  unfold rangeB at h2
  rw [Bool.and_eq_true] at h2
  have h3 := h2.2
  unfold fitsB at h3
  rw [if_pos hk, Bool.and_eq_true, Bool.and_eq_true, Bool.and_eq_true] at h3
  obtain ⟨⟨⟨h4, h5⟩, h6⟩, -⟩ := h3
  unfold isKeyB at h1 h4
  rw [btw_iff] at h1 h4 h6
  have h7 : s.a ≠ s.author := by simpa using h5
  exact ⟨⟨h1.1, by omega⟩, ⟨h4.1, by omega⟩, fun e => h7 e.symm, h6.1, h6.2⟩
theorem goneUp_low (L : List Stm) (tm : Int) : ∀ j x, x ∈ goneUp L tm j → 0 ≤ x ∧ x < (j : Int)
  | 0, x, h => nomatch h
  | j + 1, x, h => by
    unfold goneUp at h
    rw [List.mem_append] at h
    rcases h with h | h
    · have := goneUp_low L tm j x h; omega
    · split at h
      · rw [List.mem_singleton] at h; omega
      · exact nomatch h
theorem goneUp_ascG (L : List Stm) (tm : Int) : ∀ j, (goneUp L tm j).Pairwise (· < ·)
  | 0 => List.Pairwise.nil
  | j + 1 => by
    unfold goneUp
    rw [List.pairwise_append]
    refine ⟨goneUp_ascG L tm j, ?_, ?_⟩
    · split
      · exact List.pairwise_singleton _ _
      · exact List.Pairwise.nil
    · intro a ha b hb
      have := goneUp_low L tm j a ha
      split at hb
      · rw [List.mem_singleton] at hb; omega
      · exact nomatch hb
theorem getDI {l : List Int} {i : Nat} (h : i < l.length) : l.getD i 0 = l[i] := by rw [List.getD_eq_getElem?_getD, List.getElem?_eq_getElem h]; rfl
theorem gone_set (L : List Stm) (tm : Int) : setB (goneS L tm) 64 = true := by
  refine setB_yes fun i hi => ?_
  have h1 := goneUp_low L tm 64 _ (List.getElem_mem hi)
  have h2 : i = 0 ∨ (goneS L tm).getD (i - 1) 0 < (goneS L tm).getD i 0 := by
    rcases Nat.eq_zero_or_pos i with h0 | h0
    · exact .inl h0
    · right
      rw [getDI hi, getDI (by omega)]
      exact pair_at (goneUp_ascG L tm 64) (by omega) hi
  unfold okSet
  rw [getDI hi, Bool.and_eq_true, Bool.and_eq_true, Bool.or_eq_true, decide_eq_true_eq, decide_eq_true_eq, decide_eq_true_eq, decide_eq_true_eq]
  refine ⟨h1.1, h1.2, h2.imp id fun h => ?_⟩
  rw [getDI hi] at h
  exact h
theorem edge_of {L : List Stm} (h : Ord10 L) {tm lv : Int} {e : Edg} (he : e ∈ edgesAt L tm lv) : ∃ s, ActS L tm s ∧ e = ⟨s.author, s.a, s.b⟩ := by
  unfold edgesAt at he
  obtain ⟨y, hy, rfl⟩ := List.mem_map.1 he
  obtain ⟨s, hs, rfl⟩ := (active_mem h tm y).1 (List.mem_filter.1 hy).1
  exact ⟨s, hs, rfl⟩
/-- Between two keys only one vouch is active. -/
theorem active_lt {L : List Stm} (h : Ord10 L) (tm : Int) : (activeS L tm).Pairwise fun a b => a.fr < b.fr ∨ (a.fr = b.fr ∧ a.tu < b.tu) := by
  refine List.Pairwise.imp_of_mem ?_ (active_sorted h tm)
  intro a b ha hb hab
  unfold ltV at hab
  obtain ⟨s, hs, rfl⟩ := (active_mem h tm a).1 ha
  obtain ⟨t, ht, rfl⟩ := (active_mem h tm b).1 hb
  rcases hab with h1 | ⟨h1, h2 | ⟨h2, h3⟩⟩
  · exact .inl h1
  · exact .inr ⟨h1, h2⟩
  · exact absurd ⟨t, ht.mem, ht.kind, h1.symm, h2.symm, h3, ht.time⟩ hs.last
theorem edges_asc {L : List Stm} (h : Ord10 L) (tm lv : Int) : (edgesAt L tm lv).Pairwise ltE := by
  unfold edgesAt
  rw [List.pairwise_map]
  exact (active_lt h tm).filter _
theorem atG_good {L : List Stm} (h : Ord10 L) (tm lv : Int) : Good11 (atG L tm lv).1 := by
  unfold atG
  split
  · exact noGr_good
  · split
    · exact noGr_good
    · rename_i hn
      refine ⟨by show (0 : Int) ≤ 64; decide, Int.le_refl _, by show (edgesAt L tm lv).length ≤ 500; omega, gone_set L tm, ?_, ?_, edges_asc h tm lv, ?_⟩
      · intro e he
        obtain ⟨s, hs, rfl⟩ := edge_of h he
        obtain ⟨h1, h2, h3, -⟩ := vouch_fits (h.ok s hs.mem) hs.kind
        unfold endsB keyB
        simp only
        rw [decide_eq_true h1.1, decide_eq_true h1.2, decide_eq_true h2.1, decide_eq_true h2.2, decide_eq_false h3]; rfl
      · intro e he
        obtain ⟨s, hs, rfl⟩ := edge_of h he
        obtain ⟨-, -, -, h4, h5⟩ := vouch_fits (h.ok s hs.mem) hs.kind
        unfold levB
        simp only
        rw [decide_eq_true h4, decide_eq_true h5]; rfl
      · intro e he
        obtain ⟨s, hs, rfl⟩ := edge_of h he
        unfold freeB
        simp only
        rw [hs.here, hs.there]; rfl
theorem vouches_len (L : List Stm) : ∀ (m : List Stm) (out : List Vou), (m.foldl (vouStep L) out).length ≤ out.length + m.length
  | [], out => Nat.le_refl _
  | x :: m, out => by
    rw [List.foldl_cons]
    have h := vouches_len L m (vouStep L out x)
    have h2 : (vouStep L out x).length ≤ out.length + 1 := by
      unfold vouStep
      split
      · rw [insV_len]; exact Nat.le_refl _
      · exact Nat.le_succ _
    rw [List.length_cons]
    omega
theorem edges_len (L : List Stm) (tm lv : Int) : (edgesAt L tm lv).length ≤ L.length := by
  unfold edgesAt
  rw [List.length_map]
  have h1 := List.length_filter_le (fun v : Vou => decide (lv ≤ v.lv)) (activeS L tm)
  have h2 : (activeS L tm).length ≤ (vouchesS L).length := activeUp_len _ _ _ _
  have h3 : (vouchesS L).length ≤ 0 + L.length := vouches_len L L []
  omega
theorem at_level {L : List Stm} (hl : L.length ≤ 500) (tm : Int) : levelG (atG L tm 1).1 3 = (atG L tm 3).1 := by
  have h1 := edges_len L tm 1
  have h3 := edges_len L tm 3
  unfold atG levelG
  rw [if_neg (by decide), if_neg (by omega), if_neg (by decide), if_neg (by omega)]
  have he : (edgesAt L tm 1).filter (fun e => decide (3 ≤ e.lv)) = edgesAt L tm 3 := by
    unfold edgesAt
    rw [List.filter_map, List.filter_filter]
    congr 1
    refine List.filter_congr fun v _ => ?_
    show (decide (3 ≤ v.lv) && decide (1 ≤ v.lv)) = decide (3 ≤ v.lv)
    by_cases h : (3 : Int) ≤ v.lv
    · rw [decide_eq_true h, decide_eq_true (by omega)]; rfl
    · rw [decide_eq_false h]; rfl
  simp only
  rw [he]
theorem at_ok {L : List Stm} (hl : L.length ≤ 500) (tm : Int) : atG L tm 1 = (⟨64, edgesAt L tm 1, goneS L tm⟩, 0) := by
  have h1 := edges_len L tm 1
  unfold atG
  rw [if_neg (by decide), if_neg (by omega)]
theorem hasI_iff (x : Int) : ∀ l : List Int, hasI l x = true ↔ x ∈ l
  | [] => ⟨fun h => (nomatch h), fun h => (nomatch h)⟩
  | a :: l => by
    rw [List.mem_cons, hasI]
    split
    · rename_i h; exact ⟨fun _ => .inl h.symm, fun _ => rfl⟩
    · rename_i h
      rw [hasI_iff x l]
      exact ⟨.inr, fun h2 => h2.elim (fun h3 => absurd h3.symm h) id⟩
theorem goneUp_memG (L : List Stm) (tm : Int) : ∀ j (k : Nat), ((k : Int) ∈ goneUp L tm j ↔ k < j ∧ isGoneB L tm k = true)
  | 0, k => ⟨fun h => (nomatch h), fun h => absurd h.1 (Nat.not_lt_zero _)⟩
  | j + 1, k => by
    unfold goneUp
    rw [List.mem_append, goneUp_memG L tm j k]
    constructor
    · rintro (h | h)
      · exact ⟨by omega, h.2⟩
      · split at h
        · rename_i hg
          rw [List.mem_singleton] at h
          have : k = j := by omega
          subst this
          exact ⟨by omega, hg⟩
        · exact nomatch h
    · rintro ⟨h1, h2⟩
      by_cases hk : k < j
      · exact .inl ⟨hk, h2⟩
      · have : k = j := by omega
        subst this
        right
        rw [if_pos h2]
        exact List.mem_singleton.2 rfl
theorem gone_iff {L : List Stm} {s : Stm} (hs : 0 ≤ s.author ∧ s.author < 64) (tm : Int) : hasI (goneS L tm) s.author = true ↔ ∃ t ∈ L, t.author = s.author ∧ t.kind = 3 ∧ t.time ≤ tm := by
  obtain ⟨k, hk⟩ : ∃ k : Nat, s.author = k := ⟨s.author.toNat, by omega⟩
  rw [hasI_iff, hk, goneS, goneUp_memG, isGoneB, List.any_eq_true]
  constructor
  · rintro ⟨-, t, ht, hl⟩
    unfold leftB at hl
    rw [Bool.and_eq_true, Bool.and_eq_true, decide_eq_true_eq, decide_eq_true_eq, decide_eq_true_eq] at hl
    exact ⟨t, ht, hl.1.1, hl.1.2, hl.2⟩
  · rintro ⟨t, ht, h1, h2, h3⟩
    refine ⟨by omega, t, ht, ?_⟩
    unfold leftB
    rw [Bool.and_eq_true, Bool.and_eq_true, decide_eq_true_eq, decide_eq_true_eq, decide_eq_true_eq]
    exact ⟨⟨h1, h2⟩, h3⟩
end Go.Proofs.YtnmpbjgccbnomaaGreat
/- Plain facts on what counts: how many, and one resignation an author. -/
namespace Go.Proofs.YtnmpbjgccbnomaaGreat
open Go.RowKit
def belowB (j : Nat) (s : Stm) : Bool := decide (0 ≤ s.author) && decide (s.author < (j : Int))
theorem below_split (j : Nat) : ∀ l : List Stm, (l.filter (belowB j)).length + (ofS (j : Int) l).length ≤ (l.filter (belowB (j + 1))).length
  | [] => Nat.le_refl _
  | s :: l => by
    have h := below_split j l
    unfold ofS at h ⊢
    rw [List.filter_cons, List.filter_cons, List.filter_cons]
    by_cases h1 : s.author = (j : Int)
    · have a0 : belowB j s = false := by unfold belowB; rw [decide_eq_false (show ¬ s.author < (j : Int) by omega), Bool.and_false]
      have a1 : belowB (j + 1) s = true := by unfold belowB; rw [decide_eq_true (show (0 : Int) ≤ s.author by omega), decide_eq_true (show s.author < ((j + 1 : Nat) : Int) by omega)]; rfl
      rw [a0, a1, decide_eq_true h1]
      simp only [if_true, Bool.false_eq_true, if_false, List.length_cons]
      omega
    · by_cases h2 : belowB j s = true
      · have a1 : belowB (j + 1) s = true := by
          unfold belowB at h2 ⊢
          rw [Bool.and_eq_true, decide_eq_true_eq, decide_eq_true_eq] at h2
          rw [decide_eq_true h2.1, decide_eq_true (show s.author < ((j + 1 : Nat) : Int) by omega)]; rfl
        rw [h2, a1, decide_eq_false h1]
        simp only [if_true, Bool.false_eq_true, if_false, List.length_cons]
        omega
      · rw [Bool.not_eq_true] at h2
        rw [h2, decide_eq_false h1]
        simp only [Bool.false_eq_true, if_false]
        split
        · rw [List.length_cons]; omega
        · exact h
theorem countedUp_below (l : List Stm) : ∀ j, (countedUp l j).length ≤ (l.filter (belowB j)).length
  | 0 => Nat.zero_le _
  | j + 1 => by
    rw [countedUp_succ, List.length_append]
    have h1 := countedUp_below l j
    have h2 := countedR_len (j : Int) (ofS (j : Int) l)
    have h3 := below_split j l
    omega
theorem countedAll_len (l : List Stm) : (countedAll l).length ≤ l.length := Nat.le_trans (countedUp_below l 64) (List.length_filter_le _ _)
/-- Behind a resignation nothing counts. -/
theorem countedR_last (au : Int) (l : List Stm) (i : Nat) (hi : i + 1 < (countedR au l).length) : ((countedR au l).getD i noStm).kind ≠ 3 := by
  unfold countedR at hi ⊢
  have hi2 : i + 1 < countsFrom (ownL au l) (ownL au l).length 0 := by rw [List.length_take] at hi; omega
  rw [getD_take7 _ (by omega)]
  have h1 := countsFrom_all (ownL au l) (ownL au l).length 0 (i + 1) (Nat.zero_le _) hi2
  unfold stepR at h1
  rw [Bool.and_eq_true, Bool.and_eq_true, Bool.or_eq_true, decide_eq_true_eq] at h1
  rcases h1.2.2 with h2 | h2
  · exact absurd h2 (by rw [decide_eq_true_eq]; omega)
  · rw [Bool.and_eq_true] at h2
    intro hk
    rw [Nat.add_sub_cancel, hk] at h2
    exact absurd h2.2 (by decide)
theorem countedR_one {au : Int} {l : List Stm} {s t : Stm} (hs : s ∈ countedR au l) (ht : t ∈ countedR au l) (hk : s.kind = 3) (hk2 : t.kind = 3) : s = t := by
  obtain ⟨i, hi, rfl⟩ := mem_at hs
  obtain ⟨j, hj, rfl⟩ := mem_at ht
  have h1 : ¬ i + 1 < (countedR au l).length := fun h => countedR_last au l i h hk
  have h2 : ¬ j + 1 < (countedR au l).length := fun h => countedR_last au l j h hk2
  rw [show i = j by omega]
theorem counted_of {l : List Stm} {s : Stm} (h : s ∈ countedAll l) : s ∈ countedR s.author (ofS s.author l) := by
  obtain ⟨k, _, hk⟩ := List.mem_flatMap.1 h
  rw [countedR_author hk]
  exact hk
/-- At most one resignation of an author counts. -/
theorem counted_one {l : List Stm} {s t : Stm} (hs : s ∈ countedAll l) (ht : t ∈ countedAll l) (hk : s.kind = 3) (hk2 : t.kind = 3) (he : t.author = s.author) : s = t := by
  have h1 := counted_of hs
  have h2 := counted_of ht
  rw [he] at h2
  exact countedR_one h1 h2 hk hk2
theorem gone_time {l : List Stm} {s : Stm} (hs : s ∈ countedAll l) (hk : s.kind = 3) (tm : Int) : hasI (goneS (countedAll l) tm) s.author = decide (s.time ≤ tm) := by
  have hc := (check_range (counted_check hs)).1
  unfold isKeyB at hc
  rw [btw_iff] at hc
  have hg := gone_iff (L := countedAll l) (s := s) ⟨hc.1, by omega⟩ tm
  by_cases h : s.time ≤ tm
  · rw [decide_eq_true h]
    exact hg.2 ⟨s, hs, rfl, hk, h⟩
  · rw [decide_eq_false h, ← Bool.not_eq_true]
    intro h2
    obtain ⟨t, ht, h3, h4, h5⟩ := hg.1 h2
    have := counted_one hs ht hk h4 h3
    subst this
    exact h h5
end Go.Proofs.YtnmpbjgccbnomaaGreat
/- The sanity check of the laws of layer 11. -/
namespace Go.Proofs.YtnmpbjgccbnomaaGreat
open Go.RowKit
def gr0 : Gr := ⟨3, [], []⟩
def gr1 : Gr := ⟨3, [⟨0, 2, 2⟩], []⟩
theorem with_gr0 : withG gr0 ⟨0, 2, 2⟩ = (gr1, 0) := by kernel_rfl
theorem without_gr1 : withoutG gr1 0 2 = (gr0, 0) := by kernel_rfl
theorem check_gr1 : checkG gr1 = 0 := by kernel_rfl
theorem check_65 : checkG ⟨65, [], []⟩ = 14 := by kernel_rfl
theorem good_gr1 : Good11 gr1 := (okG_iff gr1).1 (by kernel_rfl)
theorem out_gr1 : outS gr1.es 0 = [2] := by kernel_rfl
theorem in_gr1 : inS gr1.es 2 = [0] := by kernel_rfl
theorem GHold.bare (w : World) (z : Int) : GHold w ⟨z, [], []⟩ (.agg #[.int .i64 z, .slice none 0 0, .slice none 0 0]) := GOwn.hold (B := 0) ⟨_, _, rfl, World.ownsRow_nil _ _ _ _, World.ownsRow_nil _ _ _ _⟩
set_option maxRecDepth 100000 in
set_option maxHeartbeats 4000000 in
theorem awake11_any (H : GraphC) (w : World) : Calls Tryz.prog 6 #[] w (SaysL (.bool true) w) := by
  have HW1 := Lib.hid with_gr0; have HW2 := Lib.hid without_gr1; have HC1 := Lib.hid check_gr1; have HC65 := Lib.hid check_65; have HO1 := Lib.hid out_gr1; have HI1 := Lib.hid in_gr1; have HGD := Lib.hid good_gr1
  go_enter Tryz.func6, Tryz.ntmps6
  go_wp2_with fail
  refine (H.with_ gr0 _ ⟨0, 2, 2⟩ w (GHold.bare w 3) (by decide) (by decide)).mono ?_
  rw [HW1.out]
  rintro e w1 ⟨v1, rfl, hv, hb⟩
  have HB := Lib.hid hb
  have HV1 := Lib.hid hv
  obtain ⟨A, n, c, B, m, k, rfl, ha, -⟩ := hv
  have hn : n = 1 := (ERow.len ha).symm
  subst hn
  clear ha hb HW1
  go_upto_region 2 with (refine wpList_store_new rfl 35 (.tmp 1) (.tmp 10) rfl 35 _ #[.int .i64 3, .slice A 1 c, .slice B m k] rfl rfl gr_size rfl (by simp [Value.oneCell']) ?_)
  have hb := one_new w1 (.cells #[.int .i64 3, .slice A 1 c, .slice B m k] 35)
  have HX : Hid ((w1.alloc (.cells #[.int .i64 3, .slice A 1 c, .slice B m k] 35)).heap[w1.heap.size]? = some (.cells #[.int .i64 3, .slice A 1 c, .slice B m k] 35 (0, 0))) := Lib.hid (heap_alloc_new _ _)
  replace HV1 := Lib.hid (GHold.later HV1.out hb)
  replace HB := Lib.hid (HB.out.trans (hb.mono HB.out.size))
  clear hb
  generalize w1.alloc (.cells #[.int .i64 3, .slice A 1 c, .slice B m k] 35) = b1 at *
  generalize w1.heap.size = g1 at *
  try dsimp only [Act.put]
  go_wp2_with (refine wpList_load_row rfl 35 (.tmp 1) rfl g1 rfl 35 #[.int .i64 3, .slice A 1 c, .slice B m k] (0, 0) _ HX.out Tryz.underlying35 rfl gr_size ?_)
  refine (H.without gr1 _ 0 2 b1 HV1.out (by decide) (by decide)).mono ?_
  rw [HW2.out]
  rintro e w2 ⟨v2, rfl, hv, hb⟩
  replace HV1 := Lib.hid (GHold.later HV1.out hb)
  replace HX := Lib.hid ((hb.block _ (Array.getElem?_eq_some_iff.1 HX.out).1).trans HX.out)
  replace HB := Lib.hid (HB.out.trans (hb.mono HB.out.size))
  obtain ⟨A2, n2, c2, B2, m2, k2, rfl, ha, -⟩ := hv
  have hn : n2 = 0 := (ERow.len ha).symm
  subst hn
  clear ha hb HW2
  go_upto_region 3 with (refine wpList_store_new rfl 35 (.tmp 3) (.tmp 15) rfl 35 _ #[.int .i64 3, .slice A2 0 c2, .slice B2 m2 k2] rfl rfl gr_size rfl (by simp [Value.oneCell']) ?_)
  have hb := one_new w2 (.cells #[.int .i64 3, .slice A2 0 c2, .slice B2 m2 k2] 35)
  have HY : Hid ((w2.alloc (.cells #[.int .i64 3, .slice A2 0 c2, .slice B2 m2 k2] 35)).heap[w2.heap.size]? = some (.cells #[.int .i64 3, .slice A2 0 c2, .slice B2 m2 k2] 35 (0, 0))) := Lib.hid (heap_alloc_new _ _)
  replace HV1 := Lib.hid (GHold.later HV1.out hb)
  replace HX := Lib.hid ((hb.block _ (Array.getElem?_eq_some_iff.1 HX.out).1).trans HX.out)
  replace HB := Lib.hid (HB.out.trans (hb.mono HB.out.size))
  clear hb
  generalize w2.alloc (.cells #[.int .i64 3, .slice A2 0 c2, .slice B2 m2 k2] 35) = b2 at *
  generalize w2.heap.size = g2 at *
  try dsimp only [Act.put]
  go_wp2_with (refine wpList_load_row rfl 35 (.tmp 1) rfl g1 rfl 35 #[.int .i64 3, .slice A 1 c, .slice B m k] (0, 0) _ HX.out Tryz.underlying35 rfl gr_size ?_)
  refine (H.out gr1 _ 0 b2 HV1.out HGD.out).mono ?_
  rw [HO1.out]
  rintro e w3 ⟨A3, n3, c3, rfl, hr, hb⟩
  replace HV1 := Lib.hid (GHold.later HV1.out hb)
  replace HX := Lib.hid ((hb.block _ (Array.getElem?_eq_some_iff.1 HX.out).1).trans HX.out)
  replace HY := Lib.hid ((hb.block _ (Array.getElem?_eq_some_iff.1 HY.out).1).trans HY.out)
  replace HB := Lib.hid (HB.out.trans (hb.mono HB.out.size))
  have hn3 : n3 = 1 := hr.len.symm
  subst hn3
  have HR := Lib.hid hr
  clear hb hr HO1
  have hx1 : w3.cell? ⟨g1, 1, none⟩ = some (.slice A 1 c) := (cell_of_row _ _ 1 _ _ _ HX.out).trans rfl
  have hy1 : w3.cell? ⟨g2, 1, none⟩ = some (.slice A2 0 c2) := (cell_of_row _ _ 1 _ _ _ HY.out).trans rfl
  go_wp2_with (refine wpList_load_rowG rfl 35 (.tmp 1) rfl g1 rfl 35 #[.int .i64 3, .slice A 1 c, .slice B m k] (0, 0) _ HX.out Tryz.underlying35 rfl gr_size ?_)
  clear hx1 hy1
  refine (H.check gr1 _ w3 HV1.out (by decide) (by decide)).mono ?_
  rw [HC1.out]
  rintro e w4 ⟨rfl, hb⟩
  replace HV1 := Lib.hid (GHold.later HV1.out hb)
  replace HR := Lib.hid (HR.out.later hb)
  replace HX := Lib.hid ((hb.block _ (Array.getElem?_eq_some_iff.1 HX.out).1).trans HX.out)
  replace HB := Lib.hid (HB.out.trans (hb.mono HB.out.size))
  clear hb HC1 HY
  obtain ⟨b, off, hA, hc⟩ := IRow.cell HR.out 0 (by decide)
  subst hA
  have h01 : 0 < 1 := Nat.one_pos
  have hc2 : w4.cell? ⟨b, off, none⟩ = some (.int .i64 2) := hc
  clear hc
  go_wp2_with (refine wpList_load_rowG rfl 35 (.tmp 1) rfl g1 rfl 35 #[.int .i64 3, .slice A 1 c, .slice B m k] (0, 0) _ HX.out Tryz.underlying35 rfl gr_size ?_)
  try go_simp
  try go_wp2_with (refine wpList_load_rowG rfl 35 (.tmp 1) rfl g1 rfl 35 #[.int .i64 3, .slice A 1 c, .slice B m k] (0, 0) _ HX.out Tryz.underlying35 rfl gr_size ?_)
  try go_simp
  try go_wp2_with (refine wpList_load_rowG rfl 35 (.tmp 1) rfl g1 rfl 35 #[.int .i64 3, .slice A 1 c, .slice B m k] (0, 0) _ HX.out Tryz.underlying35 rfl gr_size ?_)
  try go_simp
  try go_wp2_with (refine wpList_load_rowG rfl 35 (.tmp 1) rfl g1 rfl 35 #[.int .i64 3, .slice A 1 c, .slice B m k] (0, 0) _ HX.out Tryz.underlying35 rfl gr_size ?_)
  try go_simp
  try go_wp2_with (refine wpList_load_rowG rfl 35 (.tmp 1) rfl g1 rfl 35 #[.int .i64 3, .slice A 1 c, .slice B m k] (0, 0) _ HX.out Tryz.underlying35 rfl gr_size ?_)
  clear hc2
  refine (H.in_ gr1 _ 2 w4 HV1.out HGD.out).mono ?_
  rw [HI1.out]
  rintro e w5 ⟨A5, n5, c5, rfl, hr, hb⟩
  have hn5 : n5 = 1 := hr.len.symm
  subst hn5
  replace HB := Lib.hid (HB.out.trans (hb.mono HB.out.size))
  clear hb hr HI1 HV1 HR HX
  go_wp2_with fail
  refine (H.check ⟨65, [], []⟩ _ w5 (GHold.bare w5 65) (by decide) (by decide)).mono ?_
  rw [HC65.out]
  rintro e w6 ⟨rfl, hb⟩
  replace HB := Lib.hid (HB.out.trans (hb.mono HB.out.size))
  clear hb
  go_wp2_with fail
  go_ret
  exact ⟨rfl, HB.out⟩
end Go.Proofs.YtnmpbjgccbnomaaGreat
