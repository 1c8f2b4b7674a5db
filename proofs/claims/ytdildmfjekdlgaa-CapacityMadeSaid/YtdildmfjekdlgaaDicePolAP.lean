import Derived.Test.YtdildmfjekdlgaaPackAX
/- A policy made out of dice, its lists apart. -/
namespace Go.Proofs.Ytdildmfjekdlgaa
open Go.RowKit
/-- A policy in memory of its own, its two lists in blocks of their own. -/
def POwnA (w : World) (b : Nat) (p : Pol) (v : Value) : Prop := ∃ e f, v = .agg #[e, f, .int .i64 p.lv] ∧ w.ownsRow b 3 1 e p.sd.length (intsV p.sd) ∧ w.ownsRow b 3 1 f p.tb.length (intsV p.tb) ∧ ∀ k, e.ownBlock = some k → f.ownBlock ≠ some k
set_option maxRecDepth 100000 in
set_option maxHeartbeats 4000000 in
theorem dpolicy_a (L D : Nat) (t : List Int) (G : Gr) (gv : Value) (w : World) (hd : ∃ k, DiceAt w L D t k) (hg : GHold w G gv) (hz1 : 1 ≤ G.sz) (hz2 : G.sz ≤ 64) : Calls Try.prog 14 #[.pointer (some ⟨D, 0, none⟩), gv] w fun e w' => ∃ v p, e = .returned v ∧ POwnA w' w.heap.size p v ∧ GoodP G.sz p ∧ (∀ i, i < p.tb.length → p.tb.getD i 0 ≤ 7) ∧ p.tb.length ≤ 4 ∧ Gave L D t w w' := by
  obtain ⟨A9, n9, c9, B9, m9, k9, rfl, g1, g2⟩ := hg
  have HDL : Hid (D < w.heap.size) := Lib.hid (by obtain ⟨k, hk⟩ := hd; exact hk.lt)
  have HN := Lib.hid ((one_new w (.cells #[.int .i64 G.sz, .slice A9 n9 c9, .slice B9 m9 k9] 31)).trans ((one_new (w.alloc (.cells #[.int .i64 G.sz, .slice A9 n9 c9, .slice B9 m9 k9] 31)) (.cells #[.slice none 0 0, .slice none 0 0, .int .i64 0] 24)).mono (by simp)))
  have HG : Hid (((w.alloc (.cells #[.int .i64 G.sz, .slice A9 n9 c9, .slice B9 m9 k9] 31)).alloc (.cells #[.slice none 0 0, .slice none 0 0, .int .i64 0] 24)).heap[w.heap.size]? = some (.cells #[.int .i64 G.sz, .slice A9 n9 c9, .slice B9 m9 k9] 31 (0, 0))) := Lib.hid ((Below.heap_alloc _ _ _ (by simp)).trans (heap_alloc_new _ _))
  have HR : Hid (((w.alloc (.cells #[.int .i64 G.sz, .slice A9 n9 c9, .slice B9 m9 k9] 31)).alloc (.cells #[.slice none 0 0, .slice none 0 0, .int .i64 0] 24)).heap[w.heap.size + 1]? = some (.cells #[.slice none 0 0, .slice none 0 0, .int .i64 0] 24 (0, 0))) := Lib.hid (heap_alloc2_new _ _ _)
  have HSZ : Hid (((w.alloc (.cells #[.int .i64 G.sz, .slice A9 n9 c9, .slice B9 m9 k9] 31)).alloc (.cells #[.slice none 0 0, .slice none 0 0, .int .i64 0] 24)).heap.size = w.heap.size + 2) := Lib.hid (by simp)
  have HD : Hid (∃ k, DiceAt ((w.alloc (.cells #[.int .i64 G.sz, .slice A9 n9 c9, .slice B9 m9 k9] 31)).alloc (.cells #[.slice none 0 0, .slice none 0 0, .int .i64 0] 24)) L D t k) := Lib.hid (by obtain ⟨k, hk⟩ := hd; exact ⟨k, hk.later HN.out⟩)
  clear g1 g2 hd
  go_enter Try.func14, Try.ntmps14
  go_upto_region 1 with fail
  generalize ((w.alloc (.cells #[.int .i64 G.sz, .slice A9 n9 c9, .slice B9 m9 k9] 31)).alloc (.cells #[.slice none 0 0, .slice none 0 0, .int .i64 0] 24)) = y0 at *
  have hz0 : y0.cell? ⟨w.heap.size, 0, none⟩ = some (.int .i64 G.sz) := (cell_of_row _ _ 0 _ _ _ HG.out).trans rfl
  go_wp2_with fail
  refine (next_g L D t G.sz y0 HD.out (by omega) (by omega)).mono ?_
  rintro e y1 ⟨x, rfl, hx0, hx1, hg⟩
  have HB1 : Hid (But D w y1) := Lib.hid ((but_of_later HN.out).trans hg.2)
  replace HG : Hid (y1.heap[w.heap.size]? = _) := Lib.hid ((hg.2.block _ (by have := HSZ.out; omega) (by have := HDL.out; omega)).trans HG.out)
  replace HR : Hid (y1.heap[w.heap.size + 1]? = _) := Lib.hid ((hg.2.block _ (by have := HSZ.out; omega) (by have := HDL.out; omega)).trans HR.out)
  replace HD := Lib.hid hg.1
  have hsz1 : w.heap.size + 2 ≤ y1.heap.size := by rw [← HSZ.out]; exact hg.2.size
  clear hg hz0 HN HSZ
  go_wp2_with fail
  have hb1 := one_new y1 (.cells #[.int .i64 x] 3)
  have hb2 := one_new (y1.alloc (.cells #[.int .i64 x] 3)) (.cells #[.int .i64 1, .int .i64 1, .int .i64 2, .int .i64 3] 3)
  have hb3 := hb1.trans (hb2.mono hb1.size)
  have HRW : Hid (Row ((y1.alloc (.cells #[.int .i64 x] 3)).alloc (.cells #[.int .i64 1, .int .i64 1, .int .i64 2, .int .i64 3] 3)) (some ⟨(y1.alloc (.cells #[.int .i64 x] 3)).heap.size, 0, none⟩) 4 4 1 (intsV [1, 1, 2, 3])) := Lib.hid (Row.of_block (heap_alloc_new _ _) rfl)
  have hq1 : (y1.alloc (.cells #[.int .i64 x] 3)).heap.size = y1.heap.size + 1 := by simp
  rw [hq1] at HRW
  have HSD := Lib.hid (World.ownsRow.alloc (own_lit (w := y1) (g := w.heap.size + 1) (by omega) x) (.cells #[.int .i64 1, .int .i64 1, .int .i64 2, .int .i64 3] 3))
  replace HB1 : Hid (But D w ((y1.alloc (.cells #[.int .i64 x] 3)).alloc (.cells #[.int .i64 1, .int .i64 1, .int .i64 2, .int .i64 3] 3))) := Lib.hid (HB1.out.trans (but_of_later hb3))
  replace HG : Hid (((y1.alloc (.cells #[.int .i64 x] 3)).alloc (.cells #[.int .i64 1, .int .i64 1, .int .i64 2, .int .i64 3] 3)).heap[w.heap.size]? = _) := Lib.hid ((hb3.block _ (by omega)).trans HG.out)
  replace HR : Hid (((y1.alloc (.cells #[.int .i64 x] 3)).alloc (.cells #[.int .i64 1, .int .i64 1, .int .i64 2, .int .i64 3] 3)).heap[w.heap.size + 1]? = _) := Lib.hid ((hb3.block _ (by omega)).trans HR.out)
  replace HD : Hid (∃ k, DiceAt ((y1.alloc (.cells #[.int .i64 x] 3)).alloc (.cells #[.int .i64 1, .int .i64 1, .int .i64 2, .int .i64 3] 3)) L D t k) := Lib.hid (by obtain ⟨k, hk⟩ := HD.out; exact ⟨k, hk.later hb3⟩)
  have hsz3 : w.heap.size + 2 ≤ ((y1.alloc (.cells #[.int .i64 x] 3)).alloc (.cells #[.int .i64 1, .int .i64 1, .int .i64 2, .int .i64 3] 3)).heap.size := Nat.le_trans hsz1 hb3.size
  clear hb1 hb2 hb3 hq1
  generalize ((y1.alloc (.cells #[.int .i64 x] 3)).alloc (.cells #[.int .i64 1, .int .i64 1, .int .i64 2, .int .i64 3] 3)) = y3 at *
  generalize y1.heap.size = s0 at *
  have HCC := Lib.hid (of_g L D t (some ⟨s0 + 1, 0, none⟩) 4 4 [1, 1, 2, 3] y3 HD.out HRW.out (fun ad e => by injection e with e; subst e; show s0 + 1 ≠ D; have := HDL.out; omega) (by decide) (by decide))
  clear HRW
  refine HCC.out.mono ?_
  rintro e y4 ⟨lv, rfl, hlv, hg⟩
  have HLV : Hid (1 ≤ lv ∧ lv ≤ 3) := Lib.hid (by simp at hlv; omega)
  have hdl := HDL.out
  replace HB1 : Hid (But D w y4) := Lib.hid (HB1.out.trans hg.2)
  replace HG : Hid (y4.heap[w.heap.size]? = _) := Lib.hid ((hg.2.block _ (by omega) (by omega)).trans HG.out)
  replace HR : Hid (y4.heap[w.heap.size + 1]? = _) := Lib.hid ((hg.2.block _ (by omega) (by omega)).trans HR.out)
  replace HD : Hid (∃ k, DiceAt y4 L D t k) := Lib.hid hg.1
  replace HSD := Lib.hid (own_keepL HSD.out fun k hk => hg.2.block k (own_lt HSD.out k hk) (by have := own_ge HSD.out k hk; omega))
  have hsz4 : w.heap.size + 2 ≤ y4.heap.size := Nat.le_trans hsz3 hg.2.size
  clear hg hlv HCC hsz3 hsz1
  go_upto_region 2 with (refine wpList_store_new rfl 24 (.tmp 5) (.tmp 16) rfl 24 _ #[.slice (some ⟨s0, 0, none⟩) 1 1, .slice none 0 0, .int .i64 lv] rfl rfl po_size rfl (by simp [Value.oneCell']) ?_)
  have hb := one_new y4 (.cells #[.slice (some ⟨s0, 0, none⟩) 1 1, .slice none 0 0, .int .i64 lv] 24)
  have HP : Hid (PM L D t w G A9 n9 c9 B9 m9 k9 y4.heap.size ⟨[x], [], lv⟩ (.slice (some ⟨s0, 0, none⟩) 1 1) (.slice none 0 0) (y4.alloc (.cells #[.slice (some ⟨s0, 0, none⟩) 1 1, .slice none 0 0, .int .i64 lv] 24))) := Lib.hid {
    dice := by obtain ⟨k, hk⟩ := HD.out; exact ⟨k, hk.later hb⟩
    but := HB1.out.trans (but_of_later hb)
    dlt := HDL.out
    gx := (hb.block _ (by omega)).trans HG.out
    rx := (hb.block _ (by omega)).trans HR.out
    px := heap_alloc_new _ _
    pq := hsz4
    sd := own_later HSD.out hb
    tb := World.ownsRow_nil _ _ _ _
    ap := fun k _ h => by cases h }
  clear hb HD HB1 HG HR HSD hsz4
  generalize y4.alloc (.cells #[.slice (some ⟨s0, 0, none⟩) 1 1, .slice none 0 0, .int .i64 lv] 24) = y5 at *
  generalize y4.heap.size = q at *
  try dsimp only [Act.put]
  have hn2 : ∀ {p : Pol} {sv tv : Value} (z : World), PM L D t w G A9 n9 c9 B9 m9 k9 q p sv tv z → w.heap.size + 2 ≤ z.heap.size := fun z h => Nat.le_trans h.pq (Nat.le_of_lt (Array.getElem?_eq_some_iff.1 h.px).1)
  go_wp2_with fail
  refine (one_g L D t 3 y5 HP.out.dice (by decide) (by decide)).mono ?_
  rintro e y6 ⟨b, rfl, hg⟩
  replace HP := Lib.hid (HP.out.gave hg)
  clear hg
  go_upto_if 18 with fail
  go_cut [] (fun wx => ∃ (sv : Value) (sdl : List Int), Hid (PM L D t w G A9 n9 c9 B9 m9 k9 q ⟨sdl, [], lv⟩ sv (.slice none 0 0) wx ∧ setB sdl G.sz = true ∧ sdl.length ≠ 0))
  case first =>
    cases b
    · go_wp2_with fail
      go_meet
      exact ⟨_, _, Lib.hid ⟨HP.out, set_one hx0 hx1, by simp⟩⟩
    · go_upto_region 3 with fail
      refine wp_region_flow (by kernel_rfl) (BN D (w.heap.size + 2)) ?_
      replace HP := Lib.hid (HP.out.later (Below.refl _ _).drew)
      generalize y6.drew = z0 at *
      have hfz : ∀ x, (fut (BN D (w.heap.size + 2)) z0 x).cell? ⟨w.heap.size, 0, none⟩ = some (.int .i64 G.sz) := fun x => (cell_of_row _ _ 0 _ _ _ (((fut_ok (BN.refl D (w.heap.size + 2)) z0 x).keep _ (by omega) (by omega)).trans HP.out.gx)).trans rfl
      refine flow_reads (F := BN D (w.heap.size + 2)) (fun _ => BN.refl _ _ _) (by kernel_rfl) [0, 2, 3, 4] (fuel := 5) (by kernel_rfl) ?_
      simp only [List.map_cons, List.map_nil, pick, List.getD_cons_zero, List.getD_cons_succ]
      repeat (go_big_quiet_step (fail))
      refine wpQuiet_nil ?_
      clear hfz
      refine flow_two (F := BN D (w.heap.size + 2)) (fun _ _ _ => BN.trans) (fun _ => BN.refl _ _ _) 1 5 (by kernel_rfl) (by decide) (by decide) ?_ ?_ <;> simp only [pick, List.getD_cons_zero, List.getD_cons_succ]
      · skip
        have hcq : z0.cell? ⟨q, 0, none⟩ = some (.slice (some ⟨s0, 0, none⟩) 1 1) := (cell_of_row _ _ 0 _ _ _ HP.out.px).trans rfl
        go_wp2_with fail
        clear hcq
        refine pieceEnd_normal ⟨BN.refl _ _ _, ?_⟩
        refine flow_one (F := BN D (w.heap.size + 2)) (fun _ _ _ => BN.trans) (fun _ => BN.refl _ _ _) 5 (by kernel_rfl) (by decide) ?_
        simp only [pick, List.getD_cons_zero, List.getD_cons_succ]
        go_wp2_with fail
        refine (next_g L D t G.sz z0 HP.out.dice (by omega) (by omega)).mono ?_
        rintro e z1 ⟨y, rfl, hy0, hy1, hg⟩
        have HF : Hid (BN D (w.heap.size + 2) z0 z1) := Lib.hid (BN.but hg.2 (hn2 _ HP.out))
        replace HP := Lib.hid (HP.out.gave hg)
        clear hg
        go_wp2_with fail
        refine pieceEnd_normal ⟨HF.out, ?_⟩
        clear HF
        refine flow_one (F := BN D (w.heap.size + 2)) (fun _ _ _ => BN.trans) (fun _ => BN.refl _ _ _) 6 (by kernel_rfl) (by decide) ?_
        simp only [pick, List.getD_cons_zero, List.getD_cons_succ]
        have HCC := Lib.hid (put12_own (some ⟨s0, 0, none⟩) 1 1 [x] y z1 (own_rowI12 HP.out.sd) (by decide))
        go_wp2_with fail
        refine HCC.out.mono ?_
        rintro e z8 ⟨v8, rfl, ho, hb⟩
        have HF : Hid (BN D (w.heap.size + 2) z1 z8) := Lib.hid (BN.later hb (hn2 _ HP.out))
        have HO8 := Lib.hid (own_base ho (hn2 _ HP.out))
        have HG8 := Lib.hid (own_ge ho)
        have HLZ : Hid (z1.heap.size ≤ z8.heap.size) := Lib.hid hb.size
        replace HP := Lib.hid (HP.out.later hb)
        clear ho hb HCC
        obtain ⟨A8, c8, rfl, -⟩ := Row.of_own HO8.out
        go_wp2_with fail
        refine pieceEnd_normal ⟨HF.out, ?_⟩
        clear HF
        refine flow_reads (F := BN D (w.heap.size + 2)) (fun _ => BN.refl _ _ _) (by kernel_rfl) [7] (fuel := 1) (by kernel_rfl) ?_
        simp only [List.map_cons, List.map_nil, pick, List.getD_cons_zero, List.getD_cons_succ]
        repeat (go_big_quiet_step (fail))
        refine wpQuiet_nil ?_
        refine flow_one (F := BN D (w.heap.size + 2)) (fun _ _ _ => BN.trans) (fun _ => BN.refl _ _ _) 8 (by kernel_rfl) (by decide) ?_
        simp only [pick, List.getD_cons_zero, List.getD_cons_succ]
        have hcq : z8.cell? ⟨q, 0, none⟩ = some (.slice (some ⟨s0, 0, none⟩) 1 1) := (cell_of_row _ _ 0 _ _ _ HP.out.px).trans rfl
        have hfq : z8.frozen? ⟨q, 0, none⟩ = false := by unfold World.frozen?; rw [HP.out.px]; simp
        go_wp2_with fail
        clear hcq hfq
        refine pieceEnd_normal ⟨bn_set HP.out.pq _, ?_⟩
        refine flow_done (by kernel_rfl) ?_
        have HP2 : Hid (PM L D t w G A9 n9 c9 B9 m9 k9 q ⟨putI [x] y, [], lv⟩ (.slice A8 (putI [x] y).length c8) (.slice none 0 0) (z8.setCell ⟨q, 0, none⟩ (.slice A8 (putI [x] y).length c8))) := Lib.hid (HP.out.cell (p' := ⟨putI [x] y, [], lv⟩) (Below.refl _ _) rfl rfl HO8.out (World.ownsRow_nil _ _ _ _) (fun k _ h => by cases h))
        clear HP HO8
        have HSP := Lib.hid (set_put hx0 hx1 hy0 hy1)
        go_wp2_with fail
        go_meet
        exact ⟨_, _, Lib.hid ⟨HP2.out, HSP.out⟩⟩
      · skip
        go_wp2_with fail
        refine (next_g L D t G.sz z0 HP.out.dice (by omega) (by omega)).mono ?_
        rintro e z1 ⟨y, rfl, hy0, hy1, hg⟩
        have HF : Hid (BN D (w.heap.size + 2) z0 z1) := Lib.hid (BN.but hg.2 (hn2 _ HP.out))
        replace HP := Lib.hid (HP.out.gave hg)
        clear hg
        go_wp2_with fail
        refine pieceEnd_normal ⟨HF.out, ?_⟩
        clear HF
        refine flow_one (F := BN D (w.heap.size + 2)) (fun _ _ _ => BN.trans) (fun _ => BN.refl _ _ _) 1 (by kernel_rfl) (by decide) ?_
        simp only [pick, List.getD_cons_zero, List.getD_cons_succ]
        have hcq : z1.cell? ⟨q, 0, none⟩ = some (.slice (some ⟨s0, 0, none⟩) 1 1) := (cell_of_row _ _ 0 _ _ _ HP.out.px).trans rfl
        go_wp2_with fail
        clear hcq
        refine pieceEnd_normal ⟨BN.refl _ _ _, ?_⟩
        refine flow_one (F := BN D (w.heap.size + 2)) (fun _ _ _ => BN.trans) (fun _ => BN.refl _ _ _) 6 (by kernel_rfl) (by decide) ?_
        simp only [pick, List.getD_cons_zero, List.getD_cons_succ]
        have HCC := Lib.hid (put12_own (some ⟨s0, 0, none⟩) 1 1 [x] y z1 (own_rowI12 HP.out.sd) (by decide))
        go_wp2_with fail
        refine HCC.out.mono ?_
        rintro e z8 ⟨v8, rfl, ho, hb⟩
        have HF : Hid (BN D (w.heap.size + 2) z1 z8) := Lib.hid (BN.later hb (hn2 _ HP.out))
        have HO8 := Lib.hid (own_base ho (hn2 _ HP.out))
        have HG8 := Lib.hid (own_ge ho)
        have HLZ : Hid (z1.heap.size ≤ z8.heap.size) := Lib.hid hb.size
        replace HP := Lib.hid (HP.out.later hb)
        clear ho hb HCC
        obtain ⟨A8, c8, rfl, -⟩ := Row.of_own HO8.out
        go_wp2_with fail
        refine pieceEnd_normal ⟨HF.out, ?_⟩
        clear HF
        refine flow_reads (F := BN D (w.heap.size + 2)) (fun _ => BN.refl _ _ _) (by kernel_rfl) [7] (fuel := 1) (by kernel_rfl) ?_
        simp only [List.map_cons, List.map_nil, pick, List.getD_cons_zero, List.getD_cons_succ]
        repeat (go_big_quiet_step (fail))
        refine wpQuiet_nil ?_
        refine flow_one (F := BN D (w.heap.size + 2)) (fun _ _ _ => BN.trans) (fun _ => BN.refl _ _ _) 8 (by kernel_rfl) (by decide) ?_
        simp only [pick, List.getD_cons_zero, List.getD_cons_succ]
        have hcq : z8.cell? ⟨q, 0, none⟩ = some (.slice (some ⟨s0, 0, none⟩) 1 1) := (cell_of_row _ _ 0 _ _ _ HP.out.px).trans rfl
        have hfq : z8.frozen? ⟨q, 0, none⟩ = false := by unfold World.frozen?; rw [HP.out.px]; simp
        go_wp2_with fail
        clear hcq hfq
        refine pieceEnd_normal ⟨bn_set HP.out.pq _, ?_⟩
        refine flow_done (by kernel_rfl) ?_
        have HP2 : Hid (PM L D t w G A9 n9 c9 B9 m9 k9 q ⟨putI [x] y, [], lv⟩ (.slice A8 (putI [x] y).length c8) (.slice none 0 0) (z8.setCell ⟨q, 0, none⟩ (.slice A8 (putI [x] y).length c8))) := Lib.hid (HP.out.cell (p' := ⟨putI [x] y, [], lv⟩) (Below.refl _ _) rfl rfl HO8.out (World.ownsRow_nil _ _ _ _) (fun k _ h => by cases h))
        clear HP HO8
        have HSP := Lib.hid (set_put hx0 hx1 hy0 hy1)
        go_wp2_with fail
        go_meet
        exact ⟨_, _, Lib.hid ⟨HP2.out, HSP.out⟩⟩
  case rest =>
    clear HP
    obtain ⟨sv, sdl, HQ⟩ := hcut
    have HP := Lib.hid HQ.out.1
    have HSS := Lib.hid HQ.out.2
    clear HQ hx0 hx1
    go_wp2_with fail
    have hb := one_new wc (.cells #[.int .i64 3, .int .i64 2, .int .i64 1, .int .i64 6, .int .i64 0] 3)
    have HRW : Hid (Row (wc.alloc (.cells #[.int .i64 3, .int .i64 2, .int .i64 1, .int .i64 6, .int .i64 0] 3)) (some ⟨wc.heap.size, 0, none⟩) 5 5 1 (intsV [3, 2, 1, 6, 0])) := Lib.hid (Row.of_block (heap_alloc_new _ _) rfl)
    have hwc : D ≠ wc.heap.size := by have := hn2 _ HP.out; omega
    replace HP := Lib.hid (HP.out.later hb)
    clear hb
    generalize wc.alloc (.cells #[.int .i64 3, .int .i64 2, .int .i64 1, .int .i64 6, .int .i64 0] 3) = z1 at *
    generalize wc.heap.size = s1 at *
    have HCC := Lib.hid (of_g L D t (some ⟨s1, 0, none⟩) 5 5 [3, 2, 1, 6, 0] z1 HP.out.dice HRW.out (fun ad e => by injection e with e; subst e; exact Ne.symm hwc) (by decide) (by decide))
    clear HRW
    refine HCC.out.mono ?_
    rintro e z2 ⟨v5, rfl, hv5, hg⟩
    have hv50 : 0 ≤ v5 ∧ v5 ≤ 6 := by simp at hv5; omega
    replace HP := Lib.hid (HP.out.gave hg)
    clear hg hv5 HCC hwc
    obtain ⟨h50, h51⟩ := hv50
    have m0 : IntKind.i64.wrap (1 + v5) = 1 + v5 := by rw [IntKind.wrap_i64]; omega
    have m1 : RowKit.wrap64 (1 + v5) = 1 + v5 := IntWalk.wrap64_in _ (by omega)
    go_wp2_with fail
    clear m0 m1
    refine (next_g L D t 4 z2 HP.out.dice (by decide) (by decide)).mono ?_
    rintro e z3 ⟨nn, rfl, hn0, hn1, hg⟩
    replace HP := Lib.hid (HP.out.gave hg)
    clear hg
    obtain ⟨N, rfl⟩ : ∃ N : Nat, nn = N := ⟨nn.toNat, by omega⟩
    have hN : N ≤ 3 := by omega
    have m0 : IntKind.i64.wrap (1 + (N : Int)) = 1 + (N : Int) := by rw [IntKind.wrap_i64]; omega
    have m1 : RowKit.wrap64 (1 + (N : Int)) = 1 + (N : Int) := IntWalk.wrap64_in _ (by omega)
    go_wp2_with fail
    clear m0 m1 hn0 hn1
    go_loopw [6, 7] (fun l i wr => ∃ (x : Int) (r : Nat) (tv : Value) (tb : List Int), l = .int .i64 x ∧ i = .int .i64 r ∧ tb.length + r = N + 1 ∧ Hid (TabUp tb x ∧ PM L D t w G A9 n9 c9 B9 m9 k9 q ⟨sdl, tb, lv⟩ sv tv wr)) (fun _ i _ => (intOf i).toNat)
    case atStart => exact ⟨1 + v5, N + 1, _, [], rfl, by first | go_num | (refine congrArg _ ?_; omega), by simp, Lib.hid ⟨⟨by omega, by omega, fun i hi => absurd hi (Nat.not_lt_zero _)⟩, HP.out⟩⟩
    case round =>
      clear HP h50 h51
      obtain ⟨x, r, tv, tb, rfl, rfl, hlen, HQ⟩ := hrel
      by_cases hlt : 0 < r
      · have hlt2 : (0 : Int) < (r : Int) := by omega
        have b0 : decide ((r : Int) > 0) = true := decide_eq_true hlt2
        have hx1 := HQ.out.1.1
        have hx7 := HQ.out.1.2.1
        have HP := Lib.hid HQ.out.2
        have HT := Lib.hid HQ.out.1
        clear HQ
        obtain ⟨At, ct, rfl, -⟩ := Row.of_own HP.out.tb
        have HTB := Lib.hid HP.out.tb
        have hcq : (wr.alloc (.cells #[.int .i64 x] 3)).cell? ⟨q, 1, none⟩ = some (.slice At tb.length ct) := (cell_of_row _ _ 1 _ _ _ ((Below.heap_alloc _ _ _ (Array.getElem?_eq_some_iff.1 HP.out.px).1).trans HP.out.px)).trans rfl
        have hcq0 : wr.cell? ⟨q, 1, none⟩ = some (.slice At tb.length ct) := (cell_of_row _ _ 1 _ _ _ HP.out.px).trans rfl
        have hqs : q < wr.heap.size := (Array.getElem?_eq_some_iff.1 HP.out.px).1
        have hqn : (Value.slice At tb.length ct).ownBlock ≠ some q := fun h => own_neqT13 HTB.out HP.out.px (by decide) q h rfl
        have hwz := hn2 _ HP.out
        have htl : tb.length ≤ 4 := by omega
        go_upto_region 9 with (at_builtin; go_must (refine wpList_app_newK wr rfl (.tmp 39) (.tmp 41) 22 3 rfl (w.heap.size + 2) Try.underlying22 i64_info rfl _ tb.length (intsV tb) HTB.out rfl 1 #[.int .i64 x] rfl (by simp [Value.oneCell']) rfl rfl (by unfold maxLen; omega) (by omega) hwz ?_); intro v5 z5 ho hb hkp hv; have hx5 := (hkp q hqs hqn).trans HP.out.px; have HKP := Lib.hid hkp; have HV := Lib.hid hv; have HO5 := Lib.hid ho; have HB5 := Lib.hid hb; obtain ⟨A5, c5, hv5, -⟩ := Row.of_own ho; subst hv5; have hz5 : z5.cell? ⟨q, 1, none⟩ = some (.slice At tb.length ct) := (cell_of_row _ _ 1 _ _ _ hx5).trans rfl; have hfz5 : z5.frozen? ⟨q, 1, none⟩ = false := (by unfold World.frozen?; rw [hx5]; simp); clear ho hb hkp hv hcq hcq0 hx5)
        clear hz5 hfz5 b0
        have HP5 : Hid (PM L D t w G A9 n9 c9 B9 m9 k9 q ⟨sdl, tb ++ [x], lv⟩ sv (.slice A5 (tb.length + 1) c5) (z5.setCell ⟨q, 1, none⟩ (.slice A5 (tb.length + 1) c5))) := Lib.hid (HP.out.cell (p' := ⟨sdl, tb ++ [x], lv⟩) HB5.out (HKP.out q hqs hqn) rfl (own_keepL HP.out.sd fun k hk => HKP.out k (own_lt HP.out.sd k hk) (HP.out.ap k hk)) (by have h := HO5.out; rw [show (tb ++ [x]).length = tb.length + 1 by simp, intsV_app]; exact h) (fun k hk h => by
          rcases HV.out with e | ⟨k2, hk2, e⟩
          · rw [e] at h; exact HP.out.ap k hk h
          · rw [e] at h; injection h with h; have := own_lt HP.out.sd k hk; omega))
        clear HP HKP HV HO5 HB5 HTB hqn hqs hwz
        generalize z5.setCell ⟨q, 1, none⟩ (.slice A5 (tb.length + 1) c5) = z6 at *
        go_wp2_with fail
        refine (next_g L D t 3 z6 HP5.out.dice (by decide) (by decide)).mono ?_
        rintro e z7 ⟨y, rfl, hy0, hy1, hg⟩
        replace HP5 := Lib.hid (HP5.out.gave hg)
        clear hg
        have HT2 := Lib.hid (HT.out.snoc (y := max 1 (x - y)) (by omega) (by omega))
        have m0 : IntKind.i64.wrap (x - y) = x - y := by rw [IntKind.wrap_i64]; omega
        have m1 : RowKit.wrap64 (x - y) = x - y := IntWalk.wrap64_in _ (by omega)
        clear HT
        go_wp2_with fail
        exact ⟨⟨max 1 (x - y), r - 1, _, tb ++ [x], rfl, by first | go_num | (refine congrArg _ ?_; omega), by simp; omega, Lib.hid ⟨HT2.out, HP5.out⟩⟩, by simp [intOf]; omega⟩
      · have hlt2 : ¬ (0 : Int) < (r : Int) := by omega
        have b0 : decide ((r : Int) > 0) = false := decide_eq_false hlt2
        have HP := Lib.hid HQ.out.2
        have HT := Lib.hid HQ.out.1
        clear HQ
        obtain ⟨At, ct, rfl, -⟩ := Row.of_own HP.out.tb
        obtain ⟨As, cs, rfl, -⟩ := Row.of_own HP.out.sd
        have htl : 1 ≤ tb.length ∧ tb.length ≤ 4 := by omega
        go_wp2_with (first | (refine wpList_load_row rfl 24 (.tmp 5) rfl q rfl 24 #[.slice As sdl.length cs, .slice At tb.length ct, .int .i64 lv] (0, 0) _ HP.out.px Try.underlying24 rfl po_size ?_) | (refine wpList_store_row rfl 24 (.tmp 4) (.tmp 49) rfl (w.heap.size + 1) #[.slice As sdl.length cs, .slice At tb.length ct, .int .i64 lv] rfl rfl 24 _ HP.out.rx po_size rfl (by simp [Value.oneCell']) ?_))
        refine bodyPost_ret (v := .agg #[.slice As sdl.length cs, .slice At tb.length ct, .int .i64 lv]) (results_cell_row rfl _ _ (w.heap.size + 1) 24 #[.slice As sdl.length cs, .slice At tb.length ct, .int .i64 lv] (0, 0) _ rfl (setRow_heap _ _ _ #[.slice As sdl.length cs, .slice At tb.length ct, .int .i64 lv] _ _ HP.out.rx) Try.underlying24 rfl po_size) rfl ?_
        have hbr : Below w.heap.size wr (wr.setRow (w.heap.size + 1) #[.slice As sdl.length cs, .slice At tb.length ct, .int .i64 lv]) := below_setRow (Below.refl _ _) (by omega) _
        refine ⟨_, rfl, ⟨sdl, tb, lv⟩, ⟨_, _, rfl, ?_, ?_, HP.out.ap⟩, ⟨HSS.out.2, HSS.out.1, HT.out.good htl.1 (by omega), HLV.out.1, HLV.out.2⟩, fun i hi => (HT.out.2.2 i hi).2.1, htl.2, ?_, ⟨hbr.os.trans HP.out.but.os, hbr.tape.trans HP.out.but.tape, hbr.output.trans HP.out.but.output, Nat.le_trans HP.out.but.size hbr.size, fun k hk hd => (hbr.block k hk).trans (HP.out.but.block k hk hd)⟩⟩
        · exact own_base (own_keepL HP.out.sd fun b hb => setRow_other _ _ _ _ (by have := own_ge HP.out.sd b hb; omega)) (by omega)
        · exact own_base (own_keepL HP.out.tb fun b hb => setRow_other _ _ _ _ (by have := own_ge HP.out.tb b hb; omega)) (by omega)
        · obtain ⟨k, hk⟩ := HP.out.dice
          exact ⟨k, hk.below hbr HP.out.dlt⟩
end Go.Proofs.Ytdildmfjekdlgaa
