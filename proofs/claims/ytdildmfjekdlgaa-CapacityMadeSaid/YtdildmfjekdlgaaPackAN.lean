import Derived.Test.YtdildmfjekdlgaaGWithP
import Derived.Test.YtdildmfjekdlgaaPackAC
import Derived.Test.YtdildmfjekdlgaaPackAJ
import Derived.Test.YtdildmfjekdlgaaPackAB
import Derived.Deep.CutBlock
import Derived.Deep.DeepCutAuto
/- Graphs: the walk of the reference's Level. -/
namespace Go.Proofs.Ytdildmfjekdlgaa
open Go.RowKit
def fitE (l : List Edg) (lv : Int) : List Edg := l.filter fun e => decide (lv ≤ e.lv)
theorem fitE_snoc (l : List Edg) (lv : Int) (j : Nat) (h : j < l.length) : fitE (l.take (j + 1)) lv = fitE (l.take j) lv ++ (if lv ≤ (l.getD j noEdg).lv then [l.getD j noEdg] else []) := by
  unfold fitE
  rw [List.take_add_one, List.getElem?_eq_getElem h, List.filter_append, List.getD_eq_getElem?_getD, List.getElem?_eq_getElem h]
  by_cases hk : lv ≤ l[j].lv <;> simp [hk]
theorem fitE_len (l : List Edg) (lv : Int) : (fitE l lv).length ≤ l.length := List.length_filter_le _ _
theorem row_futs {α : Type} {cs : α → List Value} {k : Nat} {F : World → World → Prop} {w z : World} {A : Option Addr} {n c : Nat} {l : List α} (hk : ∀ a, (cs a).length = k) (h0 : 0 < k) (h : GRow cs k w A n c l) (hb : ∀ x, Below w.heap.size w (fut F z x)) (d : α) (i : Nat) (hi : i < n) :
    ∃ b off, A = some ⟨b, off, none⟩ ∧ ∀ x j, j < k → (fut F z x).cell? ⟨b, off + i * k + j, none⟩ = (cs (l.getD i d))[j]? := by
  obtain ⟨b, off, hA, _⟩ := h.cells hk h0 d i hi
  refine ⟨b, off, hA, fun x j hj => ?_⟩
  obtain ⟨b2, off2, hA2, hc2⟩ := (h.later (hb x)).cells hk h0 d i hi
  rw [hA] at hA2
  injection hA2 with hA2
  injection hA2 with e1 e2
  subst e1 e2
  exact hc2 j hj
set_option maxRecDepth 100000 in
set_option maxHeartbeats 4000000 in
theorem glevel_any (G : Gr) (v : Value) (lv : Int) (w : World) (h : GHold w G v) (he : G.es.length ≤ 100000) (hg : G.gn.length ≤ 100000) : Calls Try.prog 46 #[v, .int .i64 lv] w (GivesGO w (levelG G lv)) := by
  have HGH := Lib.hid h
  obtain ⟨A, n, c, B, m, k, rfl, h1, -⟩ := h
  have hn : n ≤ 100000 := by rw [← ERow.len h1]; exact he
  have HL1 : Hid (G.es.length = n) := Lib.hid (ERow.len h1)
  have HB : Hid (Below w.heap.size w ((w.alloc (.cells #[.int .i64 G.sz, .slice A n c, .slice B m k] 31)).alloc (.cells #[.int .i64 0, .slice none 0 0, .slice none 0 0] 31))) := Lib.hid ((one_new w _).trans ((one_new _ _).mono (by simp)))
  have HX : Hid (((w.alloc (.cells #[.int .i64 G.sz, .slice A n c, .slice B m k] 31)).alloc (.cells #[.int .i64 0, .slice none 0 0, .slice none 0 0] 31)).heap[w.heap.size]? = some (.cells #[.int .i64 G.sz, .slice A n c, .slice B m k] 31 (0, 0))) := Lib.hid ((Below.heap_alloc _ _ _ (by simp)).trans (heap_alloc_new _ _))
  have HR : Hid (((w.alloc (.cells #[.int .i64 G.sz, .slice A n c, .slice B m k] 31)).alloc (.cells #[.int .i64 0, .slice none 0 0, .slice none 0 0] 31)).heap[w.heap.size + 1]? = some (.cells #[.int .i64 0, .slice none 0 0, .slice none 0 0] 31 (0, 0))) := Lib.hid (heap_alloc2_new _ _ _)
  have H1 := Lib.hid h1
  have HCP : Hid (∀ y, Below w.heap.size w y → Calls Try.prog 21 #[.agg #[.int .i64 G.sz, .slice A n c, .slice B m k]] y (GivesGO y G)) := Lib.hid fun y hy => gcopy_any G _ y (HGH.out.later hy) he hg
  have HRW : Hid (levelG G lv = ⟨G.sz, fitE G.es lv, G.gn⟩) := Lib.hid rfl
  generalize levelG G lv = RW at *
  clear h1 he hg HGH
  go_enter Try.func46, Try.ntmps46
  go_upto_region 1 with fail
  generalize ((w.alloc (.cells #[.int .i64 G.sz, .slice A n c, .slice B m k] 31)).alloc (.cells #[.int .i64 0, .slice none 0 0, .slice none 0 0] 31)) = y0 at *
  have HSZ : Hid (w.heap.size + 2 ≤ y0.heap.size) := Lib.hid (Array.getElem?_eq_some_iff.1 HR.out).1
  go_wp2_with (refine wpList_load_row rfl 31 (.tmp 2) rfl w.heap.size rfl 31 #[.int .i64 G.sz, .slice A n c, .slice B m k] (0, 0) _ HX.out Try.underlying31 rfl gr_size ?_)
  refine (HCP.out y0 HB.out).mono ?_
  rintro e1 w5 ⟨v5, rfl, ⟨ve0, vg, rfl, ho1, ho2⟩, hb⟩
  have HG2 := Lib.hid ho2
  have HB45 := Lib.hid HSZ.out
  have hs2 : w.heap.size + 2 ≤ y0.heap.size := HSZ.out
  replace HX := Lib.hid ((hb.block _ (by omega)).trans HX.out); replace HR := Lib.hid ((hb.block _ (by omega)).trans HR.out)
  replace HB := Lib.hid (HB.out.trans (hb.mono HB.out.size))
  replace HSZ : Hid (w.heap.size + 2 ≤ w5.heap.size) := Lib.hid (Nat.le_trans hs2 hb.size)
  clear hb hs2 HCP
  obtain ⟨Ae, ce, rfl, -⟩ := Row.of_own ho1
  obtain ⟨Ag, cg, rfl, -⟩ := Row.of_own ho2
  clear ho1 ho2
  go_upto_region 2 with (refine wpList_store_new rfl 31 (.tmp 5) (.tmp 8) rfl 31 _ #[.int .i64 G.sz, .slice Ae G.es.length ce, .slice Ag G.gn.length cg] rfl rfl gr_size rfl (by simp [Value.oneCell']) ?_)
  have HN5 := Lib.hid (one_new w5 (.cells #[.int .i64 G.sz, .slice Ae G.es.length ce, .slice Ag G.gn.length cg] 31))
  have HO8 : Hid ((w5.alloc (.cells #[.int .i64 G.sz, .slice Ae G.es.length ce, .slice Ag G.gn.length cg] 31)).heap[w5.heap.size]? = some (.cells #[.int .i64 G.sz, .slice Ae G.es.length ce, .slice Ag G.gn.length cg] 31 (0, 0))) := Lib.hid (heap_alloc_new _ _)
  have HG3 := Lib.hid (own_keepL HG2.out fun q hq => HN5.out.block _ (own_lt HG2.out q hq))
  have HGL : Hid (∀ q, (Value.slice Ag G.gn.length cg).ownBlock = some q → q < w5.heap.size) := Lib.hid fun q hq => own_lt HG2.out q hq
  have hb := HN5.out
  clear HN5 HG2
  have hs3 : w.heap.size + 2 ≤ w5.heap.size := HSZ.out
  replace HX := Lib.hid ((hb.block _ (by omega)).trans HX.out); replace HR := Lib.hid ((hb.block _ (by omega)).trans HR.out)
  replace HB := Lib.hid (HB.out.trans (hb.mono HB.out.size))
  clear hb
  obtain ⟨g8, hg8⟩ : ∃ g8, w5.heap.size = g8 := ⟨_, rfl⟩
  rw [hg8] at HO8 HGL hs3 ⊢
  have HS8 : Hid ((w5.alloc (.cells #[.int .i64 G.sz, .slice Ae G.es.length ce, .slice Ag G.gn.length cg] 31)).heap.size = g8 + 1) := Lib.hid (by rw [← hg8]; simp)
  have HG83 : Hid (w.heap.size + 2 ≤ g8) := Lib.hid hs3
  clear hg8 hs3 HSZ
  generalize w5.alloc (.cells #[.int .i64 G.sz, .slice Ae G.es.length ce, .slice Ag G.gn.length cg] 31) = u0 at *
  have hz1 : u0.cell? ⟨g8, 1, none⟩ = some (.slice Ae G.es.length ce) := (cell_of_row _ _ 1 _ _ _ HO8.out).trans rfl
  have hfz : u0.frozen? ⟨g8, 1, none⟩ = false := by unfold World.frozen?; rw [HO8.out]; simp
  dsimp only [Act.put]
  go_upto_region 3 with fail
  have hgg := HG83.out
  have HO9 : Hid ((u0.setCell ⟨g8, 1, none⟩ (.slice none 0 0)).heap[g8]? = some (.cells #[.int .i64 G.sz, .slice none 0 0, .slice Ag G.gn.length cg] 31 (0, 0))) := Lib.hid (heap_setCell_same u0 g8 1 _ _ _ HO8.out)
  have HKC : Hid (∀ q, q ≠ g8 → (u0.setCell ⟨g8, 1, none⟩ (.slice none 0 0)).heap[q]? = u0.heap[q]?) := Lib.hid fun q hq => Below.heap_setCell u0 ⟨g8, 1, none⟩ _ q hq
  have HS9 : Hid ((u0.setCell ⟨g8, 1, none⟩ (.slice none 0 0)).heap.size = g8 + 1) := Lib.hid (by rw [World.size_setCell]; exact HS8.out)
  replace HG3 := Lib.hid (own_keepL HG3.out fun q hq => HKC.out q (Nat.ne_of_lt (HGL.out q hq)))
  replace HB := Lib.hid (HB.out.setCell (p := ⟨g8, 1, none⟩) (show w.heap.size ≤ g8 by omega) (.slice none 0 0))
  replace HX := Lib.hid ((HKC.out w.heap.size (by omega)).trans HX.out)
  replace HR := Lib.hid ((HKC.out (w.heap.size + 1) (by omega)).trans HR.out)
  clear hz1 hfz HO8 HS8 HKC
  generalize u0.setCell ⟨g8, 1, none⟩ (.slice none 0 0) = u1 at *
  go_upto_region 4 with fail
  go_loopw [6] (fun i wr => ∃ (j : Nat) (ve : Value), j ≤ n ∧ i = .int .i64 j ∧ Hid (wr.heap[g8]? = some (.cells #[.int .i64 G.sz, ve, .slice Ag G.gn.length cg] 31 (0, 0)) ∧ wr.ownsRow (g8 + 1) 45 3 ve (fitE (G.es.take j) lv).length (rowC Edg.cells (fitE (G.es.take j) lv)) ∧ Below g8 u1 wr ∧ g8 + 1 ≤ wr.heap.size)) (fun i _ => n - (intOf i).toNat)
  case atStart => exact ⟨0, .slice none 0 0, Nat.zero_le _, rfl, Lib.hid ⟨HO9.out, World.ownsRow_nil _ _ _ _, Below.refl _ _, Nat.le_of_eq HS9.out.symm⟩⟩
  case round =>
    clear HO9
    obtain ⟨j, ve, hj, rfl, HQ⟩ := hrel
    have HO := Lib.hid HQ.out.1; have HE := Lib.hid HQ.out.2.1; have HZ := Lib.hid HQ.out.2.2.1; have HN := Lib.hid HQ.out.2.2.2
    clear HQ
    have HBW : Hid (Below w.heap.size w wr) := Lib.hid (HB.out.trans (HZ.out.mono (by have := HG83.out; omega)))
    have HXR : Hid (wr.heap[w.heap.size]? = some (.cells #[.int .i64 G.sz, .slice A n c, .slice B m k] 31 (0, 0))) := Lib.hid ((HZ.out.block _ (by have := HG83.out; omega)).trans HX.out)
    have hg1 : wr.cell? ⟨w.heap.size, 1, none⟩ = some (.slice A n c) := (cell_of_row _ _ 1 _ _ _ HXR.out).trans rfl
    by_cases hlt : j < n
    · have hlt2 : (j : Int) < (n : Int) := by omega
      obtain ⟨b, off, hA, hc⟩ := GRow.cells Edg.len (by decide) (GRow.later H1.out HBW.out) noEdg j hlt
      subst hA
      have HST := Lib.hid (fitE_snoc G.es lv j (by rw [HL1.out]; exact hlt))
      have HUL : Hid ((fitE (G.es.take j) lv).length ≤ 100000) := Lib.hid (Nat.le_trans (fitE_len _ _) (by rw [List.length_take]; omega))
      obtain ⟨p, hp⟩ : ∃ p, G.es.getD j noEdg = p := ⟨_, rfl⟩
      rw [hp] at hc HST
      have HP := Lib.hid hp
      have hc2 : wr.cell? ⟨b, off + j * 3 + 2, none⟩ = some (.int .i64 p.lv) := hc 2 (by decide)
      clear hc hp
      generalize fitE (G.es.take j) lv = U at *
      by_cases hk : lv ≤ p.lv
      · have b0 : decide (p.lv ≥ lv) = true := decide_eq_true hk
        have b0' : decide (lv ≤ p.lv) = true := b0
        rw [if_pos hk] at HST
        clear hk
        go_upto_region 7 with fail
        clear b0 b0' hg1 hc2
        refine wp_region_flow (by kernel_rfl) (Below g8) ?_
        have HBD : Hid (Below w.heap.size w wr.drew) := Lib.hid HBW.out.drew
        have HXD : Hid (wr.drew.heap[w.heap.size]? = some (.cells #[.int .i64 G.sz, .slice (some ⟨b, off, none⟩) n c, .slice B m k] 31 (0, 0))) := Lib.hid HXR.out
        have HOD : Hid (wr.drew.heap[g8]? = some (.cells #[.int .i64 G.sz, ve, .slice Ag G.gn.length cg] 31 (0, 0))) := Lib.hid HO.out
        have HED : Hid (wr.drew.ownsRow (g8 + 1) 45 3 ve U.length (rowC Edg.cells U)) := Lib.hid HE.out
        have HZD : Hid (Below g8 u1 wr.drew) := Lib.hid HZ.out.drew
        have HN0 : Hid (g8 + 1 ≤ wr.drew.heap.size) := Lib.hid HN.out
        clear HBW HXR HO HE HZ HN
        generalize wr.drew = z0 at *
        have hg83 := HG83.out
        have hul := HUL.out
        obtain ⟨b2, off2, hA2, hfq⟩ := row_futs (F := Below g8) (z := z0) Edg.len (by decide) H1.out (fun x => HBD.out.trans ((fut_ok (Below.refl g8) z0 x).mono (by omega))) noEdg j hlt
        injection hA2 with hA2
        injection hA2 with i1 i2
        subst i1 i2
        rw [HP.out] at hfq
        have hfqc : ∀ x, (loadVar 45 ⟨b, off + j * 3, none⟩).run Try.prog (fut (Below g8) z0 x) = .ok (.agg p.arr) (fut (Below g8) z0 x) := fun x => run_loadVar_cells _ b (off + j * 3) 45 p.arr _ Try.underlying45 rfl p.info fun i hi => (hfq x i hi).trans (by rw [← Edg.list, Array.getElem?_toList])
        have hf1 : ∀ x, (fut (Below g8) z0 x).cell? ⟨w.heap.size, 1, none⟩ = some (.slice (some ⟨b, off, none⟩) n c) := fun x => (cell_of_row _ _ 1 _ _ _ (((fut_ok (Below.refl g8) z0 x).block _ (by omega)).trans HXD.out)).trans rfl
        clear hfq HXD
        refine flow_reads (F := Below g8) (fun _ => Below.refl _ _) (by kernel_rfl) [0, 2, 3, 4, 5, 6] (fuel := 5) (by kernel_rfl) ?_
        simp only [List.map_cons, List.map_nil, pick, List.getD_cons_zero, List.getD_cons_succ]
        repeat (first | (refine wpQuiet_load rfl 45 (.tmp 30) rfl ⟨b, off + j * 3, none⟩ rfl (.agg p.arr) (fun w' h => by obtain ⟨x, rfl⟩ := h; exact hfqc x) ?_; simp only [Act.put, List.setIfInBounds_toArray, List.set_cons_succ, List.set_cons_zero]) | go_big_quiet_step (fail))
        refine wpQuiet_nil ?_
        clear hf1 hfqc
        refine flow_two (F := Below g8) (fun _ _ _ => Below.trans) (fun _ => Below.refl _ _) 1 7 (by kernel_rfl) (by decide) (by decide) ?_ ?_ <;> simp only [pick, List.getD_cons_zero, List.getD_cons_succ]
        · skip
          have hz1 : z0.cell? ⟨g8, 1, none⟩ = some ve := (cell_of_row _ _ 1 _ _ _ HOD.out).trans rfl
          go_wp2_with fail
          refine pieceEnd_normal ⟨Below.refl _ _, ?_⟩
          clear hz1
          refine flow_one (F := Below g8) (fun _ _ _ => Below.trans) (fun _ => Below.refl _ _) 7 (by kernel_rfl) (by decide) ?_
          simp only [pick, List.getD_cons_zero, List.getD_cons_succ]
          have hvs : p.arr.size = 3 := rfl
          go_wp2_with fail
          clear hvs
          (first | rw [fold3n] | rw [fold3])
          have hb : Below (g8 + 1) z0 (z0.alloc (.cells p.arr 45)) := (one_new z0 _).mono HN0.out
          refine pieceEnd_normal ⟨hb.mono (Nat.le_succ g8), ?_⟩
          have HR3 : Hid (Row (z0.alloc (.cells p.arr 45)) (some ⟨z0.heap.size, 0, none⟩) 1 1 3 (rowC Edg.cells [p])) := Lib.hid (Row.of_block (heap_alloc_new _ _) rfl)
          replace HED := Lib.hid (World.ownsRow.alloc HED.out (.cells p.arr 45))
          replace HOD := Lib.hid ((hb.block g8 (Nat.lt_succ_self g8)).trans HOD.out)
          replace HZD := Lib.hid (HZD.out.trans (hb.mono (Nat.le_succ g8)))
          replace HN0 := Lib.hid (Nat.le_trans HN0.out hb.size)
          clear hb
          obtain ⟨g3, hg3⟩ : ∃ g3, z0.heap.size = g3 := ⟨_, rfl⟩
          rw [hg3] at HR3 ⊢
          clear hg3
          generalize z0.alloc (.cells p.arr 45) = z1 at *
          refine flow_one (F := Below g8) (fun _ _ _ => Below.trans) (fun _ => Below.refl _ _) 8 (by kernel_rfl) (by decide) ?_
          simp only [pick, List.getD_cons_zero, List.getD_cons_succ]
          go_wp2_with (at_builtin; go_must (refine wpList_app2 z1 rfl (.tmp 26) (.tmp 32) 29 29 45 rfl (g8 + 1) Try.underlying29 edg_info rfl _ U.length _ HED.out rfl _ 1 (rowC Edg.cells [p]) (Row.src HR3.out Try.underlying29 (rowC_ones Edg.ones _)) rfl (by unfold maxLen; omega) (by omega) HN0.out ?_); intro v4 z5 ho hb _ _; have HE5 := Lib.hid ho; have HF : Hid (Below (g8 + 1) z1 z5) := Lib.hid hb; clear ho hb)
          refine pieceEnd_normal ⟨HF.out.mono (Nat.le_succ g8), ?_⟩
          replace HOD := Lib.hid ((HF.out.block g8 (Nat.lt_succ_self g8)).trans HOD.out)
          replace HZD := Lib.hid (HZD.out.trans (HF.out.mono (Nat.le_succ g8)))
          replace HN0 := Lib.hid (Nat.le_trans HN0.out HF.out.size)
          clear HF HR3 HED
          refine flow_reads (F := Below g8) (fun _ => Below.refl _ _) (by kernel_rfl) [9] (fuel := 1) (by kernel_rfl) ?_
          simp only [List.map_cons, List.map_nil, pick, List.getD_cons_zero, List.getD_cons_succ]
          repeat (go_big_quiet_step (fail))
          refine wpQuiet_nil ?_
          refine flow_one (F := Below g8) (fun _ _ _ => Below.trans) (fun _ => Below.refl _ _) 10 (by kernel_rfl) (by decide) ?_
          simp only [pick, List.getD_cons_zero, List.getD_cons_succ]
          have hz1 : z5.cell? ⟨g8, 1, none⟩ = some ve := (cell_of_row _ _ 1 _ _ _ HOD.out).trans rfl
          have hfz : z5.frozen? ⟨g8, 1, none⟩ = false := by unfold World.frozen?; rw [HOD.out]; simp
          obtain ⟨A6, c6, hv6, -⟩ := Row.of_own HE5.out
          subst hv6
          go_wp2_with fail
          have HF : Hid (Below g8 z5 (z5.setCell ⟨g8, 1, none⟩ (.slice A6 (U.length + 1) c6))) := Lib.hid ((Below.refl _ _).setCell (p := ⟨g8, 1, none⟩) (Nat.le_refl g8) _)
          refine pieceEnd_normal ⟨HF.out, ?_⟩
          refine flow_done (by kernel_rfl) ?_
          have HO9 : Hid ((z5.setCell ⟨g8, 1, none⟩ (.slice A6 (U.length + 1) c6)).heap[g8]? = some (.cells #[.int .i64 G.sz, .slice A6 (U.length + 1) c6, .slice Ag G.gn.length cg] 31 (0, 0))) := Lib.hid (heap_setCell_same z5 g8 1 _ _ _ HOD.out)
          have HE9 := Lib.hid (own_keepL HE5.out fun q hq => Below.heap_setCell z5 ⟨g8, 1, none⟩ (.slice A6 (U.length + 1) c6) q (by have := own_ge HE5.out q hq; show q ≠ g8; omega))
          have HZ9 := Lib.hid (HZD.out.trans HF.out)
          have HN9 : Hid (g8 + 1 ≤ (z5.setCell ⟨g8, 1, none⟩ (.slice A6 (U.length + 1) c6)).heap.size) := Lib.hid (by rw [World.size_setCell]; exact HN0.out)
          clear hz1 hfz HF HOD HE5 HZD HN0
          generalize z5.setCell ⟨g8, 1, none⟩ (.slice A6 (U.length + 1) c6) = z6 at *
          go_wp2_with fail
          exact ⟨⟨j + 1, _, by omega, by go_num, Lib.hid ⟨HO9.out, by rw [HST.out, List.length_append, rowC_app]; exact HE9.out, HZ9.out, HN9.out⟩⟩, by simp [intOf]; omega⟩
        · skip
          have hvs : p.arr.size = 3 := rfl
          go_wp2_with fail
          clear hvs
          (first | rw [fold3n] | rw [fold3])
          have hb : Below (g8 + 1) z0 (z0.alloc (.cells p.arr 45)) := (one_new z0 _).mono HN0.out
          refine pieceEnd_normal ⟨hb.mono (Nat.le_succ g8), ?_⟩
          have HR3 : Hid (Row (z0.alloc (.cells p.arr 45)) (some ⟨z0.heap.size, 0, none⟩) 1 1 3 (rowC Edg.cells [p])) := Lib.hid (Row.of_block (heap_alloc_new _ _) rfl)
          replace HED := Lib.hid (World.ownsRow.alloc HED.out (.cells p.arr 45))
          replace HOD := Lib.hid ((hb.block g8 (Nat.lt_succ_self g8)).trans HOD.out)
          replace HZD := Lib.hid (HZD.out.trans (hb.mono (Nat.le_succ g8)))
          replace HN0 := Lib.hid (Nat.le_trans HN0.out hb.size)
          clear hb
          obtain ⟨g3, hg3⟩ : ∃ g3, z0.heap.size = g3 := ⟨_, rfl⟩
          rw [hg3] at HR3 ⊢
          clear hg3
          generalize z0.alloc (.cells p.arr 45) = z1 at *
          refine flow_one (F := Below g8) (fun _ _ _ => Below.trans) (fun _ => Below.refl _ _) 1 (by kernel_rfl) (by decide) ?_
          simp only [pick, List.getD_cons_zero, List.getD_cons_succ]
          have hz1 : z1.cell? ⟨g8, 1, none⟩ = some ve := (cell_of_row _ _ 1 _ _ _ HOD.out).trans rfl
          go_wp2_with fail
          refine pieceEnd_normal ⟨Below.refl _ _, ?_⟩
          clear hz1
          refine flow_one (F := Below g8) (fun _ _ _ => Below.trans) (fun _ => Below.refl _ _) 8 (by kernel_rfl) (by decide) ?_
          simp only [pick, List.getD_cons_zero, List.getD_cons_succ]
          go_wp2_with (at_builtin; go_must (refine wpList_app2 z1 rfl (.tmp 26) (.tmp 32) 29 29 45 rfl (g8 + 1) Try.underlying29 edg_info rfl _ U.length _ HED.out rfl _ 1 (rowC Edg.cells [p]) (Row.src HR3.out Try.underlying29 (rowC_ones Edg.ones _)) rfl (by unfold maxLen; omega) (by omega) HN0.out ?_); intro v4 z5 ho hb _ _; have HE5 := Lib.hid ho; have HF : Hid (Below (g8 + 1) z1 z5) := Lib.hid hb; clear ho hb)
          refine pieceEnd_normal ⟨HF.out.mono (Nat.le_succ g8), ?_⟩
          replace HOD := Lib.hid ((HF.out.block g8 (Nat.lt_succ_self g8)).trans HOD.out)
          replace HZD := Lib.hid (HZD.out.trans (HF.out.mono (Nat.le_succ g8)))
          replace HN0 := Lib.hid (Nat.le_trans HN0.out HF.out.size)
          clear HF HR3 HED
          refine flow_reads (F := Below g8) (fun _ => Below.refl _ _) (by kernel_rfl) [9] (fuel := 1) (by kernel_rfl) ?_
          simp only [List.map_cons, List.map_nil, pick, List.getD_cons_zero, List.getD_cons_succ]
          repeat (go_big_quiet_step (fail))
          refine wpQuiet_nil ?_
          refine flow_one (F := Below g8) (fun _ _ _ => Below.trans) (fun _ => Below.refl _ _) 10 (by kernel_rfl) (by decide) ?_
          simp only [pick, List.getD_cons_zero, List.getD_cons_succ]
          have hz1 : z5.cell? ⟨g8, 1, none⟩ = some ve := (cell_of_row _ _ 1 _ _ _ HOD.out).trans rfl
          have hfz : z5.frozen? ⟨g8, 1, none⟩ = false := by unfold World.frozen?; rw [HOD.out]; simp
          obtain ⟨A6, c6, hv6, -⟩ := Row.of_own HE5.out
          subst hv6
          go_wp2_with fail
          have HF : Hid (Below g8 z5 (z5.setCell ⟨g8, 1, none⟩ (.slice A6 (U.length + 1) c6))) := Lib.hid ((Below.refl _ _).setCell (p := ⟨g8, 1, none⟩) (Nat.le_refl g8) _)
          refine pieceEnd_normal ⟨HF.out, ?_⟩
          refine flow_done (by kernel_rfl) ?_
          have HO9 : Hid ((z5.setCell ⟨g8, 1, none⟩ (.slice A6 (U.length + 1) c6)).heap[g8]? = some (.cells #[.int .i64 G.sz, .slice A6 (U.length + 1) c6, .slice Ag G.gn.length cg] 31 (0, 0))) := Lib.hid (heap_setCell_same z5 g8 1 _ _ _ HOD.out)
          have HE9 := Lib.hid (own_keepL HE5.out fun q hq => Below.heap_setCell z5 ⟨g8, 1, none⟩ (.slice A6 (U.length + 1) c6) q (by have := own_ge HE5.out q hq; show q ≠ g8; omega))
          have HZ9 := Lib.hid (HZD.out.trans HF.out)
          have HN9 : Hid (g8 + 1 ≤ (z5.setCell ⟨g8, 1, none⟩ (.slice A6 (U.length + 1) c6)).heap.size) := Lib.hid (by rw [World.size_setCell]; exact HN0.out)
          clear hz1 hfz HF HOD HE5 HZD HN0
          generalize z5.setCell ⟨g8, 1, none⟩ (.slice A6 (U.length + 1) c6) = z6 at *
          go_wp2_with fail
          exact ⟨⟨j + 1, _, by omega, by go_num, Lib.hid ⟨HO9.out, by rw [HST.out, List.length_append, rowC_app]; exact HE9.out, HZ9.out, HN9.out⟩⟩, by simp [intOf]; omega⟩
      · have b0 : decide (p.lv ≥ lv) = false := decide_eq_false hk
        have b0' : decide (lv ≤ p.lv) = false := b0
        rw [if_neg hk, List.append_nil] at HST
        clear hk
        go_wp2_with fail
        exact ⟨⟨j + 1, ve, by omega, by go_num, Lib.hid (by rw [HST.out]; exact ⟨HO.out, HE.out, HZ.out, HN.out⟩)⟩, by simp [intOf]; omega⟩
    · have hlt2 : ¬ (j : Int) < (n : Int) := by omega
      have HT : Hid (fitE (G.es.take j) lv = fitE G.es lv) := Lib.hid (by rw [List.take_of_length_le (by rw [HL1.out]; omega)])
      rw [HT.out] at HE
      clear HT
      have HRR : Hid (wr.heap[w.heap.size + 1]? = some (.cells #[.int .i64 0, .slice none 0 0, .slice none 0 0] 31 (0, 0))) := Lib.hid ((HZ.out.block _ (by have := HG83.out; omega)).trans HR.out)
      have HGR := Lib.hid (own_keepL HG3.out fun q hq => HZ.out.block q (HGL.out q hq))
      obtain ⟨A6, c6, hv6, -⟩ := Row.of_own HE.out
      subst hv6
      have hgg := HG83.out
      go_wp2_with (first | (refine wpList_load_row rfl 31 (.tmp 5) rfl g8 rfl 31 #[.int .i64 G.sz, .slice A6 (fitE G.es lv).length c6, .slice Ag G.gn.length cg] (0, 0) _ HO.out Try.underlying31 rfl gr_size ?_) | (refine wpList_store_row rfl 31 (.tmp 4) (.tmp 35) rfl (w.heap.size + 1) #[.int .i64 G.sz, .slice A6 (fitE G.es lv).length c6, .slice Ag G.gn.length cg] rfl rfl 31 _ HRR.out gr_size rfl (by simp [Value.oneCell']) ?_))
      refine bodyPost_ret (v := .agg #[.int .i64 G.sz, .slice A6 (fitE G.es lv).length c6, .slice Ag G.gn.length cg]) (results_cell_row rfl _ _ (w.heap.size + 1) 31 #[.int .i64 G.sz, .slice A6 (fitE G.es lv).length c6, .slice Ag G.gn.length cg] (0, 0) _ rfl (setRow_heap _ _ _ #[.int .i64 G.sz, .slice A6 (fitE G.es lv).length c6, .slice Ag G.gn.length cg] _ _ HRR.out) Try.underlying31 rfl gr_size) rfl ?_
      rw [HRW.out]
      refine ⟨_, rfl, ?_, below_setRow HBW.out (by omega) _⟩
      refine ⟨_, _, rfl, ?_, ?_⟩
      · exact own_base (own_keepL HE.out fun q hq => setRow_other _ _ _ _ (by have := own_ge HE.out q hq; omega)) (by omega)
      · exact own_base (own_keepL HGR.out fun q hq => setRow_other _ _ _ _ (by have := own_ge HGR.out q hq; have := HB45.out; omega)) (by have := HB45.out; omega)
end Go.Proofs.Ytdildmfjekdlgaa
/- Graphs: the walk of the reference's At. -/
namespace Go.Proofs.Ytdildmfjekdlgaa
open Go.RowKit
/-- What is there stays, but for block g; below block g all stays. -/
def Midst (g n : Nat) (a b : World) : Prop := Below g a b ∧ ∀ k, k < n → k ≠ g → b.heap[k]? = a.heap[k]?
theorem Midst.refl (g n : Nat) (a : World) : Midst g n a a := ⟨Below.refl _ _, fun _ _ _ => rfl⟩
theorem Midst.trans {g n : Nat} {a b c : World} (h : Midst g n a b) (k : Midst g n b c) : Midst g n a c := ⟨h.1.trans k.1, fun i hi hg => (k.2 i hi hg).trans (h.2 i hi hg)⟩
theorem Midst.of {g n : Nat} {a b : World} (h : Below n a b) (hg : g ≤ n) : Midst g n a b := ⟨h.mono hg, fun i hi _ => h.block i hi⟩
theorem Midst.cell {g n : Nat} (a : World) (i : Nat) (v : Value) : Midst g n a (a.setCell ⟨g, i, none⟩ v) := ⟨(Below.refl _ _).setCell (p := ⟨g, i, none⟩) (Nat.le_refl g) v, fun k _ hk => Below.heap_setCell a ⟨g, i, none⟩ v k hk⟩
theorem Midst.drew {g n : Nat} {a b : World} (h : Midst g n a b) : Midst g n a b.drew := ⟨h.1.drew, h.2⟩
end Go.Proofs.Ytdildmfjekdlgaa
/- The walk of the reference's Between. -/
namespace Go.Proofs.Ytdildmfjekdlgaa
open Go.RowKit
end Go.Proofs.Ytdildmfjekdlgaa
/- The law of layer 10 on one list, over any program that gives what layer 10 asks. -/
namespace Go.Proofs.Ytdildmfjekdlgaa
open Go.RowKit
/-- A list as layer 10 is specified for: what counts of some authors, by author and number. -/
structure Ord10 (S : List Stm) : Prop where
  ok : ∀ s ∈ S, checkV s = 0
  link : Linked none S
  ord : S.Pairwise fun a b => a.author < b.author ∨ (a.author = b.author ∧ a.number < b.number)
theorem sameI_self (A : Option Addr) (n c : Nat) (B : Option Addr) (m k : Nat) (l : List Int) (w : World) (h1 : IRow w A n c l) (h2 : IRow w B m k l) (hn : n ≤ 100000) : Calls Try.prog 27 #[.slice A n c, .slice B m k] w (SaysL (.bool true) w) := by
  refine (sameInts_any A n c l B m k l w h1 h2 (by omega)).mono ?_
  intro e w' h
  rwa [sameIB_self] at h
end Go.Proofs.Ytdildmfjekdlgaa
/- What counts of a store: it is in the order that layer 10 is specified for; its lists are the call's own. -/
namespace Go.Proofs.Ytdildmfjekdlgaa
open Go.RowKit
end Go.Proofs.Ytdildmfjekdlgaa
/- Plain facts on vouches: their order, which are active, and that statements with a later time do not matter. -/
namespace Go.Proofs.Ytdildmfjekdlgaa
open Go.RowKit
end Go.Proofs.Ytdildmfjekdlgaa
/- Plain facts on what is active: at most one between two, and statements with a later time do not matter. -/
namespace Go.Proofs.Ytdildmfjekdlgaa
open Go.RowKit
theorem stm_at {l : List Stm} {i : Nat} (h : i < l.length) : l.getD i noStm = l[i] := by
  rw [List.getD_eq_getElem?_getD, List.getElem?_eq_getElem h]; rfl
theorem Ord10.at {S : List Stm} (h : Ord10 S) {i j : Nat} (hij : i < j) (hj : j < S.length) : (S.getD i noStm).author < (S.getD j noStm).author ∨ ((S.getD i noStm).author = (S.getD j noStm).author ∧ (S.getD i noStm).number < (S.getD j noStm).number) := by
  have h1 := h.ord
  rw [List.pairwise_iff_getElem] at h1
  rw [stm_at hj, stm_at (by omega : i < S.length)]
  exact h1 i j (by omega) hj hij
theorem linked_time : ∀ {l : List Stm} {o : Option Stm}, Linked o l → ∀ i, i < l.length → 0 < (l.getD i noStm).number → 0 < i → (l.getD (i - 1) noStm).time ≤ (l.getD i noStm).time
  | [], _, _, i, hi, _, _ => absurd hi (Nat.not_lt_zero _)
  | s :: l, o, h, i, hi, h0, hp => by
    obtain ⟨k, rfl⟩ : ∃ k, i = k + 1 := ⟨i - 1, by omega⟩
    cases k with
    | zero =>
      cases l with
      | nil => exact absurd hi (by simp)
      | cons t m =>
        obtain ⟨p, hp, _, _, h3⟩ := h.2.1 h0
        injection hp with hp
        subst hp
        exact h3
    | succ k => exact linked_time h.2 (k + 1) (Nat.lt_of_succ_lt_succ hi) h0 (Nat.succ_pos _)
/-- An author's times rise with the numbers. -/
theorem Ord10.mono {S : List Stm} (h : Ord10 S) (i : Nat) : ∀ d, i + d < S.length → (S.getD i noStm).author = (S.getD (i + d) noStm).author → (S.getD i noStm).time ≤ (S.getD (i + d) noStm).time
  | 0, _, _ => Int.le_refl _
  | d + 1, hd, ha => by
    have h0 : 0 ≤ (S.getD i noStm).number := by
      rw [stm_at (by omega : i < S.length)]
      exact (check_bounds (h.ok _ (List.getElem_mem _))).2.2.1
    have h1 := h.at (show i < i + (d + 1) by omega) hd
    have h2 : 0 < (S.getD (i + (d + 1)) noStm).number := by omega
    have h3 := linked_time h.link (i + (d + 1)) hd h2 (by omega)
    rcases h.link.at (i + (d + 1)) hd h2 with ⟨h4, _⟩ | ⟨_, h5, _⟩
    · omega
    · rw [show i + (d + 1) - 1 = i + d by omega] at h3 h5
      exact Int.le_trans (h.mono i d (by omega) (by rw [ha, h5])) h3
theorem mem_at {S : List Stm} {s : Stm} (h : s ∈ S) : ∃ i, i < S.length ∧ S.getD i noStm = s := by
  obtain ⟨i, hi, he⟩ := List.mem_iff_getElem.1 h
  exact ⟨i, hi, by rw [stm_at hi, he]⟩
theorem Ord10.times {S : List Stm} (h : Ord10 S) {a b : Stm} (ha : a ∈ S) (hb : b ∈ S) (he : a.author = b.author) (hn : a.number < b.number) : a.time ≤ b.time := by
  obtain ⟨i, hi, rfl⟩ := mem_at ha
  obtain ⟨j, hj, rfl⟩ := mem_at hb
  have hij : i < j := by
    rcases Nat.lt_or_ge j i with hc | hc
    · have := h.at hc hi; omega
    · rcases Nat.lt_or_ge i j with hd | hd
      · exact hd
      · rw [show i = j by omega] at hn; omega
  have := h.mono i (j - i) (by omega) (by rw [show i + (j - i) = j by omega]; exact he)
  rwa [show i + (j - i) = j by omega] at this
theorem Ord10.until {S : List Stm} (h : Ord10 S) (tm : Int) : Ord10 (untilS tm S) :=
  ⟨fun s hs => h.ok s ((List.mem_filter.1 hs).1), h.link.until tm fun _ hp _ => hp, h.ord.sublist (List.filter_sublist)⟩
end Go.Proofs.Ytdildmfjekdlgaa
/- What is active, told by statements; what is active does not depend on statements with a later time. -/
namespace Go.Proofs.Ytdildmfjekdlgaa
open Go.RowKit
end Go.Proofs.Ytdildmfjekdlgaa
/- Plain facts on an author's chain that was made statement by statement: all of it counts; what comes next; it is in layer 10's order. -/
namespace Go.Proofs.Ytdildmfjekdlgaa
open Go.RowKit
/-- A chain of an author: numbers from 0, each follows the one before it, none after the last word. -/
structure Ch (au : Int) (c : List Stm) : Prop where
  each : ∀ i, i < c.length → (c.getD i noStm).author = au ∧ (c.getD i noStm).number = (i : Int) ∧ checkV (c.getD i noStm) = 0 ∧ sealedB (c.getD i noStm) = true
  step : ∀ i, 0 < i → i < c.length → followsR (c.getD (i - 1) noStm) (c.getD i noStm) = true ∧ (c.getD (i - 1) noStm).kind ≠ 3
theorem Ch.nil (au : Int) : Ch au [] := ⟨fun _ h => absurd h (Nat.not_lt_zero _), fun _ _ h => absurd h (Nat.not_lt_zero _)⟩
theorem snoc_lt {c : List Stm} {x : Stm} {i : Nat} (h : i < c.length) : (c ++ [x]).getD i noStm = c.getD i noStm := by
  rw [List.getD_eq_getElem?_getD, List.getElem?_append_left h, ← List.getD_eq_getElem?_getD]
theorem snoc_eq {c : List Stm} {x : Stm} : (c ++ [x]).getD c.length noStm = x := by
  rw [List.getD_eq_getElem?_getD, List.getElem?_append_right (Nat.le_refl _), Nat.sub_self]; rfl
theorem Ch.snoc {au : Int} {c : List Stm} {x : Stm} (h : Ch au c) (ha : x.author = au) (hn : x.number = (c.length : Int)) (hc : checkV x = 0) (hs : sealedB x = true) (hf : 0 < c.length → followsR (lastL c) x = true ∧ (lastL c).kind ≠ 3) : Ch au (c ++ [x]) := by
  constructor
  · intro i hi
    rw [List.length_append, List.length_singleton] at hi
    by_cases hl : i < c.length
    · rw [snoc_lt hl]; exact h.each i hl
    · rw [show i = c.length by omega, snoc_eq]; exact ⟨ha, hn, hc, hs⟩
  · intro i h0 hi
    rw [List.length_append, List.length_singleton] at hi
    by_cases hl : i < c.length
    · rw [snoc_lt hl, snoc_lt (by omega)]; exact h.step i h0 hl
    · have he : i = c.length := by omega
      subst he
      rw [snoc_eq, snoc_lt (by omega)]
      exact hf h0
theorem slotK_all : ∀ (l : List Stm) (x : Stm), (∀ a ∈ l, slotB a x = true) → slotK l x = l.length
  | [], _, _ => rfl
  | a :: l, x, h => by
    unfold slotK
    rw [if_pos (h a (List.mem_cons.2 (.inl rfl))), slotK_all l x fun b hb => h b (List.mem_cons.2 (.inr hb))]
    rfl
theorem putL_end {l : List Stm} {x : Stm} (h : ∀ a ∈ l, slotB a x = true) : putL l x = l ++ [x] := by
  unfold putL
  rw [slotK_all l x h, if_neg (fun hc => absurd hc.1 (Nat.lt_irrefl _)), List.take_length, List.drop_length]
theorem take_snoc {c : List Stm} {k : Nat} (h : k < c.length) : c.take (k + 1) = c.take k ++ [c.getD k noStm] := by
  rw [List.take_add_one, List.getElem?_eq_getElem h, stm_at h]; rfl
theorem Ch.own {au : Int} {c : List Stm} (h : Ch au c) : ∀ k, k ≤ c.length → ownL au (c.take k) = c.take k
  | 0, _ => rfl
  | k + 1, hk => by
    have h1 := h.each k (by omega)
    rw [take_snoc (by omega), ownL_app, h.own k (by omega)]
    unfold ownStep
    rw [if_pos ⟨h1.1, h1.2.2.1, h1.2.2.2⟩, putL_end fun a ha => ?_]
    obtain ⟨i, hi, he⟩ := List.mem_iff_getElem.1 ha
    rw [List.length_take] at hi
    rw [List.getElem_take] at he
    have h2 := h.each i (by omega)
    rw [stm_at (by omega : i < c.length), he] at h2
    rw [slotB_eq, if_pos (by omega)]
theorem Ch.own_all {au : Int} {c : List Stm} (h : Ch au c) : ownL au c = c := by
  have := h.own c.length (Nat.le_refl _)
  rwa [List.take_length] at this
theorem Ch.stepR {au : Int} {c : List Stm} (h : Ch au c) {i : Nat} (hi : i < c.length) : stepR c i = true := by
  have h1 := h.each i hi
  unfold Go.Proofs.Ytdildmfjekdlgaa.stepR
  simp only [Bool.and_eq_true, Bool.or_eq_true, decide_eq_true_eq, Bool.not_eq_true']
  refine ⟨h1.2.1, ?_, ?_⟩
  · by_cases hn : i + 1 < c.length
    · have h2 := h.each (i + 1) hn
      rw [decide_eq_false (p := (c.getD (i + 1) noStm).number = (i : Int)) (by omega), Bool.and_false]
    · rw [decide_eq_false hn, Bool.false_and]
  · by_cases h0 : i = 0
    · exact .inl h0
    · have h2 := h.step i (by omega) hi
      exact .inr ⟨h2.1, by rw [decide_eq_false h2.2]⟩
theorem Ch.counts {au : Int} {c : List Stm} (h : Ch au c) : ∀ d i, i + d = c.length → countsFrom c (c.length - i) i = c.length
  | 0, i, hd => by rw [show c.length - i = 0 by omega]; unfold countsFrom; omega
  | d + 1, i, hd => by rw [countsFrom_step c c.length i (by omega) (h.stepR (by omega))]; exact h.counts d (i + 1) (by omega)
/-- All of a chain counts. -/
theorem Ch.counted {au : Int} {c : List Stm} (h : Ch au c) : countedR au c = c := by
  have h1 := h.counts c.length 0 (by omega)
  rw [Nat.sub_zero] at h1
  unfold countedR
  rw [h.own_all, h1, List.take_length]
theorem sealed_seal (s : Stm) : sealedB (sealOf s) = true := by
  show (decide (s.author = s.author) && decide (digS s = digS (sealOf s))) = true
  rw [decide_eq_true rfl, show digS (sealOf s) = digS s from rfl, decide_eq_true rfl]
  rfl
theorem Ch.more {au : Int} {c : List Stm} (h : Ch au c) {s : Stm} (ht : 0 < c.length → (lastL c).time ≤ s.time) (hk : 0 < c.length → (lastL c).kind ≠ 3) (hc : checkV (sealOf (draftR au c s)) = 0) : Ch au (c ++ [sealOf (draftR au c s)]) := by
  refine h.snoc ?_ ?_ hc (sealed_seal _) fun h0 => ⟨?_, hk h0⟩
  · unfold draftR; split <;> rfl
  · unfold draftR
    split
    · rename_i hz; rw [hz]; rfl
    · rfl
  · have h1 := h.each (c.length - 1) (by omega)
    unfold draftR
    rw [if_neg (by omega)]
    show (decide (au = (lastL c).author) && (decide ((c.length : Int) = (lastL c).number + 1) && (decide (digS (lastL c) = digS (lastL c)) && decide ((lastL c).time ≤ s.time)))) = true
    have h2 : (lastL c).author = au := h1.1
    have h3 : (lastL c).number = ((c.length - 1 : Nat) : Int) := h1.2.1
    rw [decide_eq_true h2.symm, decide_eq_true (by omega), decide_eq_true rfl, decide_eq_true (ht h0)]
    rfl
/-- What comes next in a chain. -/
theorem Ch.next {au : Int} {c : List Stm} (h : Ch au c) {s : Stm} (ht : 0 < c.length → (lastL c).time ≤ s.time) (hk : 0 < c.length → (lastL c).kind ≠ 3) (hc : checkV (sealOf (draftR au c s)) = 0) : nextP au c s = (sealOf (draftR au c s), 0) := by
  unfold nextP
  rw [if_neg (fun hx => by rw [h.counted, sameLB_self] at hx; exact absurd hx.2 (by decide)), if_neg (fun hx => by have := ht (by omega); omega), if_neg (fun hx => hk (by omega) hx.2), if_pos hc]
/-- What Next gave, put behind a chain, is a chain. -/
theorem Ch.given {au : Int} {c : List Stm} (h : Ch au c) {s : Stm} (he : (nextP au c s).2 = 0) : Ch au (c ++ [(nextP au c s).1]) := by
  by_cases h1 : c.length ≠ 0 ∧ sameLB (countedR au c) c = false
  · unfold nextP at he; rw [if_pos h1] at he; exact absurd he (by decide)
  · by_cases h2 : c.length ≠ 0 ∧ s.time < (lastL c).time
    · unfold nextP at he; rw [if_neg h1, if_pos h2] at he; exact absurd he (by decide)
    · by_cases h3 : c.length ≠ 0 ∧ (lastL c).kind = 3
      · unfold nextP at he; rw [if_neg h1, if_neg h2, if_pos h3] at he; exact absurd he (by decide)
      · by_cases h4 : checkV (sealOf (draftR au c s)) = 0
        · have h5 : nextP au c s = (sealOf (draftR au c s), 0) := by unfold nextP; rw [if_neg h1, if_neg h2, if_neg h3, if_pos h4]
          rw [h5]
          exact h.more (fun h0 => by omega) (fun h0 hc => h3 ⟨by omega, hc⟩) h4
        · unfold nextP at he; rw [if_neg h1, if_neg h2, if_neg h3, if_neg h4] at he; exact absurd he h4
theorem Ch.mem {au : Int} {c : List Stm} (h : Ch au c) {s : Stm} (hs : s ∈ c) : s.author = au ∧ checkV s = 0 := by
  obtain ⟨i, hi, rfl⟩ := mem_at hs
  exact ⟨(h.each i hi).1, (h.each i hi).2.2.1⟩
theorem Ord10.app {l m : List Stm} (h : Ord10 l) (k : Ord10 m) (hlm : ∀ a ∈ l, ∀ b ∈ m, a.author < b.author) : Ord10 (l ++ m) :=
  ⟨fun s hs => by
    rcases List.mem_append.1 hs with hs | hs
    · exact h.ok s hs
    · exact k.ok s hs, h.link.app k.link, List.pairwise_append.2 ⟨h.ord, k.ord, fun a ha b hb => .inl (hlm a ha b hb)⟩⟩
end Go.Proofs.Ytdildmfjekdlgaa
/- Plain facts on the vouch between two: it is the last one by then, or none. -/
namespace Go.Proofs.Ytdildmfjekdlgaa
open Go.RowKit
theorem Ord10.same {S : List Stm} (h : Ord10 S) {a b : Stm} (ha : a ∈ S) (hb : b ∈ S) (he : a.author = b.author) (hn : a.number = b.number) : a = b := by
  obtain ⟨i, hi, rfl⟩ := mem_at ha
  obtain ⟨j, hj, rfl⟩ := mem_at hb
  rcases Nat.lt_or_ge i j with hc | hc
  · have := h.at hc hj; omega
  · rcases Nat.lt_or_ge j i with hd | hd
    · have := h.at hd hi; omega
    · rw [show i = j by omega]
end Go.Proofs.Ytdildmfjekdlgaa
/- Plain facts on the graph of a time. -/
namespace Go.Proofs.Ytdildmfjekdlgaa
open Go.RowKit
theorem hasI_iff (x : Int) : ∀ l : List Int, hasI l x = true ↔ x ∈ l
  | [] => ⟨fun h => (nomatch h), fun h => (nomatch h)⟩
  | a :: l => by
    rw [List.mem_cons, hasI]
    split
    · rename_i h; exact ⟨fun _ => .inl h.symm, fun _ => rfl⟩
    · rename_i h
      rw [hasI_iff x l]
      exact ⟨.inr, fun h2 => h2.elim (fun h3 => absurd h3.symm h) id⟩
end Go.Proofs.Ytdildmfjekdlgaa
/- The walk of the dice's Spoil. -/
namespace Go.Proofs.Ytdildmfjekdlgaa
open Go.RowKit
end Go.Proofs.Ytdildmfjekdlgaa
/- The walks of the dice's Lists and Store. -/
namespace Go.Proofs.Ytdildmfjekdlgaa
open Go.RowKit
end Go.Proofs.Ytdildmfjekdlgaa
