import Derived.Test.YtdildmfjekdlgaaCaMoreP
import Derived.Test.YtdildmfjekdlgaaPackBF
import Derived.Test.YtdildmfjekdlgaaPackAK
/- The walk of the law CapacityBounds. -/
namespace Go.Proofs.Ytdildmfjekdlgaa
open Go.RowKit
/-- .. and some keys. -/
structure BQ (w : World) (D P g0 : Nat) (t : List Int) (G : Gr) (A : Option Addr) (n c : Nat) (B : Option Addr) (m k : Nat) (p : Pol) (sv tv : Value) (g5 g6 : Nat) (K : Gr) (e f : Value) (S : List Int) (AB : Option Addr) (cb : Nat) (z : World) : Prop where
  mq : MQ w D P g0 t G A n c B m k p sv tv g5 g6 K e f z
  bd : z.ownsRow (D + 1) 3 1 (.slice AB S.length cb) S.length (intsV S)
section
variable {w : World} {D P g0 : Nat} {t : List Int} {G : Gr} {A : Option Addr} {n c : Nat} {B : Option Addr} {m k : Nat} {p : Pol} {sv tv : Value} {g5 g6 : Nat} {K : Gr} {e f : Value} {S : List Int} {AB : Option Addr} {cb : Nat} {z z' : World}
theorem BQ.ds (h : BQ w D P g0 t G A n c B m k p sv tv g5 g6 K e f S AB cb z) : DS w D P g0 t G A n c B m k z := h.mq.ds
theorem BQ.bx (h : BQ w D P g0 t G A n c B m k p sv tv g5 g6 K e f S AB cb z) : z.heap[g6]? = some (.cells #[.int .i64 K.sz, e, f] 31 (0, 0)) := h.mq.bx
theorem BQ.px (h : BQ w D P g0 t G A n c B m k p sv tv g5 g6 K e f S AB cb z) : z.heap[g5]? = some (.cells #[sv, tv, .int .i64 p.lv] 24 (0, 0)) := h.mq.px
theorem BQ.later (h : BQ w D P g0 t G A n c B m k p sv tv g5 g6 K e f S AB cb z) (hb : Below z.heap.size z z') : BQ w D P g0 t G A n c B m k p sv tv g5 g6 K e f S AB cb z' := ⟨h.mq.later hb, own_later h.bd hb⟩
theorem BQ.gave (h : BQ w D P g0 t G A n c B m k p sv tv g5 g6 K e f S AB cb z) (hg : Gave w.heap.size D t z z') : BQ w D P g0 t G A n c B m k p sv tv g5 g6 K e f S AB cb z' := ⟨h.mq.gave hg, own_keepL h.bd fun q hq => hg.2.block q (own_lt h.bd q hq) (by have := own_ge h.bd q hq; omega)⟩
theorem BQ.hold (h : BQ w D P g0 t G A n c B m k p sv tv g5 g6 K e f S AB cb z) : GHold z K (.agg #[.int .i64 K.sz, e, f]) := h.mq.hold
theorem BQ.phold (h : BQ w D P g0 t G A n c B m k p sv tv g5 g6 K e f S AB cb z) : PHold z p (.agg #[sv, tv, .int .i64 p.lv]) := h.mq.phold
theorem BQ.row (h : BQ w D P g0 t G A n c B m k p sv tv g5 g6 K e f S AB cb z) : IRow z AB S.length cb S := own_rowI12 h.bd
theorem BQ.set (h : BQ w D P g0 t G A n c B m k p sv tv g5 g6 K e f S AB cb z) {g : Nat} {cs0 : Array Value} {fr : Nat × Nat} (hb : z.heap[g]? = some (.cells cs0 31 fr)) (hD : D < g) (hne : g ≠ g0) (hn6 : g ≠ g6) (cells : Array Value) : BQ w D P g0 t G A n c B m k p sv tv g5 g6 K e f S AB cb (z.setRow g cells) :=
  ⟨h.mq.set hb hD hne hn6 cells, own_keepL h.bd fun b hb' => setRow_other _ _ _ _ (own_neqT12 h.bd hb (by decide) b hb')⟩
theorem BQ.turn (h : BQ w D P g0 t G A n c B m k p sv tv g5 g6 K e f S AB cb z) {K' : Gr} {e' f' : Value} (h1 : z.ownsRow (D + 1) 45 3 e' K'.es.length (rowC Edg.cells K'.es)) (h2 : z.ownsRow (D + 1) 3 1 f' K'.gn.length (intsV K'.gn)) : BQ w D P g0 t G A n c B m k p sv tv g5 g6 K' e' f' S AB cb (z.setRow g6 #[.int .i64 K'.sz, e', f']) :=
  ⟨h.mq.turn h1 h2, own_keepL h.bd fun b hb' => setRow_other _ _ _ _ (own_neqT12 h.bd h.mq.bx (by decide) b hb')⟩
theorem GivesI.of_own13 {w : World} {l : List Int} {e : Ending} {w' : World} (h : GivesI w l e w') : ∃ A2 c2, e = .returned (.slice A2 l.length c2) ∧ IRow w' A2 l.length c2 l ∧ Below w.heap.size w w' := by
  obtain ⟨A2, n2, c2, rfl, hr, hb⟩ := h
  have hn := hr.len
  subst hn
  exact ⟨A2, c2, rfl, hr, hb⟩
end
set_option maxRecDepth 100000 in
set_option maxHeartbeats 40000000 in
theorem cbnds_any (C : CapC) (TA : Option Addr) (tn tc : Nat) (t : List Int) (w : World) (ht : IRow w TA tn tc t) : Calls Try.prog 6 #[.slice TA tn tc] w (SaysL (.bool true) w) := by
  have HAW : Hid (∀ y, Calls Try.prog 8 #[] y (SaysL (.bool true) y)) := Lib.hid fun y => awake13_any C y
  have HCC0 := Lib.hid C
  have HT := Lib.hid ht; clear ht C
  go_enter Try.func6, Try.ntmps6
  go_wp2_with fail
  refine (light_any TA tn tc w).mono ?_
  rintro e w0 ⟨rfl, rfl⟩
  by_cases hn : tn ≤ 400
  · have gd0 : decide (tn ≤ 400) = true := decide_eq_true hn
    go_wp2_with fail
    clear gd0
    refine (roll_any w.heap.size TA tn tc t w HT.out (by omega) (Nat.le_refl _) (fun ad e h0 => Row.lt HT.out (by decide) ad e h0)).mono ?_
    rintro e w1 ⟨rfl, hd, hb⟩
    obtain ⟨D, hD⟩ : ∃ D, D = w.heap.size := ⟨_, rfl⟩
    have HD : Hid (∃ kd, DiceAt w1 w.heap.size D t kd) := Lib.hid ⟨0, by rw [hD]; exact hd⟩
    have HB := Lib.hid hb
    have HDD : Hid (w.heap.size = D) := Lib.hid hD.symm
    rw [← hD]
    clear hd hb hD HT
    go_wp2_with fail
    refine (ggraph_g w.heap.size D t w1 HD.out).mono ?_
    rintro e w2 ⟨v0, G, rfl, ho, hgd, hsz, hone, hg⟩
    have HDP : Hid (D < w1.heap.size) := Lib.hid (by obtain ⟨kd, hk⟩ := HD.out; exact hk.lt)
    have HGD := Lib.hid hgd; have hsz2 := hsz; have hs64 := hgd.hi
    obtain ⟨A, n, c, B, m, k, hve, -, -⟩ := ho.hold
    subst hve
    have hb2 := one_new w2 (.cells #[.int .i64 G.sz, .slice A n c, .slice B m k] 31)
    have HDS : Hid (DS w D w1.heap.size w2.heap.size t G A n c B m k (w2.alloc (.cells #[.int .i64 G.sz, .slice A n c, .slice B m k] 31))) := Lib.hid
      ⟨by obtain ⟨kd, hk⟩ := hg.1; exact ⟨kd, hk.later hb2⟩, ho.later hb2, (HB.out.trans (hg.2.below (by have := HDD.out; omega) HB.out.size)).trans (hb2.mono (Nat.le_trans HB.out.size hg.2.size)), heap_alloc_new _ _, by have := HDD.out; omega, HDP.out, by have := HDP.out; have := hg.2.size; omega⟩
    clear hgd hsz hone hg ho hb2 HD HB
    go_upto_region 5 with (refine wpList_store_new rfl 31 (.tmp 4) (.tmp 28) rfl 31 _ #[.int .i64 G.sz, .slice A n c, .slice B m k] rfl rfl gr_size rfl (by simp [Value.oneCell']) ?_)
    generalize w2.alloc (.cells #[.int .i64 G.sz, .slice A n c, .slice B m k] 31) = y0 at *
    generalize w2.heap.size = g0 at *
    generalize w1.heap.size = P at *
    try dsimp only [Act.put]
    clear HDP
    obtain ⟨sz, hszn⟩ : ∃ sz : Nat, G.sz = (sz : Int) := ⟨G.sz.toNat, by omega⟩
    have HSN := Lib.hid hszn
    have hsn64 : sz ≤ 64 := by omega
    have hsn2 : 2 ≤ sz := by omega
    clear hszn hsz2 hs64
    have HBX := Lib.hid HDS.out.box
    go_wp2_with (refine wpList_load_row rfl 31 (.tmp 4) rfl g0 rfl 31 #[.int .i64 G.sz, .slice A n c, .slice B m k] (0, 0) _ HBX.out Try.underlying31 rfl gr_size ?_)
    refine (dpolicy_g w.heap.size D t G _ y0 HDS.out.dice HDS.out.hold (by have := HSN.out; omega) (by have := HSN.out; omega)).mono ?_
    rintro e y1 ⟨pv, p, rfl, ho, hgp, hp7, hp4, hg⟩
    obtain ⟨sv, tv, rfl, ho1, ho2⟩ := ho
    obtain ⟨AS, cs, rfl, -⟩ := Row.of_own ho1
    obtain ⟨AT, ct, rfl, -⟩ := Row.of_own ho2
    have hlt0 : D + 1 ≤ y0.heap.size := HDS.out.lt
    have HSD := Lib.hid (own_base ho1 hlt0)
    have HTB := Lib.hid (own_base ho2 hlt0)
    have HGP := Lib.hid hgp; have HP7 := Lib.hid hp7
    replace HDS := Lib.hid (HDS.out.gave hg)
    clear hg ho1 ho2 hlt0 HBX hgp hp7
    go_upto_region 6 with (refine wpList_store_new rfl 24 (.tmp 5) (.tmp 31) rfl 24 _ #[.slice AS p.sd.length cs, .slice AT p.tb.length ct, .int .i64 p.lv] rfl rfl po_size rfl (by simp [Value.oneCell']) ?_)
    have hb := one_new y1 (.cells #[.slice AS p.sd.length cs, .slice AT p.tb.length ct, .int .i64 p.lv] 24)
    have HPX : Hid ((y1.alloc (.cells #[.slice AS p.sd.length cs, .slice AT p.tb.length ct, .int .i64 p.lv] 24)).heap[y1.heap.size]? = some (.cells #[.slice AS p.sd.length cs, .slice AT p.tb.length ct, .int .i64 p.lv] 24 (0, 0))) := Lib.hid (heap_alloc_new _ _)
    have HPL : Hid (D < y1.heap.size) := Lib.hid HDS.out.lt
    replace HDS := Lib.hid (HDS.out.later hb)
    replace HSD := Lib.hid (own_later HSD.out hb); replace HTB := Lib.hid (own_later HTB.out hb)
    clear hb
    generalize y1.alloc (.cells #[.slice AS p.sd.length cs, .slice AT p.tb.length ct, .int .i64 p.lv] 24) = y2 at *
    generalize y1.heap.size = g5 at *
    try dsimp only [Act.put]
    have hz0 : y2.cell? ⟨g0, 0, none⟩ = some (.int .i64 (sz : Int)) := by rw [← HSN.out]; exact (cell_of_row _ _ 0 _ _ _ HDS.out.box).trans rfl
    go_wp2_with fail
    clear hz0
    refine (some_g12 w.heap.size D t sz y2 HDS.out.dice (by omega)).mono ?_
    rintro e y3 ⟨v3, S, rfl, ho, hsl, hg⟩
    obtain ⟨AB, cb, rfl, -⟩ := Row.of_own ho
    have HBD := Lib.hid (own_base ho (show D + 1 ≤ y2.heap.size from HDS.out.lt))
    have hsl64 : S.length ≤ 64 := by omega
    replace HPX := Lib.hid ((hg.2.block _ (Array.getElem?_eq_some_iff.1 HPX.out).1 (by have := HPL.out; omega)).trans HPX.out)
    replace HSD := Lib.hid (own_keepL HSD.out fun q hq => hg.2.block q (own_lt HSD.out q hq) (by have := own_ge HSD.out q hq; omega))
    replace HTB := Lib.hid (own_keepL HTB.out fun q hq => hg.2.block q (own_lt HTB.out q hq) (by have := own_ge HTB.out q hq; omega))
    replace HDS := Lib.hid (HDS.out.gave hg)
    clear hg ho hsl
    have HBX := Lib.hid HDS.out.box
    go_wp2_with (refine wpList_load_row rfl 31 (.tmp 4) rfl g0 rfl 31 #[.int .i64 G.sz, .slice A n c, .slice B m k] (0, 0) _ HBX.out Try.underlying31 rfl gr_size ?_)
    refine (gcopy_any G _ y3 HDS.out.hold HGD.out.few.1 HGD.out.few.2).mono ?_
    rintro e y4 ⟨v4, rfl, ho, hb⟩
    obtain ⟨e4, f4, rfl, h41, h42⟩ := ho
    obtain ⟨A4, c4, rfl, -⟩ := Row.of_own h41
    obtain ⟨B4, k4, rfl, -⟩ := Row.of_own h42
    have H41 := Lib.hid (own_base h41 (show D + 1 ≤ y3.heap.size from HDS.out.lt))
    have H42 := Lib.hid (own_base h42 (show D + 1 ≤ y3.heap.size from HDS.out.lt))
    replace HPX := Lib.hid ((hb.block _ (Array.getElem?_eq_some_iff.1 HPX.out).1).trans HPX.out)
    replace HSD := Lib.hid (own_later HSD.out hb)
    replace HTB := Lib.hid (own_later HTB.out hb)
    replace HBD := Lib.hid (own_later HBD.out hb)
    replace HDS := Lib.hid (HDS.out.later hb)
    clear hb h41 h42 HBX
    go_upto_region 8 with (refine wpList_store_new rfl 31 (.tmp 7) (.tmp 37) rfl 31 _ #[.int .i64 G.sz, .slice A4 G.es.length c4, .slice B4 G.gn.length k4] rfl rfl gr_size rfl (by simp [Value.oneCell']) ?_)
    have hb := one_new y4 (.cells #[.int .i64 G.sz, .slice A4 G.es.length c4, .slice B4 G.gn.length k4] 31)
    have HS : Hid (BQ w D P g0 t G A n c B m k p (.slice AS p.sd.length cs) (.slice AT p.tb.length ct) g5 y4.heap.size G (.slice A4 G.es.length c4) (.slice B4 G.gn.length k4) S AB cb (y4.alloc (.cells #[.int .i64 G.sz, .slice A4 G.es.length c4, .slice B4 G.gn.length k4] 31))) := Lib.hid (by
      have hl := (Array.getElem?_eq_some_iff.1 HDS.out.box).1
      exact ⟨{ ds := HDS.out.later hb, px := (hb.block _ (Array.getElem?_eq_some_iff.1 HPX.out).1).trans HPX.out, sd := own_later HSD.out hb, tb := own_later HTB.out hb, pl := HPL.out, gl := HDS.out.lt, ne := by omega, bx := heap_alloc_new _ _, es := own_later H41.out hb, gn := own_later H42.out hb }, own_later HBD.out hb⟩)
    clear hb HDS HSD HTB HPX HPL HBD H41 H42
    generalize y4.alloc (.cells #[.int .i64 G.sz, .slice A4 G.es.length c4, .slice B4 G.gn.length k4] 31) = y5 at *
    generalize y4.heap.size = g6 at *
    try dsimp only [Act.put]
    go_wp2_with fail
    refine (next_g w.heap.size D t 5 y5 HS.out.ds.dice (by decide) (by decide)).mono ?_
    rintro e y6 ⟨x5, rfl, hx50, hx51, hg⟩
    obtain ⟨N5, rfl⟩ : ∃ N5 : Nat, x5 = (N5 : Int) := ⟨x5.toNat, by omega⟩
    replace HS := Lib.hid (HS.out.gave hg)
    clear hg hx50
    go_upto_block 0 with fail
    go_cut [] (fun wx => ∃ (K : Gr) (e f : Value), Hid (BQ w D P g0 t G A n c B m k p (.slice AS p.sd.length cs) (.slice AT p.tb.length ct) g5 g6 K e f S AB cb wx ∧ MB G S K))
    case first =>
      go_wp2_with fail
      go_loopw [8] (fun i wr => ∃ (q : Nat) (K : Gr) (e f : Value), q ≤ 4 ∧ i = .int .i64 q ∧ Hid (BQ w D P g0 t G A n c B m k p (.slice AS p.sd.length cs) (.slice AT p.tb.length ct) g5 g6 K e f S AB cb wr ∧ MB G S K)) (fun i _ => (intOf i).toNat)
      case atStart => exact ⟨N5, G, _, _, by omega, rfl, Lib.hid ⟨HS.out, MB.refl HGD.out⟩⟩
      case round =>
        clear HS hx51
        obtain ⟨q, K, e, f, hq4, rfl, HQ⟩ := hrel
        have HS := Lib.hid HQ.out.1; have HMB := Lib.hid HQ.out.2
        clear HQ
        by_cases hq : 0 < q
        · have b0 : decide ((q : Int) > 0) = true := decide_eq_true (by omega)
          have b0' : decide ((0 : Int) < (q : Int)) = true := b0
          have b0n : decide (0 < q) = true := decide_eq_true hq
          by_cases hS : 0 < S.length
          · have b1 : decide ((S.length : Int) > 0) = true := decide_eq_true (by omega)
            have b1' : decide ((0 : Int) < (S.length : Int)) = true := b1
            have b1n : decide (0 < S.length) = true := decide_eq_true hS
            obtain ⟨gs, cs9, hv9⟩ := own_someI HS.out.bd hS
            injection hv9 with i1 i2 i3
            subst i1 i3
            clear i2
            go_upto_region 11 with fail
            clear b0 b0' b0n b1 b1' b1n
            obtain ⟨n0, hn0⟩ : ∃ n0, wr.drew.heap.size = n0 := ⟨_, rfl⟩
            refine wp_region_flow (by kernel_rfl) (BN D n0) ?_
            replace HS := Lib.hid (HS.out.later (Below.refl _ _).drew)
            have HN : Hid (n0 ≤ wr.drew.heap.size) := Lib.hid (Nat.le_of_eq hn0.symm)
            have HGN : Hid (g0 < n0 ∧ D < g0) := Lib.hid (by rw [← hn0]; exact ⟨(Array.getElem?_eq_some_iff.1 HS.out.ds.box).1, HS.out.ds.dg⟩)
            have HG6 : Hid (g6 < n0 ∧ D < g6) := Lib.hid (by rw [← hn0]; exact ⟨(Array.getElem?_eq_some_iff.1 HS.out.bx).1, HS.out.mq.gl⟩)
            have HGS : Hid (∀ b, (Value.slice (some ⟨gs, 0, none⟩) S.length cb).ownBlock = some b → b < n0 ∧ b ≠ D) := Lib.hid fun b hb => ⟨by rw [← hn0]; exact own_lt HS.out.bd b hb, by have := own_ge HS.out.bd b hb; omega⟩
            clear hn0
            generalize wr.drew = z0 at *
            have HLA : Hid (K.es.length ≤ 100000) := Lib.hid HMB.out.1.few.1
            have HLB : Hid (K.gn.length ≤ 100000) := Lib.hid HMB.out.1.few.2
            have HHI : Hid (∀ j, j < S.length → hasI S (S.getD j 0) = true) := Lib.hid fun j hj => (hasI_iff _ _).2 (by rw [List.getD_eq_getElem?_getD, List.getElem?_eq_getElem hj]; exact List.getElem_mem hj)
            have hf6 : ∀ x, (loadVar 31 ⟨g6, 0, none⟩).run Try.prog (fut (BN D n0) z0 x) = .ok (.agg #[.int .i64 K.sz, e, f]) (fut (BN D n0) z0 x) := fun x => run_loadVar_row _ g6 31 31 #[.int .i64 K.sz, e, f] (0, 0) _ (((fut_ok (BN.refl D n0) z0 x).keep g6 HG6.out.1 (by have := HG6.out.2; omega)).trans HS.out.bx) Try.underlying31 rfl gr_size
            refine flow_reads (F := BN D n0) (fun _ => BN.refl _ _ _) (by kernel_rfl) [0, 1, 2, 3, 4, 8, 9, 10, 11, 15] (fuel := 16) (by kernel_rfl) ?_
            simp only [List.map_cons, List.map_nil, pick, List.getD_cons_zero, List.getD_cons_succ]
            repeat (first | (refine wpQuiet_load rfl 31 (.tmp 7) rfl ⟨g6, 0, none⟩ rfl (.agg #[.int .i64 K.sz, e, f]) (fun w' h => by obtain ⟨x, rfl⟩ := h; exact hf6 x) ?_; simp only [Act.put, List.setIfInBounds_toArray, List.set_cons_succ, List.set_cons_zero]) | go_big_quiet_step (fail))
            refine wpQuiet_nil ?_
            clear hf6
            refine flow_two (F := BN D n0) (fun _ _ _ => BN.trans) (fun _ => BN.refl _ _ _) 5 23 (by kernel_rfl) (by decide) (by decide) ?_ ?_ <;> simp only [pick, List.getD_cons_zero, List.getD_cons_succ]
            · skip
              go_wp2_with fail
              refine (next_g w.heap.size D t (S.length : Int) z0 HS.out.ds.dice (by omega) (by omega)).mono ?_
              rintro e z1 ⟨v0, rfl, hv00, hv01, hg⟩
              have HF : Hid (BN D n0 z0 z1) := Lib.hid (BN.but hg.2 HN.out)
              replace HN := Lib.hid (Nat.le_trans HN.out hg.2.size)
              replace HS := Lib.hid (HS.out.gave hg)
              clear hg
              obtain ⟨qv0, rfl⟩ : ∃ qv0 : Nat, v0 = (qv0 : Int) := ⟨v0.toNat, by omega⟩
              have hqv0 : qv0 < S.length := by omega
              go_wp2_with fail
              refine pieceEnd_normal ⟨HF.out, ?_⟩
              clear HF
              have hfb : ∀ x, (fut (BN D n0) z1 x).cell? ⟨gs, qv0, none⟩ = some (.int .i64 (S.getD qv0 0)) := fun x => (own_i (own_keepL HS.out.bd fun b hb => (fut_ok (BN.refl D n0) z1 x).keep b (HGS.out b hb).1 (HGS.out b hb).2) hqv0).1
              have HHa0 := Lib.hid (HHI.out qv0 hqv0)
              generalize S.getD qv0 0 = a0 at *
              refine flow_reads (F := BN D n0) (fun _ => BN.refl _ _ _) (by kernel_rfl) [6, 7] (fuel := 13) (by kernel_rfl) ?_
              simp only [List.map_cons, List.map_nil, pick, List.getD_cons_zero, List.getD_cons_succ]
              repeat (go_big_quiet_step (fail))
              refine wpQuiet_nil ?_
              clear hfb
              refine flow_two (F := BN D n0) (fun _ _ _ => BN.trans) (fun _ => BN.refl _ _ _) 12 23 (by kernel_rfl) (by decide) (by decide) ?_ ?_ <;> simp only [pick, List.getD_cons_zero, List.getD_cons_succ]
              · skip
                go_wp2_with fail
                refine (next_g w.heap.size D t (S.length : Int) z1 HS.out.ds.dice (by omega) (by omega)).mono ?_
                rintro e z2 ⟨v1, rfl, hv10, hv11, hg⟩
                have HF : Hid (BN D n0 z1 z2) := Lib.hid (BN.but hg.2 HN.out)
                replace HN := Lib.hid (Nat.le_trans HN.out hg.2.size)
                replace HS := Lib.hid (HS.out.gave hg)
                clear hg
                obtain ⟨qv1, rfl⟩ : ∃ qv1 : Nat, v1 = (qv1 : Int) := ⟨v1.toNat, by omega⟩
                have hqv1 : qv1 < S.length := by omega
                go_wp2_with fail
                refine pieceEnd_normal ⟨HF.out, ?_⟩
                clear HF
                have hfb : ∀ x, (fut (BN D n0) z2 x).cell? ⟨gs, qv1, none⟩ = some (.int .i64 (S.getD qv1 0)) := fun x => (own_i (own_keepL HS.out.bd fun b hb => (fut_ok (BN.refl D n0) z2 x).keep b (HGS.out b hb).1 (HGS.out b hb).2) hqv1).1
                have HHa1 := Lib.hid (HHI.out qv1 hqv1)
                generalize S.getD qv1 0 = a1 at *
                refine flow_reads (F := BN D n0) (fun _ => BN.refl _ _ _) (by kernel_rfl) [13, 14] (fuel := 10) (by kernel_rfl) ?_
                simp only [List.map_cons, List.map_nil, pick, List.getD_cons_zero, List.getD_cons_succ]
                repeat (go_big_quiet_step (fail))
                refine wpQuiet_nil ?_
                clear hfb
                refine flow_two (F := BN D n0) (fun _ _ _ => BN.trans) (fun _ => BN.refl _ _ _) 16 23 (by kernel_rfl) (by decide) (by decide) ?_ ?_ <;> simp only [pick, List.getD_cons_zero, List.getD_cons_succ]
                · skip
                  go_wp2_with fail
                  refine (next_g w.heap.size D t 3 z2 HS.out.ds.dice (by omega) (by omega)).mono ?_
                  rintro e z3 ⟨v2, rfl, hv20, hv21, hg⟩
                  have HF : Hid (BN D n0 z2 z3) := Lib.hid (BN.but hg.2 HN.out)
                  replace HN := Lib.hid (Nat.le_trans HN.out hg.2.size)
                  replace HS := Lib.hid (HS.out.gave hg)
                  clear hg
                  go_wp2_with fail
                  refine pieceEnd_normal ⟨HF.out, ?_⟩
                  clear HF
                  have m0 : RowKit.wrap64 (1 + v2) = 1 + v2 := IntWalk.wrap64_in _ (by omega)
                  have m1 : IntKind.i64.wrap (1 + v2) = 1 + v2 := by rw [IntKind.wrap_i64]; omega
                  refine flow_reads (F := BN D n0) (fun _ => BN.refl _ _ _) (by kernel_rfl) [17] (fuel := 8) (by kernel_rfl) ?_
                  simp only [List.map_cons, List.map_nil, pick, List.getD_cons_zero, List.getD_cons_succ]
                  repeat (go_big_quiet_step (fail))
                  refine wpQuiet_nil ?_
                  clear m0 m1
                  refine flow_val (F := BN D n0) (fun _ => BN.refl _ _ _) (by kernel_rfl) 18 (by kernel_rfl) ?_
                  simp only [pick, List.getD_cons_zero, List.getD_cons_succ]
                  repeat (go_big_quiet_step (fail))
                  refine wpQuiet_nil ?_
                  refine flow_two (F := BN D n0) (fun _ _ _ => BN.trans) (fun _ => BN.refl _ _ _) 19 23 (by kernel_rfl) (by decide) (by decide) ?_ ?_ <;> simp only [pick, List.getD_cons_zero, List.getD_cons_succ]
                  · skip
                    have HWC : Hid (Calls Try.prog 18 #[.agg #[.int .i64 K.sz, e, f], .agg #[.int .i64 a0, .int .i64 a1, .int .i64 (1 + v2)]] z3 (GivesGOE z3 (withG K ⟨a0, a1, 1 + v2⟩))) := Lib.hid (gwith_any K _ ⟨a0, a1, 1 + v2⟩ z3 HS.out.hold HLA.out HLB.out)
                    have HRW : Hid ((withG K ⟨a0, a1, 1 + v2⟩).2 = 0 → MB G S (withG K ⟨a0, a1, 1 + v2⟩).1) := Lib.hid fun h => HMB.out.edge HHa0.out h
                    generalize withG K ⟨a0, a1, 1 + v2⟩ = RW at *
                    go_wp2_with fail
                    refine HWC.out.mono ?_
                    clear HWC
                    rintro e z4 ⟨vv, rfl, ⟨e5, w5, rfl, ho1, ho2⟩, hb⟩
                    have HF : Hid (BN D n0 z3 z4) := Lib.hid (BN.later hb HN.out)
                    obtain ⟨A5, c5, rfl, -⟩ := Row.of_own ho1
                    obtain ⟨B5, k5, rfl, -⟩ := Row.of_own ho2
                    have HO1 := Lib.hid (own_base ho1 (show D + 1 ≤ z3.heap.size from HS.out.ds.lt))
                    have HO2 := Lib.hid (own_base ho2 (show D + 1 ≤ z3.heap.size from HS.out.ds.lt))
                    replace HN := Lib.hid (Nat.le_trans HN.out hb.size)
                    replace HS := Lib.hid (HS.out.later hb)
                    clear hb ho1 ho2
                    go_wp2_with fail
                    refine pieceEnd_normal ⟨HF.out, ?_⟩
                    clear HF
                    refine flow_reads (F := BN D n0) (fun _ => BN.refl _ _ _) (by kernel_rfl) [20, 21, 22] (fuel := 3) (by kernel_rfl) ?_
                    simp only [List.map_cons, List.map_nil, pick, List.getD_cons_zero, List.getD_cons_succ]
                    repeat (go_big_quiet_step (fail))
                    refine wpQuiet_nil ?_
                    refine flow_one (F := BN D n0) (fun _ _ _ => BN.trans) (fun _ => BN.refl _ _ _) 23 (by kernel_rfl) (by decide) ?_
                    simp only [pick, List.getD_cons_zero, List.getD_cons_succ]
                    go_wp2_with fail
                    have hb := one_new z4 (.cells #[.int .i64 0, .slice none 0 0, .slice none 0 0] 31)
                    refine pieceEnd_normal ⟨BN.later hb HN.out, ?_⟩
                    have HA : Hid ((z4.alloc (.cells #[.int .i64 0, .slice none 0 0, .slice none 0 0] 31)).heap[z4.heap.size]? = some (.cells #[.int .i64 0, .slice none 0 0, .slice none 0 0] 31 (0, 0))) := Lib.hid (heap_alloc_new _ _)
                    have hg7 : n0 ≤ z4.heap.size := HN.out
                    replace HS := Lib.hid (HS.out.later hb)
                    replace HN := Lib.hid (Nat.le_trans HN.out hb.size)
                    clear hb
                    replace HO1 := Lib.hid (own_later HO1.out (one_new z4 (.cells #[.int .i64 0, .slice none 0 0, .slice none 0 0] 31)))
                    replace HO2 := Lib.hid (own_later HO2.out (one_new z4 (.cells #[.int .i64 0, .slice none 0 0, .slice none 0 0] 31)))
                    generalize z4.alloc (.cells #[.int .i64 0, .slice none 0 0, .slice none 0 0] 31) = z5 at *
                    generalize z4.heap.size = g7 at *
                    refine flow_one (F := BN D n0) (fun _ _ _ => BN.trans) (fun _ => BN.refl _ _ _) 24 (by kernel_rfl) (by decide) ?_
                    simp only [pick, List.getD_cons_zero, List.getD_cons_succ]
                    go_wp2_with (refine wpList_store_row rfl 31 (.tmp 9) (.tmp 70) rfl g7 #[.int .i64 RW.1.sz, .slice A5 RW.1.es.length c5, .slice B5 RW.1.gn.length k5] rfl rfl 31 _ HA.out gr_size rfl (by simp [Value.oneCell']) ?_)
                    refine pieceEnd_normal ⟨BN.row _ _ hg7, ?_⟩
                    have HA5 := Lib.hid (setRow_heap z5 g7 _ #[.int .i64 RW.1.sz, .slice A5 RW.1.es.length c5, .slice B5 RW.1.gn.length k5] _ _ HA.out)
                    replace HO1 := Lib.hid (own_keepL HO1.out fun q hq => setRow_other z5 g7 q #[.int .i64 RW.1.sz, .slice A5 RW.1.es.length c5, .slice B5 RW.1.gn.length k5] (own_neqT12 HO1.out HA.out (by decide) q hq))
                    replace HO2 := Lib.hid (own_keepL HO2.out fun q hq => setRow_other z5 g7 q #[.int .i64 RW.1.sz, .slice A5 RW.1.es.length c5, .slice B5 RW.1.gn.length k5] (own_neqT12 HO2.out HA.out (by decide) q hq))
                    replace HS := Lib.hid (HS.out.set HA.out (by have := HGN.out; omega) (by have := HGN.out; omega) (by have := HG6.out; omega) #[.int .i64 RW.1.sz, .slice A5 RW.1.es.length c5, .slice B5 RW.1.gn.length k5])
                    clear HA HN
                    generalize z5.setRow g7 #[.int .i64 RW.1.sz, .slice A5 RW.1.es.length c5, .slice B5 RW.1.gn.length k5] = zz at *
                    refine flow_reads (F := BN D n0) (fun _ => BN.refl _ _ _) (by kernel_rfl) [25] (fuel := 0) (by kernel_rfl) ?_
                    simp only [List.map_cons, List.map_nil, pick, List.getD_cons_zero, List.getD_cons_succ]
                    repeat (go_big_quiet_step (fail))
                    refine wpQuiet_nil ?_
                    refine flow_done (by kernel_rfl) ?_
                    have HX6 := Lib.hid HS.out.bx
                    by_cases her : RW.2 = 0
                    · have b0 : (RW.2 == 0) = true := by rw [her]; rfl
                      have b0' : decide (RW.2 = 0) = true := decide_eq_true her
                      have HMB2 := Lib.hid (HRW.out her)
                      have HTn := Lib.hid (HS.out.turn HO1.out HO2.out)
                      clear her HS HO1 HO2 HRW
                      go_wp2_with (first | (refine wpList_load_row rfl 31 (.tmp 9) rfl g7 rfl 31 #[.int .i64 RW.1.sz, .slice A5 RW.1.es.length c5, .slice B5 RW.1.gn.length k5] (0, 0) _ HA5.out Try.underlying31 rfl gr_size ?_) | (refine wpList_store_row rfl 31 (.tmp 7) (.tmp 74) rfl g6 #[.int .i64 RW.1.sz, .slice A5 RW.1.es.length c5, .slice B5 RW.1.gn.length k5] rfl rfl 31 _ HX6.out gr_size rfl (by simp [Value.oneCell']) ?_))
                      exact ⟨⟨q - 1, RW.1, _, _, by omega, by first | go_num | (refine congrArg _ ?_; omega), Lib.hid ⟨HTn.out, HMB2.out⟩⟩, by simp [intOf]; omega⟩
                    · have b0 : (RW.2 == 0) = false := by rw [beq_eq_false_iff_ne]; exact her
                      have b0' : decide (RW.2 = 0) = false := decide_eq_false her
                      clear her HO1 HO2 HRW
                      go_wp2_with fail
                      exact ⟨⟨q - 1, K, _, _, by omega, by first | go_num | (refine congrArg _ ?_; omega), Lib.hid ⟨HS.out, HMB.out⟩⟩, by simp [intOf]; omega⟩
                  · skip
                    go_wp2_with fail
                    have hb := one_new z3 (.cells #[.int .i64 0, .slice none 0 0, .slice none 0 0] 31)
                    refine pieceEnd_normal ⟨BN.later hb HN.out, ?_⟩
                    have HA : Hid ((z3.alloc (.cells #[.int .i64 0, .slice none 0 0, .slice none 0 0] 31)).heap[z3.heap.size]? = some (.cells #[.int .i64 0, .slice none 0 0, .slice none 0 0] 31 (0, 0))) := Lib.hid (heap_alloc_new _ _)
                    have hg7 : n0 ≤ z3.heap.size := HN.out
                    replace HS := Lib.hid (HS.out.later hb)
                    replace HN := Lib.hid (Nat.le_trans HN.out hb.size)
                    clear hb
                    generalize z3.alloc (.cells #[.int .i64 0, .slice none 0 0, .slice none 0 0] 31) = z6 at *
                    generalize z3.heap.size = g7 at *
                    refine flow_one (F := BN D n0) (fun _ _ _ => BN.trans) (fun _ => BN.refl _ _ _) 19 (by kernel_rfl) (by decide) ?_
                    simp only [pick, List.getD_cons_zero, List.getD_cons_succ]
                    have HWC : Hid (Calls Try.prog 18 #[.agg #[.int .i64 K.sz, e, f], .agg #[.int .i64 a0, .int .i64 a1, .int .i64 (1 + v2)]] z6 (GivesGOE z6 (withG K ⟨a0, a1, 1 + v2⟩))) := Lib.hid (gwith_any K _ ⟨a0, a1, 1 + v2⟩ z6 HS.out.hold HLA.out HLB.out)
                    have HRW : Hid ((withG K ⟨a0, a1, 1 + v2⟩).2 = 0 → MB G S (withG K ⟨a0, a1, 1 + v2⟩).1) := Lib.hid fun h => HMB.out.edge HHa0.out h
                    generalize withG K ⟨a0, a1, 1 + v2⟩ = RW at *
                    go_wp2_with fail
                    refine HWC.out.mono ?_
                    clear HWC
                    rintro e z7 ⟨vv, rfl, ⟨e5, w5, rfl, ho1, ho2⟩, hb⟩
                    have HF : Hid (BN D n0 z6 z7) := Lib.hid (BN.later hb HN.out)
                    obtain ⟨A5, c5, rfl, -⟩ := Row.of_own ho1
                    obtain ⟨B5, k5, rfl, -⟩ := Row.of_own ho2
                    have HO1 := Lib.hid (own_base ho1 (show D + 1 ≤ z6.heap.size from HS.out.ds.lt))
                    have HO2 := Lib.hid (own_base ho2 (show D + 1 ≤ z6.heap.size from HS.out.ds.lt))
                    replace HN := Lib.hid (Nat.le_trans HN.out hb.size)
                    replace HA : Hid (z7.heap[g7]? = some (.cells #[.int .i64 0, .slice none 0 0, .slice none 0 0] 31 (0, 0))) := Lib.hid ((hb.block g7 (Array.getElem?_eq_some_iff.1 HA.out).1).trans HA.out)
                    replace HS := Lib.hid (HS.out.later hb)
                    clear hb ho1 ho2
                    go_wp2_with fail
                    refine pieceEnd_normal ⟨HF.out, ?_⟩
                    clear HF
                    refine flow_reads (F := BN D n0) (fun _ => BN.refl _ _ _) (by kernel_rfl) [20, 21, 22] (fuel := 2) (by kernel_rfl) ?_
                    simp only [List.map_cons, List.map_nil, pick, List.getD_cons_zero, List.getD_cons_succ]
                    repeat (go_big_quiet_step (fail))
                    refine wpQuiet_nil ?_
                    refine flow_one (F := BN D n0) (fun _ _ _ => BN.trans) (fun _ => BN.refl _ _ _) 24 (by kernel_rfl) (by decide) ?_
                    simp only [pick, List.getD_cons_zero, List.getD_cons_succ]
                    go_wp2_with (refine wpList_store_row rfl 31 (.tmp 9) (.tmp 70) rfl g7 #[.int .i64 RW.1.sz, .slice A5 RW.1.es.length c5, .slice B5 RW.1.gn.length k5] rfl rfl 31 _ HA.out gr_size rfl (by simp [Value.oneCell']) ?_)
                    refine pieceEnd_normal ⟨BN.row _ _ hg7, ?_⟩
                    have HA5 := Lib.hid (setRow_heap z7 g7 _ #[.int .i64 RW.1.sz, .slice A5 RW.1.es.length c5, .slice B5 RW.1.gn.length k5] _ _ HA.out)
                    replace HO1 := Lib.hid (own_keepL HO1.out fun q hq => setRow_other z7 g7 q #[.int .i64 RW.1.sz, .slice A5 RW.1.es.length c5, .slice B5 RW.1.gn.length k5] (own_neqT12 HO1.out HA.out (by decide) q hq))
                    replace HO2 := Lib.hid (own_keepL HO2.out fun q hq => setRow_other z7 g7 q #[.int .i64 RW.1.sz, .slice A5 RW.1.es.length c5, .slice B5 RW.1.gn.length k5] (own_neqT12 HO2.out HA.out (by decide) q hq))
                    replace HS := Lib.hid (HS.out.set HA.out (by have := HGN.out; omega) (by have := HGN.out; omega) (by have := HG6.out; omega) #[.int .i64 RW.1.sz, .slice A5 RW.1.es.length c5, .slice B5 RW.1.gn.length k5])
                    clear HA HN
                    generalize z7.setRow g7 #[.int .i64 RW.1.sz, .slice A5 RW.1.es.length c5, .slice B5 RW.1.gn.length k5] = zz at *
                    refine flow_reads (F := BN D n0) (fun _ => BN.refl _ _ _) (by kernel_rfl) [25] (fuel := 0) (by kernel_rfl) ?_
                    simp only [List.map_cons, List.map_nil, pick, List.getD_cons_zero, List.getD_cons_succ]
                    repeat (go_big_quiet_step (fail))
                    refine wpQuiet_nil ?_
                    refine flow_done (by kernel_rfl) ?_
                    have HX6 := Lib.hid HS.out.bx
                    by_cases her : RW.2 = 0
                    · have b0 : (RW.2 == 0) = true := by rw [her]; rfl
                      have b0' : decide (RW.2 = 0) = true := decide_eq_true her
                      have HMB2 := Lib.hid (HRW.out her)
                      have HTn := Lib.hid (HS.out.turn HO1.out HO2.out)
                      clear her HS HO1 HO2 HRW
                      go_wp2_with (first | (refine wpList_load_row rfl 31 (.tmp 9) rfl g7 rfl 31 #[.int .i64 RW.1.sz, .slice A5 RW.1.es.length c5, .slice B5 RW.1.gn.length k5] (0, 0) _ HA5.out Try.underlying31 rfl gr_size ?_) | (refine wpList_store_row rfl 31 (.tmp 7) (.tmp 74) rfl g6 #[.int .i64 RW.1.sz, .slice A5 RW.1.es.length c5, .slice B5 RW.1.gn.length k5] rfl rfl 31 _ HX6.out gr_size rfl (by simp [Value.oneCell']) ?_))
                      exact ⟨⟨q - 1, RW.1, _, _, by omega, by first | go_num | (refine congrArg _ ?_; omega), Lib.hid ⟨HTn.out, HMB2.out⟩⟩, by simp [intOf]; omega⟩
                    · have b0 : (RW.2 == 0) = false := by rw [beq_eq_false_iff_ne]; exact her
                      have b0' : decide (RW.2 = 0) = false := decide_eq_false her
                      clear her HO1 HO2 HRW
                      go_wp2_with fail
                      exact ⟨⟨q - 1, K, _, _, by omega, by first | go_num | (refine congrArg _ ?_; omega), Lib.hid ⟨HS.out, HMB.out⟩⟩, by simp [intOf]; omega⟩
                · skip
                  go_wp2_with fail
                  have hb := one_new z2 (.cells #[.int .i64 0, .slice none 0 0, .slice none 0 0] 31)
                  refine pieceEnd_normal ⟨BN.later hb HN.out, ?_⟩
                  have HA : Hid ((z2.alloc (.cells #[.int .i64 0, .slice none 0 0, .slice none 0 0] 31)).heap[z2.heap.size]? = some (.cells #[.int .i64 0, .slice none 0 0, .slice none 0 0] 31 (0, 0))) := Lib.hid (heap_alloc_new _ _)
                  have hg7 : n0 ≤ z2.heap.size := HN.out
                  replace HS := Lib.hid (HS.out.later hb)
                  replace HN := Lib.hid (Nat.le_trans HN.out hb.size)
                  clear hb
                  generalize z2.alloc (.cells #[.int .i64 0, .slice none 0 0, .slice none 0 0] 31) = z8 at *
                  generalize z2.heap.size = g7 at *
                  refine flow_one (F := BN D n0) (fun _ _ _ => BN.trans) (fun _ => BN.refl _ _ _) 16 (by kernel_rfl) (by decide) ?_
                  simp only [pick, List.getD_cons_zero, List.getD_cons_succ]
                  go_wp2_with fail
                  refine (next_g w.heap.size D t 3 z8 HS.out.ds.dice (by omega) (by omega)).mono ?_
                  rintro e z9 ⟨v2, rfl, hv20, hv21, hg⟩
                  have HF : Hid (BN D n0 z8 z9) := Lib.hid (BN.but hg.2 HN.out)
                  replace HN := Lib.hid (Nat.le_trans HN.out hg.2.size)
                  replace HA : Hid (z9.heap[g7]? = some (.cells #[.int .i64 0, .slice none 0 0, .slice none 0 0] 31 (0, 0))) := Lib.hid ((hg.2.block g7 (Array.getElem?_eq_some_iff.1 HA.out).1 (by have := HGN.out; omega)).trans HA.out)
                  replace HS := Lib.hid (HS.out.gave hg)
                  clear hg
                  go_wp2_with fail
                  refine pieceEnd_normal ⟨HF.out, ?_⟩
                  clear HF
                  have m0 : RowKit.wrap64 (1 + v2) = 1 + v2 := IntWalk.wrap64_in _ (by omega)
                  have m1 : IntKind.i64.wrap (1 + v2) = 1 + v2 := by rw [IntKind.wrap_i64]; omega
                  refine flow_reads (F := BN D n0) (fun _ => BN.refl _ _ _) (by kernel_rfl) [17] (fuel := 7) (by kernel_rfl) ?_
                  simp only [List.map_cons, List.map_nil, pick, List.getD_cons_zero, List.getD_cons_succ]
                  repeat (go_big_quiet_step (fail))
                  refine wpQuiet_nil ?_
                  clear m0 m1
                  refine flow_val (F := BN D n0) (fun _ => BN.refl _ _ _) (by kernel_rfl) 18 (by kernel_rfl) ?_
                  simp only [pick, List.getD_cons_zero, List.getD_cons_succ]
                  repeat (go_big_quiet_step (fail))
                  refine wpQuiet_nil ?_
                  refine flow_one (F := BN D n0) (fun _ _ _ => BN.trans) (fun _ => BN.refl _ _ _) 19 (by kernel_rfl) (by decide) ?_
                  simp only [pick, List.getD_cons_zero, List.getD_cons_succ]
                  have HWC : Hid (Calls Try.prog 18 #[.agg #[.int .i64 K.sz, e, f], .agg #[.int .i64 a0, .int .i64 a1, .int .i64 (1 + v2)]] z9 (GivesGOE z9 (withG K ⟨a0, a1, 1 + v2⟩))) := Lib.hid (gwith_any K _ ⟨a0, a1, 1 + v2⟩ z9 HS.out.hold HLA.out HLB.out)
                  have HRW : Hid ((withG K ⟨a0, a1, 1 + v2⟩).2 = 0 → MB G S (withG K ⟨a0, a1, 1 + v2⟩).1) := Lib.hid fun h => HMB.out.edge HHa0.out h
                  generalize withG K ⟨a0, a1, 1 + v2⟩ = RW at *
                  go_wp2_with fail
                  refine HWC.out.mono ?_
                  clear HWC
                  rintro e z10 ⟨vv, rfl, ⟨e5, w5, rfl, ho1, ho2⟩, hb⟩
                  have HF : Hid (BN D n0 z9 z10) := Lib.hid (BN.later hb HN.out)
                  obtain ⟨A5, c5, rfl, -⟩ := Row.of_own ho1
                  obtain ⟨B5, k5, rfl, -⟩ := Row.of_own ho2
                  have HO1 := Lib.hid (own_base ho1 (show D + 1 ≤ z9.heap.size from HS.out.ds.lt))
                  have HO2 := Lib.hid (own_base ho2 (show D + 1 ≤ z9.heap.size from HS.out.ds.lt))
                  replace HN := Lib.hid (Nat.le_trans HN.out hb.size)
                  replace HA : Hid (z10.heap[g7]? = some (.cells #[.int .i64 0, .slice none 0 0, .slice none 0 0] 31 (0, 0))) := Lib.hid ((hb.block g7 (Array.getElem?_eq_some_iff.1 HA.out).1).trans HA.out)
                  replace HS := Lib.hid (HS.out.later hb)
                  clear hb ho1 ho2
                  go_wp2_with fail
                  refine pieceEnd_normal ⟨HF.out, ?_⟩
                  clear HF
                  refine flow_reads (F := BN D n0) (fun _ => BN.refl _ _ _) (by kernel_rfl) [20, 21, 22] (fuel := 2) (by kernel_rfl) ?_
                  simp only [List.map_cons, List.map_nil, pick, List.getD_cons_zero, List.getD_cons_succ]
                  repeat (go_big_quiet_step (fail))
                  refine wpQuiet_nil ?_
                  refine flow_one (F := BN D n0) (fun _ _ _ => BN.trans) (fun _ => BN.refl _ _ _) 24 (by kernel_rfl) (by decide) ?_
                  simp only [pick, List.getD_cons_zero, List.getD_cons_succ]
                  go_wp2_with (refine wpList_store_row rfl 31 (.tmp 9) (.tmp 70) rfl g7 #[.int .i64 RW.1.sz, .slice A5 RW.1.es.length c5, .slice B5 RW.1.gn.length k5] rfl rfl 31 _ HA.out gr_size rfl (by simp [Value.oneCell']) ?_)
                  refine pieceEnd_normal ⟨BN.row _ _ hg7, ?_⟩
                  have HA5 := Lib.hid (setRow_heap z10 g7 _ #[.int .i64 RW.1.sz, .slice A5 RW.1.es.length c5, .slice B5 RW.1.gn.length k5] _ _ HA.out)
                  replace HO1 := Lib.hid (own_keepL HO1.out fun q hq => setRow_other z10 g7 q #[.int .i64 RW.1.sz, .slice A5 RW.1.es.length c5, .slice B5 RW.1.gn.length k5] (own_neqT12 HO1.out HA.out (by decide) q hq))
                  replace HO2 := Lib.hid (own_keepL HO2.out fun q hq => setRow_other z10 g7 q #[.int .i64 RW.1.sz, .slice A5 RW.1.es.length c5, .slice B5 RW.1.gn.length k5] (own_neqT12 HO2.out HA.out (by decide) q hq))
                  replace HS := Lib.hid (HS.out.set HA.out (by have := HGN.out; omega) (by have := HGN.out; omega) (by have := HG6.out; omega) #[.int .i64 RW.1.sz, .slice A5 RW.1.es.length c5, .slice B5 RW.1.gn.length k5])
                  clear HA HN
                  generalize z10.setRow g7 #[.int .i64 RW.1.sz, .slice A5 RW.1.es.length c5, .slice B5 RW.1.gn.length k5] = zz at *
                  refine flow_reads (F := BN D n0) (fun _ => BN.refl _ _ _) (by kernel_rfl) [25] (fuel := 0) (by kernel_rfl) ?_
                  simp only [List.map_cons, List.map_nil, pick, List.getD_cons_zero, List.getD_cons_succ]
                  repeat (go_big_quiet_step (fail))
                  refine wpQuiet_nil ?_
                  refine flow_done (by kernel_rfl) ?_
                  have HX6 := Lib.hid HS.out.bx
                  by_cases her : RW.2 = 0
                  · have b0 : (RW.2 == 0) = true := by rw [her]; rfl
                    have b0' : decide (RW.2 = 0) = true := decide_eq_true her
                    have HMB2 := Lib.hid (HRW.out her)
                    have HTn := Lib.hid (HS.out.turn HO1.out HO2.out)
                    clear her HS HO1 HO2 HRW
                    go_wp2_with (first | (refine wpList_load_row rfl 31 (.tmp 9) rfl g7 rfl 31 #[.int .i64 RW.1.sz, .slice A5 RW.1.es.length c5, .slice B5 RW.1.gn.length k5] (0, 0) _ HA5.out Try.underlying31 rfl gr_size ?_) | (refine wpList_store_row rfl 31 (.tmp 7) (.tmp 74) rfl g6 #[.int .i64 RW.1.sz, .slice A5 RW.1.es.length c5, .slice B5 RW.1.gn.length k5] rfl rfl 31 _ HX6.out gr_size rfl (by simp [Value.oneCell']) ?_))
                    exact ⟨⟨q - 1, RW.1, _, _, by omega, by first | go_num | (refine congrArg _ ?_; omega), Lib.hid ⟨HTn.out, HMB2.out⟩⟩, by simp [intOf]; omega⟩
                  · have b0 : (RW.2 == 0) = false := by rw [beq_eq_false_iff_ne]; exact her
                    have b0' : decide (RW.2 = 0) = false := decide_eq_false her
                    clear her HO1 HO2 HRW
                    go_wp2_with fail
                    exact ⟨⟨q - 1, K, _, _, by omega, by first | go_num | (refine congrArg _ ?_; omega), Lib.hid ⟨HS.out, HMB.out⟩⟩, by simp [intOf]; omega⟩
              · skip
                go_wp2_with fail
                have hb := one_new z1 (.cells #[.int .i64 0, .slice none 0 0, .slice none 0 0] 31)
                refine pieceEnd_normal ⟨BN.later hb HN.out, ?_⟩
                have HA : Hid ((z1.alloc (.cells #[.int .i64 0, .slice none 0 0, .slice none 0 0] 31)).heap[z1.heap.size]? = some (.cells #[.int .i64 0, .slice none 0 0, .slice none 0 0] 31 (0, 0))) := Lib.hid (heap_alloc_new _ _)
                have hg7 : n0 ≤ z1.heap.size := HN.out
                replace HS := Lib.hid (HS.out.later hb)
                replace HN := Lib.hid (Nat.le_trans HN.out hb.size)
                clear hb
                generalize z1.alloc (.cells #[.int .i64 0, .slice none 0 0, .slice none 0 0] 31) = z11 at *
                generalize z1.heap.size = g7 at *
                refine flow_one (F := BN D n0) (fun _ _ _ => BN.trans) (fun _ => BN.refl _ _ _) 12 (by kernel_rfl) (by decide) ?_
                simp only [pick, List.getD_cons_zero, List.getD_cons_succ]
                go_wp2_with fail
                refine (next_g w.heap.size D t (S.length : Int) z11 HS.out.ds.dice (by omega) (by omega)).mono ?_
                rintro e z12 ⟨v1, rfl, hv10, hv11, hg⟩
                have HF : Hid (BN D n0 z11 z12) := Lib.hid (BN.but hg.2 HN.out)
                replace HN := Lib.hid (Nat.le_trans HN.out hg.2.size)
                replace HA : Hid (z12.heap[g7]? = some (.cells #[.int .i64 0, .slice none 0 0, .slice none 0 0] 31 (0, 0))) := Lib.hid ((hg.2.block g7 (Array.getElem?_eq_some_iff.1 HA.out).1 (by have := HGN.out; omega)).trans HA.out)
                replace HS := Lib.hid (HS.out.gave hg)
                clear hg
                obtain ⟨qv1, rfl⟩ : ∃ qv1 : Nat, v1 = (qv1 : Int) := ⟨v1.toNat, by omega⟩
                have hqv1 : qv1 < S.length := by omega
                go_wp2_with fail
                refine pieceEnd_normal ⟨HF.out, ?_⟩
                clear HF
                have hfb : ∀ x, (fut (BN D n0) z12 x).cell? ⟨gs, qv1, none⟩ = some (.int .i64 (S.getD qv1 0)) := fun x => (own_i (own_keepL HS.out.bd fun b hb => (fut_ok (BN.refl D n0) z12 x).keep b (HGS.out b hb).1 (HGS.out b hb).2) hqv1).1
                have HHa1 := Lib.hid (HHI.out qv1 hqv1)
                generalize S.getD qv1 0 = a1 at *
                refine flow_reads (F := BN D n0) (fun _ => BN.refl _ _ _) (by kernel_rfl) [13, 14] (fuel := 9) (by kernel_rfl) ?_
                simp only [List.map_cons, List.map_nil, pick, List.getD_cons_zero, List.getD_cons_succ]
                repeat (go_big_quiet_step (fail))
                refine wpQuiet_nil ?_
                clear hfb
                refine flow_one (F := BN D n0) (fun _ _ _ => BN.trans) (fun _ => BN.refl _ _ _) 16 (by kernel_rfl) (by decide) ?_
                simp only [pick, List.getD_cons_zero, List.getD_cons_succ]
                go_wp2_with fail
                refine (next_g w.heap.size D t 3 z12 HS.out.ds.dice (by omega) (by omega)).mono ?_
                rintro e z13 ⟨v2, rfl, hv20, hv21, hg⟩
                have HF : Hid (BN D n0 z12 z13) := Lib.hid (BN.but hg.2 HN.out)
                replace HN := Lib.hid (Nat.le_trans HN.out hg.2.size)
                replace HA : Hid (z13.heap[g7]? = some (.cells #[.int .i64 0, .slice none 0 0, .slice none 0 0] 31 (0, 0))) := Lib.hid ((hg.2.block g7 (Array.getElem?_eq_some_iff.1 HA.out).1 (by have := HGN.out; omega)).trans HA.out)
                replace HS := Lib.hid (HS.out.gave hg)
                clear hg
                go_wp2_with fail
                refine pieceEnd_normal ⟨HF.out, ?_⟩
                clear HF
                have m0 : RowKit.wrap64 (1 + v2) = 1 + v2 := IntWalk.wrap64_in _ (by omega)
                have m1 : IntKind.i64.wrap (1 + v2) = 1 + v2 := by rw [IntKind.wrap_i64]; omega
                refine flow_reads (F := BN D n0) (fun _ => BN.refl _ _ _) (by kernel_rfl) [17] (fuel := 7) (by kernel_rfl) ?_
                simp only [List.map_cons, List.map_nil, pick, List.getD_cons_zero, List.getD_cons_succ]
                repeat (go_big_quiet_step (fail))
                refine wpQuiet_nil ?_
                clear m0 m1
                refine flow_val (F := BN D n0) (fun _ => BN.refl _ _ _) (by kernel_rfl) 18 (by kernel_rfl) ?_
                simp only [pick, List.getD_cons_zero, List.getD_cons_succ]
                repeat (go_big_quiet_step (fail))
                refine wpQuiet_nil ?_
                refine flow_one (F := BN D n0) (fun _ _ _ => BN.trans) (fun _ => BN.refl _ _ _) 19 (by kernel_rfl) (by decide) ?_
                simp only [pick, List.getD_cons_zero, List.getD_cons_succ]
                have HWC : Hid (Calls Try.prog 18 #[.agg #[.int .i64 K.sz, e, f], .agg #[.int .i64 a0, .int .i64 a1, .int .i64 (1 + v2)]] z13 (GivesGOE z13 (withG K ⟨a0, a1, 1 + v2⟩))) := Lib.hid (gwith_any K _ ⟨a0, a1, 1 + v2⟩ z13 HS.out.hold HLA.out HLB.out)
                have HRW : Hid ((withG K ⟨a0, a1, 1 + v2⟩).2 = 0 → MB G S (withG K ⟨a0, a1, 1 + v2⟩).1) := Lib.hid fun h => HMB.out.edge HHa0.out h
                generalize withG K ⟨a0, a1, 1 + v2⟩ = RW at *
                go_wp2_with fail
                refine HWC.out.mono ?_
                clear HWC
                rintro e z14 ⟨vv, rfl, ⟨e5, w5, rfl, ho1, ho2⟩, hb⟩
                have HF : Hid (BN D n0 z13 z14) := Lib.hid (BN.later hb HN.out)
                obtain ⟨A5, c5, rfl, -⟩ := Row.of_own ho1
                obtain ⟨B5, k5, rfl, -⟩ := Row.of_own ho2
                have HO1 := Lib.hid (own_base ho1 (show D + 1 ≤ z13.heap.size from HS.out.ds.lt))
                have HO2 := Lib.hid (own_base ho2 (show D + 1 ≤ z13.heap.size from HS.out.ds.lt))
                replace HN := Lib.hid (Nat.le_trans HN.out hb.size)
                replace HA : Hid (z14.heap[g7]? = some (.cells #[.int .i64 0, .slice none 0 0, .slice none 0 0] 31 (0, 0))) := Lib.hid ((hb.block g7 (Array.getElem?_eq_some_iff.1 HA.out).1).trans HA.out)
                replace HS := Lib.hid (HS.out.later hb)
                clear hb ho1 ho2
                go_wp2_with fail
                refine pieceEnd_normal ⟨HF.out, ?_⟩
                clear HF
                refine flow_reads (F := BN D n0) (fun _ => BN.refl _ _ _) (by kernel_rfl) [20, 21, 22] (fuel := 2) (by kernel_rfl) ?_
                simp only [List.map_cons, List.map_nil, pick, List.getD_cons_zero, List.getD_cons_succ]
                repeat (go_big_quiet_step (fail))
                refine wpQuiet_nil ?_
                refine flow_one (F := BN D n0) (fun _ _ _ => BN.trans) (fun _ => BN.refl _ _ _) 24 (by kernel_rfl) (by decide) ?_
                simp only [pick, List.getD_cons_zero, List.getD_cons_succ]
                go_wp2_with (refine wpList_store_row rfl 31 (.tmp 9) (.tmp 70) rfl g7 #[.int .i64 RW.1.sz, .slice A5 RW.1.es.length c5, .slice B5 RW.1.gn.length k5] rfl rfl 31 _ HA.out gr_size rfl (by simp [Value.oneCell']) ?_)
                refine pieceEnd_normal ⟨BN.row _ _ hg7, ?_⟩
                have HA5 := Lib.hid (setRow_heap z14 g7 _ #[.int .i64 RW.1.sz, .slice A5 RW.1.es.length c5, .slice B5 RW.1.gn.length k5] _ _ HA.out)
                replace HO1 := Lib.hid (own_keepL HO1.out fun q hq => setRow_other z14 g7 q #[.int .i64 RW.1.sz, .slice A5 RW.1.es.length c5, .slice B5 RW.1.gn.length k5] (own_neqT12 HO1.out HA.out (by decide) q hq))
                replace HO2 := Lib.hid (own_keepL HO2.out fun q hq => setRow_other z14 g7 q #[.int .i64 RW.1.sz, .slice A5 RW.1.es.length c5, .slice B5 RW.1.gn.length k5] (own_neqT12 HO2.out HA.out (by decide) q hq))
                replace HS := Lib.hid (HS.out.set HA.out (by have := HGN.out; omega) (by have := HGN.out; omega) (by have := HG6.out; omega) #[.int .i64 RW.1.sz, .slice A5 RW.1.es.length c5, .slice B5 RW.1.gn.length k5])
                clear HA HN
                generalize z14.setRow g7 #[.int .i64 RW.1.sz, .slice A5 RW.1.es.length c5, .slice B5 RW.1.gn.length k5] = zz at *
                refine flow_reads (F := BN D n0) (fun _ => BN.refl _ _ _) (by kernel_rfl) [25] (fuel := 0) (by kernel_rfl) ?_
                simp only [List.map_cons, List.map_nil, pick, List.getD_cons_zero, List.getD_cons_succ]
                repeat (go_big_quiet_step (fail))
                refine wpQuiet_nil ?_
                refine flow_done (by kernel_rfl) ?_
                have HX6 := Lib.hid HS.out.bx
                by_cases her : RW.2 = 0
                · have b0 : (RW.2 == 0) = true := by rw [her]; rfl
                  have b0' : decide (RW.2 = 0) = true := decide_eq_true her
                  have HMB2 := Lib.hid (HRW.out her)
                  have HTn := Lib.hid (HS.out.turn HO1.out HO2.out)
                  clear her HS HO1 HO2 HRW
                  go_wp2_with (first | (refine wpList_load_row rfl 31 (.tmp 9) rfl g7 rfl 31 #[.int .i64 RW.1.sz, .slice A5 RW.1.es.length c5, .slice B5 RW.1.gn.length k5] (0, 0) _ HA5.out Try.underlying31 rfl gr_size ?_) | (refine wpList_store_row rfl 31 (.tmp 7) (.tmp 74) rfl g6 #[.int .i64 RW.1.sz, .slice A5 RW.1.es.length c5, .slice B5 RW.1.gn.length k5] rfl rfl 31 _ HX6.out gr_size rfl (by simp [Value.oneCell']) ?_))
                  exact ⟨⟨q - 1, RW.1, _, _, by omega, by first | go_num | (refine congrArg _ ?_; omega), Lib.hid ⟨HTn.out, HMB2.out⟩⟩, by simp [intOf]; omega⟩
                · have b0 : (RW.2 == 0) = false := by rw [beq_eq_false_iff_ne]; exact her
                  have b0' : decide (RW.2 = 0) = false := decide_eq_false her
                  clear her HO1 HO2 HRW
                  go_wp2_with fail
                  exact ⟨⟨q - 1, K, _, _, by omega, by first | go_num | (refine congrArg _ ?_; omega), Lib.hid ⟨HS.out, HMB.out⟩⟩, by simp [intOf]; omega⟩
            · skip
              go_wp2_with fail
              have hb := one_new z0 (.cells #[.int .i64 0, .slice none 0 0, .slice none 0 0] 31)
              refine pieceEnd_normal ⟨BN.later hb HN.out, ?_⟩
              have HA : Hid ((z0.alloc (.cells #[.int .i64 0, .slice none 0 0, .slice none 0 0] 31)).heap[z0.heap.size]? = some (.cells #[.int .i64 0, .slice none 0 0, .slice none 0 0] 31 (0, 0))) := Lib.hid (heap_alloc_new _ _)
              have hg7 : n0 ≤ z0.heap.size := HN.out
              replace HS := Lib.hid (HS.out.later hb)
              replace HN := Lib.hid (Nat.le_trans HN.out hb.size)
              clear hb
              generalize z0.alloc (.cells #[.int .i64 0, .slice none 0 0, .slice none 0 0] 31) = z15 at *
              generalize z0.heap.size = g7 at *
              refine flow_one (F := BN D n0) (fun _ _ _ => BN.trans) (fun _ => BN.refl _ _ _) 5 (by kernel_rfl) (by decide) ?_
              simp only [pick, List.getD_cons_zero, List.getD_cons_succ]
              go_wp2_with fail
              refine (next_g w.heap.size D t (S.length : Int) z15 HS.out.ds.dice (by omega) (by omega)).mono ?_
              rintro e z16 ⟨v0, rfl, hv00, hv01, hg⟩
              have HF : Hid (BN D n0 z15 z16) := Lib.hid (BN.but hg.2 HN.out)
              replace HN := Lib.hid (Nat.le_trans HN.out hg.2.size)
              replace HA : Hid (z16.heap[g7]? = some (.cells #[.int .i64 0, .slice none 0 0, .slice none 0 0] 31 (0, 0))) := Lib.hid ((hg.2.block g7 (Array.getElem?_eq_some_iff.1 HA.out).1 (by have := HGN.out; omega)).trans HA.out)
              replace HS := Lib.hid (HS.out.gave hg)
              clear hg
              obtain ⟨qv0, rfl⟩ : ∃ qv0 : Nat, v0 = (qv0 : Int) := ⟨v0.toNat, by omega⟩
              have hqv0 : qv0 < S.length := by omega
              go_wp2_with fail
              refine pieceEnd_normal ⟨HF.out, ?_⟩
              clear HF
              have hfb : ∀ x, (fut (BN D n0) z16 x).cell? ⟨gs, qv0, none⟩ = some (.int .i64 (S.getD qv0 0)) := fun x => (own_i (own_keepL HS.out.bd fun b hb => (fut_ok (BN.refl D n0) z16 x).keep b (HGS.out b hb).1 (HGS.out b hb).2) hqv0).1
              have HHa0 := Lib.hid (HHI.out qv0 hqv0)
              generalize S.getD qv0 0 = a0 at *
              refine flow_reads (F := BN D n0) (fun _ => BN.refl _ _ _) (by kernel_rfl) [6, 7] (fuel := 12) (by kernel_rfl) ?_
              simp only [List.map_cons, List.map_nil, pick, List.getD_cons_zero, List.getD_cons_succ]
              repeat (go_big_quiet_step (fail))
              refine wpQuiet_nil ?_
              clear hfb
              refine flow_one (F := BN D n0) (fun _ _ _ => BN.trans) (fun _ => BN.refl _ _ _) 12 (by kernel_rfl) (by decide) ?_
              simp only [pick, List.getD_cons_zero, List.getD_cons_succ]
              go_wp2_with fail
              refine (next_g w.heap.size D t (S.length : Int) z16 HS.out.ds.dice (by omega) (by omega)).mono ?_
              rintro e z17 ⟨v1, rfl, hv10, hv11, hg⟩
              have HF : Hid (BN D n0 z16 z17) := Lib.hid (BN.but hg.2 HN.out)
              replace HN := Lib.hid (Nat.le_trans HN.out hg.2.size)
              replace HA : Hid (z17.heap[g7]? = some (.cells #[.int .i64 0, .slice none 0 0, .slice none 0 0] 31 (0, 0))) := Lib.hid ((hg.2.block g7 (Array.getElem?_eq_some_iff.1 HA.out).1 (by have := HGN.out; omega)).trans HA.out)
              replace HS := Lib.hid (HS.out.gave hg)
              clear hg
              obtain ⟨qv1, rfl⟩ : ∃ qv1 : Nat, v1 = (qv1 : Int) := ⟨v1.toNat, by omega⟩
              have hqv1 : qv1 < S.length := by omega
              go_wp2_with fail
              refine pieceEnd_normal ⟨HF.out, ?_⟩
              clear HF
              have hfb : ∀ x, (fut (BN D n0) z17 x).cell? ⟨gs, qv1, none⟩ = some (.int .i64 (S.getD qv1 0)) := fun x => (own_i (own_keepL HS.out.bd fun b hb => (fut_ok (BN.refl D n0) z17 x).keep b (HGS.out b hb).1 (HGS.out b hb).2) hqv1).1
              have HHa1 := Lib.hid (HHI.out qv1 hqv1)
              generalize S.getD qv1 0 = a1 at *
              refine flow_reads (F := BN D n0) (fun _ => BN.refl _ _ _) (by kernel_rfl) [13, 14] (fuel := 9) (by kernel_rfl) ?_
              simp only [List.map_cons, List.map_nil, pick, List.getD_cons_zero, List.getD_cons_succ]
              repeat (go_big_quiet_step (fail))
              refine wpQuiet_nil ?_
              clear hfb
              refine flow_one (F := BN D n0) (fun _ _ _ => BN.trans) (fun _ => BN.refl _ _ _) 16 (by kernel_rfl) (by decide) ?_
              simp only [pick, List.getD_cons_zero, List.getD_cons_succ]
              go_wp2_with fail
              refine (next_g w.heap.size D t 3 z17 HS.out.ds.dice (by omega) (by omega)).mono ?_
              rintro e z18 ⟨v2, rfl, hv20, hv21, hg⟩
              have HF : Hid (BN D n0 z17 z18) := Lib.hid (BN.but hg.2 HN.out)
              replace HN := Lib.hid (Nat.le_trans HN.out hg.2.size)
              replace HA : Hid (z18.heap[g7]? = some (.cells #[.int .i64 0, .slice none 0 0, .slice none 0 0] 31 (0, 0))) := Lib.hid ((hg.2.block g7 (Array.getElem?_eq_some_iff.1 HA.out).1 (by have := HGN.out; omega)).trans HA.out)
              replace HS := Lib.hid (HS.out.gave hg)
              clear hg
              go_wp2_with fail
              refine pieceEnd_normal ⟨HF.out, ?_⟩
              clear HF
              have m0 : RowKit.wrap64 (1 + v2) = 1 + v2 := IntWalk.wrap64_in _ (by omega)
              have m1 : IntKind.i64.wrap (1 + v2) = 1 + v2 := by rw [IntKind.wrap_i64]; omega
              refine flow_reads (F := BN D n0) (fun _ => BN.refl _ _ _) (by kernel_rfl) [17] (fuel := 7) (by kernel_rfl) ?_
              simp only [List.map_cons, List.map_nil, pick, List.getD_cons_zero, List.getD_cons_succ]
              repeat (go_big_quiet_step (fail))
              refine wpQuiet_nil ?_
              clear m0 m1
              refine flow_val (F := BN D n0) (fun _ => BN.refl _ _ _) (by kernel_rfl) 18 (by kernel_rfl) ?_
              simp only [pick, List.getD_cons_zero, List.getD_cons_succ]
              repeat (go_big_quiet_step (fail))
              refine wpQuiet_nil ?_
              refine flow_one (F := BN D n0) (fun _ _ _ => BN.trans) (fun _ => BN.refl _ _ _) 19 (by kernel_rfl) (by decide) ?_
              simp only [pick, List.getD_cons_zero, List.getD_cons_succ]
              have HWC : Hid (Calls Try.prog 18 #[.agg #[.int .i64 K.sz, e, f], .agg #[.int .i64 a0, .int .i64 a1, .int .i64 (1 + v2)]] z18 (GivesGOE z18 (withG K ⟨a0, a1, 1 + v2⟩))) := Lib.hid (gwith_any K _ ⟨a0, a1, 1 + v2⟩ z18 HS.out.hold HLA.out HLB.out)
              have HRW : Hid ((withG K ⟨a0, a1, 1 + v2⟩).2 = 0 → MB G S (withG K ⟨a0, a1, 1 + v2⟩).1) := Lib.hid fun h => HMB.out.edge HHa0.out h
              generalize withG K ⟨a0, a1, 1 + v2⟩ = RW at *
              go_wp2_with fail
              refine HWC.out.mono ?_
              clear HWC
              rintro e z19 ⟨vv, rfl, ⟨e5, w5, rfl, ho1, ho2⟩, hb⟩
              have HF : Hid (BN D n0 z18 z19) := Lib.hid (BN.later hb HN.out)
              obtain ⟨A5, c5, rfl, -⟩ := Row.of_own ho1
              obtain ⟨B5, k5, rfl, -⟩ := Row.of_own ho2
              have HO1 := Lib.hid (own_base ho1 (show D + 1 ≤ z18.heap.size from HS.out.ds.lt))
              have HO2 := Lib.hid (own_base ho2 (show D + 1 ≤ z18.heap.size from HS.out.ds.lt))
              replace HN := Lib.hid (Nat.le_trans HN.out hb.size)
              replace HA : Hid (z19.heap[g7]? = some (.cells #[.int .i64 0, .slice none 0 0, .slice none 0 0] 31 (0, 0))) := Lib.hid ((hb.block g7 (Array.getElem?_eq_some_iff.1 HA.out).1).trans HA.out)
              replace HS := Lib.hid (HS.out.later hb)
              clear hb ho1 ho2
              go_wp2_with fail
              refine pieceEnd_normal ⟨HF.out, ?_⟩
              clear HF
              refine flow_reads (F := BN D n0) (fun _ => BN.refl _ _ _) (by kernel_rfl) [20, 21, 22] (fuel := 2) (by kernel_rfl) ?_
              simp only [List.map_cons, List.map_nil, pick, List.getD_cons_zero, List.getD_cons_succ]
              repeat (go_big_quiet_step (fail))
              refine wpQuiet_nil ?_
              refine flow_one (F := BN D n0) (fun _ _ _ => BN.trans) (fun _ => BN.refl _ _ _) 24 (by kernel_rfl) (by decide) ?_
              simp only [pick, List.getD_cons_zero, List.getD_cons_succ]
              go_wp2_with (refine wpList_store_row rfl 31 (.tmp 9) (.tmp 70) rfl g7 #[.int .i64 RW.1.sz, .slice A5 RW.1.es.length c5, .slice B5 RW.1.gn.length k5] rfl rfl 31 _ HA.out gr_size rfl (by simp [Value.oneCell']) ?_)
              refine pieceEnd_normal ⟨BN.row _ _ hg7, ?_⟩
              have HA5 := Lib.hid (setRow_heap z19 g7 _ #[.int .i64 RW.1.sz, .slice A5 RW.1.es.length c5, .slice B5 RW.1.gn.length k5] _ _ HA.out)
              replace HO1 := Lib.hid (own_keepL HO1.out fun q hq => setRow_other z19 g7 q #[.int .i64 RW.1.sz, .slice A5 RW.1.es.length c5, .slice B5 RW.1.gn.length k5] (own_neqT12 HO1.out HA.out (by decide) q hq))
              replace HO2 := Lib.hid (own_keepL HO2.out fun q hq => setRow_other z19 g7 q #[.int .i64 RW.1.sz, .slice A5 RW.1.es.length c5, .slice B5 RW.1.gn.length k5] (own_neqT12 HO2.out HA.out (by decide) q hq))
              replace HS := Lib.hid (HS.out.set HA.out (by have := HGN.out; omega) (by have := HGN.out; omega) (by have := HG6.out; omega) #[.int .i64 RW.1.sz, .slice A5 RW.1.es.length c5, .slice B5 RW.1.gn.length k5])
              clear HA HN
              generalize z19.setRow g7 #[.int .i64 RW.1.sz, .slice A5 RW.1.es.length c5, .slice B5 RW.1.gn.length k5] = zz at *
              refine flow_reads (F := BN D n0) (fun _ => BN.refl _ _ _) (by kernel_rfl) [25] (fuel := 0) (by kernel_rfl) ?_
              simp only [List.map_cons, List.map_nil, pick, List.getD_cons_zero, List.getD_cons_succ]
              repeat (go_big_quiet_step (fail))
              refine wpQuiet_nil ?_
              refine flow_done (by kernel_rfl) ?_
              have HX6 := Lib.hid HS.out.bx
              by_cases her : RW.2 = 0
              · have b0 : (RW.2 == 0) = true := by rw [her]; rfl
                have b0' : decide (RW.2 = 0) = true := decide_eq_true her
                have HMB2 := Lib.hid (HRW.out her)
                have HTn := Lib.hid (HS.out.turn HO1.out HO2.out)
                clear her HS HO1 HO2 HRW
                go_wp2_with (first | (refine wpList_load_row rfl 31 (.tmp 9) rfl g7 rfl 31 #[.int .i64 RW.1.sz, .slice A5 RW.1.es.length c5, .slice B5 RW.1.gn.length k5] (0, 0) _ HA5.out Try.underlying31 rfl gr_size ?_) | (refine wpList_store_row rfl 31 (.tmp 7) (.tmp 74) rfl g6 #[.int .i64 RW.1.sz, .slice A5 RW.1.es.length c5, .slice B5 RW.1.gn.length k5] rfl rfl 31 _ HX6.out gr_size rfl (by simp [Value.oneCell']) ?_))
                exact ⟨⟨q - 1, RW.1, _, _, by omega, by first | go_num | (refine congrArg _ ?_; omega), Lib.hid ⟨HTn.out, HMB2.out⟩⟩, by simp [intOf]; omega⟩
              · have b0 : (RW.2 == 0) = false := by rw [beq_eq_false_iff_ne]; exact her
                have b0' : decide (RW.2 = 0) = false := decide_eq_false her
                clear her HO1 HO2 HRW
                go_wp2_with fail
                exact ⟨⟨q - 1, K, _, _, by omega, by first | go_num | (refine congrArg _ ?_; omega), Lib.hid ⟨HS.out, HMB.out⟩⟩, by simp [intOf]; omega⟩
          · have b1 : decide ((S.length : Int) > 0) = false := decide_eq_false (by omega)
            have b1' : decide ((0 : Int) < (S.length : Int)) = false := b1
            have b1n : decide (0 < S.length) = false := decide_eq_false hS
            go_wp2_with fail
            go_meet
            exact ⟨K, e, f, Lib.hid ⟨HS.out, HMB.out⟩⟩
        · have b0 : decide ((q : Int) > 0) = false := decide_eq_false (by omega)
          have b0' : decide ((0 : Int) < (q : Int)) = false := b0
          have b0n : decide (0 < q) = false := decide_eq_false hq
          go_wp2_with fail
          go_meet
          exact ⟨K, e, f, Lib.hid ⟨HS.out, HMB.out⟩⟩
    case rest =>
      clear HS hx51
      obtain ⟨K, e6, f6, HQ⟩ := hcut
      have HS := Lib.hid HQ.out.1; have HMB := Lib.hid HQ.out.2
      clear HQ
      obtain ⟨nb, hnb⟩ : ∃ nb, wc.heap.size = nb := ⟨_, rfl⟩
      have HSB : Hid (∀ y, Below nb wc y → BQ w D P g0 t G A n c B m k p (.slice AS p.sd.length cs) (.slice AT p.tb.length ct) g5 g6 K e6 f6 S AB cb y) := Lib.hid fun y hb => HS.out.later (by rw [hnb]; exact hb)
      have HNB := Lib.hid hnb
      have HDN : Hid (D < nb) := Lib.hid (by rw [← hnb]; exact HS.out.ds.lt)
      clear hnb HS
      have HT0 : Hid (wc.ownsRow nb 3 1 (.slice none 0 0) (turnL S S.length).length (intsV (turnL S S.length))) := Lib.hid (by rw [turnL_full]; exact World.ownsRow_nil _ _ _ _)
      have HTL : Hid (∀ q, q ≤ S.length → (turnL S q).length ≤ 200) := Lib.hid fun q hq => by rw [turnL_len S (S.length - q) q (by omega)]; omega
      have m0 : RowKit.wrap64 ((S.length : Int) - 1) = (S.length : Int) - 1 := IntWalk.wrap64_in _ (by omega)
      have m1 : IntKind.i64.wrap ((S.length : Int) - 1) = (S.length : Int) - 1 := by rw [IntKind.wrap_i64]; omega
      go_wp2_with fail
      clear m0 m1
      go_loopw [11, 12] (fun v11 i wr => ∃ q : Nat, q ≤ S.length ∧ i = .int .i64 ((q : Int) - 1) ∧ Hid (wr.ownsRow nb 3 1 v11 (turnL S q).length (intsV (turnL S q)) ∧ Below nb wc wr)) (fun _ i _ => (intOf i + 1).toNat)
      case atStart => exact ⟨S.length, Nat.le_refl _, rfl, Lib.hid ⟨HT0.out, Below.refl _ _⟩⟩
      case round =>
        clear HT0
        obtain ⟨q, hq, rfl, HQ⟩ := hrel
        have HO := Lib.hid HQ.out.1; have HB := Lib.hid HQ.out.2
        clear HQ
        obtain ⟨At, ctu, hvt, -⟩ := Row.of_own HO.out
        subst hvt
        by_cases hq0 : 0 < q
        · obtain ⟨r, rfl⟩ : ∃ r, q = r + 1 := ⟨q - 1, by omega⟩
          have e1 : ((r + 1 : Nat) : Int) - 1 = (r : Int) := by omega
          rw [e1]
          have HE1 := Lib.hid e1
          clear e1
          have b0 : decide ((r : Int) ≥ 0) = true := decide_eq_true (by omega)
          have b0' : decide ((0 : Int) ≤ (r : Int)) = true := b0
          obtain ⟨bs, os, hAB, -⟩ := IRow.cell (HSB.out wr HB.out).row r (by omega)
          subst hAB
          have HTN := Lib.hid (turnL_snoc (S := S) (q := r) (by omega))
          have htl := HTL.out (r + 1) hq
          generalize turnL S (r + 1) = U at *
          go_upto_region 18 with fail
          clear b0 b0'
          refine wp_region_grow (by kernel_rfl) (Below nb) (Below.refl nb) (fun _ _ _ => Below.trans) [11] [([0, 1, 2, 3, 4, 5, 6, 7, 8], 9), ([], 10)] (by kernel_rfl) (by kernel_rfl) (by kernel_rfl) ?_
          simp only [List.map_cons, List.map_nil, pick, List.getD_cons_zero, List.getD_cons_succ]
          replace HO := Lib.hid (own_later HO.out (Below.refl _ _).drew)
          replace HB : Hid (Below nb wc wr.drew) := Lib.hid HB.out.drew
          generalize wr.drew = z3 at *
          have hsz3 : nb ≤ z3.heap.size := by rw [← HNB.out]; exact HB.out.size
          have hfd : ∀ x, (fut (Below nb) z3 x).cell? ⟨bs, os + r, none⟩ = some (.int .i64 (S.getD r 0)) := fun x => by
            obtain ⟨b2, o2, hA2, hc2⟩ := IRow.cell (HSB.out _ (HB.out.trans (fut_ok (Below.refl nb) z3 x))).row r (by omega)
            injection hA2 with hA2
            injection hA2 with i1 i2
            subst i1 i2
            exact hc2
          generalize S.getD r 0 = a0 at *
          refine wpGrow_cons ?_
          repeat (go_big_quiet_step (fail))
          refine wpQuiet_nil ?_
          clear hfd
          go_wp2_with fail
          have hb : Below nb z3 (z3.alloc (.cells #[.int .i64 a0, .int .i64 a0] 3)) := (one_new z3 _).mono hsz3
          refine pieceEnd_normal ⟨hb, ?_⟩
          have HR3 : Hid (Row (z3.alloc (.cells #[.int .i64 a0, .int .i64 a0] 3)) (some ⟨z3.heap.size, 0, none⟩) 2 2 1 (intsV [a0, a0])) := Lib.hid (Row.of_block (heap_alloc_new _ _) rfl)
          replace HO := Lib.hid (World.ownsRow.alloc HO.out (.cells #[.int .i64 a0, .int .i64 a0] 3))
          have hsz6 : nb ≤ (z3.alloc (.cells #[.int .i64 a0, .int .i64 a0] 3)).heap.size := Nat.le_trans hsz3 hb.size
          replace HB : Hid (Below nb wc (z3.alloc (.cells #[.int .i64 a0, .int .i64 a0] 3))) := Lib.hid (HB.out.trans hb)
          clear hb hsz3
          obtain ⟨g3, hg3⟩ : ∃ g3, z3.heap.size = g3 := ⟨_, rfl⟩
          rw [hg3] at HR3 ⊢
          clear hg3
          generalize z3.alloc (.cells #[.int .i64 a0, .int .i64 a0] 3) = z6 at *
          refine wpGrow_cons ?_
          refine wpQuiet_nil ?_
          go_wp2_with (at_builtin; go_must (refine wpList_app2 z6 rfl (.tmp 82) (.tmp 91) 22 22 3 rfl nb Try.underlying22 i64_info rfl _ U.length (intsV U) HO.out rfl _ 2 (intsV [a0, a0]) (Row.src HR3.out Try.underlying22 (intsV_one _)) rfl (by unfold maxLen; omega) (by omega) hsz6 ?_); intro v5 z5 ho hb hkp hv; have HO5 := Lib.hid ho; have HB5 := Lib.hid hb; clear ho hb hkp hv)
          obtain ⟨A5, c5, hv5, -⟩ := Row.of_own HO5.out
          subst hv5
          refine pieceEnd_normal ⟨HB5.out, ?_⟩
          have m0 : RowKit.wrap64 ((r : Int) - 1) = (r : Int) - 1 := IntWalk.wrap64_in _ (by omega)
          have m1 : IntKind.i64.wrap ((r : Int) - 1) = (r : Int) - 1 := by rw [IntKind.wrap_i64]; omega
          refine wpGrow_nil ?_
          repeat (go_big_quiet_step (fail))
          refine wpQuiet_nil ?_
          go_wp2_with fail
          exact ⟨⟨r, by omega, rfl, Lib.hid ⟨by rw [HTN.out, List.length_append, intsV_app]; exact HO5.out, HB.out.trans HB5.out⟩⟩, by first | (simp [intOf]; done) | (simp [intOf]; omega)⟩
        · have b0 : decide ((q : Int) - 1 ≥ 0) = false := decide_eq_false (by omega)
          have b0' : decide ((0 : Int) ≤ (q : Int) - 1) = false := b0
          have hq1 : q = 0 := by omega
          have HTU0 : Hid (IRow wr At (turnL S 0).length ctu (turnL S 0)) := Lib.hid (by have h := HO.out; rw [hq1] at h; exact own_rowI12 h)
          have hlq : (turnL S q).length = (turnL S 0).length := by rw [hq1]
          rw [hlq]
          have htl := HTL.out 0 (Nat.zero_le _)
          have HS := Lib.hid (HSB.out wr HB.out)
          clear HO HB HSB HNB HDN HTL hlq hq1 hq
          obtain ⟨TN, hTN⟩ : ∃ TN, (turnL S 0).length = TN := ⟨_, rfl⟩
          rw [hTN] at HTU0 htl ⊢
          clear hTN
          have HTU := Lib.hid HTU0.out
          clear HTU0
          go_upto_region 19 with fail
          clear b0 b0' hq0
          refine wp_region_grow (by kernel_rfl) Later Later.refl (fun _ _ _ => Later.trans) [6, 7] [([0, 1, 3, 4], 2), ([], 5)] (by kernel_rfl) (by kernel_rfl) (by kernel_rfl) ?_
          simp only [List.map_cons, List.map_nil, pick, List.getD_cons_zero, List.getD_cons_succ]
          replace HS := Lib.hid (HS.out.later (Below.refl _ _).drew)
          replace HTU := Lib.hid (HTU.out.later (Later.drew wr))
          generalize wr.drew = x0 at *
          have hfg : ∀ x, (loadVar 31 ⟨g0, 0, none⟩).run Try.prog (fut Later x0 x) = .ok (.agg #[.int .i64 G.sz, .slice A n c, .slice B m k]) (fut Later x0 x) := fun x => run_loadVar_row _ g0 31 31 #[.int .i64 G.sz, .slice A n c, .slice B m k] (0, 0) _ (((fut_ok Later.refl x0 x).block g0 (Array.getElem?_eq_some_iff.1 HS.out.ds.box).1).trans HS.out.ds.box) Try.underlying31 rfl gr_size
          have hfp : ∀ x, (loadVar 24 ⟨g5, 0, none⟩).run Try.prog (fut Later x0 x) = .ok (.agg #[.slice AS p.sd.length cs, .slice AT p.tb.length ct, .int .i64 p.lv]) (fut Later x0 x) := fun x => run_loadVar_row _ g5 24 24 #[.slice AS p.sd.length cs, .slice AT p.tb.length ct, .int .i64 p.lv] (0, 0) _ (((fut_ok Later.refl x0 x).block g5 (Array.getElem?_eq_some_iff.1 HS.out.px).1).trans HS.out.px) Try.underlying24 rfl po_size
          have hf6 : ∀ x, (loadVar 31 ⟨g6, 0, none⟩).run Try.prog (fut Later x0 x) = .ok (.agg #[.int .i64 K.sz, e6, f6]) (fut Later x0 x) := fun x => run_loadVar_row _ g6 31 31 #[.int .i64 K.sz, e6, f6] (0, 0) _ (((fut_ok Later.refl x0 x).block g6 (Array.getElem?_eq_some_iff.1 HS.out.bx).1).trans HS.out.bx) Try.underlying31 rfl gr_size
          have hsz : G.sz.toNat = sz := by have := HSN.out; omega
          have hszk : K.sz.toNat = sz := by rw [HMB.out.2.1]; exact hsz
          have HGPK : Hid (GoodP K.sz p) := Lib.hid (by rw [HMB.out.2.1]; exact HGP.out)
          refine wpGrow_cons ?_
          repeat (first | (refine wpQuiet_load rfl 31 (.tmp 4) rfl ⟨g0, 0, none⟩ rfl (.agg #[.int .i64 G.sz, .slice A n c, .slice B m k]) (fun w' h => by obtain ⟨x, rfl⟩ := h; exact hfg x) ?_; simp only [Act.put, List.setIfInBounds_toArray, List.set_cons_succ, List.set_cons_zero]) | (refine wpQuiet_load rfl 24 (.tmp 5) rfl ⟨g5, 0, none⟩ rfl (.agg #[.slice AS p.sd.length cs, .slice AT p.tb.length ct, .int .i64 p.lv]) (fun w' h => by obtain ⟨x, rfl⟩ := h; exact hfp x) ?_; simp only [Act.put, List.setIfInBounds_toArray, List.set_cons_succ, List.set_cons_zero]) | (refine wpQuiet_load rfl 31 (.tmp 7) rfl ⟨g6, 0, none⟩ rfl (.agg #[.int .i64 K.sz, e6, f6]) (fun w' h => by obtain ⟨x, rfl⟩ := h; exact hf6 x) ?_; simp only [Act.put, List.setIfInBounds_toArray, List.set_cons_succ, List.set_cons_zero]) | go_big_quiet_step (fail))
          refine wpQuiet_nil ?_
          clear hfg hfp hf6
          have HC := Lib.hid (HCC0.out.all G _ p _ x0 HS.out.ds.hold HGD.out HS.out.phold HGP.out)
          go_wp2_with fail
          refine HC.out.mono ?_
          intro e x1 hgi
          obtain ⟨Aa, ca, rfl, hr, hb⟩ := GivesI.of_own13 hgi
          clear hgi
          rw [capsG_len HGD.out, hsz] at hr ⊢
          have HF := Lib.hid hb
          have HRA := Lib.hid hr
          replace HS := Lib.hid (HS.out.later hb)
          replace HTU := Lib.hid (HTU.out.later hb)
          clear hr hb HC
          go_wp2_with fail
          refine pieceEnd_normal ⟨HF.out, ?_⟩
          clear HF
          refine wpGrow_cons ?_
          refine wpQuiet_nil ?_
          have HC := Lib.hid (HCC0.out.all K _ p _ x1 HS.out.hold HMB.out.1 HS.out.phold HGPK.out)
          go_wp2_with fail
          refine HC.out.mono ?_
          intro e x2 hgi
          obtain ⟨Ab, cb2, rfl, hr, hb⟩ := GivesI.of_own13 hgi
          clear hgi
          rw [capsG_len HMB.out.1, hszk] at hr ⊢
          have HF := Lib.hid hb
          have HRB := Lib.hid hr
          replace HRA := Lib.hid (HRA.out.later hb)
          replace HS := Lib.hid (HS.out.later hb)
          replace HTU := Lib.hid (HTU.out.later hb)
          clear hr hb HC
          go_wp2_with fail
          refine pieceEnd_normal ⟨HF.out, ?_⟩
          clear HF
          refine wpGrow_nil ?_
          repeat (go_big_quiet_step (fail))
          refine wpQuiet_nil ?_
          have HVA : Hid (∀ j : Nat, j < sz → (capsG G p).getD j 0 = capAt G p (j : Int)) := Lib.hid fun j h => capsG_at HGD.out p (by rw [hsz]; exact h)
          have HVB : Hid (∀ j : Nat, j < sz → (capsG K p).getD j 0 = capAt K p (j : Int)) := Lib.hid fun j h => capsG_at HMB.out.1 p (by rw [hszk]; exact h)
          have HBM : Hid ((∀ j : Nat, j < sz → capAt G p (j : Int) = capAt K p (j : Int) ∨ (hasI S (j : Int) = true ∧ hasI p.sd (j : Int) = false)) → boundG K p S = boundG G p S) := Lib.hid fun h => bound_more HMB.out.2.1 HMB.out.2.2 fun j hj => h j (by rw [← hsz]; exact hj)
          clear hsz hszk
          generalize capsG G p = AD at *
          generalize capsG K p = BD at *
          generalize hfa0 : capAt G p = fa at *
          generalize hfb0 : capAt K p = fb at *
          clear hfa0 hfb0
          have b0 : ((sz : Int) == (sz : Int)) = true := by simp
          go_upto_block 4 with fail
          clear b0
          go_cut [15] (fun v15 wx => ∃ s : Bool, v15 = .bool s ∧ Hid (BQ w D P g0 t G A n c B m k p (.slice AS p.sd.length cs) (.slice AT p.tb.length ct) g5 g6 K e6 f6 S AB cb wx ∧ IRow wx At TN ctu (turnL S 0) ∧ (s = true → boundG K p S = boundG G p S)))
          case first =>
            go_wp2_with fail
            go_loopw [15, 16] (fun v15 i wr => ∃ (s : Bool) (j : Nat), j ≤ sz ∧ v15 = .bool s ∧ i = .int .i64 j ∧ Hid ((BQ w D P g0 t G A n c B m k p (.slice AS p.sd.length cs) (.slice AT p.tb.length ct) g5 g6 K e6 f6 S AB cb wr ∧ IRow wr At TN ctu (turnL S 0)) ∧ (IRow wr Aa sz ca AD ∧ IRow wr Ab sz cb2 BD) ∧ (s = true → ∀ q : Nat, q < j → fa (q : Int) = fb (q : Int) ∨ (hasI S (q : Int) = true ∧ hasI p.sd (q : Int) = false)))) (fun _ i _ => sz - (intOf i).toNat)
            case atStart => exact ⟨true, 0, Nat.zero_le _, rfl, rfl, Lib.hid ⟨⟨HS.out, HTU.out⟩, ⟨HRA.out, HRB.out⟩, fun _ q h => absurd h (Nat.not_lt_zero _)⟩⟩
            case round =>
              clear HS HTU HRA HRB
              obtain ⟨s, j, hj, rfl, rfl, HL⟩ := hrel
              by_cases hlt : j < sz
              · have hlt2 : (j : Int) < (sz : Int) := by omega
                have c0 : decide ((j : Int) < (sz : Int)) = true := decide_eq_true hlt2
                have c0n : decide (j < sz) = true := decide_eq_true hlt
                cases s
                · go_wp2_with fail
                  go_meet
                  exact ⟨false, rfl, Lib.hid ⟨HL.out.1.1, HL.out.1.2, fun h => nomatch h⟩⟩
                · obtain ⟨ba, oa, hAa, -⟩ := IRow.cell HL.out.2.1.1 j hlt
                  obtain ⟨bb, ob, hAb, -⟩ := IRow.cell HL.out.2.1.2 j hlt
                  subst hAa hAb
                  go_upto_region 24 with fail
                  clear c0 c0n
                  refine wp_region_grow (by kernel_rfl) Later Later.refl (fun _ _ _ => Later.trans) [18, 19, 20, 21] [([0, 1, 2, 3, 4, 5, 6, 7, 8, 9, 10, 11], 12), ([13, 14, 15, 16], 17)] (by kernel_rfl) (by kernel_rfl) (by kernel_rfl) ?_
                  simp only [List.map_cons, List.map_nil, pick, List.getD_cons_zero, List.getD_cons_succ]
                  have HS := Lib.hid (HL.out.1.1.later (Below.refl _ _).drew)
                  have hdr := Later.drew wr
                  have HTU := Lib.hid (HL.out.1.2.later hdr)
                  have HRA := Lib.hid (HL.out.2.1.1.later hdr); have HRB := Lib.hid (HL.out.2.1.2.later hdr)
                  have HAC := Lib.hid (HL.out.2.2 rfl)
                  clear hdr HL
                  generalize wr.drew = z7 at *
                  have hfa := irow_fut HRA.out j hlt
                  have hfb := irow_fut HRB.out j hlt
                  rw [HVA.out j hlt] at hfa
                  rw [HVB.out j hlt] at hfb
                  have hf5 : ∀ x, (fut Later z7 x).cell? ⟨g5, 0, none⟩ = some (.slice AS p.sd.length cs) := fun x => (cell_of_row _ _ 0 _ _ _ (((fut_ok Later.refl z7 x).block g5 (Array.getElem?_eq_some_iff.1 HS.out.px).1).trans HS.out.px)).trans rfl
                  have hsl9 : S.length ≤ 100000 := by omega
                  have hpl9 : p.sd.length ≤ 100000 := HGP.out.few (by have := HSN.out; omega)
                  have HH1 : Hid (∀ y, Below z7.heap.size z7 y → Calls Try.prog 22 #[.slice AB S.length cb, .int .i64 (j : Int)] y (SaysL (.bool (hasI S (j : Int))) y)) := Lib.hid fun y hb => has_any11 AB S.length cb S (j : Int) y (HS.out.row.later hb) hsl9
                  have HH2 : Hid (∀ y, Below z7.heap.size z7 y → Calls Try.prog 22 #[.slice AS p.sd.length cs, .int .i64 (j : Int)] y (SaysL (.bool (hasI p.sd (j : Int))) y)) := Lib.hid fun y hb => has_any11 AS p.sd.length cs p.sd (j : Int) y ((own_rowI12 HS.out.mq.sd).later hb) hpl9
                  have HNX : Hid (∀ y, Below z7.heap.size z7 y → (BQ w D P g0 t G A n c B m k p (.slice AS p.sd.length cs) (.slice AT p.tb.length ct) g5 g6 K e6 f6 S AB cb y ∧ IRow y At TN ctu (turnL S 0)) ∧ (IRow y (some ⟨ba, oa, none⟩) sz ca AD ∧ IRow y (some ⟨bb, ob, none⟩) sz cb2 BD)) := Lib.hid fun y hb => ⟨⟨HS.out.later hb, HTU.out.later hb⟩, HRA.out.later hb, HRB.out.later hb⟩
                  have HAJ : Hid ((fa (j : Int) = fb (j : Int) ∨ (hasI S (j : Int) = true ∧ hasI p.sd (j : Int) = false)) → ∀ q : Nat, q < j + 1 → fa (q : Int) = fb (q : Int) ∨ (hasI S (q : Int) = true ∧ hasI p.sd (q : Int) = false)) := Lib.hid fun h q hq => (Nat.lt_or_ge q j).elim (fun h1 => HAC.out q h1) (fun h1 => by rw [show q = j by omega]; exact h)
                  clear HAC hsl9 hpl9 HTU HRA HRB
                  generalize hasI S (j : Int) = h1 at *
                  generalize hasI p.sd (j : Int) = h2 at *
                  generalize fa (j : Int) = va at *
                  generalize fb (j : Int) = vb at *
                  by_cases hv : va = vb
                  · have d0 : (va == vb) = true := by rw [hv]; simp
                    have d0' : decide (va = vb) = true := decide_eq_true hv
                    have HAK := Lib.hid (HAJ.out (.inl hv))
                    clear hv HAJ HH1 HH2
                    refine wpGrow_cons ?_
                    repeat (go_big_quiet_step (fail))
                    refine wpQuiet_nil ?_
                    go_wp2_with fail
                    refine pieceEnd_normal ⟨Later.refl _, ?_⟩
                    refine wpGrow_cons ?_
                    repeat (go_big_quiet_step (fail))
                    refine wpQuiet_nil ?_
                    go_wp2_with fail
                    refine pieceEnd_normal ⟨Later.refl _, ?_⟩
                    refine wpGrow_nil ?_
                    repeat (go_big_quiet_step (fail))
                    refine wpQuiet_nil ?_
                    clear hfa hfb hf5
                    go_wp2_with fail
                    exact ⟨⟨true, j + 1, hlt, rfl, by go_num, Lib.hid ⟨(HNX.out z7 (Below.refl _ _)).1, (HNX.out z7 (Below.refl _ _)).2, fun _ => HAK.out⟩⟩, by simp [intOf]; omega⟩
                  · have d0 : (va == vb) = false := by rw [beq_eq_false_iff_ne]; exact hv
                    have d0' : decide (va = vb) = false := decide_eq_false hv
                    clear hv
                    refine wpGrow_cons ?_
                    repeat (go_big_quiet_step (fail))
                    refine wpQuiet_nil ?_
                    clear hfa hfb
                    have HC := Lib.hid (HH1.out z7 (Below.refl _ _))
                    go_wp2_with fail
                    refine HC.out.mono ?_
                    rintro e z8 ⟨rfl, hb⟩
                    have HF : Hid (Later z7 z8) := Lib.hid hb
                    clear hb HC HH1 hf5
                    go_wp2_with fail
                    refine pieceEnd_normal ⟨HF.out, ?_⟩
                    have hf5 : ∀ x, (fut Later z8 x).cell? ⟨g5, 0, none⟩ = some (.slice AS p.sd.length cs) := fun x => (cell_of_row _ _ 0 _ _ _ (((fut_ok Later.refl z8 x).block g5 (Array.getElem?_eq_some_iff.1 (HNX.out z8 HF.out).1.1.px).1).trans (HNX.out z8 HF.out).1.1.px)).trans rfl
                    cases h1
                    · refine wpGrow_cons ?_
                      repeat (go_big_quiet_step (fail))
                      refine wpQuiet_nil ?_
                      go_wp2_with fail
                      refine pieceEnd_normal ⟨Later.refl _, ?_⟩
                      refine wpGrow_nil ?_
                      repeat (go_big_quiet_step (fail))
                      refine wpQuiet_nil ?_
                      clear hf5
                      go_wp2_with fail
                      exact ⟨⟨false, j + 1, hlt, rfl, by go_num, Lib.hid ⟨(HNX.out z8 HF.out).1, (HNX.out z8 HF.out).2, fun h => nomatch h⟩⟩, by simp [intOf]; omega⟩
                    · refine wpGrow_cons ?_
                      repeat (go_big_quiet_step (fail))
                      refine wpQuiet_nil ?_
                      clear hf5
                      have HC := Lib.hid (HH2.out z8 HF.out)
                      go_wp2_with fail
                      refine HC.out.mono ?_
                      rintro e z9 ⟨rfl, hb⟩
                      have HF2 : Hid (Later z8 z9) := Lib.hid hb
                      clear hb HC HH2
                      go_wp2_with fail
                      refine pieceEnd_normal ⟨HF2.out, ?_⟩
                      have HFF : Hid (Later z7 z9) := Lib.hid (HF.out.trans HF2.out)
                      clear HF HF2
                      cases h2
                      · have HAK := Lib.hid (HAJ.out (.inr (by simp)))
                        refine wpGrow_nil ?_
                        repeat (go_big_quiet_step (fail))
                        refine wpQuiet_nil ?_
                        go_wp2_with fail
                        exact ⟨⟨true, j + 1, hlt, rfl, by go_num, Lib.hid ⟨(HNX.out z9 HFF.out).1, (HNX.out z9 HFF.out).2, fun _ => HAK.out⟩⟩, by simp [intOf]; omega⟩
                      · refine wpGrow_nil ?_
                        repeat (go_big_quiet_step (fail))
                        refine wpQuiet_nil ?_
                        go_wp2_with fail
                        exact ⟨⟨false, j + 1, hlt, rfl, by go_num, Lib.hid ⟨(HNX.out z9 HFF.out).1, (HNX.out z9 HFF.out).2, fun h => nomatch h⟩⟩, by simp [intOf]; omega⟩
              · have hlt2 : ¬ (j : Int) < (sz : Int) := by omega
                have c0 : decide ((j : Int) < (sz : Int)) = false := decide_eq_false hlt2
                have c0n : decide (j < sz) = false := decide_eq_false hlt
                have HBE : Hid (s = true → boundG K p S = boundG G p S) := Lib.hid fun h => HBM.out fun q hq => HL.out.2.2 h q (by omega)
                go_wp2_with fail
                go_meet
                exact ⟨s, rfl, Lib.hid ⟨HL.out.1.1, HL.out.1.2, HBE.out⟩⟩
          case rest =>
            clear HS HTU HRA HRB HVA HVB HBM
            obtain ⟨s, rfl, HQ⟩ := hcut
            have HS := Lib.hid HQ.out.1; have HTU := Lib.hid HQ.out.2.1; have HSE := Lib.hid HQ.out.2.2
            clear HQ
            have HBX := Lib.hid HS.out.ds.box; have HPX := Lib.hid HS.out.px
            have HC := Lib.hid (HCC0.out.bnd G _ p _ AB S.length cb S wc HS.out.ds.hold HGD.out HS.out.phold HGP.out HS.out.row (by omega))
            go_wp2_with (first | (refine wpList_load_row rfl 31 (.tmp 4) rfl g0 rfl 31 #[.int .i64 G.sz, .slice A n c, .slice B m k] (0, 0) _ HBX.out Try.underlying31 rfl gr_size ?_) | (refine wpList_load_row rfl 24 (.tmp 5) rfl g5 rfl 24 #[.slice AS p.sd.length cs, .slice AT p.tb.length ct, .int .i64 p.lv] (0, 0) _ HPX.out Try.underlying24 rfl po_size ?_))
            refine HC.out.mono ?_
            rintro e x1 ⟨rfl, hb⟩
            replace HS := Lib.hid (HS.out.later hb)
            replace HTU := Lib.hid (HTU.out.later hb)
            clear hb HC HBX HPX
            have hz0 : x1.cell? ⟨g0, 0, none⟩ = some (.int .i64 (sz : Int)) := by rw [← HSN.out]; exact (cell_of_row _ _ 0 _ _ _ HS.out.ds.box).trans rfl
            go_upto_region 27 with (refine wpList_store_new rfl 31 (.tmp 18) (.tmp 140) rfl 31 _ #[.int .i64 (sz : Int), .slice none 0 0, .slice none 0 0] rfl rfl gr_size rfl (by simp [Value.oneCell']) ?_)
            clear hz0
            have hb := one_new x1 (.cells #[.int .i64 (sz : Int), .slice none 0 0, .slice none 0 0] 31)
            have HXA : Hid ((x1.alloc (.cells #[.int .i64 (sz : Int), .slice none 0 0, .slice none 0 0] 31)).heap[x1.heap.size]? = some (.cells #[.int .i64 (sz : Int), .slice none 0 0, .slice none 0 0] 31 (0, 0))) := Lib.hid (heap_alloc_new _ _)
            replace HS := Lib.hid (HS.out.later hb)
            replace HTU := Lib.hid (HTU.out.later hb)
            clear hb
            generalize x1.alloc (.cells #[.int .i64 (sz : Int), .slice none 0 0, .slice none 0 0] 31) = x2 at *
            generalize x1.heap.size = g18 at *
            try dsimp only [Act.put]
            obtain ⟨B2, hB2⟩ : ∃ B2, x2.heap.size = B2 := ⟨_, rfl⟩
            have HLT : Hid (∀ y, Below B2 x2 y → BQ w D P g0 t G A n c B m k p (.slice AS p.sd.length cs) (.slice AT p.tb.length ct) g5 g6 K e6 f6 S AB cb y ∧ y.heap[g18]? = some (.cells #[.int .i64 (sz : Int), .slice none 0 0, .slice none 0 0] 31 (0, 0)) ∧ B2 ≤ y.heap.size) := Lib.hid fun y hb => by
              rw [← hB2] at hb ⊢
              exact ⟨HS.out.later hb, (hb.block _ (Array.getElem?_eq_some_iff.1 HXA.out).1).trans HXA.out, hb.size⟩
            have HB1 : Hid (∀ y, Below B2 x2 y → Calls Try.prog 23 #[.agg #[.int .i64 G.sz, .slice A n c, .slice B m k], .agg #[.slice AS p.sd.length cs, .slice AT p.tb.length ct, .int .i64 p.lv], .slice At TN ctu] y (SaysL (.int .i64 (boundG G p S)) y)) := Lib.hid fun y hb => by
              have h := HCC0.out.bnd G _ p _ At TN ctu (turnL S 0) y (HLT.out y hb).1.ds.hold HGD.out (HLT.out y hb).1.phold HGP.out (HTU.out.later (by rw [← hB2] at hb; exact hb)) (by omega)
              rw [bound_set (fun x => turnL_mem)] at h
              exact h
            have HB2 : Hid (s = true → ∀ y, Below B2 x2 y → Calls Try.prog 23 #[.agg #[.int .i64 K.sz, e6, f6], .agg #[.slice AS p.sd.length cs, .slice AT p.tb.length ct, .int .i64 p.lv], .slice AB S.length cb] y (SaysL (.int .i64 (boundG G p S)) y)) := Lib.hid fun hs y hb => by
              have h := HCC0.out.bnd K _ p _ AB S.length cb S y (HLT.out y hb).1.hold HMB.out.1 (HLT.out y hb).1.phold (by rw [HMB.out.2.1]; exact HGP.out) (HLT.out y hb).1.row (by omega)
              rw [HSE.out hs] at h
              exact h
            have HGPS : Hid (GoodP (sz : Int) p) := Lib.hid (by rw [← HSN.out]; exact HGP.out)
            have HB3 : Hid (∀ y, Below B2 x2 y → Calls Try.prog 23 #[.agg #[.int .i64 (sz : Int), .slice none 0 0, .slice none 0 0], .agg #[.slice AS p.sd.length cs, .slice AT p.tb.length ct, .int .i64 p.lv], .slice AB S.length cb] y (SaysL (.int .i64 (seedW S (p.tb.getD 0 0) p.sd)) y)) := Lib.hid fun y hb => by
              have h := HCC0.out.bnd ⟨(sz : Int), [], []⟩ (.agg #[.int .i64 (sz : Int), .slice none 0 0, .slice none 0 0]) p _ AB S.length cb S y ⟨none, 0, 0, none, 0, 0, rfl, Row.nilRow _ _, Row.nilRow _ _⟩ (good_bare13 (by omega) (by omega)) (HLT.out y hb).1.phold HGPS.out (HLT.out y hb).1.row (by omega)
              rw [bound_bare13 (by omega) (by omega) HGPS.out] at h
              exact h
            have hnb0 := bound_nonneg (G := G) HGP.out.tab S
            have htb1 := HGP.out.tab.some_
            have hta := HGP.out.tab.at_ 0 (by omega)
            have HSW0 : Hid (seedW S (p.tb.getD 0 0) (p.sd.take 0) = 0) := Lib.hid rfl
            have HSWN : Hid (∀ j, j < p.sd.length → seedW S (p.tb.getD 0 0) (p.sd.take (j + 1)) = seedW S (p.tb.getD 0 0) (p.sd.take j) + (if hasI S (p.sd.getD j 0) then p.tb.getD 0 0 else 0)) := Lib.hid fun j hj => seedW_snoc S _ p.sd j hj
            have HSWB : Hid (∀ j, j ≤ p.sd.length → 0 ≤ seedW S (p.tb.getD 0 0) (p.sd.take j) ∧ seedW S (p.tb.getD 0 0) (p.sd.take j) ≤ 1000 * (j : Int)) := Lib.hid fun j hj => by
              have h := seedW_bd (S := S) (show 0 ≤ p.tb.getD 0 0 by omega) hta.2.1 (p.sd.take j)
              rw [List.length_take, Nat.min_eq_left hj] at h
              exact h
            have HSWF : Hid (seedW S (p.tb.getD 0 0) (p.sd.take p.sd.length) = seedW S (p.tb.getD 0 0) p.sd) := Lib.hid (by rw [List.take_length])
            have hpl64 : p.sd.length ≤ 64 := set_len HGP.out.set (by have := HSN.out; omega)
            have htc0 : 0 ≤ p.tb.getD 0 0 := by omega
            have htc1 : p.tb.getD 0 0 ≤ 1000 := hta.2.1
            have HHS : Hid (∀ y x, Below B2 x2 y → Calls Try.prog 22 #[.slice AB S.length cb, .int .i64 x] y (SaysL (.bool (hasI S x)) y)) := Lib.hid fun y x hb => has_any11 AB S.length cb S x y (HLT.out y hb).1.row (by omega)
            have HTT : Hid (∀ y, Below B2 x2 y → IRow y AT p.tb.length ct p.tb) := Lib.hid fun y hb => own_rowI12 (HLT.out y hb).1.mq.tb
            obtain ⟨SW, hSW⟩ : ∃ SW : List Int → Int, ∀ l, seedW S (p.tb.getD 0 0) l = SW l := ⟨_, fun _ => rfl⟩
            simp only [hSW] at HSW0 HSWN HSWB HSWF HB3
            clear hSW
            clear hta HGPS HS HTU HXA hB2 HSE HMB
            generalize boundG G p S = NB at *
            go_wp2_with fail
            go_loopw [19, 20] (fun sv i wr => ∃ j : Nat, j ≤ p.sd.length ∧ sv = .int .i64 (SW (p.sd.take j)) ∧ i = .int .i64 j ∧ Hid (Below B2 x2 wr)) (fun _ i _ => p.sd.length - (intOf i).toNat)
            case atStart => exact ⟨0, Nat.zero_le _, by rw [HSW0.out], rfl, Lib.hid (Below.refl _ _)⟩
            case round =>
              obtain ⟨j, hj, rfl, rfl, HB⟩ := hrel
              have hp0 : wr.cell? ⟨g5, 0, none⟩ = some (.slice AS p.sd.length cs) := (cell_of_row _ _ 0 _ _ _ (HLT.out wr HB.out).1.px).trans rfl
              by_cases hlt : j < p.sd.length
              · have hlt2 : (j : Int) < (p.sd.length : Int) := by omega
                obtain ⟨bs, os, hAS, hcs⟩ := IRow.cell (own_rowI12 (HLT.out wr HB.out).1.mq.sd) j hlt
                subst hAS
                have HSJ := Lib.hid (HSWN.out j hlt)
                have hw0 := (HSWB.out j hj).1
                have hw1 := (HSWB.out j hj).2
                generalize p.sd.getD j 0 = a0 at *
                generalize hSJ : SW (p.sd.take j) = s0 at *
                have HC := Lib.hid (HHS.out wr a0 HB.out)
                generalize hasI S a0 = b1 at *
                go_wp2_with fail
                refine HC.out.mono ?_
                rintro e w3 ⟨rfl, hb⟩
                have HB3' : Hid (Below B2 x2 w3) := Lib.hid (HB.out.trans (hb.mono (HLT.out wr HB.out).2.2))
                clear hb HC hcs hp0 HB
                cases b1
                · rw [if_neg (by decide), Int.add_zero] at HSJ
                  go_wp2_with fail
                  exact ⟨⟨j + 1, hlt, by rw [HSJ.out], by go_num, HB3'⟩, by simp [intOf]; omega⟩
                · rw [if_pos rfl] at HSJ
                  have hp1 : w3.cell? ⟨g5, 1, none⟩ = some (.slice AT p.tb.length ct) := (cell_of_row _ _ 1 _ _ _ (HLT.out w3 HB3'.out).1.px).trans rfl
                  obtain ⟨bt, ot, hAT, hct⟩ := IRow.cell (HTT.out w3 HB3'.out) 0 (by omega)
                  subst hAT
                  rw [Nat.add_zero] at hct
                  have h0n : 0 < p.tb.length := by omega
                  generalize p.tb.getD 0 0 = tc0 at *
                  have m2 : IntKind.i64.wrap (s0 + tc0) = s0 + tc0 := by rw [IntKind.wrap_i64]; omega
                  have m3 : RowKit.wrap64 (s0 + tc0) = s0 + tc0 := IntWalk.wrap64_in _ (by omega)
                  go_wp2_with fail
                  exact ⟨⟨j + 1, hlt, by rw [HSJ.out], by go_num, HB3'⟩, by simp [intOf]; omega⟩
              · have hlt2 : ¬ (j : Int) < (p.sd.length : Int) := by omega
                have hjn : j = p.sd.length := by omega
                rw [show SW (p.sd.take j) = SW p.sd by rw [hjn]; exact HSWF.out]
                clear hjn hj
                generalize SW p.sd = sv at *
                have b1 : (NB == NB) = true := by simp
                have b2 : (sv == sv) = true := by simp
                have b3 : decide (NB ≥ 0) = true := decide_eq_true hnb0
                have b3' : decide (0 ≤ NB) = true := b3
                have HCA := Lib.hid (HAW.out wr)
                go_wp2_with fail
                clear hp0
                refine HCA.out.mono ?_
                rintro e w1 ⟨rfl, hb⟩
                replace HB : Hid (Below B2 x2 w1) := Lib.hid (HB.out.trans (hb.mono (HLT.out wr HB.out).2.2))
                clear hb HCA
                have hxa0 : w1.cell? ⟨g0, 0, none⟩ = some (.int .i64 G.sz) := (cell_of_row _ _ 0 _ _ _ (HLT.out w1 HB.out).1.ds.box).trans rfl
                have hxa1 : w1.cell? ⟨g0, 1, none⟩ = some (.slice A n c) := (cell_of_row _ _ 1 _ _ _ (HLT.out w1 HB.out).1.ds.box).trans rfl
                have hxa2 : w1.cell? ⟨g0, 2, none⟩ = some (.slice B m k) := (cell_of_row _ _ 2 _ _ _ (HLT.out w1 HB.out).1.ds.box).trans rfl
                have hxb0 : w1.cell? ⟨g5, 0, none⟩ = some (.slice AS p.sd.length cs) := (cell_of_row _ _ 0 _ _ _ (HLT.out w1 HB.out).1.px).trans rfl
                have hxb1 : w1.cell? ⟨g5, 1, none⟩ = some (.slice AT p.tb.length ct) := (cell_of_row _ _ 1 _ _ _ (HLT.out w1 HB.out).1.px).trans rfl
                have hxb2 : w1.cell? ⟨g5, 2, none⟩ = some (.int .i64 p.lv) := (cell_of_row _ _ 2 _ _ _ (HLT.out w1 HB.out).1.px).trans rfl
                have HC := Lib.hid (HB1.out w1 HB.out)
                go_wp2_with fail
                refine HC.out.mono ?_
                rintro e w2 ⟨rfl, hb⟩
                replace HB : Hid (Below B2 x2 w2) := Lib.hid (HB.out.trans (hb.mono (HLT.out w1 HB.out).2.2))
                clear hb HC hxa0 hxa1 hxa2 hxb0 hxb1 hxb2
                cases s
                · have hxa0 : w2.cell? ⟨g18, 0, none⟩ = some (.int .i64 (sz : Int)) := (cell_of_row _ _ 0 _ _ _ (HLT.out w2 HB.out).2.1).trans rfl
                  have hxa1 : w2.cell? ⟨g18, 1, none⟩ = some (.slice none 0 0) := (cell_of_row _ _ 1 _ _ _ (HLT.out w2 HB.out).2.1).trans rfl
                  have hxa2 : w2.cell? ⟨g18, 2, none⟩ = some (.slice none 0 0) := (cell_of_row _ _ 2 _ _ _ (HLT.out w2 HB.out).2.1).trans rfl
                  have hxb0 : w2.cell? ⟨g5, 0, none⟩ = some (.slice AS p.sd.length cs) := (cell_of_row _ _ 0 _ _ _ (HLT.out w2 HB.out).1.px).trans rfl
                  have hxb1 : w2.cell? ⟨g5, 1, none⟩ = some (.slice AT p.tb.length ct) := (cell_of_row _ _ 1 _ _ _ (HLT.out w2 HB.out).1.px).trans rfl
                  have hxb2 : w2.cell? ⟨g5, 2, none⟩ = some (.int .i64 p.lv) := (cell_of_row _ _ 2 _ _ _ (HLT.out w2 HB.out).1.px).trans rfl
                  have HC := Lib.hid (HB3.out w2 HB.out)
                  go_wp2_with fail
                  refine HC.out.mono ?_
                  rintro e w4 ⟨rfl, hb⟩
                  replace HB : Hid (Below B2 x2 w4) := Lib.hid (HB.out.trans (hb.mono (HLT.out w2 HB.out).2.2))
                  clear hb HC hxa0 hxa1 hxa2 hxb0 hxb1 hxb2
                  go_wp2_with fail
                  go_ret
                  exact ⟨rfl, (HLT.out w4 HB.out).1.ds.base⟩
                · have hxa0 : w2.cell? ⟨g6, 0, none⟩ = some (.int .i64 K.sz) := (cell_of_row _ _ 0 _ _ _ (HLT.out w2 HB.out).1.bx).trans rfl
                  have hxa1 : w2.cell? ⟨g6, 1, none⟩ = some (e6) := (cell_of_row _ _ 1 _ _ _ (HLT.out w2 HB.out).1.bx).trans rfl
                  have hxa2 : w2.cell? ⟨g6, 2, none⟩ = some (f6) := (cell_of_row _ _ 2 _ _ _ (HLT.out w2 HB.out).1.bx).trans rfl
                  have hxb0 : w2.cell? ⟨g5, 0, none⟩ = some (.slice AS p.sd.length cs) := (cell_of_row _ _ 0 _ _ _ (HLT.out w2 HB.out).1.px).trans rfl
                  have hxb1 : w2.cell? ⟨g5, 1, none⟩ = some (.slice AT p.tb.length ct) := (cell_of_row _ _ 1 _ _ _ (HLT.out w2 HB.out).1.px).trans rfl
                  have hxb2 : w2.cell? ⟨g5, 2, none⟩ = some (.int .i64 p.lv) := (cell_of_row _ _ 2 _ _ _ (HLT.out w2 HB.out).1.px).trans rfl
                  have HC := Lib.hid (HB2.out rfl w2 HB.out)
                  go_wp2_with fail
                  refine HC.out.mono ?_
                  rintro e w3 ⟨rfl, hb⟩
                  replace HB : Hid (Below B2 x2 w3) := Lib.hid (HB.out.trans (hb.mono (HLT.out w2 HB.out).2.2))
                  clear hb HC hxa0 hxa1 hxa2 hxb0 hxb1 hxb2
                  have hxa0 : w3.cell? ⟨g18, 0, none⟩ = some (.int .i64 (sz : Int)) := (cell_of_row _ _ 0 _ _ _ (HLT.out w3 HB.out).2.1).trans rfl
                  have hxa1 : w3.cell? ⟨g18, 1, none⟩ = some (.slice none 0 0) := (cell_of_row _ _ 1 _ _ _ (HLT.out w3 HB.out).2.1).trans rfl
                  have hxa2 : w3.cell? ⟨g18, 2, none⟩ = some (.slice none 0 0) := (cell_of_row _ _ 2 _ _ _ (HLT.out w3 HB.out).2.1).trans rfl
                  have hxb0 : w3.cell? ⟨g5, 0, none⟩ = some (.slice AS p.sd.length cs) := (cell_of_row _ _ 0 _ _ _ (HLT.out w3 HB.out).1.px).trans rfl
                  have hxb1 : w3.cell? ⟨g5, 1, none⟩ = some (.slice AT p.tb.length ct) := (cell_of_row _ _ 1 _ _ _ (HLT.out w3 HB.out).1.px).trans rfl
                  have hxb2 : w3.cell? ⟨g5, 2, none⟩ = some (.int .i64 p.lv) := (cell_of_row _ _ 2 _ _ _ (HLT.out w3 HB.out).1.px).trans rfl
                  have HC := Lib.hid (HB3.out w3 HB.out)
                  go_wp2_with fail
                  refine HC.out.mono ?_
                  rintro e w4 ⟨rfl, hb⟩
                  replace HB : Hid (Below B2 x2 w4) := Lib.hid (HB.out.trans (hb.mono (HLT.out w3 HB.out).2.2))
                  clear hb HC hxa0 hxa1 hxa2 hxb0 hxb1 hxb2
                  go_wp2_with fail
                  go_ret
                  exact ⟨rfl, (HLT.out w4 HB.out).1.ds.base⟩
  · have gd0 : decide (tn ≤ 400) = false := decide_eq_false hn
    go_wp2_with fail
    clear gd0
    refine (HAW.out w).mono ?_
    rintro e w1 ⟨rfl, hb⟩
    have HB := Lib.hid hb; clear hb
    go_wp2_with fail
    go_ret
    exact ⟨rfl, HB.out⟩
end Go.Proofs.Ytdildmfjekdlgaa
