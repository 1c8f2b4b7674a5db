import Derived.Test.YtikmffdmgnjpbaaPackAW
import Derived.Test.YtikmffdmgnjpbaaDlPutP
import Derived.Test.YtikmffdmgnjpbaaPackAC
import Derived.Deep.CutBlock
import Derived.Deep.DeepCutAuto
import Derived.Test.YtikmffdmgnjpbaaPackAA
import Derived.ProofKit
import Derived.OpenShut
import Derived.Carry
import Derived.Handed
import Derived.ChangeMaps5
/- The walk of the law DistanceMore. -/
namespace Go.Proofs.Ytikmffdmgnjpbaa
open Go.RowKit
theorem own_neqT12 {w : World} {B : Nat} {e : TypeId} {sz : Nat} {v : Value} {n : Nat} {xs : List Value} (h : w.ownsRow B e sz v n xs) {g : Nat} {cs : Array Value} {T : TypeId} {fr : Nat × Nat} (hg : w.heap[g]? = some (.cells cs T fr)) (hne : e ≠ T) : ∀ q, v.ownBlock = some q → q ≠ g := by
  intro q h1 h2
  subst h2
  rcases h.2 with ⟨hn, _⟩ | ⟨a, cap, cur, rfl, ha, hgg, rest⟩
  · subst hn; cases h1
  · have e1 : a = q := by injection h1
    subst e1
    rw [hgg] at hg
    injection hg with hg
    injection hg with _ e2 _
    exact hne e2
theorem GOwn.base12 {w : World} {B B' : Nat} {G : Gr} {v : Value} (h : GOwn w B G v) (hb : B' ≤ B) : GOwn w B' G v := by
  obtain ⟨e, g, rfl, h1, h2⟩ := h
  exact ⟨e, g, rfl, own_base h1 hb, own_base h2 hb⟩
theorem GOwn.set12 {w : World} {B : Nat} {G : Gr} {v : Value} (h : GOwn w B G v) {g : Nat} {cs0 : Array Value} {fr : Nat × Nat} (hb : w.heap[g]? = some (.cells cs0 29 fr)) (cs : Array Value) : GOwn (w.setRow g cs) B G v := by
  obtain ⟨e, q, rfl, h1, h2⟩ := h
  exact ⟨e, q, rfl, own_keepL h1 fun b hb' => setRow_other _ _ _ _ (own_neqT12 h1 hb (by decide) b hb'), own_keepL h2 fun b hb' => setRow_other _ _ _ _ (own_neqT12 h2 hb (by decide) b hb')⟩
theorem DS.set12 {w : World} {D P g0 : Nat} {t : List Int} {G : Gr} {A : Option Addr} {n c : Nat} {B : Option Addr} {m k : Nat} {z : World} (h : DS w D P g0 t G A n c B m k z) {g : Nat} {cs0 : Array Value} {fr : Nat × Nat} (hb : z.heap[g]? = some (.cells cs0 29 fr)) (hD : D < g) (hne : g ≠ g0) (cs : Array Value) : DS w D P g0 t G A n c B m k (z.setRow g cs) :=
  { h with
    dice := by obtain ⟨k, hk⟩ := h.dice; exact ⟨k, hk.below (below_setRow (Below.refl _ _) (Nat.le_refl g) cs) hD⟩
    own := h.own.set12 hb cs
    base := below_setRow h.base (by have := h.wd; omega) cs
    box := (setRow_other _ _ _ _ (Ne.symm hne)).trans h.box }
/-- .. and the seeds, and a box with another graph. -/
structure MS (w : World) (D P g0 : Nat) (t : List Int) (G : Gr) (A : Option Addr) (n c : Nat) (B : Option Addr) (m k : Nat) (AS : Option Addr) (cs : Nat) (S : List Int) (g6 : Nat) (K : Gr) (e f : Value) (z : World) : Prop where
  ds : DS w D P g0 t G A n c B m k z
  sd : z.ownsRow (D + 1) 3 1 (.slice AS S.length cs) S.length (intsV S)
  gl : D < g6
  ne : g6 ≠ g0
  bx : z.heap[g6]? = some (.cells #[.int .i64 K.sz, e, f] 29 (0, 0))
  es : z.ownsRow (D + 1) 38 3 e K.es.length (rowC Edg.cells K.es)
  gn : z.ownsRow (D + 1) 3 1 f K.gn.length (intsV K.gn)
section
variable {w : World} {D P g0 : Nat} {t : List Int} {G : Gr} {A : Option Addr} {n c : Nat} {B : Option Addr} {m k : Nat} {AS : Option Addr} {cs : Nat} {S : List Int} {g6 : Nat} {K : Gr} {e f : Value} {z z' : World}
theorem MS.later (h : MS w D P g0 t G A n c B m k AS cs S g6 K e f z) (hb : Below z.heap.size z z') : MS w D P g0 t G A n c B m k AS cs S g6 K e f z' :=
  { h with
    ds := h.ds.later hb
    sd := own_later h.sd hb
    bx := (hb.block _ (Array.getElem?_eq_some_iff.1 h.bx).1).trans h.bx
    es := own_later h.es hb
    gn := own_later h.gn hb }
theorem MS.gave (h : MS w D P g0 t G A n c B m k AS cs S g6 K e f z) (hg : Gave w.heap.size D t z z') : MS w D P g0 t G A n c B m k AS cs S g6 K e f z' :=
  { h with
    ds := h.ds.gave hg
    sd := own_keepL h.sd fun q hq => hg.2.block q (own_lt h.sd q hq) (by have := own_ge h.sd q hq; omega)
    bx := (hg.2.block _ (Array.getElem?_eq_some_iff.1 h.bx).1 (by have := h.gl; omega)).trans h.bx
    es := own_keepL h.es fun q hq => hg.2.block q (own_lt h.es q hq) (by have := own_ge h.es q hq; omega)
    gn := own_keepL h.gn fun q hq => hg.2.block q (own_lt h.gn q hq) (by have := own_ge h.gn q hq; omega) }
theorem MS.hold (h : MS w D P g0 t G A n c B m k AS cs S g6 K e f z) : GHold z K (.agg #[.int .i64 K.sz, e, f]) := GOwn.hold (B := D + 1) ⟨_, _, rfl, h.es, h.gn⟩
theorem MS.set (h : MS w D P g0 t G A n c B m k AS cs S g6 K e f z) {g : Nat} {cs0 : Array Value} {fr : Nat × Nat} (hb : z.heap[g]? = some (.cells cs0 29 fr)) (hD : D < g) (hne : g ≠ g0) (hn6 : g ≠ g6) (cells : Array Value) : MS w D P g0 t G A n c B m k AS cs S g6 K e f (z.setRow g cells) :=
  { h with
    ds := h.ds.set12 hb hD hne cells
    sd := own_keepL h.sd fun b hb' => setRow_other _ _ _ _ (own_neqT12 h.sd hb (by decide) b hb')
    bx := (setRow_other _ _ _ _ (Ne.symm hn6)).trans h.bx
    es := own_keepL h.es fun b hb' => setRow_other _ _ _ _ (own_neqT12 h.es hb (by decide) b hb')
    gn := own_keepL h.gn fun b hb' => setRow_other _ _ _ _ (own_neqT12 h.gn hb (by decide) b hb') }
theorem MS.turn (h : MS w D P g0 t G A n c B m k AS cs S g6 K e f z) {K' : Gr} {e' f' : Value} (h1 : z.ownsRow (D + 1) 38 3 e' K'.es.length (rowC Edg.cells K'.es)) (h2 : z.ownsRow (D + 1) 3 1 f' K'.gn.length (intsV K'.gn)) : MS w D P g0 t G A n c B m k AS cs S g6 K' e' f' (z.setRow g6 #[.int .i64 K'.sz, e', f']) :=
  { ds := h.ds.set12 h.bx h.gl h.ne _
    sd := own_keepL h.sd fun b hb' => setRow_other _ _ _ _ (own_neqT12 h.sd h.bx (by decide) b hb')
    gl := h.gl
    ne := h.ne
    bx := setRow_heap _ _ _ _ _ _ h.bx
    es := own_keepL h1 fun b hb' => setRow_other _ _ _ _ (own_neqT12 h1 h.bx (by decide) b hb')
    gn := own_keepL h2 fun b hb' => setRow_other _ _ _ _ (own_neqT12 h2 h.bx (by decide) b hb') }
end
/-- No farther than in G. -/
def MO (G : Gr) (S : List Int) (K : Gr) : Prop := Good11 K ∧ K.sz = G.sz ∧ ∀ k : Int, 0 ≤ k → k < G.sz → 0 ≤ dAt (allD G S) k → 0 ≤ dAt (allD K S) k ∧ dAt (allD K S) k ≤ dAt (allD G S) k
theorem MO.refl {G : Gr} {S : List Int} (h : Good11 G) : MO G S G := ⟨h, rfl, fun _ _ _ h => ⟨h, Int.le_refl _⟩⟩
theorem MO.edge {G : Gr} {S : List Int} {e : Edg} (h : (withG G e).2 = 0) : MO G S (withG G e).1 := by
  obtain ⟨-, h2, h3, -⟩ := with_good h
  exact ⟨h2, by rw [h3], fun k h0 h1 h4 => more_edge h h0 h1 h4⟩
/-- .. and three distances. -/
structure L3 (w : World) (D P g0 : Nat) (t : List Int) (G : Gr) (A : Option Addr) (n c : Nat) (B : Option Addr) (m k : Nat) (ga gb gc : Nat) (AD BD CD : List Int) (z : World) : Prop where
  ds : DS w D P g0 t G A n c B m k z
  a : IBlk z ga AD
  b : IBlk z gb BD
  c : IBlk z gc CD
theorem L3.later {w : World} {D P g0 : Nat} {t : List Int} {G : Gr} {A : Option Addr} {n c : Nat} {B : Option Addr} {m k : Nat} {ga gb gc : Nat} {AD BD CD : List Int} {z z' : World} (h : L3 w D P g0 t G A n c B m k ga gb gc AD BD CD z) (hb : Below z.heap.size z z') : L3 w D P g0 t G A n c B m k ga gb gc AD BD CD z' :=
  ⟨h.ds.later hb, h.a.later hb, h.b.later hb, h.c.later hb⟩
set_option maxRecDepth 100000 in
set_option maxHeartbeats 40000000 in
theorem dmore_any (TA : Option Addr) (tn tc : Nat) (t : List Int) (w : World) (ht : IRow w TA tn tc t) : Calls Try.prog 5 #[.slice TA tn tc] w (SaysL (.bool true) w) := by
  have HAW : Hid (∀ y, Calls Try.prog 8 #[] y (SaysL (.bool true) y)) := Lib.hid fun y => awake12_any y
  have HT := Lib.hid ht; clear ht
  go_enter Try.func5, Try.ntmps5
  go_wp2_with fail
  refine (light_any TA tn tc w).mono ?_
  rintro e w0 ⟨rfl, rfl⟩
  by_cases hn : tn ≤ 400
  · have gd0 : decide (tn ≤ 400) = true := decide_eq_true hn
    go_wp2_with fail
    clear gd0
    refine (roll_any w.heap.size TA tn tc t w HT.out (by omega) (Nat.le_refl _) (fun ad e h0 => Row.lt HT.out (by decide) ad e h0)).mono ?_
    rintro e w1 ⟨rfl, hd, hb⟩
    obtain ⟨D, hD⟩ : ∃ D, D = w.heap.size := ⟨_, rfl⟩
    have HD : Hid (∃ kd, DiceAt w1 w.heap.size D t kd) := Lib.hid ⟨0, by rw [hD]; exact hd⟩
    have HB := Lib.hid hb
    have HDD : Hid (w.heap.size = D) := Lib.hid hD.symm
    rw [← hD]
    clear hd hb hD HT
    go_wp2_with fail
    refine (ggraph_g w.heap.size D t w1 HD.out).mono ?_
    rintro e w2 ⟨v0, G, rfl, ho, hgd, hsz, hone, hg⟩
    have HDP : Hid (D < w1.heap.size) := Lib.hid (by obtain ⟨kd, hk⟩ := HD.out; exact hk.lt)
    have HGD := Lib.hid hgd; have hsz2 := hsz; have hs64 := hgd.hi
    obtain ⟨A, n, c, B, m, k, hve, -, -⟩ := ho.hold
    subst hve
    have hb2 := one_new w2 (.cells #[.int .i64 G.sz, .slice A n c, .slice B m k] 29)
    have HDS : Hid (DS w D w1.heap.size w2.heap.size t G A n c B m k (w2.alloc (.cells #[.int .i64 G.sz, .slice A n c, .slice B m k] 29))) := Lib.hid
      ⟨by obtain ⟨kd, hk⟩ := hg.1; exact ⟨kd, hk.later hb2⟩, ho.later hb2, (HB.out.trans (hg.2.below (by have := HDD.out; omega) HB.out.size)).trans (hb2.mono (Nat.le_trans HB.out.size hg.2.size)), heap_alloc_new _ _, by have := HDD.out; omega, HDP.out, by have := HDP.out; have := hg.2.size; omega⟩
    clear hgd hsz hone hg ho hb2 HD HB
    go_upto_region 5 with (refine wpList_store_new rfl 29 (.tmp 4) (.tmp 20) rfl 29 _ #[.int .i64 G.sz, .slice A n c, .slice B m k] rfl rfl gr_size rfl (by simp [Value.oneCell']) ?_)
    generalize w2.alloc (.cells #[.int .i64 G.sz, .slice A n c, .slice B m k] 29) = y0 at *
    generalize w2.heap.size = g0 at *
    generalize w1.heap.size = P at *
    try dsimp only [Act.put]
    clear HDP
    obtain ⟨sz, hszn⟩ : ∃ sz : Nat, G.sz = (sz : Int) := ⟨G.sz.toNat, by omega⟩
    have HSN := Lib.hid hszn
    have hsn64 : sz ≤ 64 := by omega
    have hsn2 : 2 ≤ sz := by omega
    clear hszn hsz2 hs64
    have hz0 : y0.cell? ⟨g0, 0, none⟩ = some (.int .i64 (sz : Int)) := by rw [← HSN.out]; exact (cell_of_row _ _ 0 _ _ _ HDS.out.box).trans rfl
    go_wp2_with fail
    clear hz0
    refine (some_g12 w.heap.size D t sz y0 HDS.out.dice (by omega)).mono ?_
    rintro e y1 ⟨v1, S, rfl, ho, hsl, hg⟩
    have hlt0 : D + 1 ≤ y0.heap.size := HDS.out.lt
    obtain ⟨AS, cs, rfl, -⟩ := Row.of_own ho
    have HSD := Lib.hid (own_base ho hlt0)
    replace HDS := Lib.hid (HDS.out.gave hg)
    have hsl64 : S.length ≤ 64 := by omega
    clear hg ho hsl hlt0
    have hb := one_new y1 (.cells #[.int .i64 G.sz, .slice A n c, .slice B m k] 29)
    have HBX := Lib.hid HDS.out.box
    have HS : Hid (MS w D P g0 t G A n c B m k AS cs S y1.heap.size G (.slice A n c) (.slice B m k) (y1.alloc (.cells #[.int .i64 G.sz, .slice A n c, .slice B m k] 29))) := Lib.hid (by
      obtain ⟨e1, q1, he, h1, h2⟩ := HDS.out.own.base12 (B' := D + 1) HDS.out.dp
      have hl := (Array.getElem?_eq_some_iff.1 HDS.out.box).1
      injection he with he
      simp only [Array.mk.injEq, List.cons.injEq, and_true, true_and] at he
      obtain ⟨rfl, rfl⟩ := he
      exact { ds := HDS.out.later hb, sd := own_later HSD.out hb, gl := HDS.out.lt, ne := by omega, bx := heap_alloc_new _ _, es := own_later h1 hb, gn := own_later h2 hb })
    clear hb HDS HSD
    go_upto_region 7 with (first | (refine wpList_load_row rfl 29 (.tmp 4) rfl g0 rfl 29 #[.int .i64 G.sz, .slice A n c, .slice B m k] (0, 0) _ HBX.out Try.underlying29 rfl gr_size ?_) | (refine wpList_store_new rfl 29 (.tmp 6) (.tmp 25) rfl 29 _ #[.int .i64 G.sz, .slice A n c, .slice B m k] rfl rfl gr_size rfl (by simp [Value.oneCell']) ?_))
    clear HBX
    generalize y1.alloc (.cells #[.int .i64 G.sz, .slice A n c, .slice B m k] 29) = y2 at *
    generalize y1.heap.size = g6 at *
    try dsimp only [Act.put]
    go_cut [7, 8] (fun v7 v8 wx => ∃ (g7 : Nat) (K : Gr) (e2 f2 : Value) (er : Int), v7 = .pointer (some ⟨g7, 0, none⟩) ∧ v8 = .int .i64 er ∧ Hid (MS w D P g0 t G A n c B m k AS cs S g6 G (.slice A n c) (.slice B m k) wx ∧ wx.heap[g7]? = some (.cells #[.int .i64 K.sz, e2, f2] 29 (0, 0)) ∧ wx.ownsRow (D + 1) 38 3 e2 K.es.length (rowC Edg.cells K.es) ∧ wx.ownsRow (D + 1) 3 1 f2 K.gn.length (intsV K.gn) ∧ (er = 0 → MO G S K)))
    case first =>
      obtain ⟨n0, hn0⟩ : ∃ n0, y2.drew.heap.size = n0 := ⟨_, rfl⟩
      refine wp_region_flow (by kernel_rfl) (BN D n0) ?_
      replace HS := Lib.hid (HS.out.later (Below.refl _ _).drew)
      have HN : Hid (n0 ≤ y2.drew.heap.size) := Lib.hid (Nat.le_of_eq hn0.symm)
      have HGN : Hid (g0 < n0 ∧ D < g0) := Lib.hid (by rw [← hn0]; exact ⟨(Array.getElem?_eq_some_iff.1 HS.out.ds.box).1, HS.out.ds.dg⟩)
      have HG6 : Hid (g6 < n0 ∧ D < g6) := Lib.hid (by rw [← hn0]; exact ⟨(Array.getElem?_eq_some_iff.1 HS.out.bx).1, HS.out.gl⟩)
      clear hn0
      generalize y2.drew = z0 at *
      have HLA : Hid (G.es.length ≤ 100000) := Lib.hid HGD.out.few.1
      have HLB : Hid (G.gn.length ≤ 100000) := Lib.hid HGD.out.few.2
      have hfg : ∀ x, (loadVar 29 ⟨g0, 0, none⟩).run Try.prog (fut (BN D n0) z0 x) = .ok (.agg #[.int .i64 G.sz, .slice A n c, .slice B m k]) (fut (BN D n0) z0 x) := fun x => run_loadVar_row _ g0 29 29 #[.int .i64 G.sz, .slice A n c, .slice B m k] (0, 0) _ (((fut_ok (BN.refl D n0) z0 x).keep g0 HGN.out.1 (by have := HGN.out.2; omega)).trans HS.out.ds.box) Try.underlying29 rfl gr_size
      have hfz : ∀ x, (fut (BN D n0) z0 x).cell? ⟨g0, 0, none⟩ = some (.int .i64 (sz : Int)) := fun x => by rw [← HSN.out]; exact (cell_of_row _ _ 0 _ _ _ (((fut_ok (BN.refl D n0) z0 x).keep g0 HGN.out.1 (by have := HGN.out.2; omega)).trans HS.out.ds.box)).trans rfl
      refine flow_reads (F := BN D n0) (fun _ => BN.refl _ _ _) (by kernel_rfl) [0, 1, 2, 3, 5, 6, 7] (fuel := 10) (by kernel_rfl) ?_
      simp only [List.map_cons, List.map_nil, pick, List.getD_cons_zero, List.getD_cons_succ]
      repeat (first | (refine wpQuiet_load rfl 29 (.tmp 4) rfl ⟨g0, 0, none⟩ rfl (.agg #[.int .i64 G.sz, .slice A n c, .slice B m k]) (fun w' h => by obtain ⟨x, rfl⟩ := h; exact hfg x) ?_; simp only [Act.put, List.setIfInBounds_toArray, List.set_cons_succ, List.set_cons_zero]) | go_big_quiet_step (fail))
      refine wpQuiet_nil ?_
      clear hfg hfz
      refine flow_two (F := BN D n0) (fun _ _ _ => BN.trans) (fun _ => BN.refl _ _ _) 4 14 (by kernel_rfl) (by decide) (by decide) ?_ ?_ <;> simp only [pick, List.getD_cons_zero, List.getD_cons_succ]
      · skip
        go_wp2_with fail
        refine (next_g w.heap.size D t (sz : Int) z0 HS.out.ds.dice (by omega) (by omega)).mono ?_
        rintro e z1 ⟨v0, rfl, hv00, hv01, hg⟩
        have HF : Hid (BN D n0 z0 z1) := Lib.hid (BN.but hg.2 HN.out)
        replace HN := Lib.hid (Nat.le_trans HN.out hg.2.size)
        replace HS := Lib.hid (HS.out.gave hg)
        clear hg
        go_wp2_with fail
        refine pieceEnd_normal ⟨HF.out, ?_⟩
        clear HF
        refine flow_two (F := BN D n0) (fun _ _ _ => BN.trans) (fun _ => BN.refl _ _ _) 8 14 (by kernel_rfl) (by decide) (by decide) ?_ ?_ <;> simp only [pick, List.getD_cons_zero, List.getD_cons_succ]
        · skip
          go_wp2_with fail
          refine (next_g w.heap.size D t (sz : Int) z1 HS.out.ds.dice (by omega) (by omega)).mono ?_
          rintro e z2 ⟨v1, rfl, hv10, hv11, hg⟩
          have HF : Hid (BN D n0 z1 z2) := Lib.hid (BN.but hg.2 HN.out)
          replace HN := Lib.hid (Nat.le_trans HN.out hg.2.size)
          replace HS := Lib.hid (HS.out.gave hg)
          clear hg
          go_wp2_with fail
          refine pieceEnd_normal ⟨HF.out, ?_⟩
          clear HF
          refine flow_val (F := BN D n0) (fun _ => BN.refl _ _ _) (by kernel_rfl) 9 (by kernel_rfl) ?_
          simp only [pick, List.getD_cons_zero, List.getD_cons_succ]
          repeat (go_big_quiet_step (fail))
          refine wpQuiet_nil ?_
          refine flow_two (F := BN D n0) (fun _ _ _ => BN.trans) (fun _ => BN.refl _ _ _) 10 14 (by kernel_rfl) (by decide) (by decide) ?_ ?_ <;> simp only [pick, List.getD_cons_zero, List.getD_cons_succ]
          · skip
            have HWC : Hid (Calls Try.prog 19 #[.agg #[.int .i64 G.sz, .slice A n c, .slice B m k], .agg #[.int .i64 v0, .int .i64 v1, .int .i64 1]] z2 (GivesGOE z2 (withG G ⟨v0, v1, 1⟩))) := Lib.hid (gwith_any G _ ⟨v0, v1, 1⟩ z2 HS.out.ds.hold HLA.out HLB.out)
            have HRW : Hid ((withG G ⟨v0, v1, 1⟩).2 = 0 → MO G S (withG G ⟨v0, v1, 1⟩).1) := Lib.hid fun h => MO.edge h
            generalize withG G ⟨v0, v1, 1⟩ = RW at *
            go_wp2_with fail
            refine HWC.out.mono ?_
            clear HWC
            rintro e z3 ⟨vv, rfl, ⟨e5, w5, rfl, ho1, ho2⟩, hb⟩
            have HF : Hid (BN D n0 z2 z3) := Lib.hid (BN.later hb HN.out)
            obtain ⟨A5, c5, rfl, -⟩ := Row.of_own ho1
            obtain ⟨B5, k5, rfl, -⟩ := Row.of_own ho2
            have HO1 := Lib.hid (own_base ho1 (show D + 1 ≤ z2.heap.size from HS.out.ds.lt))
            have HO2 := Lib.hid (own_base ho2 (show D + 1 ≤ z2.heap.size from HS.out.ds.lt))
            replace HN := Lib.hid (Nat.le_trans HN.out hb.size)
            replace HS := Lib.hid (HS.out.later hb)
            clear hb ho1 ho2
            go_wp2_with fail
            refine pieceEnd_normal ⟨HF.out, ?_⟩
            clear HF
            refine flow_reads (F := BN D n0) (fun _ => BN.refl _ _ _) (by kernel_rfl) [11, 12, 13] (fuel := 3) (by kernel_rfl) ?_
            simp only [List.map_cons, List.map_nil, pick, List.getD_cons_zero, List.getD_cons_succ]
            repeat (go_big_quiet_step (fail))
            refine wpQuiet_nil ?_
            refine flow_one (F := BN D n0) (fun _ _ _ => BN.trans) (fun _ => BN.refl _ _ _) 14 (by kernel_rfl) (by decide) ?_
            simp only [pick, List.getD_cons_zero, List.getD_cons_succ]
            go_wp2_with fail
            have hb := one_new z3 (.cells #[.int .i64 0, .slice none 0 0, .slice none 0 0] 29)
            refine pieceEnd_normal ⟨BN.later hb HN.out, ?_⟩
            have HA : Hid ((z3.alloc (.cells #[.int .i64 0, .slice none 0 0, .slice none 0 0] 29)).heap[z3.heap.size]? = some (.cells #[.int .i64 0, .slice none 0 0, .slice none 0 0] 29 (0, 0))) := Lib.hid (heap_alloc_new _ _)
            have hg7 : n0 ≤ z3.heap.size := HN.out
            replace HS := Lib.hid (HS.out.later hb)
            replace HN := Lib.hid (Nat.le_trans HN.out hb.size)
            clear hb
            replace HO1 := Lib.hid (own_later HO1.out (one_new z3 (.cells #[.int .i64 0, .slice none 0 0, .slice none 0 0] 29)))
            replace HO2 := Lib.hid (own_later HO2.out (one_new z3 (.cells #[.int .i64 0, .slice none 0 0, .slice none 0 0] 29)))
            generalize z3.alloc (.cells #[.int .i64 0, .slice none 0 0, .slice none 0 0] 29) = z4 at *
            generalize z3.heap.size = g7 at *
            refine flow_one (F := BN D n0) (fun _ _ _ => BN.trans) (fun _ => BN.refl _ _ _) 15 (by kernel_rfl) (by decide) ?_
            simp only [pick, List.getD_cons_zero, List.getD_cons_succ]
            go_wp2_with (refine wpList_store_row rfl 29 (.tmp 7) (.tmp 38) rfl g7 #[.int .i64 RW.1.sz, .slice A5 RW.1.es.length c5, .slice B5 RW.1.gn.length k5] rfl rfl 29 _ HA.out gr_size rfl (by simp [Value.oneCell']) ?_)
            refine pieceEnd_normal ⟨BN.row _ _ hg7, ?_⟩
            have HA5 := Lib.hid (setRow_heap z4 g7 _ #[.int .i64 RW.1.sz, .slice A5 RW.1.es.length c5, .slice B5 RW.1.gn.length k5] _ _ HA.out)
            replace HO1 := Lib.hid (own_keepL HO1.out fun q hq => setRow_other z4 g7 q #[.int .i64 RW.1.sz, .slice A5 RW.1.es.length c5, .slice B5 RW.1.gn.length k5] (own_neqT12 HO1.out HA.out (by decide) q hq))
            replace HO2 := Lib.hid (own_keepL HO2.out fun q hq => setRow_other z4 g7 q #[.int .i64 RW.1.sz, .slice A5 RW.1.es.length c5, .slice B5 RW.1.gn.length k5] (own_neqT12 HO2.out HA.out (by decide) q hq))
            replace HS := Lib.hid (HS.out.set HA.out (by have := HGN.out; omega) (by have := HGN.out; omega) (by have := HG6.out; omega) #[.int .i64 RW.1.sz, .slice A5 RW.1.es.length c5, .slice B5 RW.1.gn.length k5])
            clear HA HN
            generalize z4.setRow g7 #[.int .i64 RW.1.sz, .slice A5 RW.1.es.length c5, .slice B5 RW.1.gn.length k5] = zz at *
            refine flow_reads (F := BN D n0) (fun _ => BN.refl _ _ _) (by kernel_rfl) [16] (fuel := 0) (by kernel_rfl) ?_
            simp only [List.map_cons, List.map_nil, pick, List.getD_cons_zero, List.getD_cons_succ]
            repeat (go_big_quiet_step (fail))
            refine wpQuiet_nil ?_
            refine flow_done (by kernel_rfl) ?_
            go_wp2_with fail
            go_meet
            exact ⟨g7, RW.1, _, _, RW.2, rfl, rfl, Lib.hid ⟨HS.out, HA5.out, HO1.out, HO2.out, HRW.out⟩⟩
          · skip
            go_wp2_with fail
            have hb := one_new z2 (.cells #[.int .i64 0, .slice none 0 0, .slice none 0 0] 29)
            refine pieceEnd_normal ⟨BN.later hb HN.out, ?_⟩
            have HA : Hid ((z2.alloc (.cells #[.int .i64 0, .slice none 0 0, .slice none 0 0] 29)).heap[z2.heap.size]? = some (.cells #[.int .i64 0, .slice none 0 0, .slice none 0 0] 29 (0, 0))) := Lib.hid (heap_alloc_new _ _)
            have hg7 : n0 ≤ z2.heap.size := HN.out
            replace HS := Lib.hid (HS.out.later hb)
            replace HN := Lib.hid (Nat.le_trans HN.out hb.size)
            clear hb
            generalize z2.alloc (.cells #[.int .i64 0, .slice none 0 0, .slice none 0 0] 29) = z5 at *
            generalize z2.heap.size = g7 at *
            refine flow_one (F := BN D n0) (fun _ _ _ => BN.trans) (fun _ => BN.refl _ _ _) 10 (by kernel_rfl) (by decide) ?_
            simp only [pick, List.getD_cons_zero, List.getD_cons_succ]
            have HWC : Hid (Calls Try.prog 19 #[.agg #[.int .i64 G.sz, .slice A n c, .slice B m k], .agg #[.int .i64 v0, .int .i64 v1, .int .i64 1]] z5 (GivesGOE z5 (withG G ⟨v0, v1, 1⟩))) := Lib.hid (gwith_any G _ ⟨v0, v1, 1⟩ z5 HS.out.ds.hold HLA.out HLB.out)
            have HRW : Hid ((withG G ⟨v0, v1, 1⟩).2 = 0 → MO G S (withG G ⟨v0, v1, 1⟩).1) := Lib.hid fun h => MO.edge h
            generalize withG G ⟨v0, v1, 1⟩ = RW at *
            go_wp2_with fail
            refine HWC.out.mono ?_
            clear HWC
            rintro e z6 ⟨vv, rfl, ⟨e5, w5, rfl, ho1, ho2⟩, hb⟩
            have HF : Hid (BN D n0 z5 z6) := Lib.hid (BN.later hb HN.out)
            obtain ⟨A5, c5, rfl, -⟩ := Row.of_own ho1
            obtain ⟨B5, k5, rfl, -⟩ := Row.of_own ho2
            have HO1 := Lib.hid (own_base ho1 (show D + 1 ≤ z5.heap.size from HS.out.ds.lt))
            have HO2 := Lib.hid (own_base ho2 (show D + 1 ≤ z5.heap.size from HS.out.ds.lt))
            replace HN := Lib.hid (Nat.le_trans HN.out hb.size)
            replace HA : Hid (z6.heap[g7]? = some (.cells #[.int .i64 0, .slice none 0 0, .slice none 0 0] 29 (0, 0))) := Lib.hid ((hb.block g7 (Array.getElem?_eq_some_iff.1 HA.out).1).trans HA.out)
            replace HS := Lib.hid (HS.out.later hb)
            clear hb ho1 ho2
            go_wp2_with fail
            refine pieceEnd_normal ⟨HF.out, ?_⟩
            clear HF
            refine flow_reads (F := BN D n0) (fun _ => BN.refl _ _ _) (by kernel_rfl) [11, 12, 13] (fuel := 2) (by kernel_rfl) ?_
            simp only [List.map_cons, List.map_nil, pick, List.getD_cons_zero, List.getD_cons_succ]
            repeat (go_big_quiet_step (fail))
            refine wpQuiet_nil ?_
            refine flow_one (F := BN D n0) (fun _ _ _ => BN.trans) (fun _ => BN.refl _ _ _) 15 (by kernel_rfl) (by decide) ?_
            simp only [pick, List.getD_cons_zero, List.getD_cons_succ]
            go_wp2_with (refine wpList_store_row rfl 29 (.tmp 7) (.tmp 38) rfl g7 #[.int .i64 RW.1.sz, .slice A5 RW.1.es.length c5, .slice B5 RW.1.gn.length k5] rfl rfl 29 _ HA.out gr_size rfl (by simp [Value.oneCell']) ?_)
            refine pieceEnd_normal ⟨BN.row _ _ hg7, ?_⟩
            have HA5 := Lib.hid (setRow_heap z6 g7 _ #[.int .i64 RW.1.sz, .slice A5 RW.1.es.length c5, .slice B5 RW.1.gn.length k5] _ _ HA.out)
            replace HO1 := Lib.hid (own_keepL HO1.out fun q hq => setRow_other z6 g7 q #[.int .i64 RW.1.sz, .slice A5 RW.1.es.length c5, .slice B5 RW.1.gn.length k5] (own_neqT12 HO1.out HA.out (by decide) q hq))
            replace HO2 := Lib.hid (own_keepL HO2.out fun q hq => setRow_other z6 g7 q #[.int .i64 RW.1.sz, .slice A5 RW.1.es.length c5, .slice B5 RW.1.gn.length k5] (own_neqT12 HO2.out HA.out (by decide) q hq))
            replace HS := Lib.hid (HS.out.set HA.out (by have := HGN.out; omega) (by have := HGN.out; omega) (by have := HG6.out; omega) #[.int .i64 RW.1.sz, .slice A5 RW.1.es.length c5, .slice B5 RW.1.gn.length k5])
            clear HA HN
            generalize z6.setRow g7 #[.int .i64 RW.1.sz, .slice A5 RW.1.es.length c5, .slice B5 RW.1.gn.length k5] = zz at *
            refine flow_reads (F := BN D n0) (fun _ => BN.refl _ _ _) (by kernel_rfl) [16] (fuel := 0) (by kernel_rfl) ?_
            simp only [List.map_cons, List.map_nil, pick, List.getD_cons_zero, List.getD_cons_succ]
            repeat (go_big_quiet_step (fail))
            refine wpQuiet_nil ?_
            refine flow_done (by kernel_rfl) ?_
            go_wp2_with fail
            go_meet
            exact ⟨g7, RW.1, _, _, RW.2, rfl, rfl, Lib.hid ⟨HS.out, HA5.out, HO1.out, HO2.out, HRW.out⟩⟩
        · skip
          go_wp2_with fail
          have hb := one_new z1 (.cells #[.int .i64 0, .slice none 0 0, .slice none 0 0] 29)
          refine pieceEnd_normal ⟨BN.later hb HN.out, ?_⟩
          have HA : Hid ((z1.alloc (.cells #[.int .i64 0, .slice none 0 0, .slice none 0 0] 29)).heap[z1.heap.size]? = some (.cells #[.int .i64 0, .slice none 0 0, .slice none 0 0] 29 (0, 0))) := Lib.hid (heap_alloc_new _ _)
          have hg7 : n0 ≤ z1.heap.size := HN.out
          replace HS := Lib.hid (HS.out.later hb)
          replace HN := Lib.hid (Nat.le_trans HN.out hb.size)
          clear hb
          generalize z1.alloc (.cells #[.int .i64 0, .slice none 0 0, .slice none 0 0] 29) = z7 at *
          generalize z1.heap.size = g7 at *
          refine flow_one (F := BN D n0) (fun _ _ _ => BN.trans) (fun _ => BN.refl _ _ _) 8 (by kernel_rfl) (by decide) ?_
          simp only [pick, List.getD_cons_zero, List.getD_cons_succ]
          go_wp2_with fail
          refine (next_g w.heap.size D t (sz : Int) z7 HS.out.ds.dice (by omega) (by omega)).mono ?_
          rintro e z8 ⟨v1, rfl, hv10, hv11, hg⟩
          have HF : Hid (BN D n0 z7 z8) := Lib.hid (BN.but hg.2 HN.out)
          replace HN := Lib.hid (Nat.le_trans HN.out hg.2.size)
          replace HA : Hid (z8.heap[g7]? = some (.cells #[.int .i64 0, .slice none 0 0, .slice none 0 0] 29 (0, 0))) := Lib.hid ((hg.2.block g7 (Array.getElem?_eq_some_iff.1 HA.out).1 (by have := HGN.out; omega)).trans HA.out)
          replace HS := Lib.hid (HS.out.gave hg)
          clear hg
          go_wp2_with fail
          refine pieceEnd_normal ⟨HF.out, ?_⟩
          clear HF
          refine flow_val (F := BN D n0) (fun _ => BN.refl _ _ _) (by kernel_rfl) 9 (by kernel_rfl) ?_
          simp only [pick, List.getD_cons_zero, List.getD_cons_succ]
          repeat (go_big_quiet_step (fail))
          refine wpQuiet_nil ?_
          refine flow_one (F := BN D n0) (fun _ _ _ => BN.trans) (fun _ => BN.refl _ _ _) 10 (by kernel_rfl) (by decide) ?_
          simp only [pick, List.getD_cons_zero, List.getD_cons_succ]
          have HWC : Hid (Calls Try.prog 19 #[.agg #[.int .i64 G.sz, .slice A n c, .slice B m k], .agg #[.int .i64 v0, .int .i64 v1, .int .i64 1]] z8 (GivesGOE z8 (withG G ⟨v0, v1, 1⟩))) := Lib.hid (gwith_any G _ ⟨v0, v1, 1⟩ z8 HS.out.ds.hold HLA.out HLB.out)
          have HRW : Hid ((withG G ⟨v0, v1, 1⟩).2 = 0 → MO G S (withG G ⟨v0, v1, 1⟩).1) := Lib.hid fun h => MO.edge h
          generalize withG G ⟨v0, v1, 1⟩ = RW at *
          go_wp2_with fail
          refine HWC.out.mono ?_
          clear HWC
          rintro e z9 ⟨vv, rfl, ⟨e5, w5, rfl, ho1, ho2⟩, hb⟩
          have HF : Hid (BN D n0 z8 z9) := Lib.hid (BN.later hb HN.out)
          obtain ⟨A5, c5, rfl, -⟩ := Row.of_own ho1
          obtain ⟨B5, k5, rfl, -⟩ := Row.of_own ho2
          have HO1 := Lib.hid (own_base ho1 (show D + 1 ≤ z8.heap.size from HS.out.ds.lt))
          have HO2 := Lib.hid (own_base ho2 (show D + 1 ≤ z8.heap.size from HS.out.ds.lt))
          replace HN := Lib.hid (Nat.le_trans HN.out hb.size)
          replace HA : Hid (z9.heap[g7]? = some (.cells #[.int .i64 0, .slice none 0 0, .slice none 0 0] 29 (0, 0))) := Lib.hid ((hb.block g7 (Array.getElem?_eq_some_iff.1 HA.out).1).trans HA.out)
          replace HS := Lib.hid (HS.out.later hb)
          clear hb ho1 ho2
          go_wp2_with fail
          refine pieceEnd_normal ⟨HF.out, ?_⟩
          clear HF
          refine flow_reads (F := BN D n0) (fun _ => BN.refl _ _ _) (by kernel_rfl) [11, 12, 13] (fuel := 2) (by kernel_rfl) ?_
          simp only [List.map_cons, List.map_nil, pick, List.getD_cons_zero, List.getD_cons_succ]
          repeat (go_big_quiet_step (fail))
          refine wpQuiet_nil ?_
          refine flow_one (F := BN D n0) (fun _ _ _ => BN.trans) (fun _ => BN.refl _ _ _) 15 (by kernel_rfl) (by decide) ?_
          simp only [pick, List.getD_cons_zero, List.getD_cons_succ]
          go_wp2_with (refine wpList_store_row rfl 29 (.tmp 7) (.tmp 38) rfl g7 #[.int .i64 RW.1.sz, .slice A5 RW.1.es.length c5, .slice B5 RW.1.gn.length k5] rfl rfl 29 _ HA.out gr_size rfl (by simp [Value.oneCell']) ?_)
          refine pieceEnd_normal ⟨BN.row _ _ hg7, ?_⟩
          have HA5 := Lib.hid (setRow_heap z9 g7 _ #[.int .i64 RW.1.sz, .slice A5 RW.1.es.length c5, .slice B5 RW.1.gn.length k5] _ _ HA.out)
          replace HO1 := Lib.hid (own_keepL HO1.out fun q hq => setRow_other z9 g7 q #[.int .i64 RW.1.sz, .slice A5 RW.1.es.length c5, .slice B5 RW.1.gn.length k5] (own_neqT12 HO1.out HA.out (by decide) q hq))
          replace HO2 := Lib.hid (own_keepL HO2.out fun q hq => setRow_other z9 g7 q #[.int .i64 RW.1.sz, .slice A5 RW.1.es.length c5, .slice B5 RW.1.gn.length k5] (own_neqT12 HO2.out HA.out (by decide) q hq))
          replace HS := Lib.hid (HS.out.set HA.out (by have := HGN.out; omega) (by have := HGN.out; omega) (by have := HG6.out; omega) #[.int .i64 RW.1.sz, .slice A5 RW.1.es.length c5, .slice B5 RW.1.gn.length k5])
          clear HA HN
          generalize z9.setRow g7 #[.int .i64 RW.1.sz, .slice A5 RW.1.es.length c5, .slice B5 RW.1.gn.length k5] = zz at *
          refine flow_reads (F := BN D n0) (fun _ => BN.refl _ _ _) (by kernel_rfl) [16] (fuel := 0) (by kernel_rfl) ?_
          simp only [List.map_cons, List.map_nil, pick, List.getD_cons_zero, List.getD_cons_succ]
          repeat (go_big_quiet_step (fail))
          refine wpQuiet_nil ?_
          refine flow_done (by kernel_rfl) ?_
          go_wp2_with fail
          go_meet
          exact ⟨g7, RW.1, _, _, RW.2, rfl, rfl, Lib.hid ⟨HS.out, HA5.out, HO1.out, HO2.out, HRW.out⟩⟩
      · skip
        go_wp2_with fail
        have hb := one_new z0 (.cells #[.int .i64 0, .slice none 0 0, .slice none 0 0] 29)
        refine pieceEnd_normal ⟨BN.later hb HN.out, ?_⟩
        have HA : Hid ((z0.alloc (.cells #[.int .i64 0, .slice none 0 0, .slice none 0 0] 29)).heap[z0.heap.size]? = some (.cells #[.int .i64 0, .slice none 0 0, .slice none 0 0] 29 (0, 0))) := Lib.hid (heap_alloc_new _ _)
        have hg7 : n0 ≤ z0.heap.size := HN.out
        replace HS := Lib.hid (HS.out.later hb)
        replace HN := Lib.hid (Nat.le_trans HN.out hb.size)
        clear hb
        generalize z0.alloc (.cells #[.int .i64 0, .slice none 0 0, .slice none 0 0] 29) = z10 at *
        generalize z0.heap.size = g7 at *
        refine flow_one (F := BN D n0) (fun _ _ _ => BN.trans) (fun _ => BN.refl _ _ _) 4 (by kernel_rfl) (by decide) ?_
        simp only [pick, List.getD_cons_zero, List.getD_cons_succ]
        go_wp2_with fail
        refine (next_g w.heap.size D t (sz : Int) z10 HS.out.ds.dice (by omega) (by omega)).mono ?_
        rintro e z11 ⟨v0, rfl, hv00, hv01, hg⟩
        have HF : Hid (BN D n0 z10 z11) := Lib.hid (BN.but hg.2 HN.out)
        replace HN := Lib.hid (Nat.le_trans HN.out hg.2.size)
        replace HA : Hid (z11.heap[g7]? = some (.cells #[.int .i64 0, .slice none 0 0, .slice none 0 0] 29 (0, 0))) := Lib.hid ((hg.2.block g7 (Array.getElem?_eq_some_iff.1 HA.out).1 (by have := HGN.out; omega)).trans HA.out)
        replace HS := Lib.hid (HS.out.gave hg)
        clear hg
        go_wp2_with fail
        refine pieceEnd_normal ⟨HF.out, ?_⟩
        clear HF
        refine flow_one (F := BN D n0) (fun _ _ _ => BN.trans) (fun _ => BN.refl _ _ _) 8 (by kernel_rfl) (by decide) ?_
        simp only [pick, List.getD_cons_zero, List.getD_cons_succ]
        go_wp2_with fail
        refine (next_g w.heap.size D t (sz : Int) z11 HS.out.ds.dice (by omega) (by omega)).mono ?_
        rintro e z12 ⟨v1, rfl, hv10, hv11, hg⟩
        have HF : Hid (BN D n0 z11 z12) := Lib.hid (BN.but hg.2 HN.out)
        replace HN := Lib.hid (Nat.le_trans HN.out hg.2.size)
        replace HA : Hid (z12.heap[g7]? = some (.cells #[.int .i64 0, .slice none 0 0, .slice none 0 0] 29 (0, 0))) := Lib.hid ((hg.2.block g7 (Array.getElem?_eq_some_iff.1 HA.out).1 (by have := HGN.out; omega)).trans HA.out)
        replace HS := Lib.hid (HS.out.gave hg)
        clear hg
        go_wp2_with fail
        refine pieceEnd_normal ⟨HF.out, ?_⟩
        clear HF
        refine flow_val (F := BN D n0) (fun _ => BN.refl _ _ _) (by kernel_rfl) 9 (by kernel_rfl) ?_
        simp only [pick, List.getD_cons_zero, List.getD_cons_succ]
        repeat (go_big_quiet_step (fail))
        refine wpQuiet_nil ?_
        refine flow_one (F := BN D n0) (fun _ _ _ => BN.trans) (fun _ => BN.refl _ _ _) 10 (by kernel_rfl) (by decide) ?_
        simp only [pick, List.getD_cons_zero, List.getD_cons_succ]
        have HWC : Hid (Calls Try.prog 19 #[.agg #[.int .i64 G.sz, .slice A n c, .slice B m k], .agg #[.int .i64 v0, .int .i64 v1, .int .i64 1]] z12 (GivesGOE z12 (withG G ⟨v0, v1, 1⟩))) := Lib.hid (gwith_any G _ ⟨v0, v1, 1⟩ z12 HS.out.ds.hold HLA.out HLB.out)
        have HRW : Hid ((withG G ⟨v0, v1, 1⟩).2 = 0 → MO G S (withG G ⟨v0, v1, 1⟩).1) := Lib.hid fun h => MO.edge h
        generalize withG G ⟨v0, v1, 1⟩ = RW at *
        go_wp2_with fail
        refine HWC.out.mono ?_
        clear HWC
        rintro e z13 ⟨vv, rfl, ⟨e5, w5, rfl, ho1, ho2⟩, hb⟩
        have HF : Hid (BN D n0 z12 z13) := Lib.hid (BN.later hb HN.out)
        obtain ⟨A5, c5, rfl, -⟩ := Row.of_own ho1
        obtain ⟨B5, k5, rfl, -⟩ := Row.of_own ho2
        have HO1 := Lib.hid (own_base ho1 (show D + 1 ≤ z12.heap.size from HS.out.ds.lt))
        have HO2 := Lib.hid (own_base ho2 (show D + 1 ≤ z12.heap.size from HS.out.ds.lt))
        replace HN := Lib.hid (Nat.le_trans HN.out hb.size)
        replace HA : Hid (z13.heap[g7]? = some (.cells #[.int .i64 0, .slice none 0 0, .slice none 0 0] 29 (0, 0))) := Lib.hid ((hb.block g7 (Array.getElem?_eq_some_iff.1 HA.out).1).trans HA.out)
        replace HS := Lib.hid (HS.out.later hb)
        clear hb ho1 ho2
        go_wp2_with fail
        refine pieceEnd_normal ⟨HF.out, ?_⟩
        clear HF
        refine flow_reads (F := BN D n0) (fun _ => BN.refl _ _ _) (by kernel_rfl) [11, 12, 13] (fuel := 2) (by kernel_rfl) ?_
        simp only [List.map_cons, List.map_nil, pick, List.getD_cons_zero, List.getD_cons_succ]
        repeat (go_big_quiet_step (fail))
        refine wpQuiet_nil ?_
        refine flow_one (F := BN D n0) (fun _ _ _ => BN.trans) (fun _ => BN.refl _ _ _) 15 (by kernel_rfl) (by decide) ?_
        simp only [pick, List.getD_cons_zero, List.getD_cons_succ]
        go_wp2_with (refine wpList_store_row rfl 29 (.tmp 7) (.tmp 38) rfl g7 #[.int .i64 RW.1.sz, .slice A5 RW.1.es.length c5, .slice B5 RW.1.gn.length k5] rfl rfl 29 _ HA.out gr_size rfl (by simp [Value.oneCell']) ?_)
        refine pieceEnd_normal ⟨BN.row _ _ hg7, ?_⟩
        have HA5 := Lib.hid (setRow_heap z13 g7 _ #[.int .i64 RW.1.sz, .slice A5 RW.1.es.length c5, .slice B5 RW.1.gn.length k5] _ _ HA.out)
        replace HO1 := Lib.hid (own_keepL HO1.out fun q hq => setRow_other z13 g7 q #[.int .i64 RW.1.sz, .slice A5 RW.1.es.length c5, .slice B5 RW.1.gn.length k5] (own_neqT12 HO1.out HA.out (by decide) q hq))
        replace HO2 := Lib.hid (own_keepL HO2.out fun q hq => setRow_other z13 g7 q #[.int .i64 RW.1.sz, .slice A5 RW.1.es.length c5, .slice B5 RW.1.gn.length k5] (own_neqT12 HO2.out HA.out (by decide) q hq))
        replace HS := Lib.hid (HS.out.set HA.out (by have := HGN.out; omega) (by have := HGN.out; omega) (by have := HG6.out; omega) #[.int .i64 RW.1.sz, .slice A5 RW.1.es.length c5, .slice B5 RW.1.gn.length k5])
        clear HA HN
        generalize z13.setRow g7 #[.int .i64 RW.1.sz, .slice A5 RW.1.es.length c5, .slice B5 RW.1.gn.length k5] = zz at *
        refine flow_reads (F := BN D n0) (fun _ => BN.refl _ _ _) (by kernel_rfl) [16] (fuel := 0) (by kernel_rfl) ?_
        simp only [List.map_cons, List.map_nil, pick, List.getD_cons_zero, List.getD_cons_succ]
        repeat (go_big_quiet_step (fail))
        refine wpQuiet_nil ?_
        refine flow_done (by kernel_rfl) ?_
        go_wp2_with fail
        go_meet
        exact ⟨g7, RW.1, _, _, RW.2, rfl, rfl, Lib.hid ⟨HS.out, HA5.out, HO1.out, HO2.out, HRW.out⟩⟩
    case rest =>
      clear HS
      obtain ⟨g7, K, e2, f2, er, rfl, rfl, HQ⟩ := hcut
      obtain ⟨A2, c2, rfl, -⟩ := Row.of_own HQ.out.2.2.1
      obtain ⟨B2, k2, rfl, -⟩ := Row.of_own HQ.out.2.2.2.1
      go_upto_if 41 with fail
      go_cut [] (fun wx => ∃ (K3 : Gr) (e3 f3 : Value), Hid (MS w D P g0 t G A n c B m k AS cs S g6 K3 e3 f3 wx ∧ MO G S K3))
      case first =>
        have HX7 := Lib.hid HQ.out.2.1
        have HX6 := Lib.hid HQ.out.1.bx
        by_cases her : er = 0
        · have b0 : (er == 0) = true := by rw [her]; rfl
          have b0' : decide (er = 0) = true := decide_eq_true her
          have HMO := Lib.hid (HQ.out.2.2.2.2 her)
          have HT := Lib.hid (HQ.out.1.turn HQ.out.2.2.1 HQ.out.2.2.2.1)
          clear her HQ
          go_wp2_with (first | (refine wpList_load_row rfl 29 (.tmp 7) rfl g7 rfl 29 #[.int .i64 K.sz, .slice A2 K.es.length c2, .slice B2 K.gn.length k2] (0, 0) _ HX7.out Try.underlying29 rfl gr_size ?_) | (refine wpList_store_row rfl 29 (.tmp 6) (.tmp 42) rfl g6 #[.int .i64 K.sz, .slice A2 K.es.length c2, .slice B2 K.gn.length k2] rfl rfl 29 _ HX6.out gr_size rfl (by simp [Value.oneCell']) ?_))
          go_meet
          exact ⟨K, _, _, Lib.hid ⟨HT.out, HMO.out⟩⟩
        · have b0 : (er == 0) = false := by rw [beq_eq_false_iff_ne]; exact her
          have b0' : decide (er = 0) = false := decide_eq_false her
          clear her HX7 HX6
          go_wp2_with fail
          go_meet
          exact ⟨G, _, _, Lib.hid ⟨HQ.out.1, MO.refl HGD.out⟩⟩
      case rest =>
        clear HQ
        obtain ⟨K3, e3, f3, HQ⟩ := hcut
        have HS := Lib.hid HQ.out.1
        have HMO := Lib.hid HQ.out.2
        clear HQ
        go_upto_region 10 with fail
        obtain ⟨n0, hn0⟩ : ∃ n0, wc.drew.heap.size = n0 := ⟨_, rfl⟩
        refine wp_region_grow (by kernel_rfl) (BN D n0) (BN.refl D n0) (fun _ _ _ => BN.trans) [14, 15, 16] [([0, 1, 3, 4, 6, 7, 8, 9, 10], 2), ([], 5), ([], 11), ([], 12), ([], 13)] (by kernel_rfl) (by kernel_rfl) (by kernel_rfl) ?_
        simp only [List.map_cons, List.map_nil, pick, List.getD_cons_zero, List.getD_cons_succ]
        replace HS := Lib.hid (HS.out.later (Below.refl _ _).drew)
        have HN : Hid (n0 ≤ wc.drew.heap.size) := Lib.hid (Nat.le_of_eq hn0.symm)
        have HGN : Hid (g0 < n0 ∧ D < g0) := Lib.hid (by rw [← hn0]; exact ⟨(Array.getElem?_eq_some_iff.1 HS.out.ds.box).1, HS.out.ds.dg⟩)
        have HG6 : Hid (g6 < n0 ∧ D < g6) := Lib.hid (by rw [← hn0]; exact ⟨(Array.getElem?_eq_some_iff.1 HS.out.bx).1, HS.out.gl⟩)
        clear hn0
        generalize wc.drew = z0 at *
        have hfg : ∀ x, (loadVar 29 ⟨g0, 0, none⟩).run Try.prog (fut (BN D n0) z0 x) = .ok (.agg #[.int .i64 G.sz, .slice A n c, .slice B m k]) (fut (BN D n0) z0 x) := fun x => run_loadVar_row _ g0 29 29 #[.int .i64 G.sz, .slice A n c, .slice B m k] (0, 0) _ (((fut_ok (BN.refl D n0) z0 x).keep g0 HGN.out.1 (by have := HGN.out.2; omega)).trans HS.out.ds.box) Try.underlying29 rfl gr_size
        have hfz : ∀ x, (fut (BN D n0) z0 x).cell? ⟨g0, 0, none⟩ = some (.int .i64 (sz : Int)) := fun x => by rw [← HSN.out]; exact (cell_of_row _ _ 0 _ _ _ (((fut_ok (BN.refl D n0) z0 x).keep g0 HGN.out.1 (by have := HGN.out.2; omega)).trans HS.out.ds.box)).trans rfl
        have hf6 : ∀ x, (loadVar 29 ⟨g6, 0, none⟩).run Try.prog (fut (BN D n0) z0 x) = .ok (.agg #[.int .i64 K3.sz, e3, f3]) (fut (BN D n0) z0 x) := fun x => run_loadVar_row _ g6 29 29 #[.int .i64 K3.sz, e3, f3] (0, 0) _ (((fut_ok (BN.refl D n0) z0 x).keep g6 HG6.out.1 (by have := HG6.out.2; omega)).trans HS.out.bx) Try.underlying29 rfl gr_size
        refine wpGrow_cons ?_
        repeat (first | (refine wpQuiet_load rfl 29 (.tmp 4) rfl ⟨g0, 0, none⟩ rfl (.agg #[.int .i64 G.sz, .slice A n c, .slice B m k]) (fun w' h => by obtain ⟨x, rfl⟩ := h; exact hfg x) ?_; simp only [Act.put, List.setIfInBounds_toArray, List.set_cons_succ, List.set_cons_zero]) | (refine wpQuiet_load rfl 29 (.tmp 6) rfl ⟨g6, 0, none⟩ rfl (.agg #[.int .i64 K3.sz, e3, f3]) (fun w' h => by obtain ⟨x, rfl⟩ := h; exact hf6 x) ?_; simp only [Act.put, List.setIfInBounds_toArray, List.set_cons_succ, List.set_cons_zero]) | go_big_quiet_step (fail))
        refine wpQuiet_nil ?_
        clear hfg hfz hf6
        have hsz : G.sz.toNat = sz := by have := HSN.out; omega
        have hsz3 : K3.sz.toNat = sz := by rw [HMO.out.2.1]; exact hsz
        have HDZ : Hid (D < z0.heap.size) := Lib.hid HS.out.ds.lt
        have HC := Lib.hid (all_any G _ AS S.length cs S z0 HS.out.ds.hold HGD.out (own_rowI12 HS.out.sd) (by omega))
        go_wp2_with fail
        refine HC.out.mono ?_
        rintro e z1 ⟨ga, rfl, hd, hga, hb⟩
        rw [hsz]
        have HDA : Hid (D < ga) := Lib.hid (Nat.lt_of_lt_of_le HDZ.out hga)
        have HA := Lib.hid hd
        clear hd hga HC
        have HF : Hid (BN D n0 z0 z1) := Lib.hid (BN.later hb HN.out)
        replace HS := Lib.hid (HS.out.later hb)
        replace HN := Lib.hid (Nat.le_trans HN.out hb.size)
        clear hb
        go_wp2_with fail
        refine pieceEnd_normal ⟨HF.out, ?_⟩
        clear HF
        refine wpGrow_cons ?_
        refine wpQuiet_nil ?_
        have HC := Lib.hid (all_any K3 _ AS S.length cs S z1 HS.out.hold HMO.out.1 (own_rowI12 HS.out.sd) (by omega))
        have HDZ1 : Hid (D < z1.heap.size) := Lib.hid HS.out.ds.lt
        go_wp2_with fail
        refine HC.out.mono ?_
        rintro e z2 ⟨gb, rfl, hd, hgb, hb⟩
        rw [hsz3]
        have HDB : Hid (D < gb) := Lib.hid (Nat.lt_of_lt_of_le HDZ1.out hgb)
        have HB := Lib.hid hd
        replace HA := Lib.hid (HA.out.later hb)
        clear hd hgb HC HDZ1 HDZ
        have HF : Hid (BN D n0 z1 z2) := Lib.hid (BN.later hb HN.out)
        replace HS := Lib.hid (HS.out.later hb)
        replace HN := Lib.hid (Nat.le_trans HN.out hb.size)
        clear hb
        go_wp2_with fail
        refine pieceEnd_normal ⟨HF.out, ?_⟩
        clear HF
        refine wpGrow_cons ?_
        refine wpQuiet_nil ?_
        go_wp2_with fail
        refine (next_g w.heap.size D t (sz : Int) z2 HS.out.ds.dice (by omega) (by omega)).mono ?_
        rintro e z3 ⟨x, rfl, hx0, hx1, hg⟩
        have HF : Hid (BN D n0 z2 z3) := Lib.hid (BN.but hg.2 HN.out)
        replace HN := Lib.hid (Nat.le_trans HN.out hg.2.size)
        replace HA := Lib.hid (HA.out.keep (hg.2.block ga HA.out.lt (by have := HDA.out; omega)))
        replace HB := Lib.hid (HB.out.keep (hg.2.block gb HB.out.lt (by have := HDB.out; omega)))
        replace HS := Lib.hid (HS.out.gave hg)
        clear hg hx0 hx1
        go_wp2_with fail
        refine pieceEnd_normal ⟨HF.out, ?_⟩
        clear HF
        refine wpGrow_cons ?_
        refine wpQuiet_nil ?_
        have HC := Lib.hid (put12_any AS S.length cs S x z3 (own_rowI12 HS.out.sd) (by omega))
        go_wp2_with fail
        refine HC.out.mono ?_
        rintro e z4 ⟨A9, n9, c9, rfl, hr, hb⟩
        have HP := Lib.hid hr
        replace HA := Lib.hid (HA.out.later hb)
        replace HB := Lib.hid (HB.out.later hb)
        have hn9 : n9 ≤ 65 := by rw [← HP.out.len]; have := putI_len S x; omega
        clear hr HC
        have HF : Hid (BN D n0 z3 z4) := Lib.hid (BN.later hb HN.out)
        replace HS := Lib.hid (HS.out.later hb)
        replace HN := Lib.hid (Nat.le_trans HN.out hb.size)
        clear hb
        go_wp2_with fail
        refine pieceEnd_normal ⟨HF.out, ?_⟩
        clear HF
        refine wpGrow_cons ?_
        refine wpQuiet_nil ?_
        have HC := Lib.hid (all_any G _ A9 n9 c9 (putI S x) z4 HS.out.ds.hold HGD.out HP.out (by omega))
        go_wp2_with fail
        refine HC.out.mono ?_
        rintro e z5 ⟨gc, rfl, hd, -, hb⟩
        rw [hsz]
        have HL : Hid (L3 w D P g0 t G A n c B m k ga gb gc (allD G S) (allD K3 S) (allD G (putI S x)) z5) := Lib.hid ⟨HS.out.ds.later hb, HA.out.later hb, HB.out.later hb, hd⟩
        have HF : Hid (BN D n0 z4 z5) := Lib.hid (BN.later hb HN.out)
        clear hd hb HC HP HA HB HS HN
        have HLA2 : Hid ((allD G S).length = sz) := Lib.hid (by have h := (allD_dist HGD.out S).len; rw [hsz] at h; exact h)
        have HLB2 : Hid ((allD K3 S).length = sz) := Lib.hid (by have h := (allD_dist HMO.out.1 S).len; rw [hsz3] at h; exact h)
        have HLC2 : Hid ((allD G (putI S x)).length = sz) := Lib.hid (by have h := (allD_dist HGD.out (putI S x)).len; rw [hsz] at h; exact h)
        have HM1 : Hid (∀ k : Int, 0 ≤ k → k < (sz : Int) → 0 ≤ dAt (allD G S) k → 0 ≤ dAt (allD K3 S) k ∧ dAt (allD K3 S) k ≤ dAt (allD G S) k) := Lib.hid fun k h0 h1 h2 => HMO.out.2.2 k h0 (by rw [HSN.out]; exact h1) h2
        have HM2 : Hid (∀ k : Int, 0 ≤ k → k < (sz : Int) → 0 ≤ dAt (allD G S) k → 0 ≤ dAt (allD G (putI S x)) k ∧ dAt (allD G (putI S x)) k ≤ dAt (allD G S) k) := Lib.hid fun k h0 h1 h2 => more_seed HGD.out h0 (by rw [HSN.out]; exact h1) h2
        clear hsz hsz3 HMO
        generalize allD G (putI S x) = CD at *
        generalize allD G S = AD at *
        generalize allD K3 S = BD at *
        go_wp2_with fail
        refine pieceEnd_normal ⟨HF.out, ?_⟩
        clear HF
        refine wpGrow_nil ?_
        repeat (go_big_quiet_step (fail))
        refine wpQuiet_nil ?_
        have hz0 : z5.cell? ⟨g0, 0, none⟩ = some (.int .i64 (sz : Int)) := by rw [← HSN.out]; exact (cell_of_row _ _ 0 _ _ _ HL.out.ds.box).trans rfl
        go_wp2_with fail
        clear hz0
        go_loopw [12] (fun i wr => ∃ j : Nat, j ≤ sz ∧ i = .int .i64 j ∧ Hid (L3 w D P g0 t G A n c B m k ga gb gc AD BD CD wr)) (fun i _ => sz - (intOf i).toNat)
        case atStart => exact ⟨0, Nat.zero_le _, rfl, HL⟩
        case round =>
          clear HL
          obtain ⟨j, hj, rfl, HL⟩ := hrel
          have hz0 : wr.cell? ⟨g0, 0, none⟩ = some (.int .i64 (sz : Int)) := by rw [← HSN.out]; exact (cell_of_row _ _ 0 _ _ _ HL.out.ds.box).trans rfl
          by_cases hlt : j < sz
          · have hlt2 : (j : Int) < (sz : Int) := by omega
            go_upto_region 16 with fail
            clear hz0
            refine wp_region_grow (by kernel_rfl) Later Later.refl (fun _ _ _ => Later.trans) [0, 1, 2, 3, 4, 5, 6, 7, 8, 9, 10, 11, 12, 13, 14, 15, 16, 17, 18, 19, 20, 21, 22, 23, 24, 25, 26, 27, 28, 29, 30, 31, 32, 33, 34, 35, 36, 37, 38, 39, 40] [] (by kernel_rfl) (by kernel_rfl) (by kernel_rfl) ?_
            simp only [List.map_cons, List.map_nil, pick, List.getD_cons_zero, List.getD_cons_succ]
            replace HL := Lib.hid (HL.out.later (Below.refl _ _).drew)
            generalize wr.drew = z7 at *
            have hfa := irow_fut (HL.out.a.row' HLA2.out) j hlt
            have hfb := irow_fut (HL.out.b.row' HLB2.out) j hlt
            have hfc := irow_fut (HL.out.c.row' HLC2.out) j hlt
            rw [Nat.zero_add, dAt_cell (by rw [HLA2.out]; exact hlt)] at hfa
            rw [Nat.zero_add, dAt_cell (by rw [HLB2.out]; exact hlt)] at hfb
            rw [Nat.zero_add, dAt_cell (by rw [HLC2.out]; exact hlt)] at hfc
            have h1 := HM1.out (j : Int) (by omega) hlt2
            have h2 := HM2.out (j : Int) (by omega) hlt2
            generalize dAt AD (j : Int) = va at *
            generalize dAt BD (j : Int) = vb at *
            generalize dAt CD (j : Int) = vc at *
            by_cases h0 : 0 ≤ va
            · have d1 : decide (va ≥ 0) = true := decide_eq_true h0
              have d1' : decide (0 ≤ va) = true := d1
              have h1 := h1 h0
              have h2 := h2 h0
              have cvb1 : decide (vb < 0) = false := decide_eq_false (by omega)
              have cvb2 : decide (vb > va) = false := decide_eq_false (by omega)
              have cvb3 : decide (va < vb) = false := cvb2
              have cvc1 : decide (vc < 0) = false := decide_eq_false (by omega)
              have cvc2 : decide (vc > va) = false := decide_eq_false (by omega)
              have cvc3 : decide (va < vc) = false := cvc2
              clear h0 h1 h2
              refine wpGrow_nil ?_
              repeat (go_big_quiet_step (fail))
              refine wpQuiet_nil ?_
              clear hfa hfb hfc
              go_wp2_with fail
              exact ⟨⟨j + 1, hlt, by go_num, HL⟩, by simp [intOf]; omega⟩
            · have d1 : decide (va ≥ 0) = false := decide_eq_false h0
              have d1' : decide (0 ≤ va) = false := d1
              clear h0 h1 h2
              refine wpGrow_nil ?_
              repeat (go_big_quiet_step (fail))
              refine wpQuiet_nil ?_
              clear hfa hfb hfc
              go_wp2_with fail
              exact ⟨⟨j + 1, hlt, by go_num, HL⟩, by simp [intOf]; omega⟩
          · have hlt2 : ¬ (j : Int) < (sz : Int) := by omega
            go_wp2_with fail
            refine (HAW.out wr).mono ?_
            rintro e z8 ⟨rfl, hb⟩
            replace HL := Lib.hid (HL.out.later hb)
            clear hb
            go_wp2_with fail
            go_ret
            exact ⟨rfl, HL.out.ds.base⟩
  · have gd0 : decide (tn ≤ 400) = false := decide_eq_false hn
    go_wp2_with fail
    clear gd0
    refine (HAW.out w).mono ?_
    rintro e w1 ⟨rfl, hb⟩
    have HB := Lib.hid hb; clear hb
    go_wp2_with fail
    go_ret
    exact ⟨rfl, HB.out⟩
end Go.Proofs.Ytikmffdmgnjpbaa
/- What a law's arguments are as rows of cells; what is asked of them behind the call. Plain facts over any program. -/
namespace Go.Proofs.Ytikmffdmgnjpbaa
open Go.ChangeShapes Go.WideShapes Go.ChangeAt Go.RowKit
section
variable {H : Type} {enc : TypeId × Value → H} {P : Program} {W W' : World}
/-- A slice of numbers of one kind that came in. -/
theorem open_nums {t e : TypeId} {k : IntKind} (ht : P.underlying t = some (.slice e)) (he : P.underlying e = some (.int k)) (hc : P.cellsOf e = 1) {base : Nat} {v : Value} {d : DataW H} {p : List MemPlace}
    (hval : Value.okWide P W .any base t v) (h : DataW.Trod enc P W 0 (fun _ => true) true t v d p) :
    ∃ (A : Option Addr) (n c : Nat) (zs : List Int), v = .slice A n c ∧ zs.length = n ∧ Row W A n c 1 (zs.map (Value.int k)) ∧ c ≤ maxLen ∧ ∀ z ∈ zs, (Lit.int k z).wf = true := by
  obtain ⟨a1, len, cap, rfl⟩ := okWide_slice ht hval
  obtain ⟨fuel, hf⟩ := h
  rcases open_ints ht he hc hf with ⟨hcs, hx⟩ | ⟨a, len', cap', zs, hcs, _, hl, hm, hz, hx, hcell, hwz⟩
  · simp [Value.cells] at hcs
    obtain ⟨rfl, rfl, rfl⟩ := hcs
    exact ⟨none, 0, 0, [], rfl, rfl, Row.nilRow _ _, Nat.zero_le _, fun _ h => by cases h⟩
  · simp [Value.cells] at hcs
    obtain ⟨rfl, rfl, rfl⟩ := hcs
    simp only [if_true] at hz
    refine ⟨some a, len, cap, zs.take len, rfl, by rw [List.length_take]; omega, ⟨by simp; omega, hl, fun e => (by cases e), fun ad e h0 => ?_⟩, hm, fun z hz' => hwz z (List.mem_of_mem_take hz')⟩
    injection e with e; subst e
    obtain ⟨ab, ao, spot⟩ := a
    have hspot : spot = none := by simpa [Addr.add] using World.cell?_spot (hcell 0 (by omega))
    subst hspot
    refine ⟨ab, ao, rfl, fun i hi => ?_⟩
    rw [Nat.mul_one] at hi
    have := hcell i (by omega)
    rw [Addr.add_lit] at this
    rw [this, List.getElem?_map, List.getElem?_take, if_pos hi, List.getElem?_eq_getElem (by omega)]
    simp [show i < zs.length by omega]
theorem open_i64s {t e : TypeId} (ht : P.underlying t = some (.slice e)) (he : P.underlying e = some (.int .i64)) (hc : P.cellsOf e = 1) {base : Nat} {v : Value} {d : DataW H} {p : List MemPlace}
    (hval : Value.okWide P W .any base t v) (h : DataW.Trod enc P W 0 (fun _ => true) true t v d p) : ∃ (A : Option Addr) (n c : Nat) (l : List Int), v = .slice A n c ∧ Row W A n c 1 (intsV l) ∧ c ≤ maxLen ∧ ∀ z ∈ l, -9223372036854775808 ≤ z ∧ z ≤ 9223372036854775807 := by
  obtain ⟨A, n, c, zs, rfl, _, hr, hm, hw⟩ := open_nums ht he hc hval h
  exact ⟨A, n, c, zs, rfl, hr, hm, fun z hz => bounds_i64 (hw z hz)⟩
theorem trodAll_below (hl : laidOutB P = true) (hb : Below W.heap.size W W') : ∀ {ts : List TypeId} {vs : List Value} {ds : List (DataW H)} {ps : List MemPlace}, (ts.all fun t => P.readableRec t && decide (t < P.types.size)) = true →
    DataW.TrodAll enc P W 0 (fun _ => true) true ts vs ds ps → DataW.TrodAll enc P W' 0 (fun b => decide (b < W.heap.size)) true ts vs ds ps
  | [], [], [], _, _, h => h
  | t :: ts, v :: vs, d :: ds, ps, hB, h => by
    have hlt := DataW.TrodAll.lt h
    obtain ⟨a, b, h1, h2, e⟩ := h
    simp only [List.all_cons, Bool.and_eq_true, decide_eq_true_eq] at hB
    subst e
    exact ⟨a, b, Below.trod hl hB.1.1 hB.1.2 h1 hb (fun x hx => hlt x (List.mem_append_left _ hx)), trodAll_below hl hb (by simpa using hB.2) h2, rfl⟩
/-- Behind a law that answered true and left below the old heap all as it was. -/
theorem law_post {f : Func} {s : ChangeSpec} {tb : TypeId} (hl : laidOutB P = true) (hres : f.resultTypes = #[tb]) (htb : P.underlying tb = some .bool) (hts : (f.params.toList.all fun t => P.readableRec t && decide (t < P.types.size)) = true) (hv : s.vars = [])
    {args : Array Value} {ds gs : List (DataW H)} {before : List MemPlace} (hW : DataW.Whole enc P f.params.toList s.vars false W args.toList ds gs before) (hfn : s.fn H (ds ++ gs) = { results := [.lit (.bool true)], args := ds }) (hb : Below W.heap.size W W') :
    ∃ v, Ending.returned (.bool true) = Ending.returned v ∧ s.post enc P f false true false false W args v W' := by
  have hW' := hW
  obtain ⟨p, q, hA, hV, rfl, _, _⟩ := hW
  refine ⟨_, rfl, ds, gs, _, [], p, [], hW', ?_, ?_, ?_, hb.frame _, fun h => by cases h⟩
  · rw [hfn, hres]; exact trodAll_mk1 (shut_bool htb _)
  · rw [hfn]; exact trodAll_below hl hb hts hA
  · rw [hfn, hv]; exact rfl
end
end Go.Proofs.Ytikmffdmgnjpbaa
/-
  PROVED: for every input the law DistanceMore returns true and leaves its argument as it was. Conditions: none but the row's own.
-/
namespace Go.Proofs.Ytikmffdmgnjpbaa.distanceMore
open Go.ChangeShapes Go.WideShapes Go.ChangeAt Go.RowKit
theorem own : ownKnob Try.prog.godebug = none := by kernel_rfl
theorem laidOut : laidOutB Try.prog = true := by kernel_rfl
theorem cellsI : Try.prog.cellsOf 3 = 1 := by kernel_rfl
set_option maxRecDepth 100000 in
theorem lifted (os : Os) (started : os.Started) (H : Type) (enc : TypeId × Value → H) :
    ReturnsInHanded {} Try.checked os 5 .any (Rows.distanceMoreSpec.pre6 enc Try.prog Try.f5 Rows.distanceMoreRow.domain false) (Rows.distanceMoreSpec.post enc Try.prog Try.f5 false true false false) := by
  refine returnsInHanded_of_change (C := Try.checked) own started (by kernel_rfl) Try.func5
    (ChangeSpec.witness6 (enc := enc) (C := Try.checked) false ⟨#[], #[.slice none 0 0], []⟩ 8 (by kernel_rfl) (by kernel_rfl) (by kernel_rfl) (by kernel_rfl)) ?_
  intro W base args ds gs before hval hW _ _
  have hW' := hW
  obtain ⟨p, q, hA, hV, rfl, _, _⟩ := hW
  rw [Try.params5] at hA hval
  obtain ⟨v0, d0, rfl, rfl, h0⟩ := trodAll_one hA
  obtain ⟨rfl, rfl⟩ := trodVars_none hV
  obtain ⟨A0, n0, c0, l0, rfl, hr0, _, _⟩ := open_i64s Try.underlying22 Try.underlying3 cellsI (hval 0 22 v0 rfl rfl) h0
  refine (dmore_any A0 n0 c0 l0 W hr0).mono fun e W' ⟨he, hb⟩ => ?_
  subst he
  exact law_post laidOut (by kernel_rfl) Try.underlying4 (by kernel_rfl) rfl hW' rfl hb
theorem over : Rows.DistanceMoreSaid :=
  OpenClaim.holds_of_wide 5 Try.f5 rfl rfl rfl rfl rfl rfl rfl ⟨rfl, rfl, rfl, rfl, rfl⟩ rfl rfl rfl rfl rfl (by kernel_rfl) Try.func5 (by kernel_rfl)
    (of_decide_eq_true (by kernel_rfl)) (by unfold Func.isWrapper; first | (rw [if_pos (by decide +kernel)]; kernel_rfl) | (rw [if_neg (by decide +kernel)]; exact ⟨rfl, rfl⟩))
    (fun os started H enc _ => lifted os started H enc)
end Go.Proofs.Ytikmffdmgnjpbaa.distanceMore
