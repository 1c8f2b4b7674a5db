import Derived.Test.YtdildmfjekdlgaaCaAwakeP
import Derived.Test.YtdildmfjekdlgaaPackAY
import Derived.Test.YtdildmfjekdlgaaPackAC
import Derived.Test.YtdildmfjekdlgaaPackAR
import Derived.Test.YtdildmfjekdlgaaDiceMoreP
import Derived.Deep.CutBlock
import Derived.Deep.DeepCutAuto
/- The walk of the law CapacityMore. -/
namespace Go.Proofs.Ytdildmfjekdlgaa
open Go.RowKit
/-- What a law of layer 12 keeps in memory: the dice, the graph, the box that holds it. -/
structure DS (w : World) (D P g0 : Nat) (t : List Int) (G : Gr) (A : Option Addr) (n c : Nat) (B : Option Addr) (m k : Nat) (z : World) : Prop where
  dice : ∃ kd, DiceAt z w.heap.size D t kd
  own : GOwn z P G (.agg #[.int .i64 G.sz, .slice A n c, .slice B m k])
  base : Below w.heap.size w z
  box : z.heap[g0]? = some (.cells #[.int .i64 G.sz, .slice A n c, .slice B m k] 31 (0, 0))
  wd : w.heap.size ≤ D
  dp : D < P
  dg : D < g0
section
variable {w : World} {D P g0 : Nat} {t : List Int} {G : Gr} {A : Option Addr} {n c : Nat} {B : Option Addr} {m k : Nat} {z z' : World}
theorem DS.later (h : DS w D P g0 t G A n c B m k z) (hb : Below z.heap.size z z') : DS w D P g0 t G A n c B m k z' :=
  { h with
    dice := by obtain ⟨kd, hk⟩ := h.dice; exact ⟨kd, hk.later hb⟩
    own := h.own.later hb
    base := h.base.trans (hb.mono h.base.size)
    box := (hb.block _ (Array.getElem?_eq_some_iff.1 h.box).1).trans h.box }
theorem DS.gave (h : DS w D P g0 t G A n c B m k z) (hg : Gave w.heap.size D t z z') : DS w D P g0 t G A n c B m k z' :=
  { h with
    dice := hg.1
    own := h.own.but hg.2 h.dp
    base := h.base.trans (hg.2.below h.wd h.base.size)
    box := (hg.2.block g0 (Array.getElem?_eq_some_iff.1 h.box).1 (by have := h.dg; omega)).trans h.box }
theorem DS.drew (h : DS w D P g0 t G A n c B m k z) : DS w D P g0 t G A n c B m k z.drew := h.later (Below.refl _ _).drew
theorem DS.hold (h : DS w D P g0 t G A n c B m k z) : GHold z G (.agg #[.int .i64 G.sz, .slice A n c, .slice B m k]) := h.own.hold
theorem DS.lt (h : DS w D P g0 t G A n c B m k z) : D < z.heap.size := by obtain ⟨kd, hk⟩ := h.dice; exact hk.lt
theorem DS.rows (h : DS w D P g0 t G A n c B m k z) : ERow z A n c G.es ∧ IRow z B m k G.gn := by
  obtain ⟨A2, n2, c2, B2, m2, k2, he, h1, h2⟩ := h.hold
  injection he with he
  simp only [Array.mk.injEq, List.cons.injEq, and_true, true_and, Value.slice.injEq] at he
  obtain ⟨⟨rfl, rfl, rfl⟩, rfl, rfl, rfl⟩ := he
  exact ⟨h1, h2⟩
end
theorem some_g12 (L D : Nat) (t : List Int) (n : Nat) (w : World) (h : ∃ k, DiceAt w L D t k) (hn : n ≤ 100000) :
    Calls Try.prog 15 #[.pointer (some ⟨D, 0, none⟩), .int .i64 n] w fun e w' => ∃ v S, e = .returned v ∧ w'.ownsRow w.heap.size 3 1 v S.length (intsV S) ∧ S.length ≤ n ∧ Gave L D t w w' := by
  obtain ⟨k, hk⟩ := h
  refine (some_any L D t k n w hk hn).mono ?_
  rintro e w' ⟨v, rfl, ho, hd, hb⟩
  exact ⟨v, _, rfl, ho, diceSs_len t n k, ⟨_, hd⟩, hb⟩
theorem own_neqT12 {w : World} {B : Nat} {e : TypeId} {sz : Nat} {v : Value} {n : Nat} {xs : List Value} (h : w.ownsRow B e sz v n xs) {g : Nat} {cs : Array Value} {T : TypeId} {fr : Nat × Nat} (hg : w.heap[g]? = some (.cells cs T fr)) (hne : e ≠ T) : ∀ q, v.ownBlock = some q → q ≠ g := by
  intro q h1 h2
  subst h2
  rcases h.2 with ⟨hn, _⟩ | ⟨a, cap, cur, rfl, ha, hgg, rest⟩
  · subst hn; cases h1
  · have e1 : a = q := by injection h1
    subst e1
    rw [hgg] at hg
    injection hg with hg
    injection hg with _ e2 _
    exact hne e2
theorem GOwn.base12 {w : World} {B B' : Nat} {G : Gr} {v : Value} (h : GOwn w B G v) (hb : B' ≤ B) : GOwn w B' G v := by
  obtain ⟨e, g, rfl, h1, h2⟩ := h
  exact ⟨e, g, rfl, own_base h1 hb, own_base h2 hb⟩
theorem GOwn.set12 {w : World} {B : Nat} {G : Gr} {v : Value} (h : GOwn w B G v) {g : Nat} {cs0 : Array Value} {fr : Nat × Nat} (hb : w.heap[g]? = some (.cells cs0 31 fr)) (cs : Array Value) : GOwn (w.setRow g cs) B G v := by
  obtain ⟨e, q, rfl, h1, h2⟩ := h
  exact ⟨e, q, rfl, own_keepL h1 fun b hb' => setRow_other _ _ _ _ (own_neqT12 h1 hb (by decide) b hb'), own_keepL h2 fun b hb' => setRow_other _ _ _ _ (own_neqT12 h2 hb (by decide) b hb')⟩
theorem DS.set12 {w : World} {D P g0 : Nat} {t : List Int} {G : Gr} {A : Option Addr} {n c : Nat} {B : Option Addr} {m k : Nat} {z : World} (h : DS w D P g0 t G A n c B m k z) {g : Nat} {cs0 : Array Value} {fr : Nat × Nat} (hb : z.heap[g]? = some (.cells cs0 31 fr)) (hD : D < g) (hne : g ≠ g0) (cs : Array Value) : DS w D P g0 t G A n c B m k (z.setRow g cs) :=
  { h with
    dice := by obtain ⟨k, hk⟩ := h.dice; exact ⟨k, hk.below (below_setRow (Below.refl _ _) (Nat.le_refl g) cs) hD⟩
    own := h.own.set12 hb cs
    base := below_setRow h.base (by have := h.wd; omega) cs
    box := (setRow_other _ _ _ _ (Ne.symm hne)).trans h.box }
theorem PCT13 : 24 ≠ 31 := by decide
/-- .. and a policy, and a box with another graph. -/
structure MQ (w : World) (D P g0 : Nat) (t : List Int) (G : Gr) (A : Option Addr) (n c : Nat) (B : Option Addr) (m k : Nat) (p : Pol) (sv tv : Value) (g5 g6 : Nat) (K : Gr) (e f : Value) (z : World) : Prop where
  ds : DS w D P g0 t G A n c B m k z
  px : z.heap[g5]? = some (.cells #[sv, tv, .int .i64 p.lv] 24 (0, 0))
  sd : z.ownsRow (D + 1) 3 1 sv p.sd.length (intsV p.sd)
  tb : z.ownsRow (D + 1) 3 1 tv p.tb.length (intsV p.tb)
  pl : D < g5
  gl : D < g6
  ne : g6 ≠ g0
  bx : z.heap[g6]? = some (.cells #[.int .i64 K.sz, e, f] 31 (0, 0))
  es : z.ownsRow (D + 1) 45 3 e K.es.length (rowC Edg.cells K.es)
  gn : z.ownsRow (D + 1) 3 1 f K.gn.length (intsV K.gn)
section
variable {w : World} {D P g0 : Nat} {t : List Int} {G : Gr} {A : Option Addr} {n c : Nat} {B : Option Addr} {m k : Nat} {p : Pol} {sv tv : Value} {g5 g6 : Nat} {K : Gr} {e f : Value} {z z' : World}
theorem MQ.later (h : MQ w D P g0 t G A n c B m k p sv tv g5 g6 K e f z) (hb : Below z.heap.size z z') : MQ w D P g0 t G A n c B m k p sv tv g5 g6 K e f z' :=
  { h with
    ds := h.ds.later hb
    px := (hb.block _ (Array.getElem?_eq_some_iff.1 h.px).1).trans h.px
    sd := own_later h.sd hb
    tb := own_later h.tb hb
    bx := (hb.block _ (Array.getElem?_eq_some_iff.1 h.bx).1).trans h.bx
    es := own_later h.es hb
    gn := own_later h.gn hb }
theorem MQ.gave (h : MQ w D P g0 t G A n c B m k p sv tv g5 g6 K e f z) (hg : Gave w.heap.size D t z z') : MQ w D P g0 t G A n c B m k p sv tv g5 g6 K e f z' :=
  { h with
    ds := h.ds.gave hg
    px := (hg.2.block _ (Array.getElem?_eq_some_iff.1 h.px).1 (by have := h.pl; omega)).trans h.px
    sd := own_keepL h.sd fun q hq => hg.2.block q (own_lt h.sd q hq) (by have := own_ge h.sd q hq; omega)
    tb := own_keepL h.tb fun q hq => hg.2.block q (own_lt h.tb q hq) (by have := own_ge h.tb q hq; omega)
    bx := (hg.2.block _ (Array.getElem?_eq_some_iff.1 h.bx).1 (by have := h.gl; omega)).trans h.bx
    es := own_keepL h.es fun q hq => hg.2.block q (own_lt h.es q hq) (by have := own_ge h.es q hq; omega)
    gn := own_keepL h.gn fun q hq => hg.2.block q (own_lt h.gn q hq) (by have := own_ge h.gn q hq; omega) }
theorem MQ.hold (h : MQ w D P g0 t G A n c B m k p sv tv g5 g6 K e f z) : GHold z K (.agg #[.int .i64 K.sz, e, f]) := GOwn.hold (B := D + 1) ⟨_, _, rfl, h.es, h.gn⟩
theorem MQ.phold (h : MQ w D P g0 t G A n c B m k p sv tv g5 g6 K e f z) : PHold z p (.agg #[sv, tv, .int .i64 p.lv]) := POwn.hold (b := D + 1) ⟨_, _, rfl, h.sd, h.tb⟩
theorem px_ne {g g' : Nat} {cs cs' : Array Value} {fr fr' : Nat × Nat} {z : World} (h : z.heap[g]? = some (.cells cs 24 fr)) (h' : z.heap[g']? = some (.cells cs' 31 fr')) : g ≠ g' := by
  intro e
  rw [e, h'] at h
  injection h with h
  injection h with _ h _
  exact PCT13 h.symm
theorem MQ.set (h : MQ w D P g0 t G A n c B m k p sv tv g5 g6 K e f z) {g : Nat} {cs0 : Array Value} {fr : Nat × Nat} (hb : z.heap[g]? = some (.cells cs0 31 fr)) (hD : D < g) (hne : g ≠ g0) (hn6 : g ≠ g6) (cells : Array Value) : MQ w D P g0 t G A n c B m k p sv tv g5 g6 K e f (z.setRow g cells) :=
  { h with
    ds := h.ds.set12 hb hD hne cells
    px := (setRow_other _ _ _ _ (px_ne h.px hb)).trans h.px
    sd := own_keepL h.sd fun b hb' => setRow_other _ _ _ _ (own_neqT12 h.sd hb (by decide) b hb')
    tb := own_keepL h.tb fun b hb' => setRow_other _ _ _ _ (own_neqT12 h.tb hb (by decide) b hb')
    bx := (setRow_other _ _ _ _ (Ne.symm hn6)).trans h.bx
    es := own_keepL h.es fun b hb' => setRow_other _ _ _ _ (own_neqT12 h.es hb (by decide) b hb')
    gn := own_keepL h.gn fun b hb' => setRow_other _ _ _ _ (own_neqT12 h.gn hb (by decide) b hb') }
theorem MQ.turn (h : MQ w D P g0 t G A n c B m k p sv tv g5 g6 K e f z) {K' : Gr} {e' f' : Value} (h1 : z.ownsRow (D + 1) 45 3 e' K'.es.length (rowC Edg.cells K'.es)) (h2 : z.ownsRow (D + 1) 3 1 f' K'.gn.length (intsV K'.gn)) : MQ w D P g0 t G A n c B m k p sv tv g5 g6 K' e' f' (z.setRow g6 #[.int .i64 K'.sz, e', f']) :=
  { ds := h.ds.set12 h.bx h.gl h.ne _
    px := (setRow_other _ _ _ _ (px_ne h.px h.bx)).trans h.px
    sd := own_keepL h.sd fun b hb' => setRow_other _ _ _ _ (own_neqT12 h.sd h.bx (by decide) b hb')
    tb := own_keepL h.tb fun b hb' => setRow_other _ _ _ _ (own_neqT12 h.tb h.bx (by decide) b hb')
    pl := h.pl
    gl := h.gl
    ne := h.ne
    bx := setRow_heap _ _ _ _ _ _ h.bx
    es := own_keepL h1 fun b hb' => setRow_other _ _ _ _ (own_neqT12 h1 h.bx (by decide) b hb')
    gn := own_keepL h2 fun b hb' => setRow_other _ _ _ _ (own_neqT12 h2 h.bx (by decide) b hb') }
end
/-- A table whose first numbers are greater by two. -/
def upT (l : List Int) (j : Nat) : List Int := (l.take j).map (· + 2) ++ l.drop j
theorem upT_zero (l : List Int) : upT l 0 = l := rfl
theorem upT_full (l : List Int) : upT l l.length = l.map (· + 2) := by unfold upT; rw [List.take_length, List.drop_length, List.append_nil]
theorem upT_at {l : List Int} {j : Nat} (h : j < l.length) : (upT l j).getD j 0 = l.getD j 0 := by
  unfold upT
  have e : ((l.take j).map (· + 2)).length = j := by rw [List.length_map, List.length_take]; omega
  rw [List.getD_eq_getElem?_getD, List.getElem?_append_right (by omega), e, Nat.sub_self, List.getElem?_drop, List.getD_eq_getElem?_getD]
  rfl
theorem upT_set {l : List Int} {j : Nat} (h : j < l.length) : (upT l j).set j (l.getD j 0 + 2) = upT l (j + 1) := by
  unfold upT
  have e : ((l.take j).map (· + 2)).length = j := by rw [List.length_map, List.length_take]; omega
  rw [List.set_append_right _ _ (by omega), e, Nat.sub_self, List.drop_eq_getElem_cons h, List.set_cons_zero, List.take_add_one, List.getElem?_eq_getElem h, List.getD_eq_getElem?_getD, List.getElem?_eq_getElem h, List.map_append, List.append_assoc]
  rfl
theorem tabTwo {l : List Int} (h : GoodT l) (h7 : ∀ i, i < l.length → l.getD i 0 ≤ 7) : GoodT (l.map (· + 2)) := by
  have g : ∀ i, i < l.length → (l.map (· + 2)).getD i 0 = l.getD i 0 + 2 := fun i hi => by
    rw [List.getD_eq_getElem?_getD, List.getElem?_map, List.getD_eq_getElem?_getD, List.getElem?_eq_getElem hi]; rfl
  refine ⟨by rw [List.length_map]; exact h.few, by rw [List.length_map]; exact h.some_, fun i hi => ?_⟩
  rw [List.length_map] at hi
  obtain ⟨a, b, c⟩ := h.at_ i hi
  have := h7 i hi
  rw [g i hi]
  refine ⟨by omega, by omega, fun h0 => ?_⟩
  rw [g (i - 1) (by omega)]
  have := c h0
  omega
/-- No capacity less than in G. -/
def MC (G : Gr) (p : Pol) (K : Gr) : Prop := Good11 K ∧ K.sz = G.sz ∧ ∀ k : Int, 0 ≤ k → k < G.sz → capAt G p k ≤ capAt K p k
theorem MC.refl {G : Gr} {p : Pol} (h : Good11 G) : MC G p G := ⟨h, rfl, fun _ _ _ => Int.le_refl _⟩
theorem MC.edge {G : Gr} {p : Pol} {e : Edg} (ht : GoodT p.tb) (h : (withG G e).2 = 0) : MC G p (withG G e).1 := by
  obtain ⟨-, h2, h3, -⟩ := with_good h
  exact ⟨h2, by rw [h3], fun k h0 h1 => cap_edge ht h h0 h1⟩
set_option maxRecDepth 100000 in
set_option maxHeartbeats 40000000 in
theorem cmore_any (C : CapC) (TA : Option Addr) (tn tc : Nat) (t : List Int) (w : World) (ht : IRow w TA tn tc t) : Calls Try.prog 5 #[.slice TA tn tc] w (SaysL (.bool true) w) := by
  have HAW : Hid (∀ y, Calls Try.prog 8 #[] y (SaysL (.bool true) y)) := Lib.hid fun y => awake13_any C y
  have HCC0 := Lib.hid C
  have HT := Lib.hid ht; clear ht C
  go_enter Try.func5, Try.ntmps5
  go_wp2_with fail
  refine (light_any TA tn tc w).mono ?_
  rintro e w0 ⟨rfl, rfl⟩
  by_cases hn : tn ≤ 400
  · have gd0 : decide (tn ≤ 400) = true := decide_eq_true hn
    go_wp2_with fail
    clear gd0
    refine (roll_any w.heap.size TA tn tc t w HT.out (by omega) (Nat.le_refl _) (fun ad e h0 => Row.lt HT.out (by decide) ad e h0)).mono ?_
    rintro e w1 ⟨rfl, hd, hb⟩
    obtain ⟨D, hD⟩ : ∃ D, D = w.heap.size := ⟨_, rfl⟩
    have HD : Hid (∃ kd, DiceAt w1 w.heap.size D t kd) := Lib.hid ⟨0, by rw [hD]; exact hd⟩
    have HB := Lib.hid hb
    have HDD : Hid (w.heap.size = D) := Lib.hid hD.symm
    rw [← hD]
    clear hd hb hD HT
    go_wp2_with fail
    refine (ggraph_g w.heap.size D t w1 HD.out).mono ?_
    rintro e w2 ⟨v0, G, rfl, ho, hgd, hsz, hone, hg⟩
    have HDP : Hid (D < w1.heap.size) := Lib.hid (by obtain ⟨kd, hk⟩ := HD.out; exact hk.lt)
    have HGD := Lib.hid hgd; have hsz2 := hsz; have hs64 := hgd.hi
    obtain ⟨A, n, c, B, m, k, hve, -, -⟩ := ho.hold
    subst hve
    have hb2 := one_new w2 (.cells #[.int .i64 G.sz, .slice A n c, .slice B m k] 31)
    have HDS : Hid (DS w D w1.heap.size w2.heap.size t G A n c B m k (w2.alloc (.cells #[.int .i64 G.sz, .slice A n c, .slice B m k] 31))) := Lib.hid
      ⟨by obtain ⟨kd, hk⟩ := hg.1; exact ⟨kd, hk.later hb2⟩, ho.later hb2, (HB.out.trans (hg.2.below (by have := HDD.out; omega) HB.out.size)).trans (hb2.mono (Nat.le_trans HB.out.size hg.2.size)), heap_alloc_new _ _, by have := HDD.out; omega, HDP.out, by have := HDP.out; have := hg.2.size; omega⟩
    clear hgd hsz hone hg ho hb2 HD HB
    go_upto_region 5 with (refine wpList_store_new rfl 31 (.tmp 4) (.tmp 22) rfl 31 _ #[.int .i64 G.sz, .slice A n c, .slice B m k] rfl rfl gr_size rfl (by simp [Value.oneCell']) ?_)
    generalize w2.alloc (.cells #[.int .i64 G.sz, .slice A n c, .slice B m k] 31) = y0 at *
    generalize w2.heap.size = g0 at *
    generalize w1.heap.size = P at *
    try dsimp only [Act.put]
    clear HDP
    obtain ⟨sz, hszn⟩ : ∃ sz : Nat, G.sz = (sz : Int) := ⟨G.sz.toNat, by omega⟩
    have HSN := Lib.hid hszn
    have hsn64 : sz ≤ 64 := by omega
    have hsn2 : 2 ≤ sz := by omega
    clear hszn hsz2 hs64
    have HBX := Lib.hid HDS.out.box
    go_wp2_with (refine wpList_load_row rfl 31 (.tmp 4) rfl g0 rfl 31 #[.int .i64 G.sz, .slice A n c, .slice B m k] (0, 0) _ HBX.out Try.underlying31 rfl gr_size ?_)
    refine (dpolicy_g w.heap.size D t G _ y0 HDS.out.dice HDS.out.hold (by have := HSN.out; omega) (by have := HSN.out; omega)).mono ?_
    rintro e y1 ⟨pv, p, rfl, ho, hgp, hp7, hp4, hg⟩
    obtain ⟨sv, tv, rfl, ho1, ho2⟩ := ho
    obtain ⟨AS, cs, rfl, -⟩ := Row.of_own ho1
    obtain ⟨AT, ct, rfl, -⟩ := Row.of_own ho2
    have hlt0 : D + 1 ≤ y0.heap.size := HDS.out.lt
    have HSD := Lib.hid (own_base ho1 hlt0)
    have HTB := Lib.hid (own_base ho2 hlt0)
    have HGP := Lib.hid hgp; have HP7 := Lib.hid hp7
    replace HDS := Lib.hid (HDS.out.gave hg)
    clear hg ho1 ho2 hlt0 HBX hgp hp7
    go_upto_region 6 with (refine wpList_store_new rfl 24 (.tmp 5) (.tmp 25) rfl 24 _ #[.slice AS p.sd.length cs, .slice AT p.tb.length ct, .int .i64 p.lv] rfl rfl po_size rfl (by simp [Value.oneCell']) ?_)
    have hb := one_new y1 (.cells #[.slice AS p.sd.length cs, .slice AT p.tb.length ct, .int .i64 p.lv] 24)
    have HPX : Hid ((y1.alloc (.cells #[.slice AS p.sd.length cs, .slice AT p.tb.length ct, .int .i64 p.lv] 24)).heap[y1.heap.size]? = some (.cells #[.slice AS p.sd.length cs, .slice AT p.tb.length ct, .int .i64 p.lv] 24 (0, 0))) := Lib.hid (heap_alloc_new _ _)
    have HPL : Hid (D < y1.heap.size) := Lib.hid HDS.out.lt
    replace HDS := Lib.hid (HDS.out.later hb)
    replace HSD := Lib.hid (own_later HSD.out hb); replace HTB := Lib.hid (own_later HTB.out hb)
    clear hb
    generalize y1.alloc (.cells #[.slice AS p.sd.length cs, .slice AT p.tb.length ct, .int .i64 p.lv] 24) = y2 at *
    generalize y1.heap.size = g5 at *
    try dsimp only [Act.put]
    have hb := one_new y2 (.cells #[.int .i64 G.sz, .slice A n c, .slice B m k] 31)
    have HBX := Lib.hid HDS.out.box
    have HS : Hid (MQ w D P g0 t G A n c B m k p (.slice AS p.sd.length cs) (.slice AT p.tb.length ct) g5 y2.heap.size G (.slice A n c) (.slice B m k) (y2.alloc (.cells #[.int .i64 G.sz, .slice A n c, .slice B m k] 31))) := Lib.hid (by
      obtain ⟨e1, q1, he, h1, h2⟩ := HDS.out.own.base12 (B' := D + 1) HDS.out.dp
      have hl := (Array.getElem?_eq_some_iff.1 HDS.out.box).1
      injection he with he
      simp only [Array.mk.injEq, List.cons.injEq, and_true, true_and] at he
      obtain ⟨rfl, rfl⟩ := he
      exact { ds := HDS.out.later hb, px := (hb.block _ (Array.getElem?_eq_some_iff.1 HPX.out).1).trans HPX.out, sd := own_later HSD.out hb, tb := own_later HTB.out hb, pl := HPL.out, gl := HDS.out.lt, ne := by omega, bx := heap_alloc_new _ _, es := own_later h1 hb, gn := own_later h2 hb })
    clear hb HDS HSD HTB HPX HPL
    go_upto_region 7 with (first | (refine wpList_load_row rfl 31 (.tmp 4) rfl g0 rfl 31 #[.int .i64 G.sz, .slice A n c, .slice B m k] (0, 0) _ HBX.out Try.underlying31 rfl gr_size ?_) | (refine wpList_store_new rfl 31 (.tmp 6) (.tmp 26) rfl 31 _ #[.int .i64 G.sz, .slice A n c, .slice B m k] rfl rfl gr_size rfl (by simp [Value.oneCell']) ?_))
    clear HBX
    generalize y2.alloc (.cells #[.int .i64 G.sz, .slice A n c, .slice B m k] 31) = y3 at *
    generalize y2.heap.size = g6 at *
    try dsimp only [Act.put]
    go_cut [7, 8] (fun v7 v8 wx => ∃ (g7 : Nat) (K : Gr) (e2 f2 : Value) (er : Int), v7 = .pointer (some ⟨g7, 0, none⟩) ∧ v8 = .int .i64 er ∧ Hid (MQ w D P g0 t G A n c B m k p (.slice AS p.sd.length cs) (.slice AT p.tb.length ct) g5 g6 G (.slice A n c) (.slice B m k) wx ∧ wx.heap[g7]? = some (.cells #[.int .i64 K.sz, e2, f2] 31 (0, 0)) ∧ wx.ownsRow (D + 1) 45 3 e2 K.es.length (rowC Edg.cells K.es) ∧ wx.ownsRow (D + 1) 3 1 f2 K.gn.length (intsV K.gn) ∧ (er = 0 → MC G p K)))
    case first =>
      obtain ⟨n0, hn0⟩ : ∃ n0, y3.drew.heap.size = n0 := ⟨_, rfl⟩
      refine wp_region_flow (by kernel_rfl) (BN D n0) ?_
      replace HS := Lib.hid (HS.out.later (Below.refl _ _).drew)
      have HN : Hid (n0 ≤ y3.drew.heap.size) := Lib.hid (Nat.le_of_eq hn0.symm)
      have HGN : Hid (g0 < n0 ∧ D < g0) := Lib.hid (by rw [← hn0]; exact ⟨(Array.getElem?_eq_some_iff.1 HS.out.ds.box).1, HS.out.ds.dg⟩)
      have HG6 : Hid (g6 < n0 ∧ D < g6) := Lib.hid (by rw [← hn0]; exact ⟨(Array.getElem?_eq_some_iff.1 HS.out.bx).1, HS.out.gl⟩)
      clear hn0
      generalize y3.drew = z0 at *
      have HLA : Hid (G.es.length ≤ 100000) := Lib.hid HGD.out.few.1
      have HLB : Hid (G.gn.length ≤ 100000) := Lib.hid HGD.out.few.2
      have hfg : ∀ x, (loadVar 31 ⟨g0, 0, none⟩).run Try.prog (fut (BN D n0) z0 x) = .ok (.agg #[.int .i64 G.sz, .slice A n c, .slice B m k]) (fut (BN D n0) z0 x) := fun x => run_loadVar_row _ g0 31 31 #[.int .i64 G.sz, .slice A n c, .slice B m k] (0, 0) _ (((fut_ok (BN.refl D n0) z0 x).keep g0 HGN.out.1 (by have := HGN.out.2; omega)).trans HS.out.ds.box) Try.underlying31 rfl gr_size
      have hfz : ∀ x, (fut (BN D n0) z0 x).cell? ⟨g0, 0, none⟩ = some (.int .i64 (sz : Int)) := fun x => by rw [← HSN.out]; exact (cell_of_row _ _ 0 _ _ _ (((fut_ok (BN.refl D n0) z0 x).keep g0 HGN.out.1 (by have := HGN.out.2; omega)).trans HS.out.ds.box)).trans rfl
      refine flow_reads (F := BN D n0) (fun _ => BN.refl _ _ _) (by kernel_rfl) [0, 1, 2, 3, 5, 6, 7] (fuel := 10) (by kernel_rfl) ?_
      simp only [List.map_cons, List.map_nil, pick, List.getD_cons_zero, List.getD_cons_succ]
      repeat (first | (refine wpQuiet_load rfl 31 (.tmp 4) rfl ⟨g0, 0, none⟩ rfl (.agg #[.int .i64 G.sz, .slice A n c, .slice B m k]) (fun w' h => by obtain ⟨x, rfl⟩ := h; exact hfg x) ?_; simp only [Act.put, List.setIfInBounds_toArray, List.set_cons_succ, List.set_cons_zero]) | go_big_quiet_step (fail))
      refine wpQuiet_nil ?_
      clear hfg hfz
      refine flow_two (F := BN D n0) (fun _ _ _ => BN.trans) (fun _ => BN.refl _ _ _) 4 14 (by kernel_rfl) (by decide) (by decide) ?_ ?_ <;> simp only [pick, List.getD_cons_zero, List.getD_cons_succ]
      · skip
        go_wp2_with fail
        refine (next_g w.heap.size D t (sz : Int) z0 HS.out.ds.dice (by omega) (by omega)).mono ?_
        rintro e z1 ⟨v0, rfl, hv00, hv01, hg⟩
        have HF : Hid (BN D n0 z0 z1) := Lib.hid (BN.but hg.2 HN.out)
        replace HN := Lib.hid (Nat.le_trans HN.out hg.2.size)
        replace HS := Lib.hid (HS.out.gave hg)
        clear hg
        go_wp2_with fail
        refine pieceEnd_normal ⟨HF.out, ?_⟩
        clear HF
        refine flow_two (F := BN D n0) (fun _ _ _ => BN.trans) (fun _ => BN.refl _ _ _) 8 14 (by kernel_rfl) (by decide) (by decide) ?_ ?_ <;> simp only [pick, List.getD_cons_zero, List.getD_cons_succ]
        · skip
          go_wp2_with fail
          refine (next_g w.heap.size D t (sz : Int) z1 HS.out.ds.dice (by omega) (by omega)).mono ?_
          rintro e z2 ⟨v1, rfl, hv10, hv11, hg⟩
          have HF : Hid (BN D n0 z1 z2) := Lib.hid (BN.but hg.2 HN.out)
          replace HN := Lib.hid (Nat.le_trans HN.out hg.2.size)
          replace HS := Lib.hid (HS.out.gave hg)
          clear hg
          go_wp2_with fail
          refine pieceEnd_normal ⟨HF.out, ?_⟩
          clear HF
          refine flow_val (F := BN D n0) (fun _ => BN.refl _ _ _) (by kernel_rfl) 9 (by kernel_rfl) ?_
          simp only [pick, List.getD_cons_zero, List.getD_cons_succ]
          repeat (go_big_quiet_step (fail))
          refine wpQuiet_nil ?_
          refine flow_two (F := BN D n0) (fun _ _ _ => BN.trans) (fun _ => BN.refl _ _ _) 10 14 (by kernel_rfl) (by decide) (by decide) ?_ ?_ <;> simp only [pick, List.getD_cons_zero, List.getD_cons_succ]
          · skip
            have HWC : Hid (Calls Try.prog 18 #[.agg #[.int .i64 G.sz, .slice A n c, .slice B m k], .agg #[.int .i64 v0, .int .i64 v1, .int .i64 3]] z2 (GivesGOE z2 (withG G ⟨v0, v1, 3⟩))) := Lib.hid (gwith_any G _ ⟨v0, v1, 3⟩ z2 HS.out.ds.hold HLA.out HLB.out)
            have HRW : Hid ((withG G ⟨v0, v1, 3⟩).2 = 0 → MC G p (withG G ⟨v0, v1, 3⟩).1) := Lib.hid fun h => MC.edge HGP.out.tab h
            generalize withG G ⟨v0, v1, 3⟩ = RW at *
            go_wp2_with fail
            refine HWC.out.mono ?_
            clear HWC
            rintro e z3 ⟨vv, rfl, ⟨e5, w5, rfl, ho1, ho2⟩, hb⟩
            have HF : Hid (BN D n0 z2 z3) := Lib.hid (BN.later hb HN.out)
            obtain ⟨A5, c5, rfl, -⟩ := Row.of_own ho1
            obtain ⟨B5, k5, rfl, -⟩ := Row.of_own ho2
            have HO1 := Lib.hid (own_base ho1 (show D + 1 ≤ z2.heap.size from HS.out.ds.lt))
            have HO2 := Lib.hid (own_base ho2 (show D + 1 ≤ z2.heap.size from HS.out.ds.lt))
            replace HN := Lib.hid (Nat.le_trans HN.out hb.size)
            replace HS := Lib.hid (HS.out.later hb)
            clear hb ho1 ho2
            go_wp2_with fail
            refine pieceEnd_normal ⟨HF.out, ?_⟩
            clear HF
            refine flow_reads (F := BN D n0) (fun _ => BN.refl _ _ _) (by kernel_rfl) [11, 12, 13] (fuel := 3) (by kernel_rfl) ?_
            simp only [List.map_cons, List.map_nil, pick, List.getD_cons_zero, List.getD_cons_succ]
            repeat (go_big_quiet_step (fail))
            refine wpQuiet_nil ?_
            refine flow_one (F := BN D n0) (fun _ _ _ => BN.trans) (fun _ => BN.refl _ _ _) 14 (by kernel_rfl) (by decide) ?_
            simp only [pick, List.getD_cons_zero, List.getD_cons_succ]
            go_wp2_with fail
            have hb := one_new z3 (.cells #[.int .i64 0, .slice none 0 0, .slice none 0 0] 31)
            refine pieceEnd_normal ⟨BN.later hb HN.out, ?_⟩
            have HA : Hid ((z3.alloc (.cells #[.int .i64 0, .slice none 0 0, .slice none 0 0] 31)).heap[z3.heap.size]? = some (.cells #[.int .i64 0, .slice none 0 0, .slice none 0 0] 31 (0, 0))) := Lib.hid (heap_alloc_new _ _)
            have hg7 : n0 ≤ z3.heap.size := HN.out
            replace HS := Lib.hid (HS.out.later hb)
            replace HN := Lib.hid (Nat.le_trans HN.out hb.size)
            clear hb
            replace HO1 := Lib.hid (own_later HO1.out (one_new z3 (.cells #[.int .i64 0, .slice none 0 0, .slice none 0 0] 31)))
            replace HO2 := Lib.hid (own_later HO2.out (one_new z3 (.cells #[.int .i64 0, .slice none 0 0, .slice none 0 0] 31)))
            generalize z3.alloc (.cells #[.int .i64 0, .slice none 0 0, .slice none 0 0] 31) = z4 at *
            generalize z3.heap.size = g7 at *
            refine flow_one (F := BN D n0) (fun _ _ _ => BN.trans) (fun _ => BN.refl _ _ _) 15 (by kernel_rfl) (by decide) ?_
            simp only [pick, List.getD_cons_zero, List.getD_cons_succ]
            go_wp2_with (refine wpList_store_row rfl 31 (.tmp 7) (.tmp 39) rfl g7 #[.int .i64 RW.1.sz, .slice A5 RW.1.es.length c5, .slice B5 RW.1.gn.length k5] rfl rfl 31 _ HA.out gr_size rfl (by simp [Value.oneCell']) ?_)
            refine pieceEnd_normal ⟨BN.row _ _ hg7, ?_⟩
            have HA5 := Lib.hid (setRow_heap z4 g7 _ #[.int .i64 RW.1.sz, .slice A5 RW.1.es.length c5, .slice B5 RW.1.gn.length k5] _ _ HA.out)
            replace HO1 := Lib.hid (own_keepL HO1.out fun q hq => setRow_other z4 g7 q #[.int .i64 RW.1.sz, .slice A5 RW.1.es.length c5, .slice B5 RW.1.gn.length k5] (own_neqT12 HO1.out HA.out (by decide) q hq))
            replace HO2 := Lib.hid (own_keepL HO2.out fun q hq => setRow_other z4 g7 q #[.int .i64 RW.1.sz, .slice A5 RW.1.es.length c5, .slice B5 RW.1.gn.length k5] (own_neqT12 HO2.out HA.out (by decide) q hq))
            replace HS := Lib.hid (HS.out.set HA.out (by have := HGN.out; omega) (by have := HGN.out; omega) (by have := HG6.out; omega) #[.int .i64 RW.1.sz, .slice A5 RW.1.es.length c5, .slice B5 RW.1.gn.length k5])
            clear HA HN
            generalize z4.setRow g7 #[.int .i64 RW.1.sz, .slice A5 RW.1.es.length c5, .slice B5 RW.1.gn.length k5] = zz at *
            refine flow_reads (F := BN D n0) (fun _ => BN.refl _ _ _) (by kernel_rfl) [16] (fuel := 0) (by kernel_rfl) ?_
            simp only [List.map_cons, List.map_nil, pick, List.getD_cons_zero, List.getD_cons_succ]
            repeat (go_big_quiet_step (fail))
            refine wpQuiet_nil ?_
            refine flow_done (by kernel_rfl) ?_
            go_wp2_with fail
            go_meet
            exact ⟨g7, RW.1, _, _, RW.2, rfl, rfl, Lib.hid ⟨HS.out, HA5.out, HO1.out, HO2.out, HRW.out⟩⟩
          · skip
            go_wp2_with fail
            have hb := one_new z2 (.cells #[.int .i64 0, .slice none 0 0, .slice none 0 0] 31)
            refine pieceEnd_normal ⟨BN.later hb HN.out, ?_⟩
            have HA : Hid ((z2.alloc (.cells #[.int .i64 0, .slice none 0 0, .slice none 0 0] 31)).heap[z2.heap.size]? = some (.cells #[.int .i64 0, .slice none 0 0, .slice none 0 0] 31 (0, 0))) := Lib.hid (heap_alloc_new _ _)
            have hg7 : n0 ≤ z2.heap.size := HN.out
            replace HS := Lib.hid (HS.out.later hb)
            replace HN := Lib.hid (Nat.le_trans HN.out hb.size)
            clear hb
            generalize z2.alloc (.cells #[.int .i64 0, .slice none 0 0, .slice none 0 0] 31) = z5 at *
            generalize z2.heap.size = g7 at *
            refine flow_one (F := BN D n0) (fun _ _ _ => BN.trans) (fun _ => BN.refl _ _ _) 10 (by kernel_rfl) (by decide) ?_
            simp only [pick, List.getD_cons_zero, List.getD_cons_succ]
            have HWC : Hid (Calls Try.prog 18 #[.agg #[.int .i64 G.sz, .slice A n c, .slice B m k], .agg #[.int .i64 v0, .int .i64 v1, .int .i64 3]] z5 (GivesGOE z5 (withG G ⟨v0, v1, 3⟩))) := Lib.hid (gwith_any G _ ⟨v0, v1, 3⟩ z5 HS.out.ds.hold HLA.out HLB.out)
            have HRW : Hid ((withG G ⟨v0, v1, 3⟩).2 = 0 → MC G p (withG G ⟨v0, v1, 3⟩).1) := Lib.hid fun h => MC.edge HGP.out.tab h
            generalize withG G ⟨v0, v1, 3⟩ = RW at *
            go_wp2_with fail
            refine HWC.out.mono ?_
            clear HWC
            rintro e z6 ⟨vv, rfl, ⟨e5, w5, rfl, ho1, ho2⟩, hb⟩
            have HF : Hid (BN D n0 z5 z6) := Lib.hid (BN.later hb HN.out)
            obtain ⟨A5, c5, rfl, -⟩ := Row.of_own ho1
            obtain ⟨B5, k5, rfl, -⟩ := Row.of_own ho2
            have HO1 := Lib.hid (own_base ho1 (show D + 1 ≤ z5.heap.size from HS.out.ds.lt))
            have HO2 := Lib.hid (own_base ho2 (show D + 1 ≤ z5.heap.size from HS.out.ds.lt))
            replace HN := Lib.hid (Nat.le_trans HN.out hb.size)
            replace HA : Hid (z6.heap[g7]? = some (.cells #[.int .i64 0, .slice none 0 0, .slice none 0 0] 31 (0, 0))) := Lib.hid ((hb.block g7 (Array.getElem?_eq_some_iff.1 HA.out).1).trans HA.out)
            replace HS := Lib.hid (HS.out.later hb)
            clear hb ho1 ho2
            go_wp2_with fail
            refine pieceEnd_normal ⟨HF.out, ?_⟩
            clear HF
            refine flow_reads (F := BN D n0) (fun _ => BN.refl _ _ _) (by kernel_rfl) [11, 12, 13] (fuel := 2) (by kernel_rfl) ?_
            simp only [List.map_cons, List.map_nil, pick, List.getD_cons_zero, List.getD_cons_succ]
            repeat (go_big_quiet_step (fail))
            refine wpQuiet_nil ?_
            refine flow_one (F := BN D n0) (fun _ _ _ => BN.trans) (fun _ => BN.refl _ _ _) 15 (by kernel_rfl) (by decide) ?_
            simp only [pick, List.getD_cons_zero, List.getD_cons_succ]
            go_wp2_with (refine wpList_store_row rfl 31 (.tmp 7) (.tmp 39) rfl g7 #[.int .i64 RW.1.sz, .slice A5 RW.1.es.length c5, .slice B5 RW.1.gn.length k5] rfl rfl 31 _ HA.out gr_size rfl (by simp [Value.oneCell']) ?_)
            refine pieceEnd_normal ⟨BN.row _ _ hg7, ?_⟩
            have HA5 := Lib.hid (setRow_heap z6 g7 _ #[.int .i64 RW.1.sz, .slice A5 RW.1.es.length c5, .slice B5 RW.1.gn.length k5] _ _ HA.out)
            replace HO1 := Lib.hid (own_keepL HO1.out fun q hq => setRow_other z6 g7 q #[.int .i64 RW.1.sz, .slice A5 RW.1.es.length c5, .slice B5 RW.1.gn.length k5] (own_neqT12 HO1.out HA.out (by decide) q hq))
            replace HO2 := Lib.hid (own_keepL HO2.out fun q hq => setRow_other z6 g7 q #[.int .i64 RW.1.sz, .slice A5 RW.1.es.length c5, .slice B5 RW.1.gn.length k5] (own_neqT12 HO2.out HA.out (by decide) q hq))
            replace HS := Lib.hid (HS.out.set HA.out (by have := HGN.out; omega) (by have := HGN.out; omega) (by have := HG6.out; omega) #[.int .i64 RW.1.sz, .slice A5 RW.1.es.length c5, .slice B5 RW.1.gn.length k5])
            clear HA HN
            generalize z6.setRow g7 #[.int .i64 RW.1.sz, .slice A5 RW.1.es.length c5, .slice B5 RW.1.gn.length k5] = zz at *
            refine flow_reads (F := BN D n0) (fun _ => BN.refl _ _ _) (by kernel_rfl) [16] (fuel := 0) (by kernel_rfl) ?_
            simp only [List.map_cons, List.map_nil, pick, List.getD_cons_zero, List.getD_cons_succ]
            repeat (go_big_quiet_step (fail))
            refine wpQuiet_nil ?_
            refine flow_done (by kernel_rfl) ?_
            go_wp2_with fail
            go_meet
            exact ⟨g7, RW.1, _, _, RW.2, rfl, rfl, Lib.hid ⟨HS.out, HA5.out, HO1.out, HO2.out, HRW.out⟩⟩
        · skip
          go_wp2_with fail
          have hb := one_new z1 (.cells #[.int .i64 0, .slice none 0 0, .slice none 0 0] 31)
          refine pieceEnd_normal ⟨BN.later hb HN.out, ?_⟩
          have HA : Hid ((z1.alloc (.cells #[.int .i64 0, .slice none 0 0, .slice none 0 0] 31)).heap[z1.heap.size]? = some (.cells #[.int .i64 0, .slice none 0 0, .slice none 0 0] 31 (0, 0))) := Lib.hid (heap_alloc_new _ _)
          have hg7 : n0 ≤ z1.heap.size := HN.out
          replace HS := Lib.hid (HS.out.later hb)
          replace HN := Lib.hid (Nat.le_trans HN.out hb.size)
          clear hb
          generalize z1.alloc (.cells #[.int .i64 0, .slice none 0 0, .slice none 0 0] 31) = z7 at *
          generalize z1.heap.size = g7 at *
          refine flow_one (F := BN D n0) (fun _ _ _ => BN.trans) (fun _ => BN.refl _ _ _) 8 (by kernel_rfl) (by decide) ?_
          simp only [pick, List.getD_cons_zero, List.getD_cons_succ]
          go_wp2_with fail
          refine (next_g w.heap.size D t (sz : Int) z7 HS.out.ds.dice (by omega) (by omega)).mono ?_
          rintro e z8 ⟨v1, rfl, hv10, hv11, hg⟩
          have HF : Hid (BN D n0 z7 z8) := Lib.hid (BN.but hg.2 HN.out)
          replace HN := Lib.hid (Nat.le_trans HN.out hg.2.size)
          replace HA : Hid (z8.heap[g7]? = some (.cells #[.int .i64 0, .slice none 0 0, .slice none 0 0] 31 (0, 0))) := Lib.hid ((hg.2.block g7 (Array.getElem?_eq_some_iff.1 HA.out).1 (by have := HGN.out; omega)).trans HA.out)
          replace HS := Lib.hid (HS.out.gave hg)
          clear hg
          go_wp2_with fail
          refine pieceEnd_normal ⟨HF.out, ?_⟩
          clear HF
          refine flow_val (F := BN D n0) (fun _ => BN.refl _ _ _) (by kernel_rfl) 9 (by kernel_rfl) ?_
          simp only [pick, List.getD_cons_zero, List.getD_cons_succ]
          repeat (go_big_quiet_step (fail))
          refine wpQuiet_nil ?_
          refine flow_one (F := BN D n0) (fun _ _ _ => BN.trans) (fun _ => BN.refl _ _ _) 10 (by kernel_rfl) (by decide) ?_
          simp only [pick, List.getD_cons_zero, List.getD_cons_succ]
          have HWC : Hid (Calls Try.prog 18 #[.agg #[.int .i64 G.sz, .slice A n c, .slice B m k], .agg #[.int .i64 v0, .int .i64 v1, .int .i64 3]] z8 (GivesGOE z8 (withG G ⟨v0, v1, 3⟩))) := Lib.hid (gwith_any G _ ⟨v0, v1, 3⟩ z8 HS.out.ds.hold HLA.out HLB.out)
          have HRW : Hid ((withG G ⟨v0, v1, 3⟩).2 = 0 → MC G p (withG G ⟨v0, v1, 3⟩).1) := Lib.hid fun h => MC.edge HGP.out.tab h
          generalize withG G ⟨v0, v1, 3⟩ = RW at *
          go_wp2_with fail
          refine HWC.out.mono ?_
          clear HWC
          rintro e z9 ⟨vv, rfl, ⟨e5, w5, rfl, ho1, ho2⟩, hb⟩
          have HF : Hid (BN D n0 z8 z9) := Lib.hid (BN.later hb HN.out)
          obtain ⟨A5, c5, rfl, -⟩ := Row.of_own ho1
          obtain ⟨B5, k5, rfl, -⟩ := Row.of_own ho2
          have HO1 := Lib.hid (own_base ho1 (show D + 1 ≤ z8.heap.size from HS.out.ds.lt))
          have HO2 := Lib.hid (own_base ho2 (show D + 1 ≤ z8.heap.size from HS.out.ds.lt))
          replace HN := Lib.hid (Nat.le_trans HN.out hb.size)
          replace HA : Hid (z9.heap[g7]? = some (.cells #[.int .i64 0, .slice none 0 0, .slice none 0 0] 31 (0, 0))) := Lib.hid ((hb.block g7 (Array.getElem?_eq_some_iff.1 HA.out).1).trans HA.out)
          replace HS := Lib.hid (HS.out.later hb)
          clear hb ho1 ho2
          go_wp2_with fail
          refine pieceEnd_normal ⟨HF.out, ?_⟩
          clear HF
          refine flow_reads (F := BN D n0) (fun _ => BN.refl _ _ _) (by kernel_rfl) [11, 12, 13] (fuel := 2) (by kernel_rfl) ?_
          simp only [List.map_cons, List.map_nil, pick, List.getD_cons_zero, List.getD_cons_succ]
          repeat (go_big_quiet_step (fail))
          refine wpQuiet_nil ?_
          refine flow_one (F := BN D n0) (fun _ _ _ => BN.trans) (fun _ => BN.refl _ _ _) 15 (by kernel_rfl) (by decide) ?_
          simp only [pick, List.getD_cons_zero, List.getD_cons_succ]
          go_wp2_with (refine wpList_store_row rfl 31 (.tmp 7) (.tmp 39) rfl g7 #[.int .i64 RW.1.sz, .slice A5 RW.1.es.length c5, .slice B5 RW.1.gn.length k5] rfl rfl 31 _ HA.out gr_size rfl (by simp [Value.oneCell']) ?_)
          refine pieceEnd_normal ⟨BN.row _ _ hg7, ?_⟩
          have HA5 := Lib.hid (setRow_heap z9 g7 _ #[.int .i64 RW.1.sz, .slice A5 RW.1.es.length c5, .slice B5 RW.1.gn.length k5] _ _ HA.out)
          replace HO1 := Lib.hid (own_keepL HO1.out fun q hq => setRow_other z9 g7 q #[.int .i64 RW.1.sz, .slice A5 RW.1.es.length c5, .slice B5 RW.1.gn.length k5] (own_neqT12 HO1.out HA.out (by decide) q hq))
          replace HO2 := Lib.hid (own_keepL HO2.out fun q hq => setRow_other z9 g7 q #[.int .i64 RW.1.sz, .slice A5 RW.1.es.length c5, .slice B5 RW.1.gn.length k5] (own_neqT12 HO2.out HA.out (by decide) q hq))
          replace HS := Lib.hid (HS.out.set HA.out (by have := HGN.out; omega) (by have := HGN.out; omega) (by have := HG6.out; omega) #[.int .i64 RW.1.sz, .slice A5 RW.1.es.length c5, .slice B5 RW.1.gn.length k5])
          clear HA HN
          generalize z9.setRow g7 #[.int .i64 RW.1.sz, .slice A5 RW.1.es.length c5, .slice B5 RW.1.gn.length k5] = zz at *
          refine flow_reads (F := BN D n0) (fun _ => BN.refl _ _ _) (by kernel_rfl) [16] (fuel := 0) (by kernel_rfl) ?_
          simp only [List.map_cons, List.map_nil, pick, List.getD_cons_zero, List.getD_cons_succ]
          repeat (go_big_quiet_step (fail))
          refine wpQuiet_nil ?_
          refine flow_done (by kernel_rfl) ?_
          go_wp2_with fail
          go_meet
          exact ⟨g7, RW.1, _, _, RW.2, rfl, rfl, Lib.hid ⟨HS.out, HA5.out, HO1.out, HO2.out, HRW.out⟩⟩
      · skip
        go_wp2_with fail
        have hb := one_new z0 (.cells #[.int .i64 0, .slice none 0 0, .slice none 0 0] 31)
        refine pieceEnd_normal ⟨BN.later hb HN.out, ?_⟩
        have HA : Hid ((z0.alloc (.cells #[.int .i64 0, .slice none 0 0, .slice none 0 0] 31)).heap[z0.heap.size]? = some (.cells #[.int .i64 0, .slice none 0 0, .slice none 0 0] 31 (0, 0))) := Lib.hid (heap_alloc_new _ _)
        have hg7 : n0 ≤ z0.heap.size := HN.out
        replace HS := Lib.hid (HS.out.later hb)
        replace HN := Lib.hid (Nat.le_trans HN.out hb.size)
        clear hb
        generalize z0.alloc (.cells #[.int .i64 0, .slice none 0 0, .slice none 0 0] 31) = z10 at *
        generalize z0.heap.size = g7 at *
        refine flow_one (F := BN D n0) (fun _ _ _ => BN.trans) (fun _ => BN.refl _ _ _) 4 (by kernel_rfl) (by decide) ?_
        simp only [pick, List.getD_cons_zero, List.getD_cons_succ]
        go_wp2_with fail
        refine (next_g w.heap.size D t (sz : Int) z10 HS.out.ds.dice (by omega) (by omega)).mono ?_
        rintro e z11 ⟨v0, rfl, hv00, hv01, hg⟩
        have HF : Hid (BN D n0 z10 z11) := Lib.hid (BN.but hg.2 HN.out)
        replace HN := Lib.hid (Nat.le_trans HN.out hg.2.size)
        replace HA : Hid (z11.heap[g7]? = some (.cells #[.int .i64 0, .slice none 0 0, .slice none 0 0] 31 (0, 0))) := Lib.hid ((hg.2.block g7 (Array.getElem?_eq_some_iff.1 HA.out).1 (by have := HGN.out; omega)).trans HA.out)
        replace HS := Lib.hid (HS.out.gave hg)
        clear hg
        go_wp2_with fail
        refine pieceEnd_normal ⟨HF.out, ?_⟩
        clear HF
        refine flow_one (F := BN D n0) (fun _ _ _ => BN.trans) (fun _ => BN.refl _ _ _) 8 (by kernel_rfl) (by decide) ?_
        simp only [pick, List.getD_cons_zero, List.getD_cons_succ]
        go_wp2_with fail
        refine (next_g w.heap.size D t (sz : Int) z11 HS.out.ds.dice (by omega) (by omega)).mono ?_
        rintro e z12 ⟨v1, rfl, hv10, hv11, hg⟩
        have HF : Hid (BN D n0 z11 z12) := Lib.hid (BN.but hg.2 HN.out)
        replace HN := Lib.hid (Nat.le_trans HN.out hg.2.size)
        replace HA : Hid (z12.heap[g7]? = some (.cells #[.int .i64 0, .slice none 0 0, .slice none 0 0] 31 (0, 0))) := Lib.hid ((hg.2.block g7 (Array.getElem?_eq_some_iff.1 HA.out).1 (by have := HGN.out; omega)).trans HA.out)
        replace HS := Lib.hid (HS.out.gave hg)
        clear hg
        go_wp2_with fail
        refine pieceEnd_normal ⟨HF.out, ?_⟩
        clear HF
        refine flow_val (F := BN D n0) (fun _ => BN.refl _ _ _) (by kernel_rfl) 9 (by kernel_rfl) ?_
        simp only [pick, List.getD_cons_zero, List.getD_cons_succ]
        repeat (go_big_quiet_step (fail))
        refine wpQuiet_nil ?_
        refine flow_one (F := BN D n0) (fun _ _ _ => BN.trans) (fun _ => BN.refl _ _ _) 10 (by kernel_rfl) (by decide) ?_
        simp only [pick, List.getD_cons_zero, List.getD_cons_succ]
        have HWC : Hid (Calls Try.prog 18 #[.agg #[.int .i64 G.sz, .slice A n c, .slice B m k], .agg #[.int .i64 v0, .int .i64 v1, .int .i64 3]] z12 (GivesGOE z12 (withG G ⟨v0, v1, 3⟩))) := Lib.hid (gwith_any G _ ⟨v0, v1, 3⟩ z12 HS.out.ds.hold HLA.out HLB.out)
        have HRW : Hid ((withG G ⟨v0, v1, 3⟩).2 = 0 → MC G p (withG G ⟨v0, v1, 3⟩).1) := Lib.hid fun h => MC.edge HGP.out.tab h
        generalize withG G ⟨v0, v1, 3⟩ = RW at *
        go_wp2_with fail
        refine HWC.out.mono ?_
        clear HWC
        rintro e z13 ⟨vv, rfl, ⟨e5, w5, rfl, ho1, ho2⟩, hb⟩
        have HF : Hid (BN D n0 z12 z13) := Lib.hid (BN.later hb HN.out)
        obtain ⟨A5, c5, rfl, -⟩ := Row.of_own ho1
        obtain ⟨B5, k5, rfl, -⟩ := Row.of_own ho2
        have HO1 := Lib.hid (own_base ho1 (show D + 1 ≤ z12.heap.size from HS.out.ds.lt))
        have HO2 := Lib.hid (own_base ho2 (show D + 1 ≤ z12.heap.size from HS.out.ds.lt))
        replace HN := Lib.hid (Nat.le_trans HN.out hb.size)
        replace HA : Hid (z13.heap[g7]? = some (.cells #[.int .i64 0, .slice none 0 0, .slice none 0 0] 31 (0, 0))) := Lib.hid ((hb.block g7 (Array.getElem?_eq_some_iff.1 HA.out).1).trans HA.out)
        replace HS := Lib.hid (HS.out.later hb)
        clear hb ho1 ho2
        go_wp2_with fail
        refine pieceEnd_normal ⟨HF.out, ?_⟩
        clear HF
        refine flow_reads (F := BN D n0) (fun _ => BN.refl _ _ _) (by kernel_rfl) [11, 12, 13] (fuel := 2) (by kernel_rfl) ?_
        simp only [List.map_cons, List.map_nil, pick, List.getD_cons_zero, List.getD_cons_succ]
        repeat (go_big_quiet_step (fail))
        refine wpQuiet_nil ?_
        refine flow_one (F := BN D n0) (fun _ _ _ => BN.trans) (fun _ => BN.refl _ _ _) 15 (by kernel_rfl) (by decide) ?_
        simp only [pick, List.getD_cons_zero, List.getD_cons_succ]
        go_wp2_with (refine wpList_store_row rfl 31 (.tmp 7) (.tmp 39) rfl g7 #[.int .i64 RW.1.sz, .slice A5 RW.1.es.length c5, .slice B5 RW.1.gn.length k5] rfl rfl 31 _ HA.out gr_size rfl (by simp [Value.oneCell']) ?_)
        refine pieceEnd_normal ⟨BN.row _ _ hg7, ?_⟩
        have HA5 := Lib.hid (setRow_heap z13 g7 _ #[.int .i64 RW.1.sz, .slice A5 RW.1.es.length c5, .slice B5 RW.1.gn.length k5] _ _ HA.out)
        replace HO1 := Lib.hid (own_keepL HO1.out fun q hq => setRow_other z13 g7 q #[.int .i64 RW.1.sz, .slice A5 RW.1.es.length c5, .slice B5 RW.1.gn.length k5] (own_neqT12 HO1.out HA.out (by decide) q hq))
        replace HO2 := Lib.hid (own_keepL HO2.out fun q hq => setRow_other z13 g7 q #[.int .i64 RW.1.sz, .slice A5 RW.1.es.length c5, .slice B5 RW.1.gn.length k5] (own_neqT12 HO2.out HA.out (by decide) q hq))
        replace HS := Lib.hid (HS.out.set HA.out (by have := HGN.out; omega) (by have := HGN.out; omega) (by have := HG6.out; omega) #[.int .i64 RW.1.sz, .slice A5 RW.1.es.length c5, .slice B5 RW.1.gn.length k5])
        clear HA HN
        generalize z13.setRow g7 #[.int .i64 RW.1.sz, .slice A5 RW.1.es.length c5, .slice B5 RW.1.gn.length k5] = zz at *
        refine flow_reads (F := BN D n0) (fun _ => BN.refl _ _ _) (by kernel_rfl) [16] (fuel := 0) (by kernel_rfl) ?_
        simp only [List.map_cons, List.map_nil, pick, List.getD_cons_zero, List.getD_cons_succ]
        repeat (go_big_quiet_step (fail))
        refine wpQuiet_nil ?_
        refine flow_done (by kernel_rfl) ?_
        go_wp2_with fail
        go_meet
        exact ⟨g7, RW.1, _, _, RW.2, rfl, rfl, Lib.hid ⟨HS.out, HA5.out, HO1.out, HO2.out, HRW.out⟩⟩
    case rest =>
      clear HS
      obtain ⟨g7, K, e2, f2, er, rfl, rfl, HQ⟩ := hcut
      obtain ⟨A2, c2, rfl, -⟩ := Row.of_own HQ.out.2.2.1
      obtain ⟨B2, k2, rfl, -⟩ := Row.of_own HQ.out.2.2.2.1
      go_upto_if 42 with fail
      go_cut [] (fun wx => ∃ (K3 : Gr) (e3 f3 : Value), Hid (MQ w D P g0 t G A n c B m k p (.slice AS p.sd.length cs) (.slice AT p.tb.length ct) g5 g6 K3 e3 f3 wx ∧ MC G p K3))
      case first =>
        have HX7 := Lib.hid HQ.out.2.1
        have HX6 := Lib.hid HQ.out.1.bx
        by_cases her : er = 0
        · have b0 : (er == 0) = true := by rw [her]; rfl
          have b0' : decide (er = 0) = true := decide_eq_true her
          have HMO := Lib.hid (HQ.out.2.2.2.2 her)
          have HTn := Lib.hid (HQ.out.1.turn HQ.out.2.2.1 HQ.out.2.2.2.1)
          clear her HQ
          go_wp2_with (first | (refine wpList_load_row rfl 31 (.tmp 7) rfl g7 rfl 31 #[.int .i64 K.sz, .slice A2 K.es.length c2, .slice B2 K.gn.length k2] (0, 0) _ HX7.out Try.underlying31 rfl gr_size ?_) | (refine wpList_store_row rfl 31 (.tmp 6) (.tmp 43) rfl g6 #[.int .i64 K.sz, .slice A2 K.es.length c2, .slice B2 K.gn.length k2] rfl rfl 31 _ HX6.out gr_size rfl (by simp [Value.oneCell']) ?_))
          go_meet
          exact ⟨K, _, _, Lib.hid ⟨HTn.out, HMO.out⟩⟩
        · have b0 : (er == 0) = false := by rw [beq_eq_false_iff_ne]; exact her
          have b0' : decide (er = 0) = false := decide_eq_false her
          clear her HX7 HX6
          go_wp2_with fail
          go_meet
          exact ⟨G, _, _, Lib.hid ⟨HQ.out.1, MC.refl HGD.out⟩⟩
      case rest =>
        clear HQ
        obtain ⟨K3, e3, f3, HQ⟩ := hcut
        have HS := Lib.hid HQ.out.1
        have HMO := Lib.hid HQ.out.2
        clear HQ
        go_wp2_with (refine wpList_load_row rfl 24 (.tmp 5) rfl g5 rfl 24 #[.slice AS p.sd.length cs, .slice AT p.tb.length ct, .int .i64 p.lv] (0, 0) _ HS.out.px Try.underlying24 rfl po_size ?_)
        have hgs : G.sz ≤ 64 := by have := HSN.out; omega
        have hsd := HGP.out.few hgs
        refine (copyPol_own p _ wc HS.out.phold hsd (by omega)).mono ?_
        rintro e z1 ⟨A9, c9, B9, k9, rfl, ho1, ho2, hap, hb⟩
        have HO1 := Lib.hid ho1; have HO2 := Lib.hid ho2; have HAP := Lib.hid hap; have HB := Lib.hid hb
        clear ho1 ho2 hap hb hsd hgs
        go_upto_region 11 with (refine wpList_store_new rfl 24 (.tmp 9) (.tmp 45) rfl 24 _ #[.slice A9 p.sd.length c9, .slice B9 p.tb.length k9, .int .i64 p.lv] rfl rfl po_size rfl (by simp [Value.oneCell']) ?_)
        obtain ⟨nb, hnb⟩ : ∃ nb, wc.heap.size = nb := ⟨_, rfl⟩
        rw [hnb] at HO1 HO2
        have HSB : Hid (∀ y, Below nb wc y → MQ w D P g0 t G A n c B m k p (.slice AS p.sd.length cs) (.slice AT p.tb.length ct) g5 g6 K3 e3 f3 y) := Lib.hid fun y hb => HS.out.later (by rw [hnb]; exact hb)
        have hb := one_new z1 (.cells #[.slice A9 p.sd.length c9, .slice B9 p.tb.length k9, .int .i64 p.lv] 24)
        have HBz : Hid (Below nb wc (z1.alloc (.cells #[.slice A9 p.sd.length c9, .slice B9 p.tb.length k9, .int .i64 p.lv] 24))) := Lib.hid (by have h := HB.out; rw [hnb] at h; exact h.trans (hb.mono (by rw [← hnb]; exact HB.out.size)))
        have HX9 : Hid ((z1.alloc (.cells #[.slice A9 p.sd.length c9, .slice B9 p.tb.length k9, .int .i64 p.lv] 24)).heap[z1.heap.size]? = some (.cells #[.slice A9 p.sd.length c9, .slice B9 p.tb.length k9, .int .i64 p.lv] 24 (0, 0))) := Lib.hid (heap_alloc_new _ _)
        replace HO1 := Lib.hid (own_later HO1.out hb); replace HO2 := Lib.hid (own_later HO2.out hb)
        have HNB := Lib.hid hnb
        clear hb HS HB hnb
        generalize z1.alloc (.cells #[.slice A9 p.sd.length c9, .slice B9 p.tb.length k9, .int .i64 p.lv] 24) = z2 at *
        generalize z1.heap.size = g9 at *
        try dsimp only [Act.put]
        obtain ⟨gB, kB, hvB⟩ := own_someI HO2.out (by have := HGP.out.tab.some_; omega)
        injection hvB with i1 i2 i3
        subst i1 i3
        clear i2
        have HUP0 : Hid (z2.ownsRow nb 3 1 (.slice (some ⟨gB, 0, none⟩) p.tb.length k9) p.tb.length (intsV (upT p.tb 0))) := Lib.hid (by rw [upT_zero]; exact HO2.out)
        have HGB : Hid (∀ q, (Value.slice A9 p.sd.length c9).ownBlock = some q → q ≠ gB) := Lib.hid fun q hq e => HAP.out q hq (by rw [e]; rfl)
        have HG9 : Hid (gB ≠ g9) := Lib.hid (own_neqT12 HO2.out HX9.out (by decide) gB rfl)
        have HGN : Hid (nb ≤ gB) := Lib.hid (own_ge HO2.out gB rfl)
        clear HAP HO2
        go_wp2_with fail
        go_loopw [10] (fun i wr => ∃ j : Nat, j ≤ p.tb.length ∧ i = .int .i64 j ∧ Hid (Below nb wc wr ∧ wr.ownsRow nb 3 1 (.slice A9 p.sd.length c9) p.sd.length (intsV p.sd) ∧ wr.ownsRow nb 3 1 (.slice (some ⟨gB, 0, none⟩) p.tb.length k9) p.tb.length (intsV (upT p.tb j)) ∧ wr.heap[g9]? = some (.cells #[.slice A9 p.sd.length c9, .slice (some ⟨gB, 0, none⟩) p.tb.length k9, .int .i64 p.lv] 24 (0, 0)))) (fun i _ => p.tb.length - (intOf i).toNat)
        case atStart => exact ⟨0, Nat.zero_le _, rfl, Lib.hid ⟨HBz.out, HO1.out, HUP0.out, HX9.out⟩⟩
        case round =>
          clear HBz HO1 HUP0 HX9
          obtain ⟨j, hj, rfl, HQ⟩ := hrel
          have hx9 : wr.cell? ⟨g9, 1, none⟩ = some (.slice (some ⟨gB, 0, none⟩) p.tb.length k9) := (cell_of_row _ _ 1 _ _ _ HQ.out.2.2.2).trans rfl
          by_cases hlt : j < p.tb.length
          · have hlt2 : (j : Int) < (p.tb.length : Int) := by omega
            obtain ⟨hcu, hfu⟩ := own_i HQ.out.2.2.1 hlt
            rw [upT_at hlt] at hcu
            have hu0 := (HGP.out.tab.at_ j hlt).1
            have hu7 := HP7.out j hlt
            have HST := Lib.hid (own_seti HQ.out.2.2.1 j (p.tb.getD j 0 + 2))
            rw [upT_set hlt] at HST
            have hk : ∀ q, q ≠ gB → (wr.setCell ⟨gB, j, none⟩ (.int .i64 (p.tb.getD j 0 + 2))).heap[q]? = wr.heap[q]? := fun q hq => Below.heap_setCell wr ⟨gB, j, none⟩ _ q hq
            have HNX : Hid (Below nb wc (wr.setCell ⟨gB, j, none⟩ (.int .i64 (p.tb.getD j 0 + 2))) ∧ (wr.setCell ⟨gB, j, none⟩ (.int .i64 (p.tb.getD j 0 + 2))).ownsRow nb 3 1 (.slice A9 p.sd.length c9) p.sd.length (intsV p.sd) ∧ (wr.setCell ⟨gB, j, none⟩ (.int .i64 (p.tb.getD j 0 + 2))).heap[g9]? = some (.cells #[.slice A9 p.sd.length c9, .slice (some ⟨gB, 0, none⟩) p.tb.length k9, .int .i64 p.lv] 24 (0, 0))) := Lib.hid ⟨HQ.out.1.setCell (p := ⟨gB, j, none⟩) HGN.out _, own_keepL HQ.out.2.1 fun q hq => hk q (HGB.out q hq), (hk g9 (Ne.symm HG9.out)).trans HQ.out.2.2.2⟩
            clear hk HQ
            generalize p.tb.getD j 0 = u at *
            have m0 : IntKind.i64.wrap (u + 2) = u + 2 := by rw [IntKind.wrap_i64]; omega
            have m1 : RowKit.wrap64 (u + 2) = u + 2 := IntWalk.wrap64_in _ (by omega)
            go_wp2_with fail
            exact ⟨⟨j + 1, hlt, by go_num, Lib.hid ⟨HNX.out.1, HNX.out.2.1, HST.out, HNX.out.2.2⟩⟩, by simp [intOf]; omega⟩
          · have hlt2 : ¬ (j : Int) < (p.tb.length : Int) := by omega
            have hjl : j = p.tb.length := by omega
            subst hjl
            have HMQ := Lib.hid (HSB.out wr HQ.out.1)
            have HPQ : Hid (PHold wr ⟨p.sd, p.tb.map (· + 2), p.lv⟩ (.agg #[.slice A9 p.sd.length c9, .slice (some ⟨gB, 0, none⟩) p.tb.length k9, .int .i64 p.lv])) := Lib.hid ⟨_, _, _, _, _, _, rfl, own_rowI12 HQ.out.2.1, by have h := own_rowI12 HQ.out.2.2.1; rw [upT_full] at h; exact h⟩
            have HX9 := Lib.hid HQ.out.2.2.2
            clear HQ HSB hlt
            go_upto_region 15 with fail
            clear hx9
            refine wp_region_grow (by kernel_rfl) Later Later.refl (fun _ _ _ => Later.trans) [9, 10, 11] [([0, 1, 3, 4, 6, 7], 2), ([], 5), ([], 8)] (by kernel_rfl) (by kernel_rfl) (by kernel_rfl) ?_
            simp only [List.map_cons, List.map_nil, pick, List.getD_cons_zero, List.getD_cons_succ]
            replace HMQ := Lib.hid (HMQ.out.later (Below.refl _ _).drew)
            replace HPQ := Lib.hid (HPQ.out.later (Later.drew wr))
            replace HX9 : Hid (wr.drew.heap[g9]? = _) := HX9
            generalize wr.drew = x0 at *
            have hfg : ∀ x, (loadVar 31 ⟨g0, 0, none⟩).run Try.prog (fut Later x0 x) = .ok (.agg #[.int .i64 G.sz, .slice A n c, .slice B m k]) (fut Later x0 x) := fun x => run_loadVar_row _ g0 31 31 #[.int .i64 G.sz, .slice A n c, .slice B m k] (0, 0) _ (((fut_ok Later.refl x0 x).block g0 (Array.getElem?_eq_some_iff.1 HMQ.out.ds.box).1).trans HMQ.out.ds.box) Try.underlying31 rfl gr_size
            have hfp : ∀ x, (loadVar 24 ⟨g5, 0, none⟩).run Try.prog (fut Later x0 x) = .ok (.agg #[.slice AS p.sd.length cs, .slice AT p.tb.length ct, .int .i64 p.lv]) (fut Later x0 x) := fun x => run_loadVar_row _ g5 24 24 #[.slice AS p.sd.length cs, .slice AT p.tb.length ct, .int .i64 p.lv] (0, 0) _ (((fut_ok Later.refl x0 x).block g5 (Array.getElem?_eq_some_iff.1 HMQ.out.px).1).trans HMQ.out.px) Try.underlying24 rfl po_size
            have hf6 : ∀ x, (loadVar 31 ⟨g6, 0, none⟩).run Try.prog (fut Later x0 x) = .ok (.agg #[.int .i64 K3.sz, e3, f3]) (fut Later x0 x) := fun x => run_loadVar_row _ g6 31 31 #[.int .i64 K3.sz, e3, f3] (0, 0) _ (((fut_ok Later.refl x0 x).block g6 (Array.getElem?_eq_some_iff.1 HMQ.out.bx).1).trans HMQ.out.bx) Try.underlying31 rfl gr_size
            have hf9 : ∀ x, (loadVar 24 ⟨g9, 0, none⟩).run Try.prog (fut Later x0 x) = .ok (.agg #[.slice A9 p.sd.length c9, .slice (some ⟨gB, 0, none⟩) p.tb.length k9, .int .i64 p.lv]) (fut Later x0 x) := fun x => run_loadVar_row _ g9 24 24 #[.slice A9 p.sd.length c9, .slice (some ⟨gB, 0, none⟩) p.tb.length k9, .int .i64 p.lv] (0, 0) _ (((fut_ok Later.refl x0 x).block g9 (Array.getElem?_eq_some_iff.1 HX9.out).1).trans HX9.out) Try.underlying24 rfl po_size
            have hsz : G.sz.toNat = sz := by have := HSN.out; omega
            have hsz3 : K3.sz.toNat = sz := by rw [HMO.out.2.1]; exact hsz
            have HGQ : Hid (GoodP G.sz ⟨p.sd, p.tb.map (· + 2), p.lv⟩) := Lib.hid ⟨HGP.out.ne, HGP.out.set, tabTwo HGP.out.tab HP7.out, HGP.out.lo, HGP.out.hi⟩
            refine wpGrow_cons ?_
            repeat (first | (refine wpQuiet_load rfl 31 (.tmp 4) rfl ⟨g0, 0, none⟩ rfl (.agg #[.int .i64 G.sz, .slice A n c, .slice B m k]) (fun w' h => by obtain ⟨x, rfl⟩ := h; exact hfg x) ?_; simp only [Act.put, List.setIfInBounds_toArray, List.set_cons_succ, List.set_cons_zero]) | (refine wpQuiet_load rfl 24 (.tmp 5) rfl ⟨g5, 0, none⟩ rfl (.agg #[.slice AS p.sd.length cs, .slice AT p.tb.length ct, .int .i64 p.lv]) (fun w' h => by obtain ⟨x, rfl⟩ := h; exact hfp x) ?_; simp only [Act.put, List.setIfInBounds_toArray, List.set_cons_succ, List.set_cons_zero]) | (refine wpQuiet_load rfl 31 (.tmp 6) rfl ⟨g6, 0, none⟩ rfl (.agg #[.int .i64 K3.sz, e3, f3]) (fun w' h => by obtain ⟨x, rfl⟩ := h; exact hf6 x) ?_; simp only [Act.put, List.setIfInBounds_toArray, List.set_cons_succ, List.set_cons_zero]) | (refine wpQuiet_load rfl 24 (.tmp 9) rfl ⟨g9, 0, none⟩ rfl (.agg #[.slice A9 p.sd.length c9, .slice (some ⟨gB, 0, none⟩) p.tb.length k9, .int .i64 p.lv]) (fun w' h => by obtain ⟨x, rfl⟩ := h; exact hf9 x) ?_; simp only [Act.put, List.setIfInBounds_toArray, List.set_cons_succ, List.set_cons_zero]) | go_big_quiet_step (fail))
            refine wpQuiet_nil ?_
            clear hfg hfp hf6 hf9
            have HC := Lib.hid (HCC0.out.all G _ p _ x0 HMQ.out.ds.hold HGD.out HMQ.out.phold HGP.out)
            go_wp2_with fail
            refine HC.out.mono ?_
            rintro e x1 ⟨Aa, na, ca, rfl, hr, hb⟩
            have HF := Lib.hid hb
            have HRA := Lib.hid hr
            replace HMQ := Lib.hid (HMQ.out.later hb)
            replace HPQ := Lib.hid (HPQ.out.later hb)
            clear hr hb HC HX9
            go_wp2_with fail
            refine pieceEnd_normal ⟨HF.out, ?_⟩
            clear HF
            refine wpGrow_cons ?_
            refine wpQuiet_nil ?_
            have HC := Lib.hid (HCC0.out.all K3 _ p _ x1 HMQ.out.hold HMO.out.1 HMQ.out.phold (by rw [HMO.out.2.1]; exact HGP.out))
            go_wp2_with fail
            refine HC.out.mono ?_
            rintro e x2 ⟨Ab, nb2, cb, rfl, hr, hb⟩
            have HF := Lib.hid hb
            have HRB := Lib.hid hr
            replace HRA := Lib.hid (HRA.out.later hb)
            replace HMQ := Lib.hid (HMQ.out.later hb)
            replace HPQ := Lib.hid (HPQ.out.later hb)
            clear hr hb HC
            go_wp2_with fail
            refine pieceEnd_normal ⟨HF.out, ?_⟩
            clear HF
            refine wpGrow_cons ?_
            refine wpQuiet_nil ?_
            have HC := Lib.hid (HCC0.out.all G _ _ _ x2 HMQ.out.ds.hold HGD.out HPQ.out HGQ.out)
            go_wp2_with fail
            refine HC.out.mono ?_
            rintro e x3 ⟨Ac, nc, cc, rfl, hr, hb⟩
            have HF := Lib.hid hb
            have HRC := Lib.hid hr
            replace HRA := Lib.hid (HRA.out.later hb)
            replace HRB := Lib.hid (HRB.out.later hb)
            have HDS := Lib.hid (HMQ.out.ds.later hb)
            clear hr hb HC HMQ HPQ HGQ
            go_wp2_with fail
            refine pieceEnd_normal ⟨HF.out, ?_⟩
            clear HF
            refine wpGrow_nil ?_
            repeat (go_big_quiet_step (fail))
            refine wpQuiet_nil ?_
            have hna : sz = na := by rw [← HRA.out.len, capsG_len HGD.out, hsz]
            have hnb2 : sz = nb2 := by rw [← HRB.out.len, capsG_len HMO.out.1, hsz3]
            have hnc : sz = nc := by rw [← HRC.out.len, capsG_len HGD.out, hsz]
            subst hna hnb2 hnc
            have HVA : Hid (∀ j : Nat, j < sz → (capsG G p).getD j 0 = capAt G p (j : Int)) := Lib.hid fun j h => capsG_at HGD.out p (by rw [hsz]; exact h)
            have HVB : Hid (∀ j : Nat, j < sz → (capsG K3 p).getD j 0 = capAt K3 p (j : Int)) := Lib.hid fun j h => capsG_at HMO.out.1 p (by rw [hsz3]; exact h)
            have HVC : Hid (∀ j : Nat, j < sz → (capsG G ⟨p.sd, p.tb.map (· + 2), p.lv⟩).getD j 0 = capAt G ⟨p.sd, p.tb.map (· + 2), p.lv⟩ (j : Int)) := Lib.hid fun j h => capsG_at HGD.out _ (by rw [hsz]; exact h)
            have HM1 : Hid (∀ j : Nat, j < sz → capAt G p (j : Int) ≤ capAt K3 p (j : Int)) := Lib.hid fun j h => HMO.out.2.2 j (by omega) (by rw [HSN.out]; omega)
            have HM2 : Hid (∀ j : Nat, j < sz → capAt G p (j : Int) ≤ capAt G ⟨p.sd, p.tb.map (· + 2), p.lv⟩ (j : Int) ∧ (capAt G ⟨p.sd, p.tb.map (· + 2), p.lv⟩ (j : Int) = 0 ↔ capAt G p (j : Int) = 0)) := Lib.hid fun j h => cap_two HGP.out.tab (j : Int)
            clear hsz hsz3 HMO HCC0
            generalize capsG G ⟨p.sd, p.tb.map (· + 2), p.lv⟩ = CD at *
            generalize capsG G p = AD at *
            generalize capsG K3 p = BD at *
            generalize capAt G ⟨p.sd, p.tb.map (· + 2), p.lv⟩ = fc at *
            generalize capAt G p = fa at *
            generalize capAt K3 p = fb at *
            have hz0 : x3.cell? ⟨g0, 0, none⟩ = some (.int .i64 (sz : Int)) := by rw [← HSN.out]; exact (cell_of_row _ _ 0 _ _ _ HDS.out.box).trans rfl
            go_wp2_with fail
            clear hz0
            go_loopw [14] (fun i wr => ∃ j : Nat, j ≤ sz ∧ i = .int .i64 j ∧ Hid (DS w D P g0 t G A n c B m k wr ∧ IRow wr Aa sz ca AD ∧ IRow wr Ab sz cb BD ∧ IRow wr Ac sz cc CD)) (fun i _ => sz - (intOf i).toNat)
            case atStart => exact ⟨0, Nat.zero_le _, rfl, Lib.hid ⟨HDS.out, HRA.out, HRB.out, HRC.out⟩⟩
            case round =>
              clear HDS HRA HRB HRC
              obtain ⟨j, hj, rfl, HL⟩ := hrel
              have hz0 : wr.cell? ⟨g0, 0, none⟩ = some (.int .i64 (sz : Int)) := by rw [← HSN.out]; exact (cell_of_row _ _ 0 _ _ _ HL.out.1.box).trans rfl
              by_cases hlt : j < sz
              · have hlt2 : (j : Int) < (sz : Int) := by omega
                obtain ⟨ba, oa, hAa, -⟩ := IRow.cell HL.out.2.1 j hlt
                obtain ⟨bb, ob, hAb, -⟩ := IRow.cell HL.out.2.2.1 j hlt
                obtain ⟨bc, oc, hAc, -⟩ := IRow.cell HL.out.2.2.2 j hlt
                subst hAa hAb hAc
                go_upto_region 21 with fail
                clear hz0
                refine wp_region_grow (by kernel_rfl) Later Later.refl (fun _ _ _ => Later.trans) [0, 1, 2, 3, 4, 5, 6, 7, 8, 9, 10, 11, 12, 13, 14, 15, 16, 17, 18, 19, 20, 21, 22, 23, 24, 25, 26, 27, 28, 29, 30, 31, 32] [] (by kernel_rfl) (by kernel_rfl) (by kernel_rfl) ?_
                simp only [List.map_cons, List.map_nil, pick, List.getD_cons_zero, List.getD_cons_succ]
                have hdr := Later.drew wr
                replace HL : Hid (DS w D P g0 t G A n c B m k wr.drew ∧ IRow wr.drew (some ⟨ba, oa, none⟩) sz ca AD ∧ IRow wr.drew (some ⟨bb, ob, none⟩) sz cb BD ∧ IRow wr.drew (some ⟨bc, oc, none⟩) sz cc CD) := Lib.hid ⟨HL.out.1.later hdr, HL.out.2.1.later hdr, HL.out.2.2.1.later hdr, HL.out.2.2.2.later hdr⟩
                clear hdr
                generalize wr.drew = z7 at *
                have hfa := irow_fut HL.out.2.1 j hlt
                have hfb := irow_fut HL.out.2.2.1 j hlt
                have hfc := irow_fut HL.out.2.2.2 j hlt
                rw [HVA.out j hlt] at hfa
                rw [HVB.out j hlt] at hfb
                rw [HVC.out j hlt] at hfc
                have h1 := HM1.out j hlt
                have h2 := (HM2.out j hlt).1
                have h3 := (HM2.out j hlt).2
                generalize fa (j : Int) = va at *
                generalize fb (j : Int) = vb at *
                generalize fc (j : Int) = vc at *
                have d1 : decide (vb < va) = false := decide_eq_false (by omega)
                have d2 : decide (vc < va) = false := decide_eq_false (by omega)
                by_cases h0 : va = 0
                · have q1 : (va == 0) = true := by rw [h0]; rfl
                  have q1' : decide (va = 0) = true := decide_eq_true h0
                  have q2 : (vc == 0) = true := by rw [h3.2 h0]; rfl
                  have q2' : decide (vc = 0) = true := decide_eq_true (h3.2 h0)
                  clear h0 h1 h2 h3
                  refine wpGrow_nil ?_
                  repeat (go_big_quiet_step (fail))
                  refine wpQuiet_nil ?_
                  clear hfa hfb hfc
                  go_wp2_with fail
                  exact ⟨⟨j + 1, hlt, by go_num, HL⟩, by simp [intOf]; omega⟩
                · have q1 : (va == 0) = false := by rw [beq_eq_false_iff_ne]; exact h0
                  have q1' : decide (va = 0) = false := decide_eq_false h0
                  have q2 : (vc == 0) = false := by rw [beq_eq_false_iff_ne]; exact fun q => h0 (h3.1 q)
                  have q2' : decide (vc = 0) = false := decide_eq_false fun q => h0 (h3.1 q)
                  clear h0 h1 h2 h3
                  refine wpGrow_nil ?_
                  repeat (go_big_quiet_step (fail))
                  refine wpQuiet_nil ?_
                  clear hfa hfb hfc
                  go_wp2_with fail
                  exact ⟨⟨j + 1, hlt, by go_num, HL⟩, by simp [intOf]; omega⟩
              · have hlt2 : ¬ (j : Int) < (sz : Int) := by omega
                go_wp2_with fail
                refine (HAW.out wr).mono ?_
                rintro e z8 ⟨rfl, hb⟩
                have HBB := Lib.hid (HL.out.1.later hb).base
                clear hb
                go_wp2_with fail
                go_ret
                exact ⟨rfl, HBB.out⟩
  · have gd0 : decide (tn ≤ 400) = false := decide_eq_false hn
    go_wp2_with fail
    clear gd0
    refine (HAW.out w).mono ?_
    rintro e w1 ⟨rfl, hb⟩
    have HB := Lib.hid hb; clear hb
    go_wp2_with fail
    go_ret
    exact ⟨rfl, HB.out⟩
end Go.Proofs.Ytdildmfjekdlgaa
