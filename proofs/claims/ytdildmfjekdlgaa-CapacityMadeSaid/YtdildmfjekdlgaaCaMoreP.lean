import Derived.Test.YtdildmfjekdlgaaCaAwakeP
import Derived.Test.YtdildmfjekdlgaaPackAX
import Derived.Test.YtdildmfjekdlgaaPackAC
import Derived.Test.YtdildmfjekdlgaaPackAR
import Derived.Deep.CutBlock
import Derived.Deep.DeepCutAuto
/- The walk of the law CapacityMore. -/
namespace Go.Proofs.Ytdildmfjekdlgaa
open Go.RowKit
/-- What a law of layer 12 keeps in memory: the dice, the graph, the box that holds it. -/
structure DS (w : World) (D P g0 : Nat) (t : List Int) (G : Gr) (A : Option Addr) (n c : Nat) (B : Option Addr) (m k : Nat) (z : World) : Prop where
  dice : ∃ kd, DiceAt z w.heap.size D t kd
  own : GOwn z P G (.agg #[.int .i64 G.sz, .slice A n c, .slice B m k])
  base : Below w.heap.size w z
  box : z.heap[g0]? = some (.cells #[.int .i64 G.sz, .slice A n c, .slice B m k] 31 (0, 0))
  wd : w.heap.size ≤ D
  dp : D < P
  dg : D < g0
section
variable {w : World} {D P g0 : Nat} {t : List Int} {G : Gr} {A : Option Addr} {n c : Nat} {B : Option Addr} {m k : Nat} {z z' : World}
theorem DS.later (h : DS w D P g0 t G A n c B m k z) (hb : Below z.heap.size z z') : DS w D P g0 t G A n c B m k z' :=
  { h with
    dice := by obtain ⟨kd, hk⟩ := h.dice; exact ⟨kd, hk.later hb⟩
    own := h.own.later hb
    base := h.base.trans (hb.mono h.base.size)
    box := (hb.block _ (Array.getElem?_eq_some_iff.1 h.box).1).trans h.box }
theorem DS.gave (h : DS w D P g0 t G A n c B m k z) (hg : Gave w.heap.size D t z z') : DS w D P g0 t G A n c B m k z' :=
  { h with
    dice := hg.1
    own := h.own.but hg.2 h.dp
    base := h.base.trans (hg.2.below h.wd h.base.size)
    box := (hg.2.block g0 (Array.getElem?_eq_some_iff.1 h.box).1 (by have := h.dg; omega)).trans h.box }
theorem DS.drew (h : DS w D P g0 t G A n c B m k z) : DS w D P g0 t G A n c B m k z.drew := h.later (Below.refl _ _).drew
theorem DS.hold (h : DS w D P g0 t G A n c B m k z) : GHold z G (.agg #[.int .i64 G.sz, .slice A n c, .slice B m k]) := h.own.hold
theorem DS.lt (h : DS w D P g0 t G A n c B m k z) : D < z.heap.size := by obtain ⟨kd, hk⟩ := h.dice; exact hk.lt
theorem DS.rows (h : DS w D P g0 t G A n c B m k z) : ERow z A n c G.es ∧ IRow z B m k G.gn := by
  obtain ⟨A2, n2, c2, B2, m2, k2, he, h1, h2⟩ := h.hold
  injection he with he
  simp only [Array.mk.injEq, List.cons.injEq, and_true, true_and, Value.slice.injEq] at he
  obtain ⟨⟨rfl, rfl, rfl⟩, rfl, rfl, rfl⟩ := he
  exact ⟨h1, h2⟩
end
theorem some_g12 (L D : Nat) (t : List Int) (n : Nat) (w : World) (h : ∃ k, DiceAt w L D t k) (hn : n ≤ 100000) :
    Calls Try.prog 15 #[.pointer (some ⟨D, 0, none⟩), .int .i64 n] w fun e w' => ∃ v S, e = .returned v ∧ w'.ownsRow w.heap.size 3 1 v S.length (intsV S) ∧ S.length ≤ n ∧ Gave L D t w w' := by
  obtain ⟨k, hk⟩ := h
  refine (some_any L D t k n w hk hn).mono ?_
  rintro e w' ⟨v, rfl, ho, hd, hb⟩
  exact ⟨v, _, rfl, ho, diceSs_len t n k, ⟨_, hd⟩, hb⟩
theorem own_neqT12 {w : World} {B : Nat} {e : TypeId} {sz : Nat} {v : Value} {n : Nat} {xs : List Value} (h : w.ownsRow B e sz v n xs) {g : Nat} {cs : Array Value} {T : TypeId} {fr : Nat × Nat} (hg : w.heap[g]? = some (.cells cs T fr)) (hne : e ≠ T) : ∀ q, v.ownBlock = some q → q ≠ g := by
  intro q h1 h2
  subst h2
  rcases h.2 with ⟨hn, _⟩ | ⟨a, cap, cur, rfl, ha, hgg, rest⟩
  · subst hn; cases h1
  · have e1 : a = q := by injection h1
    subst e1
    rw [hgg] at hg
    injection hg with hg
    injection hg with _ e2 _
    exact hne e2
theorem GOwn.set12 {w : World} {B : Nat} {G : Gr} {v : Value} (h : GOwn w B G v) {g : Nat} {cs0 : Array Value} {fr : Nat × Nat} (hb : w.heap[g]? = some (.cells cs0 31 fr)) (cs : Array Value) : GOwn (w.setRow g cs) B G v := by
  obtain ⟨e, q, rfl, h1, h2⟩ := h
  exact ⟨e, q, rfl, own_keepL h1 fun b hb' => setRow_other _ _ _ _ (own_neqT12 h1 hb (by decide) b hb'), own_keepL h2 fun b hb' => setRow_other _ _ _ _ (own_neqT12 h2 hb (by decide) b hb')⟩
theorem DS.set12 {w : World} {D P g0 : Nat} {t : List Int} {G : Gr} {A : Option Addr} {n c : Nat} {B : Option Addr} {m k : Nat} {z : World} (h : DS w D P g0 t G A n c B m k z) {g : Nat} {cs0 : Array Value} {fr : Nat × Nat} (hb : z.heap[g]? = some (.cells cs0 31 fr)) (hD : D < g) (hne : g ≠ g0) (cs : Array Value) : DS w D P g0 t G A n c B m k (z.setRow g cs) :=
  { h with
    dice := by obtain ⟨k, hk⟩ := h.dice; exact ⟨k, hk.below (below_setRow (Below.refl _ _) (Nat.le_refl g) cs) hD⟩
    own := h.own.set12 hb cs
    base := below_setRow h.base (by have := h.wd; omega) cs
    box := (setRow_other _ _ _ _ (Ne.symm hne)).trans h.box }
theorem PCT13 : 24 ≠ 31 := by decide
/-- .. and a policy, and a box with another graph. -/
structure MQ (w : World) (D P g0 : Nat) (t : List Int) (G : Gr) (A : Option Addr) (n c : Nat) (B : Option Addr) (m k : Nat) (p : Pol) (sv tv : Value) (g5 g6 : Nat) (K : Gr) (e f : Value) (z : World) : Prop where
  ds : DS w D P g0 t G A n c B m k z
  px : z.heap[g5]? = some (.cells #[sv, tv, .int .i64 p.lv] 24 (0, 0))
  sd : z.ownsRow (D + 1) 3 1 sv p.sd.length (intsV p.sd)
  tb : z.ownsRow (D + 1) 3 1 tv p.tb.length (intsV p.tb)
  pl : D < g5
  gl : D < g6
  ne : g6 ≠ g0
  bx : z.heap[g6]? = some (.cells #[.int .i64 K.sz, e, f] 31 (0, 0))
  es : z.ownsRow (D + 1) 45 3 e K.es.length (rowC Edg.cells K.es)
  gn : z.ownsRow (D + 1) 3 1 f K.gn.length (intsV K.gn)
section
variable {w : World} {D P g0 : Nat} {t : List Int} {G : Gr} {A : Option Addr} {n c : Nat} {B : Option Addr} {m k : Nat} {p : Pol} {sv tv : Value} {g5 g6 : Nat} {K : Gr} {e f : Value} {z z' : World}
theorem MQ.later (h : MQ w D P g0 t G A n c B m k p sv tv g5 g6 K e f z) (hb : Below z.heap.size z z') : MQ w D P g0 t G A n c B m k p sv tv g5 g6 K e f z' :=
  { h with
    ds := h.ds.later hb
    px := (hb.block _ (Array.getElem?_eq_some_iff.1 h.px).1).trans h.px
    sd := own_later h.sd hb
    tb := own_later h.tb hb
    bx := (hb.block _ (Array.getElem?_eq_some_iff.1 h.bx).1).trans h.bx
    es := own_later h.es hb
    gn := own_later h.gn hb }
theorem MQ.gave (h : MQ w D P g0 t G A n c B m k p sv tv g5 g6 K e f z) (hg : Gave w.heap.size D t z z') : MQ w D P g0 t G A n c B m k p sv tv g5 g6 K e f z' :=
  { h with
    ds := h.ds.gave hg
    px := (hg.2.block _ (Array.getElem?_eq_some_iff.1 h.px).1 (by have := h.pl; omega)).trans h.px
    sd := own_keepL h.sd fun q hq => hg.2.block q (own_lt h.sd q hq) (by have := own_ge h.sd q hq; omega)
    tb := own_keepL h.tb fun q hq => hg.2.block q (own_lt h.tb q hq) (by have := own_ge h.tb q hq; omega)
    bx := (hg.2.block _ (Array.getElem?_eq_some_iff.1 h.bx).1 (by have := h.gl; omega)).trans h.bx
    es := own_keepL h.es fun q hq => hg.2.block q (own_lt h.es q hq) (by have := own_ge h.es q hq; omega)
    gn := own_keepL h.gn fun q hq => hg.2.block q (own_lt h.gn q hq) (by have := own_ge h.gn q hq; omega) }
theorem MQ.hold (h : MQ w D P g0 t G A n c B m k p sv tv g5 g6 K e f z) : GHold z K (.agg #[.int .i64 K.sz, e, f]) := GOwn.hold (B := D + 1) ⟨_, _, rfl, h.es, h.gn⟩
theorem MQ.phold (h : MQ w D P g0 t G A n c B m k p sv tv g5 g6 K e f z) : PHold z p (.agg #[sv, tv, .int .i64 p.lv]) := POwn.hold (b := D + 1) ⟨_, _, rfl, h.sd, h.tb⟩
theorem px_ne {g g' : Nat} {cs cs' : Array Value} {fr fr' : Nat × Nat} {z : World} (h : z.heap[g]? = some (.cells cs 24 fr)) (h' : z.heap[g']? = some (.cells cs' 31 fr')) : g ≠ g' := by
  intro e
  rw [e, h'] at h
  injection h with h
  injection h with _ h _
  exact PCT13 h.symm
theorem MQ.set (h : MQ w D P g0 t G A n c B m k p sv tv g5 g6 K e f z) {g : Nat} {cs0 : Array Value} {fr : Nat × Nat} (hb : z.heap[g]? = some (.cells cs0 31 fr)) (hD : D < g) (hne : g ≠ g0) (hn6 : g ≠ g6) (cells : Array Value) : MQ w D P g0 t G A n c B m k p sv tv g5 g6 K e f (z.setRow g cells) :=
  { h with
    ds := h.ds.set12 hb hD hne cells
    px := (setRow_other _ _ _ _ (px_ne h.px hb)).trans h.px
    sd := own_keepL h.sd fun b hb' => setRow_other _ _ _ _ (own_neqT12 h.sd hb (by decide) b hb')
    tb := own_keepL h.tb fun b hb' => setRow_other _ _ _ _ (own_neqT12 h.tb hb (by decide) b hb')
    bx := (setRow_other _ _ _ _ (Ne.symm hn6)).trans h.bx
    es := own_keepL h.es fun b hb' => setRow_other _ _ _ _ (own_neqT12 h.es hb (by decide) b hb')
    gn := own_keepL h.gn fun b hb' => setRow_other _ _ _ _ (own_neqT12 h.gn hb (by decide) b hb') }
theorem MQ.turn (h : MQ w D P g0 t G A n c B m k p sv tv g5 g6 K e f z) {K' : Gr} {e' f' : Value} (h1 : z.ownsRow (D + 1) 45 3 e' K'.es.length (rowC Edg.cells K'.es)) (h2 : z.ownsRow (D + 1) 3 1 f' K'.gn.length (intsV K'.gn)) : MQ w D P g0 t G A n c B m k p sv tv g5 g6 K' e' f' (z.setRow g6 #[.int .i64 K'.sz, e', f']) :=
  { ds := h.ds.set12 h.bx h.gl h.ne _
    px := (setRow_other _ _ _ _ (px_ne h.px h.bx)).trans h.px
    sd := own_keepL h.sd fun b hb' => setRow_other _ _ _ _ (own_neqT12 h.sd h.bx (by decide) b hb')
    tb := own_keepL h.tb fun b hb' => setRow_other _ _ _ _ (own_neqT12 h.tb h.bx (by decide) b hb')
    pl := h.pl
    gl := h.gl
    ne := h.ne
    bx := setRow_heap _ _ _ _ _ _ h.bx
    es := own_keepL h1 fun b hb' => setRow_other _ _ _ _ (own_neqT12 h1 h.bx (by decide) b hb')
    gn := own_keepL h2 fun b hb' => setRow_other _ _ _ _ (own_neqT12 h2 h.bx (by decide) b hb') }
end
/-- No capacity less than in G. -/
def MC (G : Gr) (p : Pol) (K : Gr) : Prop := Good11 K ∧ K.sz = G.sz ∧ ∀ k : Int, 0 ≤ k → k < G.sz → capAt G p k ≤ capAt K p k
theorem MC.refl {G : Gr} {p : Pol} (h : Good11 G) : MC G p G := ⟨h, rfl, fun _ _ _ => Int.le_refl _⟩
theorem MC.edge {G : Gr} {p : Pol} {e : Edg} (ht : GoodT p.tb) (h : (withG G e).2 = 0) : MC G p (withG G e).1 := by
  obtain ⟨-, h2, h3, -⟩ := with_good h
  exact ⟨h2, by rw [h3], fun k h0 h1 => cap_edge ht h h0 h1⟩
end Go.Proofs.Ytdildmfjekdlgaa
