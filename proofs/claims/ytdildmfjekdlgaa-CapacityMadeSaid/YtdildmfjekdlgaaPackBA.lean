import Derived.Test.YtdildmfjekdlgaaCaMoreP
import Derived.Test.YtdildmfjekdlgaaDicePolAP
import Derived.Test.YtdildmfjekdlgaaPackAC
/- What the law CapacityMade keeps in memory. -/
namespace Go.Proofs.Ytdildmfjekdlgaa
open Go.RowKit
/-- What CapacityMade keeps: the dice, a graph (whose size may have turned), a policy. -/
structure PX (w : World) (D P g0 : Nat) (t : List Int) (G : Gr) (A : Option Addr) (n c : Nat) (B : Option Addr) (m k : Nat) (zz : Int) (q : Pol) (sv tv : Value) (g5 : Nat) (z : World) : Prop where
  ds : DS w D P g0 t ⟨zz, G.es, G.gn⟩ A n c B m k z
  px : z.heap[g5]? = some (.cells #[sv, tv, .int .i64 q.lv] 24 (0, 0))
  pl : D < g5
  sd : z.ownsRow (D + 1) 3 1 sv q.sd.length (intsV q.sd)
  tb : z.ownsRow (D + 1) 3 1 tv q.tb.length (intsV q.tb)
  l1 : q.sd.length ≤ 100
  l2 : q.tb.length ≤ 100
section
variable {w : World} {D P g0 : Nat} {t : List Int} {G : Gr} {A : Option Addr} {n c : Nat} {B : Option Addr} {m k : Nat} {zz : Int} {q : Pol} {sv tv : Value} {g5 : Nat} {z z' : World}
theorem PX.later (h : PX w D P g0 t G A n c B m k zz q sv tv g5 z) (hb : Below z.heap.size z z') : PX w D P g0 t G A n c B m k zz q sv tv g5 z' :=
  { h with
    ds := h.ds.later hb
    px := (hb.block _ (Array.getElem?_eq_some_iff.1 h.px).1).trans h.px
    sd := own_later h.sd hb
    tb := own_later h.tb hb }
theorem PX.gave (h : PX w D P g0 t G A n c B m k zz q sv tv g5 z) (hg : Gave w.heap.size D t z z') : PX w D P g0 t G A n c B m k zz q sv tv g5 z' :=
  { h with
    ds := h.ds.gave hg
    px := (hg.2.block _ (Array.getElem?_eq_some_iff.1 h.px).1 (by have := h.pl; omega)).trans h.px
    sd := own_keepL h.sd fun b hb => hg.2.block b (own_lt h.sd b hb) (by have := own_ge h.sd b hb; omega)
    tb := own_keepL h.tb fun b hb => hg.2.block b (own_lt h.tb b hb) (by have := own_ge h.tb b hb; omega) }
theorem PX.phold (h : PX w D P g0 t G A n c B m k zz q sv tv g5 z) : PHold z q (.agg #[sv, tv, .int .i64 q.lv]) := POwn.hold (b := D + 1) ⟨_, _, rfl, h.sd, h.tb⟩
theorem DS.bn13 {y0 : World} (h : DS w D P g0 t G A n c B m k y0) (hb : BN D y0.heap.size y0 z) (hd : ∃ kd, DiceAt z w.heap.size D t kd) : DS w D P g0 t G A n c B m k z :=
  { h with
    dice := hd
    own := by
      obtain ⟨e, g, he, h1, h2⟩ := h.own
      exact ⟨e, g, he, own_keepL h1 fun b hq => hb.keep b (own_lt h1 b hq) (by have := own_ge h1 b hq; have := h.dp; omega), own_keepL h2 fun b hq => hb.keep b (own_lt h2 b hq) (by have := own_ge h2 b hq; have := h.dp; omega)⟩
    base := h.base.trans ⟨hb.low.os, hb.low.tape, hb.low.output, hb.low.size, fun b hq => hb.keep b (Nat.lt_of_lt_of_le hq h.base.size) (by have := h.wd; omega)⟩
    box := (hb.keep g0 (Array.getElem?_eq_some_iff.1 h.box).1 (by have := h.dg; omega)).trans h.box }
theorem DS.size13 (h : DS w D P g0 t G A n c B m k z) (x : Int) : DS w D P g0 t ⟨x, G.es, G.gn⟩ A n c B m k (z.setCell ⟨g0, 0, none⟩ (.int .i64 x)) :=
  { dice := by obtain ⟨kd, hk⟩ := h.dice; exact ⟨kd, hk.below ((Below.refl g0 z).setCell (p := ⟨g0, 0, none⟩) (Nat.le_refl _) _) h.dg⟩
    own := by
      obtain ⟨e, g, he, h1, h2⟩ := h.own
      injection he with he
      simp only [Array.mk.injEq, List.cons.injEq, and_true, true_and] at he
      obtain ⟨rfl, rfl⟩ := he
      exact ⟨_, _, rfl, own_keepL h1 fun b hq => Below.heap_setCell z ⟨g0, 0, none⟩ _ b (own_neqT12 h1 h.box (by decide) b hq), own_keepL h2 fun b hq => Below.heap_setCell z ⟨g0, 0, none⟩ _ b (own_neqT12 h2 h.box (by decide) b hq)⟩
    base := h.base.setCell (p := ⟨g0, 0, none⟩) (by have := h.wd; have := h.dg; show w.heap.size ≤ g0; omega) _
    box := heap_setCell_same z g0 0 _ _ _ h.box
    wd := h.wd
    dp := h.dp
    dg := h.dg }
theorem PX.size (h : PX w D P g0 t G A n c B m k G.sz q sv tv g5 z) (x : Int) : PX w D P g0 t G A n c B m k x q sv tv g5 (z.setCell ⟨g0, 0, none⟩ (.int .i64 x)) :=
  { ds := h.ds.size13 x
    px := (Below.heap_setCell z ⟨g0, 0, none⟩ _ g5 (px_ne h.px h.ds.box)).trans h.px
    pl := h.pl
    sd := own_keepL h.sd fun b hq => Below.heap_setCell z ⟨g0, 0, none⟩ _ b (own_neqT12 h.sd h.ds.box (by decide) b hq)
    tb := own_keepL h.tb fun b hq => Below.heap_setCell z ⟨g0, 0, none⟩ _ b (own_neqT12 h.tb h.ds.box (by decide) b hq)
    l1 := h.l1
    l2 := h.l2 }
end
/-- The same while the policy turns: y0 is the world ahead of the policy. -/
structure PQ (w : World) (D P g0 : Nat) (t : List Int) (G : Gr) (A : Option Addr) (n c : Nat) (B : Option Addr) (m k : Nat) (y0 : World) (q : Pol) (sv tv : Value) (g5 : Nat) (z : World) : Prop where
  bn : BN D y0.heap.size y0 z
  dice : ∃ kd, DiceAt z w.heap.size D t kd
  dq : D < y0.heap.size
  px : z.heap[g5]? = some (.cells #[sv, tv, .int .i64 q.lv] 24 (0, 0))
  pl : y0.heap.size ≤ g5
  sd : z.ownsRow y0.heap.size 3 1 sv q.sd.length (intsV q.sd)
  tb : z.ownsRow y0.heap.size 3 1 tv q.tb.length (intsV q.tb)
  ap : ∀ b, sv.ownBlock = some b → tv.ownBlock ≠ some b
section
variable {w : World} {D P g0 : Nat} {t : List Int} {G : Gr} {A : Option Addr} {n c : Nat} {B : Option Addr} {m k : Nat} {y0 : World} {q : Pol} {sv tv : Value} {g5 : Nat} {z z' : World}
theorem PQ.toX (h : PQ w D P g0 t G A n c B m k y0 q sv tv g5 z) (h0 : DS w D P g0 t G A n c B m k y0) (l1 : q.sd.length ≤ 100) (l2 : q.tb.length ≤ 100) : PX w D P g0 t G A n c B m k G.sz q sv tv g5 z :=
  { ds := h0.bn13 h.bn h.dice
    px := h.px
    pl := Nat.lt_of_lt_of_le h.dq h.pl
    sd := own_base h.sd h.dq
    tb := own_base h.tb h.dq
    l1 := l1
    l2 := l2 }
theorem PQ.sz (h : PQ w D P g0 t G A n c B m k y0 q sv tv g5 z) : y0.heap.size ≤ z.heap.size := h.bn.low.size
theorem PQ.gave (h : PQ w D P g0 t G A n c B m k y0 q sv tv g5 z) (hg : Gave w.heap.size D t z z') : PQ w D P g0 t G A n c B m k y0 q sv tv g5 z' :=
  { h with
    bn := h.bn.trans (BN.but hg.2 h.sz)
    dice := hg.1
    px := (hg.2.block _ (Array.getElem?_eq_some_iff.1 h.px).1 (by have := h.pl; have := h.dq; omega)).trans h.px
    sd := own_keepL h.sd fun b hb => hg.2.block b (own_lt h.sd b hb) (by have := own_ge h.sd b hb; have := h.dq; omega)
    tb := own_keepL h.tb fun b hb => hg.2.block b (own_lt h.tb b hb) (by have := own_ge h.tb b hb; have := h.dq; omega) }
theorem PQ.later (h : PQ w D P g0 t G A n c B m k y0 q sv tv g5 z) (hb : Below z.heap.size z z') : PQ w D P g0 t G A n c B m k y0 q sv tv g5 z' :=
  { h with
    bn := h.bn.trans (BN.later hb h.sz)
    dice := by obtain ⟨kd, hk⟩ := h.dice; exact ⟨kd, hk.later hb⟩
    px := (hb.block _ (Array.getElem?_eq_some_iff.1 h.px).1).trans h.px
    sd := own_later h.sd hb
    tb := own_later h.tb hb }
theorem PQ.cell (h : PQ w D P g0 t G A n c B m k y0 q sv tv g5 z) {q' : Pol} {sv' tv' v : Value} {i : Nat} (hb : Below y0.heap.size z z') (hx : z'.heap[g5]? = z.heap[g5]?) (hrow : (#[sv, tv, .int .i64 q.lv] : Array Value).setIfInBounds i v = #[sv', tv', .int .i64 q'.lv])
    (h1 : z'.ownsRow y0.heap.size 3 1 sv' q'.sd.length (intsV q'.sd)) (h2 : z'.ownsRow y0.heap.size 3 1 tv' q'.tb.length (intsV q'.tb)) (ha : ∀ b, sv'.ownBlock = some b → tv'.ownBlock ≠ some b) : PQ w D P g0 t G A n c B m k y0 q' sv' tv' g5 (z'.setCell ⟨g5, i, none⟩ v) := by
  have hb2 : Below y0.heap.size z (z'.setCell ⟨g5, i, none⟩ v) := hb.setCell (p := ⟨g5, i, none⟩) h.pl v
  have hx2 := hx.trans h.px
  have hc := heap_setCell_same z' g5 i _ _ v hx2
  rw [hrow] at hc
  exact {
    bn := h.bn.trans ⟨hb2.mono (Nat.zero_le _), fun b hb _ => hb2.block b hb⟩
    dice := by obtain ⟨kd, hk⟩ := h.dice; exact ⟨kd, hk.below hb2 h.dq⟩
    dq := h.dq
    px := hc
    pl := h.pl
    sd := own_keepL h1 fun b hq => Below.heap_setCell z' ⟨g5, i, none⟩ v b (own_neqT12 h1 hx2 (by decide) b hq)
    tb := own_keepL h2 fun b hq => Below.heap_setCell z' ⟨g5, i, none⟩ v b (own_neqT12 h2 hx2 (by decide) b hq)
    ap := ha }
/-- A number of the table turns. -/
theorem PQ.table {bt ct : Nat} (h : PQ w D P g0 t G A n c B m k y0 q sv (.slice (some ⟨bt, 0, none⟩) q.tb.length ct) g5 z) (i : Nat) (u : Int) : PQ w D P g0 t G A n c B m k y0 ⟨q.sd, q.tb.set i u, q.lv⟩ sv (.slice (some ⟨bt, 0, none⟩) q.tb.length ct) g5 (z.setCell ⟨bt, i, none⟩ (.int .i64 u)) := by
  have hQ : y0.heap.size ≤ bt := own_ge h.tb bt rfl
  have hb2 : Below y0.heap.size z (z.setCell ⟨bt, i, none⟩ (.int .i64 u)) := (Below.refl _ _).setCell (p := ⟨bt, i, none⟩) hQ _
  have hk : ∀ b, b ≠ bt → (z.setCell ⟨bt, i, none⟩ (.int .i64 u)).heap[b]? = z.heap[b]? := fun b hb => Below.heap_setCell z ⟨bt, i, none⟩ _ b hb
  have ht := own_seti h.tb i u
  exact {
    bn := h.bn.trans ⟨hb2.mono (Nat.zero_le _), fun b hb _ => hb2.block b hb⟩
    dice := by obtain ⟨kd, hk⟩ := h.dice; exact ⟨kd, hk.below hb2 h.dq⟩
    dq := h.dq
    px := (hk g5 (Ne.symm (own_neqT12 h.tb h.px (by decide) bt rfl))).trans h.px
    pl := h.pl
    sd := own_keepL h.sd fun b hq => hk b (fun e => h.ap b hq (by rw [e]; rfl))
    tb := by rw [show (⟨q.sd, q.tb.set i u, q.lv⟩ : Pol).tb.length = q.tb.length from List.length_set]; exact ht
    ap := h.ap }
end
/-- Nothing below n turns but two blocks. -/
structure B2 (D b n : Nat) (x y : World) : Prop where
  low : Below 0 x y
  keep : ∀ k, k < n → k ≠ D → k ≠ b → y.heap[k]? = x.heap[k]?
theorem B2.refl (D b n : Nat) (x : World) : B2 D b n x x := ⟨Below.refl _ _, fun _ _ _ _ => rfl⟩
theorem B2.trans {D b n : Nat} {x y z : World} (h : B2 D b n x y) (k : B2 D b n y z) : B2 D b n x z := ⟨h.low.trans k.low, fun i h1 h2 h3 => (k.keep i h1 h2 h3).trans (h.keep i h1 h2 h3)⟩
theorem B2.but {D b n : Nat} {x y : World} (h : But D x y) (hn : n ≤ x.heap.size) : B2 D b n x y := ⟨⟨h.os, h.tape, h.output, h.size, fun _ hk => absurd hk (Nat.not_lt_zero _)⟩, fun k h1 h2 _ => h.block k (Nat.lt_of_lt_of_le h1 hn) h2⟩
theorem B2.later {D b n : Nat} {x y : World} (h : Below x.heap.size x y) (hn : n ≤ x.heap.size) : B2 D b n x y := ⟨h.mono (Nat.zero_le _), fun k h1 _ _ => h.block k (Nat.lt_of_lt_of_le h1 hn)⟩
theorem B2.set (D b n i : Nat) (x : World) (v : Value) : B2 D b n x (x.setCell ⟨b, i, none⟩ v) := ⟨(Below.refl _ _).setCell (p := ⟨b, i, none⟩) (Nat.zero_le _) v, fun k _ _ h3 => Below.heap_setCell x ⟨b, i, none⟩ v k h3⟩
/-- How many numbers a slice in a cell has. -/
def lenAt (g i : Nat) (w : World) : Nat := match w.cell? ⟨g, i, none⟩ with | some (.slice _ n _) => n | _ => 0
end Go.Proofs.Ytdildmfjekdlgaa
/- A flow with four ways; a number behind the table. -/
namespace Go.Proofs.Ytdildmfjekdlgaa
open Go.RowKit
/-- No bound on what turns. -/
structure AnyW13 (_a _b : World) : Prop where
  ok : True
theorem AnyW13.all (a b : World) : AnyW13 a b := ⟨trivial⟩
section
variable {P : Program} {md : Region.Mode} {F : World → World → Prop}
theorem flow_four {l : List Oper} {Q : Exit → Act → World → Prop} (ht : ∀ a b c, F a b → F b c → F a c) (hr : ∀ w, F w w) {fuel : Nat} (e1 e2 e3 e4 : Nat) {listed : Array Bool} {a : Act} {w : World} (h2 : (Region.ready md l.toArray listed == [e1, e2, e3, e4]) = true) (h3 : e1 < l.length) (h4 : e2 < l.length) (h5 : e3 < l.length) (h6 : e4 < l.length)
    (h : wpList P l.toArray (pieceEnd fun a'' w' => F w w' ∧ wpAnyH P md l.toArray (NoPanic Q) (Futs F w') fuel (listed.setIfInBounds e1 true) a'' w') [pick l e1] a w)
    (h' : wpList P l.toArray (pieceEnd fun a'' w' => F w w' ∧ wpAnyH P md l.toArray (NoPanic Q) (Futs F w') fuel (listed.setIfInBounds e2 true) a'' w') [pick l e2] a w)
    (h'' : wpList P l.toArray (pieceEnd fun a'' w' => F w w' ∧ wpAnyH P md l.toArray (NoPanic Q) (Futs F w') fuel (listed.setIfInBounds e3 true) a'' w') [pick l e3] a w)
    (h4' : wpList P l.toArray (pieceEnd fun a'' w' => F w w' ∧ wpAnyH P md l.toArray (NoPanic Q) (Futs F w') fuel (listed.setIfInBounds e4 true) a'' w') [pick l e4] a w) :
    wpAnyH P md l.toArray (NoPanic Q) (Futs F w) (fuel + 1) listed a w :=
  flow_step ht hr [e1, e2, e3, e4] h2 (by simp) (by simp [h3, h4, h5, h6]) (fun i hi => by
    have : i = e1 ∨ i = e2 ∨ i = e3 ∨ i = e4 := by simpa using hi
    rcases this with rfl | rfl | rfl | rfl
    · exact h
    · exact h'
    · exact h''
    · exact h4')
end
section
variable {w : World} {D P g0 : Nat} {t : List Int} {G : Gr} {A : Option Addr} {n c : Nat} {B : Option Addr} {m k : Nat} {y0 : World} {q : Pol} {sv tv : Value} {g5 : Nat} {z z' : World}
/-- A number behind the table, in place or not; then the box's field turns. -/
theorem PQ.apd13 (h : PQ w D P g0 t G A n c B m k y0 q sv tv g5 z) (u : Int) {A5 : Option Addr} {c5 : Nat} (hb : Below y0.heap.size z z') (hk : ∀ b, b < z.heap.size → tv.ownBlock ≠ some b → z'.heap[b]? = z.heap[b]?) (ho : z'.ownsRow y0.heap.size 3 1 (.slice A5 (q.tb.length + 1) c5) (q.tb.length + 1) (intsV q.tb ++ intsV [u])) (hv : (Value.slice A5 (q.tb.length + 1) c5).ownBlock = tv.ownBlock ∨ ∃ b, z.heap.size ≤ b ∧ (Value.slice A5 (q.tb.length + 1) c5).ownBlock = some b) : PQ w D P g0 t G A n c B m k y0 ⟨q.sd, q.tb ++ [u], q.lv⟩ sv (.slice A5 (q.tb.length + 1) c5) g5 (z'.setCell ⟨g5, 1, none⟩ (.slice A5 (q.tb.length + 1) c5)) := by
  have hqs : g5 < z.heap.size := (Array.getElem?_eq_some_iff.1 h.px).1
  have hqn : tv.ownBlock ≠ some g5 := fun e => own_neqT12 h.tb h.px (by decide) g5 e rfl
  refine h.cell (q' := ⟨q.sd, q.tb ++ [u], q.lv⟩) hb (hk g5 hqs hqn) rfl (own_keepL h.sd fun b hq => hk b (own_lt h.sd b hq) (h.ap b hq)) ?_ (fun b hq e => ?_)
  · rw [show (⟨q.sd, q.tb ++ [u], q.lv⟩ : Pol).tb.length = q.tb.length + 1 by simp, intsV_app]
    exact ho
  · rcases hv with e2 | ⟨b2, h2, e2⟩
    · rw [e2] at e; exact h.ap b hq e
    · rw [e2] at e; injection e with e; have := own_lt h.sd b hq; omega
end
end Go.Proofs.Ytdildmfjekdlgaa
