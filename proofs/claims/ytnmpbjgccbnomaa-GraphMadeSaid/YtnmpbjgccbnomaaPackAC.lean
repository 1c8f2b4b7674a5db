import Derived.Test.YtnmpbjgccbnomaaPackAB
import Derived.LoopN
import Derived.Test.YtnmpbjgccbnomaaPackAA
import Derived.BigQuiet
import Derived.WalkSmall
import Derived.Defers
import Derived.Recover
import Derived.Laws.IdiomStrings
import Derived.Great.BuildSlice
import Derived.StillTailTactics
import Derived.Deep.QuietTactic
import Derived.BigRegion
import Derived.Deep.RegionLaw
import Derived.Deep.Cut
import Derived.Deep.CutBlock
import Derived.Deep.DeepCutAuto
/- Rows of statements with lists. -/
namespace Go.Proofs.Ytnmpbjgccbnomaa
open Go.RowKit
/-- A statement, and where its lists lie. -/
structure Pl where
  s : Stm
  A : Option Addr
  n : Nat
  c : Nat
  B : Option Addr
  m : Nat
  k : Nat
def Pl.cells (p : Pl) : List Value := [.int .i64 p.s.author, .int .i64 p.s.number, .string p.s.prev, .int .i64 p.s.time, .int .i64 p.s.kind, .int .i64 p.s.a, .int .i64 p.s.b, .int .i64 p.s.c, .slice p.A p.n p.c, .slice p.B p.m p.k, .string p.s.body, .int .i64 p.s.key, .string p.s.dig]
def Pl.arr (p : Pl) : Array Value := #[.int .i64 p.s.author, .int .i64 p.s.number, .string p.s.prev, .int .i64 p.s.time, .int .i64 p.s.kind, .int .i64 p.s.a, .int .i64 p.s.b, .int .i64 p.s.c, .slice p.A p.n p.c, .slice p.B p.m p.k, .string p.s.body, .int .i64 p.s.key, .string p.s.dig]
def noPl : Pl := ⟨noStm, none, 0, 0, none, 0, 0⟩
theorem Pl.value (p : Pl) : stmV p.s p.A p.n p.c p.B p.m p.k = .agg p.arr := rfl
theorem Pl.size (p : Pl) : p.arr.size = 13 := rfl
theorem Pl.one (p : Pl) : p.arr.all (·.oneCell') = true := by simp [Pl.arr, Value.oneCell']
theorem Pl.ones (p : Pl) : ∀ u ∈ p.arr.toList, u.oneCell' = true := fun u hu => by
  have h := p.one
  rw [Array.all_eq_true_iff_forall_mem] at h
  exact h u (by simpa using hu)
theorem Pl.list (p : Pl) : p.arr.toList = p.cells := rfl
def plsC (l : List Pl) : List Value := l.flatMap Pl.cells
theorem plsC_len (l : List Pl) : (plsC l).length = l.length * 13 := by
  induction l with
  | nil => rfl
  | cons s l ih => simp only [plsC, List.flatMap_cons, List.length_append, List.length_cons] at *; rw [ih]; show 13 + _ = _; omega
theorem plsC_app (l m : List Pl) : plsC (l ++ m) = plsC l ++ plsC m := by simp [plsC]
theorem plsC_drop (l : List Pl) : ∀ k, (plsC l).drop (k * 13) = plsC (l.drop k) := by
  induction l with
  | nil => intro k; simp [plsC]
  | cons s l ih =>
    intro k
    cases k with
    | zero => rw [Nat.zero_mul]; rfl
    | succ k =>
      rw [List.drop_succ_cons, ← ih k]
      simp only [plsC, List.flatMap_cons, Pl.cells]
      rw [show (k + 1) * 13 = k * 13 + 13 by omega]
      rfl
theorem plsC_take (l : List Pl) (k : Nat) (h : k ≤ l.length) : (plsC l).take (k * 13) = plsC (l.take k) := by
  have hl : (plsC (l.take k)).length = k * 13 := by rw [plsC_len, List.length_take]; have : min k l.length = k := by omega
                                                    rw [this]
  conv => lhs; rw [← List.take_append_drop k l, plsC_app]
  rw [List.take_append_of_le_length (by omega), List.take_of_length_le (by omega)]
/-- Its lists read as they should. -/
def PlOk (w : World) (p : Pl) : Prop := IRow w p.A p.n p.c p.s.list ∧ PRow w p.B p.m p.k p.s.pins
theorem PlOk.later {w w' : World} {p : Pl} (h : PlOk w p) (hb : Below w.heap.size w w') : PlOk w' p := ⟨h.1.later hb, h.2.later hb⟩
theorem noPl_ok (w : World) : PlOk w noPl := ⟨Row.nilRow _ _, Row.nilRow _ _⟩
/-- A slice that reads as statements, whatever lists they have. -/
structure LRow (w : World) (A : Option Addr) (n c : Nat) (l : List Pl) : Prop where
  row : Row w A n c 13 (plsC l)
  ok : ∀ p ∈ l, PlOk w p
theorem LRow.len {w : World} {A : Option Addr} {n c : Nat} {l : List Pl} (h : LRow w A n c l) : l.length = n := by
  have := h.row.len; rw [plsC_len] at this; omega
theorem LRow.later {w w' : World} {A : Option Addr} {n c : Nat} {l : List Pl} (h : LRow w A n c l) (hb : Below w.heap.size w w') : LRow w' A n c l := ⟨Row.later h.row hb, fun p hp => (h.ok p hp).later hb⟩
theorem LRow.nil (w : World) : LRow w none 0 0 [] := ⟨Row.nilRow _ _, fun _ h => by cases h⟩
theorem LRow.take {w : World} {A : Option Addr} {n c : Nat} {l : List Pl} (h : LRow w A n c l) (k : Nat) (hk : k ≤ n) : LRow w A k c (l.take k) := by
  have h1 := Row.take h.row k hk
  rw [plsC_take l k (by rw [h.len]; exact hk)] at h1
  exact ⟨h1, fun p hp => h.ok p (List.mem_of_mem_take hp)⟩
theorem LRow.drop {w : World} {A : Option Addr} {n c : Nat} {l : List Pl} (h : LRow w A n c l) (k : Nat) (hk : k ≤ n) : LRow w (dropA A c k 13) (n - k) (c - k) (l.drop k) := by
  have h1 := Row.drop h.row k hk
  rw [plsC_drop] at h1
  exact ⟨h1, fun p hp => h.ok p (List.mem_of_mem_drop hp)⟩
theorem LRow.get {w : World} {A : Option Addr} {n c : Nat} {l : List Pl} (h : LRow w A n c l) (k : Nat) (hk : k < n) : l.getD k noPl ∈ l := by
  rw [List.getD_eq_getElem?_getD, List.getElem?_eq_getElem (by rw [h.len]; exact hk)]
  exact List.getElem_mem _
theorem LRow.at {w : World} {A : Option Addr} {n c : Nat} {l : List Pl} (h : LRow w A n c l) (k : Nat) (hk : k < n) : PlOk w (l.getD k noPl) := h.ok _ (h.get k hk)
/-- The cells of statement k. -/
theorem LRow.cells {w : World} {A : Option Addr} {n c : Nat} {l : List Pl} (h : LRow w A n c l) (k : Nat) (hk : k < n) :
    ∃ b off, A = some ⟨b, off, none⟩ ∧ ∀ j, j < (l.getD k noPl).arr.size → w.cell? ⟨b, off + k * 13 + j, none⟩ = (l.getD k noPl).arr[j]? := by
  obtain ⟨b, off, hA, hc⟩ := Row.form h.row (by omega)
  refine ⟨b, off, hA, fun j hj => ?_⟩
  rw [Pl.size] at hj
  have hl := h.len
  have h0 : (plsC l)[k * 13 + j]? = (plsC (l.drop k))[j]? := by rw [← plsC_drop, List.getElem?_drop]
  have h1 : l.drop k = l.getD k noPl :: l.drop (k + 1) := by
    rw [List.drop_eq_getElem_cons (by omega)]; simp [show k < l.length by omega]
  rw [Nat.add_assoc, hc _ (by omega), h0, h1]
  show ((l.getD k noPl).cells ++ plsC (l.drop (k + 1)))[j]? = _
  rw [List.getElem?_append_left (by show j < 13; exact hj), ← Pl.list]
  simp
/-- The same in every world that may come. -/
theorem LRow.futs {F : World → World → Prop} (hr : ∀ w, F w w) {W : World} {A : Option Addr} {n c : Nat} {l : List Pl} (hF : ∀ w', F W w' → Below W.heap.size W w') (h : LRow W A n c l) (k : Nat) (hk : k < n) :
    ∃ b off, A = some ⟨b, off, none⟩ ∧ ∀ x j, j < (l.getD k noPl).arr.size → (fut F W x).cell? ⟨b, off + k * 13 + j, none⟩ = (l.getD k noPl).arr[j]? := by
  obtain ⟨b, off, hA, _⟩ := h.cells k hk
  refine ⟨b, off, hA, fun x j hj => ?_⟩
  obtain ⟨b2, off2, hA2, hc2⟩ := (h.later (hF _ (fut_ok hr W x))).cells k hk
  rw [hA] at hA2
  injection hA2 with hA2
  injection hA2 with e1 e2
  subst e1 e2
  exact hc2 j hj
/-- Its lists do not lie in a slice's block. -/
def Clear (v : Value) (p : Pl) : Prop := (∀ ad, p.A = some ad → 0 < p.n → v.ownBlock ≠ some ad.block) ∧ (∀ ad, p.B = some ad → 0 < p.m → v.ownBlock ≠ some ad.block)
/-- What lies in live blocks is clear of a block that is new. -/
theorem PlOk.clear {w : World} {p : Pl} (h : PlOk w p) {v : Value} (hv : ∀ k, v.ownBlock = some k → w.heap.size ≤ k) : Clear v p :=
  ⟨fun ad hA h0 e => by have h1 := Row.lt h.1 (by omega) ad hA h0; have h2 := hv _ e; omega, fun ad hA h0 e => by have h1 := Row.lt h.2 (by omega) ad hA h0; have h2 := hv _ e; omega⟩
theorem PlOk.keep {w w' : World} {p : Pl} {v : Value} (h : PlOk w p) (hc : Clear v p) (hk : ∀ k, k < w.heap.size → v.ownBlock ≠ some k → w'.heap[k]? = w.heap[k]?) : PlOk w' p :=
  ⟨Row.keep h.1 fun ad hA h0 hlt => hk _ hlt (hc.1 ad hA h0), Row.keep h.2 fun ad hA h0 hlt => hk _ hlt (hc.2 ad hA h0)⟩
theorem LRow.clear {w : World} {A : Option Addr} {n c : Nat} {l : List Pl} (h : LRow w A n c l) {B0 : Nat} (hB : w.heap.size ≤ B0) {v : Value} (hv : ∀ k, v.ownBlock = some k → B0 ≤ k) : ∀ p ∈ l, Clear v p := fun p hp => (h.ok p hp).clear fun k e => Nat.le_trans hB (hv k e)
end Go.Proofs.Ytnmpbjgccbnomaa
/- The walk of fork.faces. -/
namespace Go.Proofs.Ytnmpbjgccbnomaa
open Go.RowKit
end Go.Proofs.Ytnmpbjgccbnomaa
/- A region that draws its order: an operation that builds a value is taken as readers are. Plain facts over any program. -/
namespace Go.Proofs.Ytnmpbjgccbnomaa
open Go.RowKit Go
def isVal (o : Oper) : Bool := isRead o || (match o.op with | .build .. => true | _ => false)
theorem val_value {P : Program} {o : Oper} (h : isVal o = true) {ρ : Operand → Value} {w w' : World} {n : Next} (hr : (execOp ρ o).run P w = .ok n w') : ∃ v, n = .value v := by
  unfold isVal at h
  rw [Bool.or_eq_true] at h
  rcases h with h | h
  · exact read_value h hr
  · obtain ⟨dst, op, t, pos, after, g⟩ := o
    cases op with
    | build t parts => exact run_v hr
    | _ => cases h
section
variable {P : Program} {md : Region.Mode} {F : World → World → Prop}
theorem val_yields {ops : Array Oper} {C : World → Prop} {o : Oper} {a : Act} {v : Value} (ho : isVal o = true) (hw : Region.wanted o (yielded ops a.tmps) = true) (h : ∀ w, C w → o.quietAt P a C w v) : YieldsIf P ops C o v a := by
  refine .inl ⟨hw, fun w hC => ?_⟩
  have h1 := h w hC
  unfold Oper.quietAt at h1
  cases hr : (execOp a.eval o).run P w with
  | halt x w' => rw [hr] at h1; exact h1.elim
  | ok n w' =>
    obtain ⟨u, rfl⟩ := val_value ho hr
    rw [hr] at h1
    obtain ⟨rfl, rfl⟩ := h1
    rfl
/-- A value is built, whatever else may come up. -/
theorem flow_val {l : List Oper} {Q : Exit → Act → World → Prop} (hr : ∀ w, F w w) (hs : Region.noSelect l.toArray = true) {fuel : Nat} (i : Nat) {listed : Array Bool} {a : Act} {w : World}
    (hB : ((Region.ready md l.toArray listed).contains i && Region.free md l.toArray listed i && isVal (pick l i) && decide (i < l.length)) = true)
    (h : wpQuiet P l.toArray (Futs F w) (fun a' => wpAnyH P md l.toArray (NoPanic Q) (Futs F w) fuel (listed.setIfInBounds i true) a' w) [pick l i] a) :
    wpAnyH P md l.toArray (NoPanic Q) (Futs F w) (fuel + 1) listed a w := by
  simp only [Bool.and_eq_true, decide_eq_true_eq] at hB
  obtain ⟨⟨⟨h1, h2⟩, h3⟩, h4⟩ := hB
  unfold wpQuiet at h
  split at h
  · rename_i hw
    obtain ⟨v, hv, hn⟩ := h
    exact wpAnyH_take (pick_at h4) hs h2 h1 (fun _ _ _ h => h) (val_yields h3 hw hv) (Futs.of (hr w)) hn
  · rename_i hw
    exact wpAnyH_take (pick_at h4) hs h2 h1 (fun _ _ _ h => h) (.inr ⟨by simpa using hw, rfl⟩) (Futs.of (hr w)) h
theorem flow_three {l : List Oper} {Q : Exit → Act → World → Prop} (ht : ∀ a b c, F a b → F b c → F a c) (hr : ∀ w, F w w) {fuel : Nat} (e1 e2 e3 : Nat) {listed : Array Bool} {a : Act} {w : World} (h2 : (Region.ready md l.toArray listed == [e1, e2, e3]) = true) (h3 : e1 < l.length) (h4 : e2 < l.length) (h5 : e3 < l.length)
    (h : wpList P l.toArray (pieceEnd fun a'' w' => F w w' ∧ wpAnyH P md l.toArray (NoPanic Q) (Futs F w') fuel (listed.setIfInBounds e1 true) a'' w') [pick l e1] a w)
    (h' : wpList P l.toArray (pieceEnd fun a'' w' => F w w' ∧ wpAnyH P md l.toArray (NoPanic Q) (Futs F w') fuel (listed.setIfInBounds e2 true) a'' w') [pick l e2] a w)
    (h'' : wpList P l.toArray (pieceEnd fun a'' w' => F w w' ∧ wpAnyH P md l.toArray (NoPanic Q) (Futs F w') fuel (listed.setIfInBounds e3 true) a'' w') [pick l e3] a w) :
    wpAnyH P md l.toArray (NoPanic Q) (Futs F w) (fuel + 1) listed a w :=
  flow_step ht hr [e1, e2, e3] h2 (by simp) (by simp [h3, h4, h5]) (fun i hi => by
    have : i = e1 ∨ i = e2 ∨ i = e3 := by simpa using hi
    rcases this with rfl | rfl | rfl
    · exact h
    · exact h'
    · exact h'')
end
end Go.Proofs.Ytnmpbjgccbnomaa
/- The walk of fork.isTwoFaced. -/
namespace Go.Proofs.Ytnmpbjgccbnomaa
open Go.RowKit
end Go.Proofs.Ytnmpbjgccbnomaa
/- The walk of fork.Check. -/
namespace Go.Proofs.Ytnmpbjgccbnomaa
open Go.RowKit
end Go.Proofs.Ytnmpbjgccbnomaa
/- The walk of trustflowref02's rest. -/
namespace Go.Proofs.Ytnmpbjgccbnomaa
open Go.RowKit
end Go.Proofs.Ytnmpbjgccbnomaa
/- The walks of package wire: what takes. -/
namespace Go.Proofs.Ytnmpbjgccbnomaa
open Go.RowKit
theorem BRow.drop {w : World} {A : Option Addr} {n c : Nat} {us : List UInt8} (h : BRow w A n c us) (k : Nat) (hk : k ≤ n) : BRow w (dropA A c k 1) (n - k) (c - k) (us.drop k) := by
  have := Row.drop h k hk
  rw [Nat.mul_one, bytesV_drop] at this
  exact this
theorem BRow.take {w : World} {A : Option Addr} {n c : Nat} {us : List UInt8} (h : BRow w A n c us) (k : Nat) (hk : k ≤ n) : BRow w A k c (us.take k) := by
  have := Row.take h k hk
  rw [Nat.mul_one, bytesV_take] at this
  exact this
end Go.Proofs.Ytnmpbjgccbnomaa
/- The walks of package wire: TakeText, TakeInts. -/
namespace Go.Proofs.Ytnmpbjgccbnomaa
open Go.RowKit
/-- Numbers in a slice that the call itself has made. -/
def IOwn (w : World) (B : Nat) (v : Value) (l : List Int) : Prop := w.ownsRow B 3 1 v l.length (intsV l)
theorem IOwn.row {w : World} {B : Nat} {v : Value} {l : List Int} (h : IOwn w B v l) : ∃ A c, v = .slice A l.length c ∧ IRow w A l.length c l := Row.of_own h
end Go.Proofs.Ytnmpbjgccbnomaa
/- The walks of trustflowref02: Int, Text, Ints, rest. -/
namespace Go.Proofs.Ytnmpbjgccbnomaa
open Go.RowKit
end Go.Proofs.Ytnmpbjgccbnomaa
/- The walks of trustflowref02: TakeInt, TakeText, TakeInts. -/
namespace Go.Proofs.Ytnmpbjgccbnomaa
open Go.RowKit
end Go.Proofs.Ytnmpbjgccbnomaa
/- What is taken from any bytes, by package wire and by the reference alike. -/
namespace Go.Proofs.Ytnmpbjgccbnomaa
open Go.RowKit
open Classical in
open Classical in
section
variable (A : Option Addr) (n c : Nat) (us : List UInt8) (most : Int) (w : World)
end
end Go.Proofs.Ytnmpbjgccbnomaa
/- The walk of fork.Encode. -/
namespace Go.Proofs.Ytnmpbjgccbnomaa
open Go.RowKit
end Go.Proofs.Ytnmpbjgccbnomaa
/- What package wire takes from bytes lies where the bytes lie. -/
namespace Go.Proofs.Ytnmpbjgccbnomaa
open Go.RowKit
/-- An address in the block of another one. -/
def Sub (A' A : Option Addr) : Prop := ∀ ad', A' = some ad' → ∃ ad, A = some ad ∧ ad'.block = ad.block
theorem Sub.refl (A : Option Addr) : Sub A A := fun ad h => ⟨ad, h, rfl⟩
theorem Sub.none (A : Option Addr) : Sub none A := fun _ h => by cases h
theorem Sub.trans {A B C : Option Addr} (h : Sub A B) (k : Sub B C) : Sub A C := fun ad hA => by
  obtain ⟨b, hb, e⟩ := h ad hA
  obtain ⟨c, hc, e2⟩ := k b hb
  exact ⟨c, hc, e.trans e2⟩
section
variable (A : Option Addr) (n c : Nat) (us : List UInt8) (most : Int) (w : World)
end
end Go.Proofs.Ytnmpbjgccbnomaa
/- The walks of the reader of package statement: require, number, text, list. -/
namespace Go.Proofs.Ytnmpbjgccbnomaa
open Go.RowKit
end Go.Proofs.Ytnmpbjgccbnomaa
/- The walk of the reader's pins. -/
namespace Go.Proofs.Ytnmpbjgccbnomaa
open Go.RowKit
end Go.Proofs.Ytnmpbjgccbnomaa
/- What is read of a statement; the walk of the reader's statement. -/
namespace Go.Proofs.Ytnmpbjgccbnomaa
open Go.RowKit
end Go.Proofs.Ytnmpbjgccbnomaa
/- The deferred function of statement.read, which recovers. -/
namespace Go.Proofs.Ytnmpbjgccbnomaa
open Go.RowKit
end Go.Proofs.Ytnmpbjgccbnomaa
/- The walk of statement.read. -/
namespace Go.Proofs.Ytnmpbjgccbnomaa
open Go.RowKit
def zeroS : Stm := ⟨0, 0, ⟨#[]⟩, 0, 0, 0, 0, 0, [], [], ⟨#[]⟩, 0, ⟨#[]⟩⟩
end Go.Proofs.Ytnmpbjgccbnomaa
/- The walk of statement.Decode. -/
namespace Go.Proofs.Ytnmpbjgccbnomaa
open Go.RowKit
end Go.Proofs.Ytnmpbjgccbnomaa
/- What bytes say of evidence: plain facts; a string as bytes. -/
namespace Go.Proofs.Ytnmpbjgccbnomaa
open Go.RowKit
/-- What Decode gives. -/
def DecF (w : World) (s t : Stm) (E : Int) (e : Ending) (w' : World) : Prop :=
  ∃ A n c B m k A2 n2 c2 B2 m2 k2, e = .returned (.tuple #[forkV s A n c B m k t A2 n2 c2 B2 m2 k2, .int .i64 E]) ∧ IRow w' A n c s.list ∧ PRow w' B m k s.pins ∧ IRow w' A2 n2 c2 t.list ∧ PRow w' B2 m2 k2 t.pins ∧ Below w.heap.size w w'
theorem DecF.zero {w w' : World} (hb : Below w.heap.size w w') : DecF w zeroS zeroS 1 (.returned (.tuple #[.agg #[.int .i64 0, .int .i64 0, .string ⟨#[]⟩, .int .i64 0, .int .i64 0, .int .i64 0, .int .i64 0, .int .i64 0, .slice none 0 0, .slice none 0 0, .string ⟨#[]⟩, .int .i64 0, .string ⟨#[]⟩, .int .i64 0, .int .i64 0, .string ⟨#[]⟩, .int .i64 0, .int .i64 0, .int .i64 0, .int .i64 0, .int .i64 0, .slice none 0 0, .slice none 0 0, .string ⟨#[]⟩, .int .i64 0, .string ⟨#[]⟩], .int .i64 1])) w' :=
  ⟨none, 0, 0, none, 0, 0, none, 0, 0, none, 0, 0, rfl, Row.nilRow _ _, Row.nilRow _ _, Row.nilRow _ _, Row.nilRow _ _, hb⟩
end Go.Proofs.Ytnmpbjgccbnomaa
/- The walk of fork.Decode. -/
namespace Go.Proofs.Ytnmpbjgccbnomaa
open Go.RowKit
end Go.Proofs.Ytnmpbjgccbnomaa
/- The walk of the reference's Bytes. -/
namespace Go.Proofs.Ytnmpbjgccbnomaa
open Go.RowKit
end Go.Proofs.Ytnmpbjgccbnomaa
/- The walk of the reference's block. -/
namespace Go.Proofs.Ytnmpbjgccbnomaa
open Go.RowKit
/-- Words in a block of their own, from its head on. -/
def WB (w : World) (g : Nat) (l : List UInt32) : Prop := ∀ i, i < l.length → w.cell? ⟨g, i, none⟩ = some (.int .u32 (w32 (Sha.at_ l i)))
theorem WB.below {B g : Nat} {w w' : World} {l : List UInt32} (h : WB w g l) (hb : Below B w w') (hg : g < B) : WB w' g l := fun i hi => (hb.cell (p := ⟨g, i, none⟩) hg).trans (h i hi)
theorem WB.lt {g : Nat} {w : World} {l : List UInt32} (h : WB w g l) (hl : 0 < l.length) : g < w.heap.size := block_lt_of_cell (h 0 hl)
/-- While the block's words are laid. -/
def BInv (w wr : World) (l : List UInt32) : Prop := wr.heap[w.heap.size]? = some (.cells (cellsW l 64) 78 (0, 0)) ∧ Below w.heap.size w wr
theorem BInv.set {w wr : World} {l : List UInt32} (h : BInv w wr l) {k : Nat} (hk : k = l.length) (x : UInt32) (hl : k < 64) :
    BInv w (wr.setCell ⟨w.heap.size, k, none⟩ (.int .u32 (w32 x))) (l ++ [x]) := by
  subst hk
  obtain ⟨h1, h3⟩ := h
  exact ⟨by rw [heap_setCell_same _ _ _ _ _ _ h1, cellsW_push _ _ _ hl], h3.setCell (by simp) _⟩
theorem BInv.drewN {w wr : World} {l : List UInt32} (h : BInv w wr l) (n : Nat) : BInv w (wr.drewN n) l := ⟨h.1, ⟨h.2.os, h.2.tape, h.2.output, h.2.size, h.2.block⟩⟩
theorem BInv.drew {w wr : World} {l : List UInt32} (h : BInv w wr l) : BInv w wr.drew l := ⟨h.1, h.2.drew⟩
theorem BInv.start (w : World) : BInv w (w.alloc (.cells (cellsW [] 64) 78)) [] := ⟨heap_alloc_new _ _, (Below.refl _ _).alloc (Nat.le_refl _) _⟩
/-- A row of words that may be written. -/
def WR (w : World) (g : Nat) (l : List UInt32) : Prop := ∃ cur, w.heap[g]? = some (.cells cur 78 (0, 0)) ∧ ∀ i, i < l.length → cur[i]? = some (.int .u32 (w32 (Sha.at_ l i)))
theorem WR.wb {w : World} {g : Nat} {l : List UInt32} (h : WR w g l) : WB w g l := fun i hi => by
  obtain ⟨cur, h1, h2⟩ := h
  rw [cell_of_row _ _ _ _ _ _ h1]; exact h2 i hi
theorem WR.frozen {w : World} {g : Nat} {l : List UInt32} (h : WR w g l) (i : Nat) : w.frozen? ⟨g, i, none⟩ = false := by
  obtain ⟨cur, h1, _⟩ := h; exact frozen_of_row _ _ _ _ _ h1
def wordsV (l : List UInt32) : List Value := l.map (fun x => Value.int .u32 (w32 x))
theorem wordsV_get (l : List UInt32) (i : Nat) (h : i < l.length) : (wordsV l)[i]? = some (.int .u32 (w32 (Sha.at_ l i))) := by simp [wordsV, Sha.at_, h]
theorem WR.set {w : World} {g : Nat} {l : List UInt32} (h : WR w g l) {k : Nat} (hk : k < l.length) (x : UInt32) : WR (w.setCell ⟨g, k, none⟩ (.int .u32 (w32 x))) g (l.set k x) := by
  obtain ⟨cur, h1, h2⟩ := h
  have hkc : k < cur.size := by
    rcases Nat.lt_or_ge k cur.size with h3 | h3
    · exact h3
    · have := h2 k hk; rw [Array.getElem?_eq_none h3] at this; cases this
  refine ⟨cur.setIfInBounds k (.int .u32 (w32 x)), heap_setCell_same _ _ _ _ _ _ h1, fun i hi => ?_⟩
  rw [List.length_set] at hi
  by_cases e : k = i
  · subst e
    rw [Array.getElem?_setIfInBounds_self_of_lt hkc]
    simp [Sha.at_, hi]
  · rw [Array.getElem?_setIfInBounds_ne e, h2 i hi]
    simp [Sha.at_, e]
/-- While the rounds are run: the row at g holds the state t, and below W4's end nothing has changed. -/
def R3 (W4 wr : World) (base g : Nat) (t : Sha.St) : Prop := base ≤ g ∧ WR wr g (Sha.toL t) ∧ Below W4.heap.size W4 wr
theorem R3.drewN {W4 wr : World} {base g : Nat} {t : Sha.St} (h : R3 W4 wr base g t) (n : Nat) : R3 W4 (wr.drewN n) base g t :=
  ⟨h.1, h.2.1, ⟨h.2.2.os, h.2.2.tape, h.2.2.output, h.2.2.size, h.2.2.block⟩⟩
theorem R3.drew {W4 wr : World} {base g : Nat} {t : Sha.St} (h : R3 W4 wr base g t) : R3 W4 wr.drew base g t := ⟨h.1, h.2.1, h.2.2.drew⟩
theorem R3.c0 {W4 wr : World} {base g : Nat} {t : Sha.St} (h : R3 W4 wr base g t) : wr.cell? ⟨g, 0, none⟩ = some (.int .u32 (w32 t.a)) := h.2.1.wb 0 (by rw [Sha.toL_len]; omega)
theorem R3.c1 {W4 wr : World} {base g : Nat} {t : Sha.St} (h : R3 W4 wr base g t) : wr.cell? ⟨g, 1, none⟩ = some (.int .u32 (w32 t.b)) := h.2.1.wb 1 (by rw [Sha.toL_len]; omega)
theorem R3.c2 {W4 wr : World} {base g : Nat} {t : Sha.St} (h : R3 W4 wr base g t) : wr.cell? ⟨g, 2, none⟩ = some (.int .u32 (w32 t.c)) := h.2.1.wb 2 (by rw [Sha.toL_len]; omega)
theorem R3.c3 {W4 wr : World} {base g : Nat} {t : Sha.St} (h : R3 W4 wr base g t) : wr.cell? ⟨g, 3, none⟩ = some (.int .u32 (w32 t.d)) := h.2.1.wb 3 (by rw [Sha.toL_len]; omega)
theorem R3.c4 {W4 wr : World} {base g : Nat} {t : Sha.St} (h : R3 W4 wr base g t) : wr.cell? ⟨g, 4, none⟩ = some (.int .u32 (w32 t.e)) := h.2.1.wb 4 (by rw [Sha.toL_len]; omega)
theorem R3.c5 {W4 wr : World} {base g : Nat} {t : Sha.St} (h : R3 W4 wr base g t) : wr.cell? ⟨g, 5, none⟩ = some (.int .u32 (w32 t.f)) := h.2.1.wb 5 (by rw [Sha.toL_len]; omega)
theorem R3.c6 {W4 wr : World} {base g : Nat} {t : Sha.St} (h : R3 W4 wr base g t) : wr.cell? ⟨g, 6, none⟩ = some (.int .u32 (w32 t.g)) := h.2.1.wb 6 (by rw [Sha.toL_len]; omega)
theorem R3.c7 {W4 wr : World} {base g : Nat} {t : Sha.St} (h : R3 W4 wr base g t) : wr.cell? ⟨g, 7, none⟩ = some (.int .u32 (w32 t.h)) := h.2.1.wb 7 (by rw [Sha.toL_len]; omega)
theorem R3.new {W4 wr : World} {base g : Nat} {t : Sha.St} (h : R3 W4 wr base g t) (h4 : base ≤ W4.heap.size) (t' : Sha.St) (cs : Array Value) (hcs : cs = (wordsV (Sha.toL t')).toArray) :
    R3 W4 (wr.alloc (.cells cs 78)) base wr.heap.size t' := by
  subst hcs
  have hs := h.2.2.size
  exact ⟨by omega, ⟨_, heap_alloc_new _ _, fun i hi => by simpa using wordsV_get _ i hi⟩, h.2.2.alloc hs _⟩
end Go.Proofs.Ytnmpbjgccbnomaa
/- The walks of the reference's constants and Sum. -/
namespace Go.Proofs.Ytnmpbjgccbnomaa
open Go.RowKit
end Go.Proofs.Ytnmpbjgccbnomaa
/- The walks of the reference's Digest, Sealed, Copy, Seal. -/
namespace Go.Proofs.Ytnmpbjgccbnomaa
open Go.RowKit
/-- A call that returns a statement. -/
def GivesS (w : World) (s : Stm) (e : Ending) (w' : World) : Prop := ∃ A n c B m k, e = .returned (stmV s A n c B m k) ∧ IRow w' A n c s.list ∧ PRow w' B m k s.pins ∧ New w w' A ∧ New w w' B ∧ Below w.heap.size w w'
/-- Below B nothing turns, nor does one cell. -/
def KeepC (B : Nat) (p : Addr) (a b : World) : Prop := Below B a b ∧ b.cell? p = a.cell? p
theorem KeepC.refl (B : Nat) (p : Addr) (a : World) : KeepC B p a a := ⟨Below.refl _ _, rfl⟩
theorem KeepC.trans {B : Nat} {p : Addr} {a b c : World} (h : KeepC B p a b) (k : KeepC B p b c) : KeepC B p a c := ⟨h.1.trans k.1, k.2.trans h.2⟩
end Go.Proofs.Ytnmpbjgccbnomaa
/- The walk of the reference's Sealed. -/
namespace Go.Proofs.Ytnmpbjgccbnomaa
open Go.RowKit
end Go.Proofs.Ytnmpbjgccbnomaa
/- The walks of the reference's Check. -/
namespace Go.Proofs.Ytnmpbjgccbnomaa
open Go.RowKit
end Go.Proofs.Ytnmpbjgccbnomaa
/- The walks of the reference's numbers and Check. -/
namespace Go.Proofs.Ytnmpbjgccbnomaa
open Go.RowKit
end Go.Proofs.Ytnmpbjgccbnomaa
/- The walk of the reference's Check. -/
namespace Go.Proofs.Ytnmpbjgccbnomaa
open Go.RowKit
end Go.Proofs.Ytnmpbjgccbnomaa
/- The walk of the reference's Check of evidence. -/
namespace Go.Proofs.Ytnmpbjgccbnomaa
open Go.RowKit
end Go.Proofs.Ytnmpbjgccbnomaa
/- The walk of the reference's Encode. -/
namespace Go.Proofs.Ytnmpbjgccbnomaa
open Go.RowKit
end Go.Proofs.Ytnmpbjgccbnomaa
/- The walk of the reference's Encode of evidence. -/
namespace Go.Proofs.Ytnmpbjgccbnomaa
open Go.RowKit
end Go.Proofs.Ytnmpbjgccbnomaa
/- What was taken from bytes, written again, is those bytes: plain facts. -/
namespace Go.Proofs.Ytnmpbjgccbnomaa
open Go.RowKit
end Go.Proofs.Ytnmpbjgccbnomaa
/- What the reference's Decode finds is what is read: plain facts. -/
namespace Go.Proofs.Ytnmpbjgccbnomaa
open Go.RowKit
end Go.Proofs.Ytnmpbjgccbnomaa
/- What the reference takes from bytes lies in new memory; the walks of its reader. -/
namespace Go.Proofs.Ytnmpbjgccbnomaa
open Go.RowKit
section
variable (A : Option Addr) (n c : Nat) (us : List UInt8) (most : Int) (w : World)
end
end Go.Proofs.Ytnmpbjgccbnomaa
/- The walk of the reference's Decode. -/
namespace Go.Proofs.Ytnmpbjgccbnomaa
open Go.RowKit
section
variable {P : Program} {ops : Array Oper} {a : Act} {o : Oper} {rest : List Oper} {Q : Exit → Act → World → Prop}
/-- append, what it leaves alone, and where the new slice lies. -/
theorem wpList_app2 (w : World) (hgd : o.guard = none) (s x : Operand) (t tx e : TypeId) (ho : o.op = .call { callee := .builtin .append, args := #[s, x], argTypes := #[t, tx] })
    (base : Nat) (ht : P.underlying t = some (.slice e)) {z : Value} {size bytes : Nat} (hi : (P.info? e).map (fun i => (i.zero, i.size, i.bytes)) = some (some z, size, bytes)) (hzs : z.cells.size = size)
    (v : Value) (n : Nat) (xs : List Value) (hown : w.ownsRow base e size v n xs) (hs : a.eval s = v) (X : Value) (m : Nat) (news : List Value) (hsrc : Src P size tx X m news w) (hx : a.eval x = X)
    (h63 : n + m ≤ maxLen) (hbytes : (n + m) * bytes ≤ 140737488355328) (hbase : base ≤ w.heap.size)
    (h : ∀ v' w', w'.ownsRow base e size v' (n + m) (xs ++ news) → Below base w w' → (∀ k, k < w.heap.size → v.ownBlock ≠ some k → w'.heap[k]? = w.heap[k]?) → (v'.ownBlock = v.ownBlock ∨ ∃ k, w.heap.size ≤ k ∧ v'.ownBlock = some k) → wpList P ops Q rest (a.put o.dst v') w') : wpList P ops Q (o :: rest) a w := by
  obtain ⟨i0, hi0, hz0, hz1, hz2⟩ := info_parts hi
  obtain ⟨v', w', hr, h2, h3, h4⟩ := run_app w base t tx o.type e i0 z size bytes ht hi0 hz0 hz1 hz2 hzs v n xs hown X m news hsrc h63 hbytes hbase
  refine wpList_plain hgd fun K hK => ?_
  unfold Oper.wp execOp
  simp only [ho, resolve, invoke, builtin, Sem.run_bind, Sem.run_pure, Result.andThen_ok, List.map_toArray, List.map_cons, List.map_nil, hs, hx, hr]
  exact hK _ _ (h v' w' h2 ((Below.refl base w).grown h3 hbase (fun k hk => (World.ownsRow.lt hown k hk).1)) (fun k hk hne => h3.block k hk (fun e => hne e.symm)) (h4.imp id fun e => ⟨_, Nat.le_refl _, e⟩))
end
end Go.Proofs.Ytnmpbjgccbnomaa
/- The walk of the reference's Decode of evidence. -/
namespace Go.Proofs.Ytnmpbjgccbnomaa
open Go.RowKit
end Go.Proofs.Ytnmpbjgccbnomaa
/- The walk of the reference's SameFork. -/
namespace Go.Proofs.Ytnmpbjgccbnomaa
open Go.RowKit
end Go.Proofs.Ytnmpbjgccbnomaa
/- The walk of the reference's Same. -/
namespace Go.Proofs.Ytnmpbjgccbnomaa
open Go.RowKit
end Go.Proofs.Ytnmpbjgccbnomaa
/- The walk of trustflowlaw06.agree. -/
namespace Go.Proofs.Ytnmpbjgccbnomaa
open Go.RowKit
/-- A block is loaded whole in a region that draws its order. -/
theorem wpQuiet_load {P : Program} {ops : Array Oper} {C : World → Prop} {Q : Act → Prop} {a : Act} {o : Oper} {rest : List Oper} (hw : Region.wanted o (yielded ops a.tmps) = true) (ty : TypeId) (x : Operand) (ho : o.op = .load ty x) (ad : Addr)
    (hx : a.eval x = .pointer (some ad)) (v : Value) (hl : ∀ w, C w → (loadVar ty ad).run P w = .ok v w) (h : wpQuiet P ops C Q rest (a.put o.dst v)) : wpQuiet P ops C Q (o :: rest) a :=
  BigFrame.wpQuiet_want hw fun K hK => ⟨v, fun w hC => by
    unfold Oper.quietAt
    have hr : (execOp a.eval o).run P w = .ok (.value v) w := by
      unfold execOp
      simp only [ho, hx, Instr.loadAt, Instr.sureAddr, Sem.run_bind, Sem.run_pure, Result.andThen_ok, hl w hC]
    rw [hr]
    exact ⟨rfl, rfl⟩, hK _ h⟩
end Go.Proofs.Ytnmpbjgccbnomaa
/- Contracts over a statement and where its lists lie. -/
namespace Go.Proofs.Ytnmpbjgccbnomaa
open Go.RowKit
/-- Its lists are short. -/
structure Few (s : Stm) : Prop where
  list : s.list.length ≤ 1000
  pins : s.pins.length ≤ 1000
theorem Small.few {s : Stm} (h : Small s) : Few s := ⟨h.list, h.pins⟩
/-- A call that gives a statement whose lists lie in blocks that it has made. -/
def GivesP (w : World) (s : Stm) (e : Ending) (w' : World) : Prop := ∃ q : Pl, e = .returned (.agg q.arr) ∧ q.s = s ∧ PlOk w' q ∧ (∀ ad, q.A = some ad → w.heap.size ≤ ad.block) ∧ (∀ ad, q.B = some ad → w.heap.size ≤ ad.block) ∧ Below w.heap.size w w'
theorem GivesS.p {w w' : World} {s : Stm} {e : Ending} (h : GivesS w s e w') : GivesP w s e w' := by
  obtain ⟨A, n, c, B, m, k, he, h1, h2, h3, h4, h5⟩ := h
  exact ⟨⟨s, A, n, c, B, m, k⟩, he, rfl, ⟨h1, h2⟩, fun ad hA => (h3 ad hA).1, fun ad hA => (h4 ad hA).1, h5⟩
end Go.Proofs.Ytnmpbjgccbnomaa
/- The walk of the reference's CopyList. -/
namespace Go.Proofs.Ytnmpbjgccbnomaa
open Go.RowKit
end Go.Proofs.Ytnmpbjgccbnomaa
/- Rows of statements, taken, dropped, read in drawn regions; the reference's order. -/
namespace Go.Proofs.Ytnmpbjgccbnomaa
open Go.RowKit
end Go.Proofs.Ytnmpbjgccbnomaa
/- The walk of the reference's Own. -/
namespace Go.Proofs.Ytnmpbjgccbnomaa
open Go.RowKit
/-- What the call owns lies in blocks that are new. -/
theorem own_ge {w : World} {B : Nat} {e : TypeId} {sz : Nat} {v : Value} {n : Nat} {xs : List Value} (h : w.ownsRow B e sz v n xs) : ∀ k, v.ownBlock = some k → B ≤ k := by
  intro k hk
  rcases h.2 with ⟨hn, _⟩ | ⟨a, cap, cur, rfl, ha, hgg, rest⟩
  · subst hn; cases hk
  · injection hk with hk
    subst hk
    exact ha
/-- The reference's order in a list of one author. -/
def slotB (a x : Stm) : Bool := decide (a.number < x.number) || (decide (a.number = x.number) && Op.bytesLess a.dig.toList x.dig.toList)
theorem slotB_eq (a x : Stm) : slotB a x = if a.number < x.number then true else if a.number = x.number then Op.bytesLess a.dig.toList x.dig.toList else false := by
  unfold slotB
  split
  · rename_i h; rw [decide_eq_true h, Bool.true_or]
  · rename_i h
    rw [decide_eq_false h, Bool.false_or]
    split
    · rename_i h2; rw [decide_eq_true h2, Bool.true_and]
    · rename_i h2; rw [decide_eq_false h2, Bool.false_and]
def slotK : List Stm → Stm → Nat
  | [], _ => 0
  | a :: l, x => if slotB a x then slotK l x + 1 else 0
def putL (l : List Stm) (x : Stm) : List Stm := if slotK l x < l.length ∧ sameS (l.getD (slotK l x) noStm) x = true then l else l.take (slotK l x) ++ x :: l.drop (slotK l x)
def ownStep (au : Int) (l : List Stm) (x : Stm) : List Stm := if x.author = au ∧ checkV x = 0 ∧ sealedB x = true then putL l x else l
/-- The statements of an author that are well formed and sealed, each once, in order. -/
def ownL (au : Int) (l : List Stm) : List Stm := l.foldl (ownStep au) []
theorem ownL_app (au : Int) (l : List Stm) (x : Stm) : ownL au (l ++ [x]) = ownStep au (ownL au l) x := by unfold ownL; rw [List.foldl_append]; rfl
/-- Their lists lie in blocks from B on. -/
def HiL (B : Nat) (l : List Pl) : Prop := ∀ p ∈ l, (∀ ad, p.A = some ad → B ≤ ad.block) ∧ (∀ ad, p.B = some ad → B ≤ ad.block)
theorem HiL.take {B : Nat} {l : List Pl} (h : HiL B l) (k : Nat) : HiL B (l.take k) := fun p hp => h p (List.mem_of_mem_take hp)
theorem HiL.drop {B : Nat} {l : List Pl} (h : HiL B l) (k : Nat) : HiL B (l.drop k) := fun p hp => h p (List.mem_of_mem_drop hp)
theorem HiL.one {B C : Nat} {r : Pl} (hc : B ≤ C) (hA : ∀ ad, r.A = some ad → C ≤ ad.block) (hB : ∀ ad, r.B = some ad → C ≤ ad.block) : HiL B [r] := fun p hp => by
  rw [List.mem_singleton.1 hp]; exact ⟨fun ad e => Nat.le_trans hc (hA ad e), fun ad e => Nat.le_trans hc (hB ad e)⟩
theorem HiL.mono {B C : Nat} {l : List Pl} (h : HiL B l) (hc : C ≤ B) : HiL C l := fun p hp => ⟨fun ad e => Nat.le_trans hc ((h p hp).1 ad e), fun ad e => Nat.le_trans hc ((h p hp).2 ad e)⟩
theorem HiL.nil (B : Nat) : HiL B [] := fun _ h => (nomatch h)
end Go.Proofs.Ytnmpbjgccbnomaa
/- The walk of the reference's Follows. -/
namespace Go.Proofs.Ytnmpbjgccbnomaa
open Go.RowKit
def followsR (a b : Stm) : Bool := decide (b.author = a.author) && (decide (b.number = a.number + 1) && (decide (b.prev = digS a) && decide (a.time ≤ b.time)))
end Go.Proofs.Ytnmpbjgccbnomaa
/- The walk of the reference's Counted. -/
namespace Go.Proofs.Ytnmpbjgccbnomaa
open Go.RowKit
/-- Whether statement i of an author's list goes on the chain of those before it. -/
def stepR (own : List Stm) (i : Nat) : Bool := decide ((own.getD i noStm).number = (i : Int)) && (!(decide (i + 1 < own.length) && decide ((own.getD (i + 1) noStm).number = (i : Int))) && (decide (i = 0) || (followsR (own.getD (i - 1) noStm) (own.getD i noStm) && !decide ((own.getD (i - 1) noStm).kind = 3))))
/-- How many count from the i-th on. -/
def countsFrom (own : List Stm) : Nat → Nat → Nat
  | 0, i => i
  | f + 1, i => if stepR own i then countsFrom own f (i + 1) else i
/-- What counts of an author (the reference's way). -/
def countedR (au : Int) (l : List Stm) : List Stm := (ownL au l).take (countsFrom (ownL au l) (ownL au l).length 0)
theorem countsFrom_step (own : List Stm) (f i : Nat) (h : i < f) (hs : stepR own i = true) : countsFrom own (f - i) i = countsFrom own (f - (i + 1)) (i + 1) := by
  rw [show f - i = (f - (i + 1)) + 1 by omega, countsFrom, if_pos hs]
end Go.Proofs.Ytnmpbjgccbnomaa
/- Walks of the reference's Until, Window, and the store's Of, over any list. -/
namespace Go.Proofs.Ytnmpbjgccbnomaa
open Go.RowKit
def untilS (tm : Int) (l : List Stm) : List Stm := l.filter (fun s => decide (s.time ≤ tm))
end Go.Proofs.Ytnmpbjgccbnomaa
/- The walk of the reference's Counted over a store. -/
namespace Go.Proofs.Ytnmpbjgccbnomaa
open Go.RowKit
end Go.Proofs.Ytnmpbjgccbnomaa
/- The walk of the reference's Order over any list. -/
namespace Go.Proofs.Ytnmpbjgccbnomaa
open Go.RowKit
end Go.Proofs.Ytnmpbjgccbnomaa
/- Plain facts on lists of statements by time: what until, windows, order and the latest time come to; what counts is linked. -/
namespace Go.Proofs.Ytnmpbjgccbnomaa
open Go.RowKit
/-- Each statement but those with the number 0 stands behind the one before it. -/
def Linked : Option Stm → List Stm → Prop
  | _, [] => True
  | o, s :: l => (0 < s.number → ∃ p, o = some p ∧ p.author = s.author ∧ p.number = s.number - 1 ∧ p.time ≤ s.time) ∧ Linked (some s) l
theorem Linked.any : ∀ {l : List Stm} {o : Option Stm}, Linked none l → Linked o l
  | [], _, _ => trivial
  | _ :: _, _, h => ⟨fun h0 => (by obtain ⟨p, hp, _⟩ := h.1 h0; cases hp), h.2⟩
theorem Linked.until (tm : Int) : ∀ {l : List Stm} {o o' : Option Stm}, Linked o l → (∀ p, o = some p → p.time ≤ tm → o' = some p) → Linked o' (untilS tm l)
  | [], _, _, _, _ => trivial
  | s :: l, o, o', h, k => by
    by_cases hs : s.time ≤ tm
    · rw [show untilS tm (s :: l) = s :: untilS tm l from List.filter_cons_of_pos (by exact decide_eq_true hs)]
      refine ⟨fun h0 => ?_, h.2.until tm fun p hp _ => hp⟩
      obtain ⟨p, hp, h1, h2, h3⟩ := h.1 h0
      exact ⟨p, k p hp (by omega), h1, h2, h3⟩
    · rw [show untilS tm (s :: l) = untilS tm l from List.filter_cons_of_neg (by rw [decide_eq_false hs]; decide)]
      exact h.2.until tm fun p hp hpt => by injection hp with hp; rw [← hp] at hpt; exact absurd hpt hs
theorem Linked.at : ∀ {l : List Stm} {o : Option Stm}, Linked o l → ∀ i, i < l.length → 0 < (l.getD i noStm).number →
    (i = 0 ∧ ∃ p, o = some p ∧ p.author = (l.getD i noStm).author ∧ p.number = (l.getD i noStm).number - 1) ∨ (0 < i ∧ (l.getD (i - 1) noStm).author = (l.getD i noStm).author ∧ (l.getD (i - 1) noStm).number = (l.getD i noStm).number - 1)
  | [], _, _, i, hi, _ => absurd hi (Nat.not_lt_zero _)
  | s :: l, o, h, i, hi, h0 => by
    cases i with
    | zero =>
      obtain ⟨p, hp, h1, h2, _⟩ := h.1 h0
      exact .inl ⟨rfl, p, hp, h1, h2⟩
    | succ i =>
      have h3 := Linked.at h.2 i (Nat.lt_of_succ_lt_succ hi) h0
      rcases h3 with ⟨rfl, p, hp, h1, h2⟩ | ⟨hi0, h1, h2⟩
      · injection hp with hp
        subst hp
        exact .inr ⟨Nat.succ_pos _, h1, h2⟩
      · obtain ⟨k, rfl⟩ : ∃ k, i = k + 1 := ⟨i - 1, by omega⟩
        exact .inr ⟨Nat.succ_pos _, h1, h2⟩
theorem check_bounds {s : Stm} (h : checkV s = 0) : 0 ≤ s.time ∧ s.time ≤ 2147483648 ∧ 0 ≤ s.number ∧ s.number ≤ 199 := by
  unfold checkV at h
  split at h
  · exact absurd h (by decide)
  · split at h
    · exact absurd h (by decide)
    · split at h
      · exact absurd h (by decide)
      · rename_i ht
        split at h
        · exact absurd h (by decide)
        · rename_i hr
          have ht2 : btw s.time 0 2147483648 = true := by simpa using ht
          have hr2 : rangeB s = true := by simpa using hr
          unfold rangeB at hr2
          simp only [Bool.and_eq_true] at hr2
          have hr3 := hr2.1.1.1.1.1
          unfold btw at ht2 hr3
          rw [Bool.and_eq_true, decide_eq_true_eq, decide_eq_true_eq] at ht2 hr3
          exact ⟨ht2.1, ht2.2, hr3.1, hr3.2⟩
end Go.Proofs.Ytnmpbjgccbnomaa
/- Rows of things of k cells each. Plain facts. -/
namespace Go.Proofs.Ytnmpbjgccbnomaa
open Go.RowKit
section
variable {α : Type}
/-- Things one behind the other, each of k cells. -/
def rowC (cs : α → List Value) (l : List α) : List Value := l.flatMap cs
variable {cs : α → List Value} {k : Nat}
theorem rowC_len (hk : ∀ a, (cs a).length = k) (l : List α) : (rowC cs l).length = l.length * k := by
  induction l with
  | nil => simp [rowC]
  | cons s l ih => simp only [rowC, List.flatMap_cons, List.length_append, List.length_cons] at *; rw [ih, hk]; rw [Nat.succ_mul]; omega
theorem rowC_app (l m : List α) : rowC cs (l ++ m) = rowC cs l ++ rowC cs m := by simp [rowC]
theorem rowC_single (a : α) : rowC cs [a] = cs a := by simp [rowC]
theorem rowC_drop (hk : ∀ a, (cs a).length = k) (l : List α) : ∀ i, (rowC cs l).drop (i * k) = rowC cs (l.drop i) := by
  induction l with
  | nil => intro i; simp [rowC]
  | cons s l ih =>
    intro i
    cases i with
    | zero => rw [Nat.zero_mul]; rfl
    | succ i =>
      rw [List.drop_succ_cons, ← ih i]
      simp only [rowC, List.flatMap_cons]
      rw [show (i + 1) * k = (cs s).length + i * k by rw [hk, Nat.succ_mul]; omega, ← List.drop_drop, List.drop_left]
theorem rowC_take (hk : ∀ a, (cs a).length = k) (l : List α) (i : Nat) (h : i ≤ l.length) : (rowC cs l).take (i * k) = rowC cs (l.take i) := by
  have hl : (rowC cs (l.take i)).length = i * k := by rw [rowC_len hk, List.length_take]; congr 1; omega
  conv => lhs; rw [← List.take_append_drop i l, rowC_app]
  rw [List.take_append_of_le_length (by omega), List.take_of_length_le (by omega)]
theorem rowC_ones (ho : ∀ a, ∀ u ∈ cs a, u.oneCell' = true) (l : List α) : ∀ u ∈ rowC cs l, u.oneCell' = true := by
  intro u hu
  simp only [rowC, List.mem_flatMap] at hu
  obtain ⟨s, _, hs⟩ := hu
  exact ho s u hs
/-- A slice that reads as such a row. -/
def GRow (cs : α → List Value) (k : Nat) (w : World) (A : Option Addr) (n c : Nat) (l : List α) : Prop := Row w A n c k (rowC cs l)
theorem GRow.later {w w' : World} {A : Option Addr} {n c : Nat} {l : List α} (h : GRow cs k w A n c l) (hb : Later w w') : GRow cs k w' A n c l := Row.later h hb
theorem GRow.len (hk : ∀ a, (cs a).length = k) (h0 : 0 < k) {w : World} {A : Option Addr} {n c : Nat} {l : List α} (h : GRow cs k w A n c l) : l.length = n := by
  have h1 := Row.len h
  rw [rowC_len hk] at h1
  exact Nat.eq_of_mul_eq_mul_right h0 h1
theorem GRow.cells (hk : ∀ a, (cs a).length = k) (h0 : 0 < k) {w : World} {A : Option Addr} {n c : Nat} {l : List α} (h : GRow cs k w A n c l) (d : α) (i : Nat) (hi : i < n) :
    ∃ b off, A = some ⟨b, off, none⟩ ∧ ∀ j, j < k → w.cell? ⟨b, off + i * k + j, none⟩ = (cs (l.getD i d))[j]? := by
  obtain ⟨b, off, hA, hc⟩ := Row.form h (by omega)
  refine ⟨b, off, hA, fun j hj => ?_⟩
  have hl := GRow.len hk h0 h
  have hik : i * k + j < n * k := by
    have h1 : (i + 1) * k ≤ n * k := Nat.mul_le_mul_right _ hi
    rw [Nat.succ_mul] at h1
    omega
  have h1 : (rowC cs l)[i * k + j]? = (rowC cs (l.drop i))[j]? := by rw [← rowC_drop hk, List.getElem?_drop]
  have h2 : l.drop i = l.getD i d :: l.drop (i + 1) := by
    rw [List.drop_eq_getElem_cons (by omega)]; simp [show i < l.length by omega]
  rw [Nat.add_assoc, hc _ hik, h1, h2]
  show (cs (l.getD i d) ++ rowC cs (l.drop (i + 1)))[j]? = _
  rw [List.getElem?_append_left (by rw [hk]; exact hj)]
theorem GRow.futs {F : World → World → Prop} (hr : ∀ w, F w w) (hk : ∀ a, (cs a).length = k) (h0 : 0 < k) {W : World} {A : Option Addr} {n c : Nat} {l : List α} (hF : ∀ w', F W w' → Below W.heap.size W w') (h : GRow cs k W A n c l) (d : α) (i : Nat) (hi : i < n) :
    ∃ b off, A = some ⟨b, off, none⟩ ∧ ∀ x j, j < k → (fut F W x).cell? ⟨b, off + i * k + j, none⟩ = (cs (l.getD i d))[j]? := by
  obtain ⟨b, off, hA, _⟩ := h.cells hk h0 d i hi
  refine ⟨b, off, hA, fun x j hj => ?_⟩
  obtain ⟨b2, off2, hA2, hc2⟩ := (h.later (hF _ (fut_ok hr W x))).cells hk h0 d i hi
  rw [hA] at hA2
  injection hA2 with hA2
  injection hA2 with e1 e2
  subst e1 e2
  exact hc2 j hj
theorem GRow.take (hk : ∀ a, (cs a).length = k) (h0 : 0 < k) {w : World} {A : Option Addr} {n c : Nat} {l : List α} (h : GRow cs k w A n c l) (i : Nat) (hi : i ≤ n) : GRow cs k w A i c (l.take i) := by
  have h1 := Row.take h i hi
  rw [rowC_take hk l i (by rw [GRow.len hk h0 h]; exact hi)] at h1
  exact h1
theorem GRow.drop (hk : ∀ a, (cs a).length = k) {w : World} {A : Option Addr} {n c : Nat} {l : List α} (h : GRow cs k w A n c l) (i : Nat) (hi : i ≤ n) : GRow cs k w (dropA A c i k) (n - i) (c - i) (l.drop i) := by
  have h1 := Row.drop h i hi
  rw [rowC_drop hk] at h1
  exact h1
theorem GRow.nil (w : World) : GRow cs k w none 0 0 [] := Row.nilRow _ _
end
end Go.Proofs.Ytnmpbjgccbnomaa
/- Vouches: rows of them, their order, whether a number is in a list, whether two lists are the same. -/
namespace Go.Proofs.Ytnmpbjgccbnomaa
open Go.RowKit
structure Vou where
  fr : Int
  tu : Int
  lv : Int
  nu : Int
  tm : Int
  en : Int
  rv : Int
def Vou.cells (p : Vou) : List Value := [.int .i64 p.fr, .int .i64 p.tu, .int .i64 p.lv, .int .i64 p.nu, .int .i64 p.tm, .int .i64 p.en, .int .i64 p.rv]
def Vou.arr (p : Vou) : Array Value := #[.int .i64 p.fr, .int .i64 p.tu, .int .i64 p.lv, .int .i64 p.nu, .int .i64 p.tm, .int .i64 p.en, .int .i64 p.rv]
theorem Vou.size (p : Vou) : p.arr.size = 7 := rfl
theorem Vou.len (p : Vou) : p.cells.length = 7 := rfl
theorem Vou.list (p : Vou) : p.arr.toList = p.cells := rfl
theorem Vou.one (p : Vou) : p.arr.all (·.oneCell') = true := by simp [Vou.arr, Value.oneCell']
theorem Vou.ones (p : Vou) : ∀ u ∈ p.cells, u.oneCell' = true := fun u hu => by
  have h := p.one
  rw [Array.all_eq_true_iff_forall_mem] at h
  exact h u (by rw [← Array.mem_toList_iff, p.list]; exact hu)
abbrev VRow (w : World) (A : Option Addr) (n c : Nat) (l : List Vou) : Prop := GRow Vou.cells 7 w A n c l
theorem VRow.len {w : World} {A : Option Addr} {n c : Nat} {l : List Vou} (h : VRow w A n c l) : l.length = n := GRow.len Vou.len (by decide) h
/-- Whether a number is among them. -/
def hasI : List Int → Int → Bool
  | [], _ => false
  | a :: l, x => if a = x then true else hasI l x
end Go.Proofs.Ytnmpbjgccbnomaa
/- Walks of the reference's Same and revoked of layer 10. -/
namespace Go.Proofs.Ytnmpbjgccbnomaa
open Go.RowKit
end Go.Proofs.Ytnmpbjgccbnomaa
/- The walk of the reference's Gone. -/
namespace Go.Proofs.Ytnmpbjgccbnomaa
open Go.RowKit
/-- A call that gives a list of numbers. -/
def GivesI (w : World) (l : List Int) (e : Ending) (w' : World) : Prop := ∃ A2 n2 c2, e = .returned (.slice A2 n2 c2) ∧ IRow w' A2 n2 c2 l ∧ Below w.heap.size w w'
/-- .. in memory of its own. -/
def GivesIO (w : World) (l : List Int) (e : Ending) (w' : World) : Prop := ∃ A2 c2, e = .returned (.slice A2 l.length c2) ∧ w'.ownsRow w.heap.size 3 1 (.slice A2 l.length c2) l.length (intsV l) ∧ Below w.heap.size w w'
theorem GivesIO.weak {w w' : World} {l : List Int} {e : Ending} (h : GivesIO w l e w') : GivesI w l e w' := by
  obtain ⟨A2, c2, h1, h2, h3⟩ := h
  obtain ⟨A3, c3, hv, hr⟩ := Row.of_own h2
  injection hv with e1 _ e2
  subst e1 e2
  exact ⟨_, _, _, h1, hr, h3⟩
end Go.Proofs.Ytnmpbjgccbnomaa
/- The walk of the reference's Of of layer 10. -/
namespace Go.Proofs.Ytnmpbjgccbnomaa
open Go.RowKit
end Go.Proofs.Ytnmpbjgccbnomaa
/- The walk of the reference's put over any list. -/
namespace Go.Proofs.Ytnmpbjgccbnomaa
open Go.RowKit
end Go.Proofs.Ytnmpbjgccbnomaa
/- The reference's Copy and Seal of statements without lists: nil stays nil. -/
namespace Go.Proofs.Ytnmpbjgccbnomaa
open Go.RowKit
end Go.Proofs.Ytnmpbjgccbnomaa
/- The walk of the reference's put. -/
namespace Go.Proofs.Ytnmpbjgccbnomaa
open Go.RowKit
end Go.Proofs.Ytnmpbjgccbnomaa
/- The walk of the reference's Adds. -/
namespace Go.Proofs.Ytnmpbjgccbnomaa
open Go.RowKit
end Go.Proofs.Ytnmpbjgccbnomaa
/- The walk of the reference's Adds over any list. -/
namespace Go.Proofs.Ytnmpbjgccbnomaa
open Go.RowKit
/-- A row whose first cell is no slice does not lie in a block of one slice. -/
theorem row_not_slice {w : World} {g : Nat} {A : Option Addr} {n c sz : Nat} {cs : List Value} {B : Option Addr} {m k : Nat} {T : TypeId} {fr : Nat × Nat} (h : Row w A n c sz cs) (hz : 0 < sz) (h0 : ∀ B m k, cs[0]? ≠ some (.slice B m k))
    (hg : w.heap[g]? = some (.cells #[.slice B m k] T fr)) : ∀ ad, A = some ad → 0 < n → ad.block ≠ g := fun ad hA hn he => by
  obtain ⟨b, off, hA', hc⟩ := Row.form h hn
  rw [hA] at hA'
  injection hA' with e
  subst e
  simp only at he
  subst he
  have h1 := hc 0 (Nat.mul_pos hn hz)
  rw [cell_of_row _ _ _ _ _ _ hg] at h1
  have h2 : 0 < cs.length := by rw [h.len]; exact Nat.mul_pos hn hz
  rw [List.getElem?_eq_getElem h2] at h1
  cases off with
  | zero => exact h0 B m k (by rw [List.getElem?_eq_getElem h2, ← h1]; rfl)
  | succ off => rw [Array.getElem?_eq_none (by simp)] at h1; cases h1
theorem ints_no (l : List Int) (B : Option Addr) (m k : Nat) : (intsV l)[0]? ≠ some (.slice B m k) := by
  cases l with
  | nil => intro h; cases h
  | cons a l => intro h; cases h
theorem pins_no (l : List PinD) (B : Option Addr) (m k : Nat) : (pinsC l)[0]? ≠ some (.slice B m k) := by
  cases l with
  | nil => intro h; cases h
  | cons a l => intro h; cases h
theorem plsC_no (l : List Pl) (B : Option Addr) (m k : Nat) : (plsC l)[0]? ≠ some (.slice B m k) := by
  cases l with
  | nil => intro h; cases h
  | cons a l => intro h; cases h
theorem LRow.set {w : World} {g : Nat} {A : Option Addr} {n c : Nat} {l : List Pl} {B : Option Addr} {m k : Nat} {T : TypeId} {fr : Nat × Nat} (h : LRow w A n c l) (hg : w.heap[g]? = some (.cells #[.slice B m k] T fr)) (new : Array Value) : LRow (w.setRow g new) A n c l :=
  ⟨Row.keep h.row fun ad hA hn _ => setRow_other _ _ _ _ (row_not_slice h.row (by decide) (plsC_no l) hg ad hA hn), fun p hp =>
    ⟨Row.keep (h.ok p hp).1 fun ad hA hn _ => setRow_other _ _ _ _ (row_not_slice (h.ok p hp).1 (by decide) (fun B m k => ints_no p.s.list B m k) hg ad hA hn),
     Row.keep (h.ok p hp).2 fun ad hA hn _ => setRow_other _ _ _ _ (row_not_slice (h.ok p hp).2 (by decide) (fun B m k => pins_no p.s.pins B m k) hg ad hA hn)⟩⟩
end Go.Proofs.Ytnmpbjgccbnomaa
/- The walk of made.StoreOf over two statements. -/
namespace Go.Proofs.Ytnmpbjgccbnomaa
open Go.RowKit
end Go.Proofs.Ytnmpbjgccbnomaa
/- The walk of made.StoreOf over any list. -/
namespace Go.Proofs.Ytnmpbjgccbnomaa
open Go.RowKit
end Go.Proofs.Ytnmpbjgccbnomaa
/- The walk of the reference's SameList. -/
namespace Go.Proofs.Ytnmpbjgccbnomaa
open Go.RowKit
/-- Two lists are the same, statement by statement. -/
def sameLB : List Stm → List Stm → Bool
  | [], [] => true
  | a :: l, b :: m => sameS a b && sameLB l m
  | _, _ => false
theorem sameLB_self : ∀ l : List Stm, sameLB l l = true
  | [] => rfl
  | a :: l => by unfold sameLB; rw [sameS_self, sameLB_self l]; rfl
end Go.Proofs.Ytnmpbjgccbnomaa
/- The walk of the reference's Next over any list. -/
namespace Go.Proofs.Ytnmpbjgccbnomaa
open Go.RowKit
def lastL (l : List Stm) : Stm := l.getD (l.length - 1) noStm
/-- What would come next in a chain. -/
def draftR (au : Int) (l : List Stm) (s : Stm) : Stm := if l.length = 0 then { s with author := au, number := 0, prev := ⟨#[]⟩ } else { s with author := au, number := (l.length : Int), prev := digS (lastL l) }
/-- What the reference's Next returns. -/
noncomputable def nextP (au : Int) (l : List Stm) (s : Stm) : Stm × Int :=
  if l.length ≠ 0 ∧ sameLB (countedR au l) l = false then (noStm, 1)
  else if l.length ≠ 0 ∧ s.time < (lastL l).time then (noStm, 9)
  else if l.length ≠ 0 ∧ (lastL l).kind = 3 then (noStm, 5)
  else if checkV (sealOf (draftR au l s)) = 0 then (sealOf (draftR au l s), 0) else (noStm, checkV (sealOf (draftR au l s)))
/-- Its lists lie in neither of the call's two blocks. -/
def Off (w : World) (p : Pl) : Prop := (∀ ad, p.A = some ad → 0 < p.n → ad.block ≠ w.heap.size ∧ ad.block ≠ w.heap.size + 1) ∧ (∀ ad, p.B = some ad → 0 < p.m → ad.block ≠ w.heap.size ∧ ad.block ≠ w.heap.size + 1)
theorem PlOk.off {w : World} {p : Pl} (h : PlOk w p) : Off w p := ⟨fun ad hA h0 => by have := Row.lt h.1 (by decide) ad hA h0; omega, fun ad hA h0 => by have := Row.lt h.2 (by decide) ad hA h0; omega⟩
theorem Off.new {w x : World} {q : Pl} (h : w.heap.size + 1 < x.heap.size) (hA : ∀ ad, q.A = some ad → x.heap.size ≤ ad.block) (hB : ∀ ad, q.B = some ad → x.heap.size ≤ ad.block) : Off w q := ⟨fun ad e _ => by have := hA ad e; omega, fun ad e _ => by have := hB ad e; omega⟩
theorem PlOk.but {w x y : World} {p : Pl} (h : PlOk x p) (ho : Off w p) (hk : ∀ k, k ≠ w.heap.size → k ≠ w.heap.size + 1 → y.heap[k]? = x.heap[k]?) : PlOk y p :=
  ⟨Row.keep h.1 fun ad hA h0 _ => hk _ (ho.1 ad hA h0).1 (ho.1 ad hA h0).2, Row.keep h.2 fun ad hA h0 _ => hk _ (ho.2 ad hA h0).1 (ho.2 ad hA h0).2⟩
/-- A call that gives a statement in blocks of its own, and a number. -/
def GivesX (w : World) (s : Stm) (v : Int) (e : Ending) (w' : World) : Prop := ∃ q : Pl, e = .returned (.tuple #[.agg q.arr, .int .i64 v]) ∧ q.s = s ∧ PlOk w' q ∧ (∀ ad, q.A = some ad → w.heap.size ≤ ad.block) ∧ (∀ ad, q.B = some ad → w.heap.size ≤ ad.block) ∧ Below w.heap.size w w'
theorem GivesX.no {w w' : World} {v : Int} (hb : Below w.heap.size w w') : GivesX w noStm v (.returned (.tuple #[.agg #[.int .i64 0, .int .i64 0, .string ⟨#[]⟩, .int .i64 0, .int .i64 0, .int .i64 0, .int .i64 0, .int .i64 0, .slice none 0 0, .slice none 0 0, .string ⟨#[]⟩, .int .i64 0, .string ⟨#[]⟩], .int .i64 v])) w' := ⟨noPl, rfl, rfl, noPl_ok _, fun _ h => (nomatch h), fun _ h => (nomatch h), hb⟩
end Go.Proofs.Ytnmpbjgccbnomaa
/- The walk of the dice's Of. -/
namespace Go.Proofs.Ytnmpbjgccbnomaa
open Go.RowKit
set_option maxHeartbeats 1000000 in
theorem diceOf_any (L D : Nat) (t : List Int) (k : Nat) (A : Option Addr) (n c : Nat) (l : List Int) (w : World) (h : DiceAt w L D t k) (hl : Row w A n c 1 (intsV l)) (hs : ∀ ad, A = some ad → ad.block ≠ D) (h0 : 1 ≤ n) (hn : n ≤ 1000) :
    Calls Try.prog 14 #[.pointer (some ⟨D, 0, none⟩), .slice A n c] w fun e w' => e = .returned (.int .i64 (l.getD (diceV t k n).toNat 0)) ∧ DiceAt w' L D t (diceK t k) ∧ But D w w' := by
  have H := Lib.hid h; have HL := Lib.hid hl; have HS := Lib.hid hs; have hll := hl.len; rw [intsV_len, Nat.mul_one] at hll; have HLL := Lib.hid hll; clear h hl hs hll
  have hv := diceV_bd t k n (by omega)
  go_enter Try.func14, Try.ntmps14
  go_wp2_with fail
  refine (next_any L D t k n w H.out (by omega) (by omega)).mono ?_
  rintro e w1 ⟨rfl, hd, hb⟩
  obtain ⟨b, off, hA, hcell⟩ := (HL.out.but hb (fun ad hA _ => HS.out ad hA)).form (by omega)
  generalize hgv : diceV t k n = v at hv ⊢
  have hx := hcell v.toNat (by omega)
  rw [intsV_get _ _ (by rw [HLL.out]; omega)] at hx
  unfold iv at hx
  subst hA
  have HD := Lib.hid hd; have HB := Lib.hid hb; have HG := Lib.hid hgv; clear hd hb hcell hgv
  generalize hgx : l.getD v.toNat 0 = x at hx
  have HX := Lib.hid hgx; clear hgx
  go_wp2
  go_ret
  exact ⟨by rw [HG.out, HX.out]; rfl, HD.out, HB.out⟩
end Go.Proofs.Ytnmpbjgccbnomaa
/- The walks of trustflowmade's dice: Bytes; and what Some answers. -/
namespace Go.Proofs.Ytnmpbjgccbnomaa
open Go.RowKit
end Go.Proofs.Ytnmpbjgccbnomaa
