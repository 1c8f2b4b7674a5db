import Derived.Test.YtdildmfjekdlgaaPackAB
import Derived.LoopN
import Derived.BigQuiet
import Derived.Test.YtdildmfjekdlgaaPackAA
import Derived.WalkSmall
import Derived.Defers
import Derived.Recover
import Derived.Laws.IdiomStrings
import Derived.Great.BuildSlice
/- Rows of statements with lists. -/
namespace Go.Proofs.Ytdildmfjekdlgaa
open Go.RowKit
/-- A statement, and where its lists lie. -/
structure Pl where
  s : Stm
  A : Option Addr
  n : Nat
  c : Nat
  B : Option Addr
  m : Nat
  k : Nat
def Pl.cells (p : Pl) : List Value := [.int .i64 p.s.author, .int .i64 p.s.number, .string p.s.prev, .int .i64 p.s.time, .int .i64 p.s.kind, .int .i64 p.s.a, .int .i64 p.s.b, .int .i64 p.s.c, .slice p.A p.n p.c, .slice p.B p.m p.k, .string p.s.body, .int .i64 p.s.key, .string p.s.dig]
def Pl.arr (p : Pl) : Array Value := #[.int .i64 p.s.author, .int .i64 p.s.number, .string p.s.prev, .int .i64 p.s.time, .int .i64 p.s.kind, .int .i64 p.s.a, .int .i64 p.s.b, .int .i64 p.s.c, .slice p.A p.n p.c, .slice p.B p.m p.k, .string p.s.body, .int .i64 p.s.key, .string p.s.dig]
def noPl : Pl := ⟨noStm, none, 0, 0, none, 0, 0⟩
theorem Pl.value (p : Pl) : stmV p.s p.A p.n p.c p.B p.m p.k = .agg p.arr := rfl
theorem Pl.size (p : Pl) : p.arr.size = 13 := rfl
theorem Pl.one (p : Pl) : p.arr.all (·.oneCell') = true := by simp [Pl.arr, Value.oneCell']
theorem Pl.ones (p : Pl) : ∀ u ∈ p.arr.toList, u.oneCell' = true := fun u hu => by
  have h := p.one
  rw [Array.all_eq_true_iff_forall_mem] at h
  exact h u (by simpa using hu)
theorem Pl.list (p : Pl) : p.arr.toList = p.cells := rfl
def plsC (l : List Pl) : List Value := l.flatMap Pl.cells
theorem plsC_len (l : List Pl) : (plsC l).length = l.length * 13 := by
  induction l with
  | nil => rfl
  | cons s l ih => simp only [plsC, List.flatMap_cons, List.length_append, List.length_cons] at *; rw [ih]; show 13 + _ = _; omega
theorem plsC_app (l m : List Pl) : plsC (l ++ m) = plsC l ++ plsC m := by simp [plsC]
theorem plsC_drop (l : List Pl) : ∀ k, (plsC l).drop (k * 13) = plsC (l.drop k) := by
  induction l with
  | nil => intro k; simp [plsC]
  | cons s l ih =>
    intro k
    cases k with
    | zero => rw [Nat.zero_mul]; rfl
    | succ k =>
      rw [List.drop_succ_cons, ← ih k]
      simp only [plsC, List.flatMap_cons, Pl.cells]
      rw [show (k + 1) * 13 = k * 13 + 13 by omega]
      rfl
theorem plsC_take (l : List Pl) (k : Nat) (h : k ≤ l.length) : (plsC l).take (k * 13) = plsC (l.take k) := by
  have hl : (plsC (l.take k)).length = k * 13 := by rw [plsC_len, List.length_take]; have : min k l.length = k := by omega
                                                    rw [this]
  conv => lhs; rw [← List.take_append_drop k l, plsC_app]
  rw [List.take_append_of_le_length (by omega), List.take_of_length_le (by omega)]
/-- Its lists read as they should. -/
def PlOk (w : World) (p : Pl) : Prop := IRow w p.A p.n p.c p.s.list ∧ PRow w p.B p.m p.k p.s.pins
theorem PlOk.later {w w' : World} {p : Pl} (h : PlOk w p) (hb : Below w.heap.size w w') : PlOk w' p := ⟨h.1.later hb, h.2.later hb⟩
theorem noPl_ok (w : World) : PlOk w noPl := ⟨Row.nilRow _ _, Row.nilRow _ _⟩
/-- A slice that reads as statements, whatever lists they have. -/
structure LRow (w : World) (A : Option Addr) (n c : Nat) (l : List Pl) : Prop where
  row : Row w A n c 13 (plsC l)
  ok : ∀ p ∈ l, PlOk w p
theorem LRow.len {w : World} {A : Option Addr} {n c : Nat} {l : List Pl} (h : LRow w A n c l) : l.length = n := by
  have := h.row.len; rw [plsC_len] at this; omega
theorem LRow.later {w w' : World} {A : Option Addr} {n c : Nat} {l : List Pl} (h : LRow w A n c l) (hb : Below w.heap.size w w') : LRow w' A n c l := ⟨Row.later h.row hb, fun p hp => (h.ok p hp).later hb⟩
theorem LRow.nil (w : World) : LRow w none 0 0 [] := ⟨Row.nilRow _ _, fun _ h => by cases h⟩
theorem LRow.take {w : World} {A : Option Addr} {n c : Nat} {l : List Pl} (h : LRow w A n c l) (k : Nat) (hk : k ≤ n) : LRow w A k c (l.take k) := by
  have h1 := Row.take h.row k hk
  rw [plsC_take l k (by rw [h.len]; exact hk)] at h1
  exact ⟨h1, fun p hp => h.ok p (List.mem_of_mem_take hp)⟩
theorem LRow.drop {w : World} {A : Option Addr} {n c : Nat} {l : List Pl} (h : LRow w A n c l) (k : Nat) (hk : k ≤ n) : LRow w (dropA A c k 13) (n - k) (c - k) (l.drop k) := by
  have h1 := Row.drop h.row k hk
  rw [plsC_drop] at h1
  exact ⟨h1, fun p hp => h.ok p (List.mem_of_mem_drop hp)⟩
theorem LRow.get {w : World} {A : Option Addr} {n c : Nat} {l : List Pl} (h : LRow w A n c l) (k : Nat) (hk : k < n) : l.getD k noPl ∈ l := by
  rw [List.getD_eq_getElem?_getD, List.getElem?_eq_getElem (by rw [h.len]; exact hk)]
  exact List.getElem_mem _
theorem LRow.at {w : World} {A : Option Addr} {n c : Nat} {l : List Pl} (h : LRow w A n c l) (k : Nat) (hk : k < n) : PlOk w (l.getD k noPl) := h.ok _ (h.get k hk)
/-- The cells of statement k. -/
theorem LRow.cells {w : World} {A : Option Addr} {n c : Nat} {l : List Pl} (h : LRow w A n c l) (k : Nat) (hk : k < n) :
    ∃ b off, A = some ⟨b, off, none⟩ ∧ ∀ j, j < (l.getD k noPl).arr.size → w.cell? ⟨b, off + k * 13 + j, none⟩ = (l.getD k noPl).arr[j]? := by
  obtain ⟨b, off, hA, hc⟩ := Row.form h.row (by omega)
  refine ⟨b, off, hA, fun j hj => ?_⟩
  rw [Pl.size] at hj
  have hl := h.len
  have h0 : (plsC l)[k * 13 + j]? = (plsC (l.drop k))[j]? := by rw [← plsC_drop, List.getElem?_drop]
  have h1 : l.drop k = l.getD k noPl :: l.drop (k + 1) := by
    rw [List.drop_eq_getElem_cons (by omega)]; simp [show k < l.length by omega]
  rw [Nat.add_assoc, hc _ (by omega), h0, h1]
  show ((l.getD k noPl).cells ++ plsC (l.drop (k + 1)))[j]? = _
  rw [List.getElem?_append_left (by show j < 13; exact hj), ← Pl.list]
  simp
/-- The same in every world that may come. -/
theorem LRow.futs {F : World → World → Prop} (hr : ∀ w, F w w) {W : World} {A : Option Addr} {n c : Nat} {l : List Pl} (hF : ∀ w', F W w' → Below W.heap.size W w') (h : LRow W A n c l) (k : Nat) (hk : k < n) :
    ∃ b off, A = some ⟨b, off, none⟩ ∧ ∀ x j, j < (l.getD k noPl).arr.size → (fut F W x).cell? ⟨b, off + k * 13 + j, none⟩ = (l.getD k noPl).arr[j]? := by
  obtain ⟨b, off, hA, _⟩ := h.cells k hk
  refine ⟨b, off, hA, fun x j hj => ?_⟩
  obtain ⟨b2, off2, hA2, hc2⟩ := (h.later (hF _ (fut_ok hr W x))).cells k hk
  rw [hA] at hA2
  injection hA2 with hA2
  injection hA2 with e1 e2
  subst e1 e2
  exact hc2 j hj
/-- Its lists do not lie in a slice's block. -/
def Clear (v : Value) (p : Pl) : Prop := (∀ ad, p.A = some ad → 0 < p.n → v.ownBlock ≠ some ad.block) ∧ (∀ ad, p.B = some ad → 0 < p.m → v.ownBlock ≠ some ad.block)
/-- What lies in live blocks is clear of a block that is new. -/
theorem PlOk.clear {w : World} {p : Pl} (h : PlOk w p) {v : Value} (hv : ∀ k, v.ownBlock = some k → w.heap.size ≤ k) : Clear v p :=
  ⟨fun ad hA h0 e => by have h1 := Row.lt h.1 (by omega) ad hA h0; have h2 := hv _ e; omega, fun ad hA h0 e => by have h1 := Row.lt h.2 (by omega) ad hA h0; have h2 := hv _ e; omega⟩
theorem PlOk.keep {w w' : World} {p : Pl} {v : Value} (h : PlOk w p) (hc : Clear v p) (hk : ∀ k, k < w.heap.size → v.ownBlock ≠ some k → w'.heap[k]? = w.heap[k]?) : PlOk w' p :=
  ⟨Row.keep h.1 fun ad hA h0 hlt => hk _ hlt (hc.1 ad hA h0), Row.keep h.2 fun ad hA h0 hlt => hk _ hlt (hc.2 ad hA h0)⟩
theorem LRow.clear {w : World} {A : Option Addr} {n c : Nat} {l : List Pl} (h : LRow w A n c l) {B0 : Nat} (hB : w.heap.size ≤ B0) {v : Value} (hv : ∀ k, v.ownBlock = some k → B0 ≤ k) : ∀ p ∈ l, Clear v p := fun p hp => (h.ok p hp).clear fun k e => Nat.le_trans hB (hv k e)
end Go.Proofs.Ytdildmfjekdlgaa
/- The walk of fork.faces. -/
namespace Go.Proofs.Ytdildmfjekdlgaa
open Go.RowKit
end Go.Proofs.Ytdildmfjekdlgaa
/- A region that draws its order: an operation that builds a value is taken as readers are. Plain facts over any program. -/
namespace Go.Proofs.Ytdildmfjekdlgaa
open Go.RowKit Go
def isVal (o : Oper) : Bool := isRead o || (match o.op with | .build .. => true | _ => false)
theorem val_value {P : Program} {o : Oper} (h : isVal o = true) {ρ : Operand → Value} {w w' : World} {n : Next} (hr : (execOp ρ o).run P w = .ok n w') : ∃ v, n = .value v := by
  unfold isVal at h
  rw [Bool.or_eq_true] at h
  rcases h with h | h
  · exact read_value h hr
  · obtain ⟨dst, op, t, pos, after, g⟩ := o
    cases op with
    | build t parts => exact run_v hr
    | _ => cases h
section
variable {P : Program} {md : Region.Mode} {F : World → World → Prop}
theorem val_yields {ops : Array Oper} {C : World → Prop} {o : Oper} {a : Act} {v : Value} (ho : isVal o = true) (hw : Region.wanted o (yielded ops a.tmps) = true) (h : ∀ w, C w → o.quietAt P a C w v) : YieldsIf P ops C o v a := by
  refine .inl ⟨hw, fun w hC => ?_⟩
  have h1 := h w hC
  unfold Oper.quietAt at h1
  cases hr : (execOp a.eval o).run P w with
  | halt x w' => rw [hr] at h1; exact h1.elim
  | ok n w' =>
    obtain ⟨u, rfl⟩ := val_value ho hr
    rw [hr] at h1
    obtain ⟨rfl, rfl⟩ := h1
    rfl
/-- A value is built, whatever else may come up. -/
theorem flow_val {l : List Oper} {Q : Exit → Act → World → Prop} (hr : ∀ w, F w w) (hs : Region.noSelect l.toArray = true) {fuel : Nat} (i : Nat) {listed : Array Bool} {a : Act} {w : World}
    (hB : ((Region.ready md l.toArray listed).contains i && Region.free md l.toArray listed i && isVal (pick l i) && decide (i < l.length)) = true)
    (h : wpQuiet P l.toArray (Futs F w) (fun a' => wpAnyH P md l.toArray (NoPanic Q) (Futs F w) fuel (listed.setIfInBounds i true) a' w) [pick l i] a) :
    wpAnyH P md l.toArray (NoPanic Q) (Futs F w) (fuel + 1) listed a w := by
  simp only [Bool.and_eq_true, decide_eq_true_eq] at hB
  obtain ⟨⟨⟨h1, h2⟩, h3⟩, h4⟩ := hB
  unfold wpQuiet at h
  split at h
  · rename_i hw
    obtain ⟨v, hv, hn⟩ := h
    exact wpAnyH_take (pick_at h4) hs h2 h1 (fun _ _ _ h => h) (val_yields h3 hw hv) (Futs.of (hr w)) hn
  · rename_i hw
    exact wpAnyH_take (pick_at h4) hs h2 h1 (fun _ _ _ h => h) (.inr ⟨by simpa using hw, rfl⟩) (Futs.of (hr w)) h
theorem flow_three {l : List Oper} {Q : Exit → Act → World → Prop} (ht : ∀ a b c, F a b → F b c → F a c) (hr : ∀ w, F w w) {fuel : Nat} (e1 e2 e3 : Nat) {listed : Array Bool} {a : Act} {w : World} (h2 : (Region.ready md l.toArray listed == [e1, e2, e3]) = true) (h3 : e1 < l.length) (h4 : e2 < l.length) (h5 : e3 < l.length)
    (h : wpList P l.toArray (pieceEnd fun a'' w' => F w w' ∧ wpAnyH P md l.toArray (NoPanic Q) (Futs F w') fuel (listed.setIfInBounds e1 true) a'' w') [pick l e1] a w)
    (h' : wpList P l.toArray (pieceEnd fun a'' w' => F w w' ∧ wpAnyH P md l.toArray (NoPanic Q) (Futs F w') fuel (listed.setIfInBounds e2 true) a'' w') [pick l e2] a w)
    (h'' : wpList P l.toArray (pieceEnd fun a'' w' => F w w' ∧ wpAnyH P md l.toArray (NoPanic Q) (Futs F w') fuel (listed.setIfInBounds e3 true) a'' w') [pick l e3] a w) :
    wpAnyH P md l.toArray (NoPanic Q) (Futs F w) (fuel + 1) listed a w :=
  flow_step ht hr [e1, e2, e3] h2 (by simp) (by simp [h3, h4, h5]) (fun i hi => by
    have : i = e1 ∨ i = e2 ∨ i = e3 := by simpa using hi
    rcases this with rfl | rfl | rfl
    · exact h
    · exact h'
    · exact h'')
end
end Go.Proofs.Ytdildmfjekdlgaa
/- The walk of fork.isTwoFaced. -/
namespace Go.Proofs.Ytdildmfjekdlgaa
open Go.RowKit
end Go.Proofs.Ytdildmfjekdlgaa
/- The walk of fork.Check. -/
namespace Go.Proofs.Ytdildmfjekdlgaa
open Go.RowKit
end Go.Proofs.Ytdildmfjekdlgaa
/- The walk of trustflowref02's rest. -/
namespace Go.Proofs.Ytdildmfjekdlgaa
open Go.RowKit
end Go.Proofs.Ytdildmfjekdlgaa
/- The walks of package wire: what takes. -/
namespace Go.Proofs.Ytdildmfjekdlgaa
open Go.RowKit
theorem BRow.drop {w : World} {A : Option Addr} {n c : Nat} {us : List UInt8} (h : BRow w A n c us) (k : Nat) (hk : k ≤ n) : BRow w (dropA A c k 1) (n - k) (c - k) (us.drop k) := by
  have := Row.drop h k hk
  rw [Nat.mul_one, bytesV_drop] at this
  exact this
theorem BRow.take {w : World} {A : Option Addr} {n c : Nat} {us : List UInt8} (h : BRow w A n c us) (k : Nat) (hk : k ≤ n) : BRow w A k c (us.take k) := by
  have := Row.take h k hk
  rw [Nat.mul_one, bytesV_take] at this
  exact this
end Go.Proofs.Ytdildmfjekdlgaa
/- The walks of package wire: TakeText, TakeInts. -/
namespace Go.Proofs.Ytdildmfjekdlgaa
open Go.RowKit
/-- Numbers in a slice that the call itself has made. -/
def IOwn (w : World) (B : Nat) (v : Value) (l : List Int) : Prop := w.ownsRow B 3 1 v l.length (intsV l)
theorem IOwn.row {w : World} {B : Nat} {v : Value} {l : List Int} (h : IOwn w B v l) : ∃ A c, v = .slice A l.length c ∧ IRow w A l.length c l := Row.of_own h
end Go.Proofs.Ytdildmfjekdlgaa
/- The walks of trustflowref02: Int, Text, Ints, rest. -/
namespace Go.Proofs.Ytdildmfjekdlgaa
open Go.RowKit
end Go.Proofs.Ytdildmfjekdlgaa
/- The walks of trustflowref02: TakeInt, TakeText, TakeInts. -/
namespace Go.Proofs.Ytdildmfjekdlgaa
open Go.RowKit
end Go.Proofs.Ytdildmfjekdlgaa
/- What is taken from any bytes, by package wire and by the reference alike. -/
namespace Go.Proofs.Ytdildmfjekdlgaa
open Go.RowKit
open Classical in
open Classical in
section
variable (A : Option Addr) (n c : Nat) (us : List UInt8) (most : Int) (w : World)
end
end Go.Proofs.Ytdildmfjekdlgaa
/- The walk of fork.Encode. -/
namespace Go.Proofs.Ytdildmfjekdlgaa
open Go.RowKit
end Go.Proofs.Ytdildmfjekdlgaa
/- What package wire takes from bytes lies where the bytes lie. -/
namespace Go.Proofs.Ytdildmfjekdlgaa
open Go.RowKit
/-- An address in the block of another one. -/
def Sub (A' A : Option Addr) : Prop := ∀ ad', A' = some ad' → ∃ ad, A = some ad ∧ ad'.block = ad.block
theorem Sub.refl (A : Option Addr) : Sub A A := fun ad h => ⟨ad, h, rfl⟩
theorem Sub.none (A : Option Addr) : Sub none A := fun _ h => by cases h
theorem Sub.trans {A B C : Option Addr} (h : Sub A B) (k : Sub B C) : Sub A C := fun ad hA => by
  obtain ⟨b, hb, e⟩ := h ad hA
  obtain ⟨c, hc, e2⟩ := k b hb
  exact ⟨c, hc, e.trans e2⟩
section
variable (A : Option Addr) (n c : Nat) (us : List UInt8) (most : Int) (w : World)
end
end Go.Proofs.Ytdildmfjekdlgaa
/- The walks of the reader of package statement: require, number, text, list. -/
namespace Go.Proofs.Ytdildmfjekdlgaa
open Go.RowKit
end Go.Proofs.Ytdildmfjekdlgaa
/- The walk of the reader's pins. -/
namespace Go.Proofs.Ytdildmfjekdlgaa
open Go.RowKit
end Go.Proofs.Ytdildmfjekdlgaa
/- What is read of a statement; the walk of the reader's statement. -/
namespace Go.Proofs.Ytdildmfjekdlgaa
open Go.RowKit
end Go.Proofs.Ytdildmfjekdlgaa
/- The deferred function of statement.read, which recovers. -/
namespace Go.Proofs.Ytdildmfjekdlgaa
open Go.RowKit
end Go.Proofs.Ytdildmfjekdlgaa
/- The walk of statement.read. -/
namespace Go.Proofs.Ytdildmfjekdlgaa
open Go.RowKit
def zeroS : Stm := ⟨0, 0, ⟨#[]⟩, 0, 0, 0, 0, 0, [], [], ⟨#[]⟩, 0, ⟨#[]⟩⟩
end Go.Proofs.Ytdildmfjekdlgaa
/- The walk of statement.Decode. -/
namespace Go.Proofs.Ytdildmfjekdlgaa
open Go.RowKit
end Go.Proofs.Ytdildmfjekdlgaa
/- What bytes say of evidence: plain facts; a string as bytes. -/
namespace Go.Proofs.Ytdildmfjekdlgaa
open Go.RowKit
/-- What Decode gives. -/
def DecF (w : World) (s t : Stm) (E : Int) (e : Ending) (w' : World) : Prop :=
  ∃ A n c B m k A2 n2 c2 B2 m2 k2, e = .returned (.tuple #[forkV s A n c B m k t A2 n2 c2 B2 m2 k2, .int .i64 E]) ∧ IRow w' A n c s.list ∧ PRow w' B m k s.pins ∧ IRow w' A2 n2 c2 t.list ∧ PRow w' B2 m2 k2 t.pins ∧ Below w.heap.size w w'
theorem DecF.zero {w w' : World} (hb : Below w.heap.size w w') : DecF w zeroS zeroS 1 (.returned (.tuple #[.agg #[.int .i64 0, .int .i64 0, .string ⟨#[]⟩, .int .i64 0, .int .i64 0, .int .i64 0, .int .i64 0, .int .i64 0, .slice none 0 0, .slice none 0 0, .string ⟨#[]⟩, .int .i64 0, .string ⟨#[]⟩, .int .i64 0, .int .i64 0, .string ⟨#[]⟩, .int .i64 0, .int .i64 0, .int .i64 0, .int .i64 0, .int .i64 0, .slice none 0 0, .slice none 0 0, .string ⟨#[]⟩, .int .i64 0, .string ⟨#[]⟩], .int .i64 1])) w' :=
  ⟨none, 0, 0, none, 0, 0, none, 0, 0, none, 0, 0, rfl, Row.nilRow _ _, Row.nilRow _ _, Row.nilRow _ _, Row.nilRow _ _, hb⟩
end Go.Proofs.Ytdildmfjekdlgaa
/- The walk of fork.Decode. -/
namespace Go.Proofs.Ytdildmfjekdlgaa
open Go.RowKit
end Go.Proofs.Ytdildmfjekdlgaa
/- The walk of the reference's Bytes. -/
namespace Go.Proofs.Ytdildmfjekdlgaa
open Go.RowKit
end Go.Proofs.Ytdildmfjekdlgaa
