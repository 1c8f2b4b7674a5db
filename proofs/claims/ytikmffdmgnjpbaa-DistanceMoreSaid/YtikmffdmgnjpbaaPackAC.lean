import Derived.Test.YtikmffdmgnjpbaaPackAB
import Derived.LoopN
import Derived.Test.YtikmffdmgnjpbaaPackAA
import Derived.BigQuiet
import Derived.WalkSmall
import Derived.Defers
import Derived.Recover
import Derived.Laws.IdiomStrings
import Derived.Great.BuildSlice
/- A region that draws its order: an operation that builds a value is taken as readers are. Plain facts over any program. -/
namespace Go.Proofs.Ytikmffdmgnjpbaa
open Go.RowKit Go
def isVal (o : Oper) : Bool := isRead o || (match o.op with | .build .. => true | _ => false)
theorem val_value {P : Program} {o : Oper} (h : isVal o = true) {ρ : Operand → Value} {w w' : World} {n : Next} (hr : (execOp ρ o).run P w = .ok n w') : ∃ v, n = .value v := by
  unfold isVal at h
  rw [Bool.or_eq_true] at h
  rcases h with h | h
  · exact read_value h hr
  · obtain ⟨dst, op, t, pos, after, g⟩ := o
    cases op with
    | build t parts => exact run_v hr
    | _ => cases h
section
variable {P : Program} {md : Region.Mode} {F : World → World → Prop}
theorem val_yields {ops : Array Oper} {C : World → Prop} {o : Oper} {a : Act} {v : Value} (ho : isVal o = true) (hw : Region.wanted o (yielded ops a.tmps) = true) (h : ∀ w, C w → o.quietAt P a C w v) : YieldsIf P ops C o v a := by
  refine .inl ⟨hw, fun w hC => ?_⟩
  have h1 := h w hC
  unfold Oper.quietAt at h1
  cases hr : (execOp a.eval o).run P w with
  | halt x w' => rw [hr] at h1; exact h1.elim
  | ok n w' =>
    obtain ⟨u, rfl⟩ := val_value ho hr
    rw [hr] at h1
    obtain ⟨rfl, rfl⟩ := h1
    rfl
/-- A value is built, whatever else may come up. -/
theorem flow_val {l : List Oper} {Q : Exit → Act → World → Prop} (hr : ∀ w, F w w) (hs : Region.noSelect l.toArray = true) {fuel : Nat} (i : Nat) {listed : Array Bool} {a : Act} {w : World}
    (hB : ((Region.ready md l.toArray listed).contains i && Region.free md l.toArray listed i && isVal (pick l i) && decide (i < l.length)) = true)
    (h : wpQuiet P l.toArray (Futs F w) (fun a' => wpAnyH P md l.toArray (NoPanic Q) (Futs F w) fuel (listed.setIfInBounds i true) a' w) [pick l i] a) :
    wpAnyH P md l.toArray (NoPanic Q) (Futs F w) (fuel + 1) listed a w := by
  simp only [Bool.and_eq_true, decide_eq_true_eq] at hB
  obtain ⟨⟨⟨h1, h2⟩, h3⟩, h4⟩ := hB
  unfold wpQuiet at h
  split at h
  · rename_i hw
    obtain ⟨v, hv, hn⟩ := h
    exact wpAnyH_take (pick_at h4) hs h2 h1 (fun _ _ _ h => h) (val_yields h3 hw hv) (Futs.of (hr w)) hn
  · rename_i hw
    exact wpAnyH_take (pick_at h4) hs h2 h1 (fun _ _ _ h => h) (.inr ⟨by simpa using hw, rfl⟩) (Futs.of (hr w)) h
end
end Go.Proofs.Ytikmffdmgnjpbaa
/- The walk of fork.isTwoFaced. -/
namespace Go.Proofs.Ytikmffdmgnjpbaa
open Go.RowKit
end Go.Proofs.Ytikmffdmgnjpbaa
/- The walk of fork.Check. -/
namespace Go.Proofs.Ytikmffdmgnjpbaa
open Go.RowKit
end Go.Proofs.Ytikmffdmgnjpbaa
/- The walk of trustflowref02's rest. -/
namespace Go.Proofs.Ytikmffdmgnjpbaa
open Go.RowKit
end Go.Proofs.Ytikmffdmgnjpbaa
/- The walks of package wire: what takes. -/
namespace Go.Proofs.Ytikmffdmgnjpbaa
open Go.RowKit
theorem BRow.drop {w : World} {A : Option Addr} {n c : Nat} {us : List UInt8} (h : BRow w A n c us) (k : Nat) (hk : k ≤ n) : BRow w (dropA A c k 1) (n - k) (c - k) (us.drop k) := by
  have := Row.drop h k hk
  rw [Nat.mul_one, bytesV_drop] at this
  exact this
theorem BRow.take {w : World} {A : Option Addr} {n c : Nat} {us : List UInt8} (h : BRow w A n c us) (k : Nat) (hk : k ≤ n) : BRow w A k c (us.take k) := by
  have := Row.take h k hk
  rw [Nat.mul_one, bytesV_take] at this
  exact this
end Go.Proofs.Ytikmffdmgnjpbaa
/- The walks of package wire: TakeText, TakeInts. -/
namespace Go.Proofs.Ytikmffdmgnjpbaa
open Go.RowKit
/-- Numbers in a slice that the call itself has made. -/
def IOwn (w : World) (B : Nat) (v : Value) (l : List Int) : Prop := w.ownsRow B 3 1 v l.length (intsV l)
theorem IOwn.row {w : World} {B : Nat} {v : Value} {l : List Int} (h : IOwn w B v l) : ∃ A c, v = .slice A l.length c ∧ IRow w A l.length c l := Row.of_own h
end Go.Proofs.Ytikmffdmgnjpbaa
/- The walks of trustflowref02: Int, Text, Ints, rest. -/
namespace Go.Proofs.Ytikmffdmgnjpbaa
open Go.RowKit
end Go.Proofs.Ytikmffdmgnjpbaa
/- The walks of trustflowref02: TakeInt, TakeText, TakeInts. -/
namespace Go.Proofs.Ytikmffdmgnjpbaa
open Go.RowKit
end Go.Proofs.Ytikmffdmgnjpbaa
/- What is taken from any bytes, by package wire and by the reference alike. -/
namespace Go.Proofs.Ytikmffdmgnjpbaa
open Go.RowKit
open Classical in
open Classical in
section
variable (A : Option Addr) (n c : Nat) (us : List UInt8) (most : Int) (w : World)
end
end Go.Proofs.Ytikmffdmgnjpbaa
/- The walk of fork.Encode. -/
namespace Go.Proofs.Ytikmffdmgnjpbaa
open Go.RowKit
end Go.Proofs.Ytikmffdmgnjpbaa
/- What package wire takes from bytes lies where the bytes lie. -/
namespace Go.Proofs.Ytikmffdmgnjpbaa
open Go.RowKit
/-- An address in the block of another one. -/
def Sub (A' A : Option Addr) : Prop := ∀ ad', A' = some ad' → ∃ ad, A = some ad ∧ ad'.block = ad.block
theorem Sub.refl (A : Option Addr) : Sub A A := fun ad h => ⟨ad, h, rfl⟩
theorem Sub.none (A : Option Addr) : Sub none A := fun _ h => by cases h
theorem Sub.trans {A B C : Option Addr} (h : Sub A B) (k : Sub B C) : Sub A C := fun ad hA => by
  obtain ⟨b, hb, e⟩ := h ad hA
  obtain ⟨c, hc, e2⟩ := k b hb
  exact ⟨c, hc, e.trans e2⟩
section
variable (A : Option Addr) (n c : Nat) (us : List UInt8) (most : Int) (w : World)
end
end Go.Proofs.Ytikmffdmgnjpbaa
/- The walks of the reader of package statement: require, number, text, list. -/
namespace Go.Proofs.Ytikmffdmgnjpbaa
open Go.RowKit
end Go.Proofs.Ytikmffdmgnjpbaa
/- The walk of the reader's pins. -/
namespace Go.Proofs.Ytikmffdmgnjpbaa
open Go.RowKit
end Go.Proofs.Ytikmffdmgnjpbaa
/- What is read of a statement; the walk of the reader's statement. -/
namespace Go.Proofs.Ytikmffdmgnjpbaa
open Go.RowKit
end Go.Proofs.Ytikmffdmgnjpbaa
/- The deferred function of statement.read, which recovers. -/
namespace Go.Proofs.Ytikmffdmgnjpbaa
open Go.RowKit
end Go.Proofs.Ytikmffdmgnjpbaa
/- The walk of statement.read. -/
namespace Go.Proofs.Ytikmffdmgnjpbaa
open Go.RowKit
def zeroS : Stm := ⟨0, 0, ⟨#[]⟩, 0, 0, 0, 0, 0, [], [], ⟨#[]⟩, 0, ⟨#[]⟩⟩
end Go.Proofs.Ytikmffdmgnjpbaa
/- The walk of statement.Decode. -/
namespace Go.Proofs.Ytikmffdmgnjpbaa
open Go.RowKit
end Go.Proofs.Ytikmffdmgnjpbaa
/- What bytes say of evidence: plain facts; a string as bytes. -/
namespace Go.Proofs.Ytikmffdmgnjpbaa
open Go.RowKit
/-- What Decode gives. -/
def DecF (w : World) (s t : Stm) (E : Int) (e : Ending) (w' : World) : Prop :=
  ∃ A n c B m k A2 n2 c2 B2 m2 k2, e = .returned (.tuple #[forkV s A n c B m k t A2 n2 c2 B2 m2 k2, .int .i64 E]) ∧ IRow w' A n c s.list ∧ PRow w' B m k s.pins ∧ IRow w' A2 n2 c2 t.list ∧ PRow w' B2 m2 k2 t.pins ∧ Below w.heap.size w w'
theorem DecF.zero {w w' : World} (hb : Below w.heap.size w w') : DecF w zeroS zeroS 1 (.returned (.tuple #[.agg #[.int .i64 0, .int .i64 0, .string ⟨#[]⟩, .int .i64 0, .int .i64 0, .int .i64 0, .int .i64 0, .int .i64 0, .slice none 0 0, .slice none 0 0, .string ⟨#[]⟩, .int .i64 0, .string ⟨#[]⟩, .int .i64 0, .int .i64 0, .string ⟨#[]⟩, .int .i64 0, .int .i64 0, .int .i64 0, .int .i64 0, .int .i64 0, .slice none 0 0, .slice none 0 0, .string ⟨#[]⟩, .int .i64 0, .string ⟨#[]⟩], .int .i64 1])) w' :=
  ⟨none, 0, 0, none, 0, 0, none, 0, 0, none, 0, 0, rfl, Row.nilRow _ _, Row.nilRow _ _, Row.nilRow _ _, Row.nilRow _ _, hb⟩
end Go.Proofs.Ytikmffdmgnjpbaa
/- The walk of fork.Decode. -/
namespace Go.Proofs.Ytikmffdmgnjpbaa
open Go.RowKit
end Go.Proofs.Ytikmffdmgnjpbaa
/- The walk of the reference's Bytes. -/
namespace Go.Proofs.Ytikmffdmgnjpbaa
open Go.RowKit
end Go.Proofs.Ytikmffdmgnjpbaa
