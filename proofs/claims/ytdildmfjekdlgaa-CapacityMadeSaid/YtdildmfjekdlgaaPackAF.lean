import Derived.Test.YtdildmfjekdlgaaPackAB
import Derived.Test.YtdildmfjekdlgaaPackAC
import Derived.Test.YtdildmfjekdlgaaRefP
import Derived.Test.YtdildmfjekdlgaaPackAA
/- The walks of the reference's Digest, Sealed, Copy, Seal. -/
namespace Go.Proofs.Ytdildmfjekdlgaa
open Go.RowKit
/-- A call that returns a statement. -/
def GivesS (w : World) (s : Stm) (e : Ending) (w' : World) : Prop := ∃ A n c B m k, e = .returned (stmV s A n c B m k) ∧ IRow w' A n c s.list ∧ PRow w' B m k s.pins ∧ New w w' A ∧ New w w' B ∧ Below w.heap.size w w'
/-- Below B nothing turns, nor does one cell. -/
def KeepC (B : Nat) (p : Addr) (a b : World) : Prop := Below B a b ∧ b.cell? p = a.cell? p
theorem KeepC.refl (B : Nat) (p : Addr) (a : World) : KeepC B p a a := ⟨Below.refl _ _, rfl⟩
theorem KeepC.trans {B : Nat} {p : Addr} {a b c : World} (h : KeepC B p a b) (k : KeepC B p b c) : KeepC B p a c := ⟨h.1.trans k.1, k.2.trans h.2⟩
end Go.Proofs.Ytdildmfjekdlgaa
/- The walk of the reference's Sealed. -/
namespace Go.Proofs.Ytdildmfjekdlgaa
open Go.RowKit
end Go.Proofs.Ytdildmfjekdlgaa
/- The walks of the reference's Check. -/
namespace Go.Proofs.Ytdildmfjekdlgaa
open Go.RowKit
end Go.Proofs.Ytdildmfjekdlgaa
/- The walks of the reference's numbers and Check. -/
namespace Go.Proofs.Ytdildmfjekdlgaa
open Go.RowKit
end Go.Proofs.Ytdildmfjekdlgaa
