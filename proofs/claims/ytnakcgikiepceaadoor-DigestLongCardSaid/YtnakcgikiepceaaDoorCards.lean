/-
  DERIVED. GIVEN WITH THE SEED: THE CARDS: each row of YtnakcgikiepceaaDoorRows.lean that lists a variable, with what it lists TIED to the program's text (the seventh form; the later family's looks); each row that meets fmt, with fmt's text TOLD by the authors' own Lean function (tested against real Go, not proved from fmt's source: count such statements apart). THE CARD IS WHAT COUNTS. Prove the row's statement (the work); the ties are given (YtnakcgikiepceaaDoorTie.lean); close each card by the builder's one call (the guide's Derived/Test/ToyasCard.lean, 'card_holds'). Laid BY PROGRAM, IN A SANDBOX (cutbox-door.mjs). By AI agents, Wed Nov 11 2026. No macro, syntax, notation, axiom, sorry.
-/
import Derived.Test.YtnakcgikiepceaaDoorRows
import GoSem.ClaimSeven
namespace Go.Proofs.YtnakcgikiepceaaDoor
namespace Rows

/-- THE TIED CARD OF 'trustflowlaw01.DigestLong'. -/
def digestLongCard : Claim7 := { stood := { row := digestLongRow, standIns := [], harness := (true, "dc7d85c5db734d705a811e4fa23760ab2c6720bf81884aa059bcd9683a8fd00b"), looks := false }, kinds := [], alts := [], laidByText := true, laidKinds := [.data], laidTests := true, laidLooks := .later }
def DigestLongCardSaid : Prop := Claim7.holds Tryd.pinned (.plain (OpenSpec.ofChange digestLongSpec)) digestLongCard

/-- THE SECOND FORM's CARD OF 'trustflowlaw01.DigestLong'. -/
def digestLongUptoCard : Claim7 := { stood := { row := digestLongUptoRow, standIns := [], harness := (true, "dc7d85c5db734d705a811e4fa23760ab2c6720bf81884aa059bcd9683a8fd00b"), looks := false }, kinds := [], alts := [], laidByText := true, laidKinds := [.data], laidTests := true, laidLooks := .later }
def DigestLongUptoCardSaid : Prop := Claim7.holds Tryd.pinned (.plain (OpenSpec.upto digestLongSpec)) digestLongUptoCard
end Rows
end Go.Proofs.YtnakcgikiepceaaDoor
