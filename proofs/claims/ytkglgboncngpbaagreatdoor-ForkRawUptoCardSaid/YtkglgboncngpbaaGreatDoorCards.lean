/-
  DERIVED. GIVEN WITH THE SEED: THE CARDS: each row of YtkglgboncngpbaaGreatDoorRows.lean that lists a variable, with what it lists TIED to the program's text (the seventh form; the later family's looks); each row that meets fmt, with fmt's text TOLD by the authors' own Lean function (tested against real Go, not proved from fmt's source: count such statements apart). THE CARD IS WHAT COUNTS. Prove the row's statement (the work); the ties are given (YtkglgboncngpbaaGreatDoorTie.lean); close each card by the builder's one call (the guide's Derived/Test/ToyasCard.lean, 'card_holds'). Laid BY PROGRAM, IN A SANDBOX (cutbox-door.mjs). By AI agents, Wed Nov 11 2026. No macro, syntax, notation, axiom, sorry.
-/
import Derived.Test.YtkglgboncngpbaaGreatDoorRows
import GoSem.ClaimSeven
namespace Go.Proofs.YtkglgboncngpbaaGreatDoor
namespace Rows

/-- THE TIED CARD OF 'trustflowlaw06.ForkRaw'. -/
def forkRawCard : Claim7 := { stood := { row := forkRawRow, standIns := [], harness := (true, "b86ceed688cd71801ea4e56a0ad8675aa995411cdc251419b131dfc82efbec65"), looks := true }, kinds := [], alts := [], laidByText := true, laidKinds := [.data], laidTests := true, laidLooks := .later }
def ForkRawCardSaid : Prop := Claim7.holds Tryz.pinned (.plain (OpenSpec.ofChange forkRawSpec)) forkRawCard

/-- THE TIED CARD OF 'trustflowlaw06.ForkMade'. -/
def forkMadeCard : Claim7 := { stood := { row := forkMadeRow, standIns := [], harness := (true, "b86ceed688cd71801ea4e56a0ad8675aa995411cdc251419b131dfc82efbec65"), looks := true }, kinds := [], alts := [], laidByText := true, laidKinds := [.data], laidTests := true, laidLooks := .later }
def ForkMadeCardSaid : Prop := Claim7.holds Tryz.pinned (.plain (OpenSpec.ofChange forkMadeSpec)) forkMadeCard

/-- THE TIED CARD OF 'trustflowlaw06.ForkStays'. -/
def forkStaysCard : Claim7 := { stood := { row := forkStaysRow, standIns := [], harness := (true, "b86ceed688cd71801ea4e56a0ad8675aa995411cdc251419b131dfc82efbec65"), looks := true }, kinds := [], alts := [], laidByText := true, laidKinds := [.data], laidTests := true, laidLooks := .later }
def ForkStaysCardSaid : Prop := Claim7.holds Tryz.pinned (.plain (OpenSpec.ofChange forkStaysSpec)) forkStaysCard

/-- THE TIED CARD OF 'trustflowlaw06.ForkTravels'. -/
def forkTravelsCard : Claim7 := { stood := { row := forkTravelsRow, standIns := [], harness := (true, "b86ceed688cd71801ea4e56a0ad8675aa995411cdc251419b131dfc82efbec65"), looks := true }, kinds := [], alts := [], laidByText := true, laidKinds := [.data], laidTests := true, laidLooks := .later }
def ForkTravelsCardSaid : Prop := Claim7.holds Tryz.pinned (.plain (OpenSpec.ofChange forkTravelsSpec)) forkTravelsCard

/-- THE SECOND FORM's CARD OF 'trustflowlaw06.ForkRaw'. -/
def forkRawUptoCard : Claim7 := { stood := { row := forkRawUptoRow, standIns := [], harness := (true, "b86ceed688cd71801ea4e56a0ad8675aa995411cdc251419b131dfc82efbec65"), looks := true }, kinds := [], alts := [], laidByText := true, laidKinds := [.data], laidTests := true, laidLooks := .later }
def ForkRawUptoCardSaid : Prop := Claim7.holds Tryz.pinned (.plain (OpenSpec.upto forkRawSpec)) forkRawUptoCard

/-- THE SECOND FORM's CARD OF 'trustflowlaw06.ForkMade'. -/
def forkMadeUptoCard : Claim7 := { stood := { row := forkMadeUptoRow, standIns := [], harness := (true, "b86ceed688cd71801ea4e56a0ad8675aa995411cdc251419b131dfc82efbec65"), looks := true }, kinds := [], alts := [], laidByText := true, laidKinds := [.data], laidTests := true, laidLooks := .later }
def ForkMadeUptoCardSaid : Prop := Claim7.holds Tryz.pinned (.plain (OpenSpec.upto forkMadeSpec)) forkMadeUptoCard

/-- THE SECOND FORM's CARD OF 'trustflowlaw06.ForkStays'. -/
def forkStaysUptoCard : Claim7 := { stood := { row := forkStaysUptoRow, standIns := [], harness := (true, "b86ceed688cd71801ea4e56a0ad8675aa995411cdc251419b131dfc82efbec65"), looks := true }, kinds := [], alts := [], laidByText := true, laidKinds := [.data], laidTests := true, laidLooks := .later }
def ForkStaysUptoCardSaid : Prop := Claim7.holds Tryz.pinned (.plain (OpenSpec.upto forkStaysSpec)) forkStaysUptoCard

/-- THE SECOND FORM's CARD OF 'trustflowlaw06.ForkTravels'. -/
def forkTravelsUptoCard : Claim7 := { stood := { row := forkTravelsUptoRow, standIns := [], harness := (true, "b86ceed688cd71801ea4e56a0ad8675aa995411cdc251419b131dfc82efbec65"), looks := true }, kinds := [], alts := [], laidByText := true, laidKinds := [.data], laidTests := true, laidLooks := .later }
def ForkTravelsUptoCardSaid : Prop := Claim7.holds Tryz.pinned (.plain (OpenSpec.upto forkTravelsSpec)) forkTravelsUptoCard
end Rows
end Go.Proofs.YtkglgboncngpbaaGreatDoor
