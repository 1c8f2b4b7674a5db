/-
  DERIVED. GIVEN WITH THE SEED: THE CARDS: each row of YtnokhjpileamaaaDoorRows.lean that lists a variable, with what it lists TIED to the program's text (the seventh form; the later family's looks); each row that meets fmt, with fmt's text TOLD by the authors' own Lean function (tested against real Go, not proved from fmt's source: count such statements apart). THE CARD IS WHAT COUNTS. Prove the row's statement (the work); the ties are given (YtnokhjpileamaaaDoorTie.lean); close each card by the builder's one call (the guide's Derived/Test/ToyasCard.lean, 'card_holds'). Laid BY PROGRAM, IN A SANDBOX (cutbox-door.mjs). By AI agents, Wed Nov 11 2026. No macro, syntax, notation, axiom, sorry.
-/
import Derived.Test.YtnokhjpileamaaaDoorRows
import GoSem.ClaimSeven
namespace Go.Proofs.YtnokhjpileamaaaDoor
namespace Rows

/-- THE TIED CARD OF 'trustflowlaw03.StatementRaw'. -/
def statementRawCard : Claim7 := { stood := { row := statementRawRow, standIns := [], harness := (true, "9f35118835b0001b8b0b4986e76f07ee8c249898b96bb7b555246aa80e8f14e1"), looks := true }, kinds := [], alts := [], laidByText := true, laidKinds := [.data], laidTests := true, laidLooks := .later }
def StatementRawCardSaid : Prop := Claim7.holds Tryd.pinned (.plain (OpenSpec.ofChange statementRawSpec)) statementRawCard

/-- THE TIED CARD OF 'trustflowlaw03.StatementMade'. -/
def statementMadeCard : Claim7 := { stood := { row := statementMadeRow, standIns := [], harness := (true, "9f35118835b0001b8b0b4986e76f07ee8c249898b96bb7b555246aa80e8f14e1"), looks := true }, kinds := [], alts := [], laidByText := true, laidKinds := [.data], laidTests := true, laidLooks := .later }
def StatementMadeCardSaid : Prop := Claim7.holds Tryd.pinned (.plain (OpenSpec.ofChange statementMadeSpec)) statementMadeCard

/-- THE TIED CARD OF 'trustflowlaw03.StatementSeals'. -/
def statementSealsCard : Claim7 := { stood := { row := statementSealsRow, standIns := [], harness := (true, "9f35118835b0001b8b0b4986e76f07ee8c249898b96bb7b555246aa80e8f14e1"), looks := true }, kinds := [], alts := [], laidByText := true, laidKinds := [.data], laidTests := true, laidLooks := .later }
def StatementSealsCardSaid : Prop := Claim7.holds Tryd.pinned (.plain (OpenSpec.ofChange statementSealsSpec)) statementSealsCard

/-- THE SECOND FORM's CARD OF 'trustflowlaw03.StatementRaw'. -/
def statementRawUptoCard : Claim7 := { stood := { row := statementRawUptoRow, standIns := [], harness := (true, "9f35118835b0001b8b0b4986e76f07ee8c249898b96bb7b555246aa80e8f14e1"), looks := true }, kinds := [], alts := [], laidByText := true, laidKinds := [.data], laidTests := true, laidLooks := .later }
def StatementRawUptoCardSaid : Prop := Claim7.holds Tryd.pinned (.plain (OpenSpec.upto statementRawSpec)) statementRawUptoCard

/-- THE SECOND FORM's CARD OF 'trustflowlaw03.StatementMade'. -/
def statementMadeUptoCard : Claim7 := { stood := { row := statementMadeUptoRow, standIns := [], harness := (true, "9f35118835b0001b8b0b4986e76f07ee8c249898b96bb7b555246aa80e8f14e1"), looks := true }, kinds := [], alts := [], laidByText := true, laidKinds := [.data], laidTests := true, laidLooks := .later }
def StatementMadeUptoCardSaid : Prop := Claim7.holds Tryd.pinned (.plain (OpenSpec.upto statementMadeSpec)) statementMadeUptoCard

/-- THE SECOND FORM's CARD OF 'trustflowlaw03.StatementSeals'. -/
def statementSealsUptoCard : Claim7 := { stood := { row := statementSealsUptoRow, standIns := [], harness := (true, "9f35118835b0001b8b0b4986e76f07ee8c249898b96bb7b555246aa80e8f14e1"), looks := true }, kinds := [], alts := [], laidByText := true, laidKinds := [.data], laidTests := true, laidLooks := .later }
def StatementSealsUptoCardSaid : Prop := Claim7.holds Tryd.pinned (.plain (OpenSpec.upto statementSealsSpec)) statementSealsUptoCard
end Rows
end Go.Proofs.YtnokhjpileamaaaDoor
