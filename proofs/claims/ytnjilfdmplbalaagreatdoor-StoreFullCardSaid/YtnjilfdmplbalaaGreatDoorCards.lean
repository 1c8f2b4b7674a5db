/-
  DERIVED. GIVEN WITH THE SEED: THE CARDS: each row of YtnjilfdmplbalaaGreatDoorRows.lean that lists a variable, with what it lists TIED to the program's text (the seventh form; the later family's looks); each row that meets fmt, with fmt's text TOLD by the authors' own Lean function (tested against real Go, not proved from fmt's source: count such statements apart). THE CARD IS WHAT COUNTS. Prove the row's statement (the work); the ties are given (YtnjilfdmplbalaaGreatDoorTie.lean); close each card by the builder's one call (the guide's Derived/Test/ToyasCard.lean, 'card_holds'). Laid BY PROGRAM, IN A SANDBOX (cutbox-door.mjs). By AI agents, Wed Nov 11 2026. No macro, syntax, notation, axiom, sorry.
-/
import Derived.Test.YtnjilfdmplbalaaGreatDoorRows
import GoSem.ClaimSeven
namespace Go.Proofs.YtnjilfdmplbalaaGreatDoor
namespace Rows

/-- THE TIED CARD OF 'trustflowlaw05.StoreRaw'. -/
def storeRawCard : Claim7 := { stood := { row := storeRawRow, standIns := [], harness := (true, "29dc605e7bcd8b9e702013660ff9249090da991a4ec47c4e29d912002bf65627"), looks := false }, kinds := [], alts := [], laidByText := true, laidKinds := [.data], laidTests := true, laidLooks := .later }
def StoreRawCardSaid : Prop := Claim7.holds Tryz.pinned (.plain (OpenSpec.ofChange storeRawSpec)) storeRawCard

/-- THE TIED CARD OF 'trustflowlaw05.StoreMade'. -/
def storeMadeCard : Claim7 := { stood := { row := storeMadeRow, standIns := [], harness := (true, "29dc605e7bcd8b9e702013660ff9249090da991a4ec47c4e29d912002bf65627"), looks := false }, kinds := [], alts := [], laidByText := true, laidKinds := [.data], laidTests := true, laidLooks := .later }
def StoreMadeCardSaid : Prop := Claim7.holds Tryz.pinned (.plain (OpenSpec.ofChange storeMadeSpec)) storeMadeCard

/-- THE TIED CARD OF 'trustflowlaw05.StoreMerges'. -/
def storeMergesCard : Claim7 := { stood := { row := storeMergesRow, standIns := [], harness := (true, "29dc605e7bcd8b9e702013660ff9249090da991a4ec47c4e29d912002bf65627"), looks := false }, kinds := [], alts := [], laidByText := true, laidKinds := [.data], laidTests := true, laidLooks := .later }
def StoreMergesCardSaid : Prop := Claim7.holds Tryz.pinned (.plain (OpenSpec.ofChange storeMergesSpec)) storeMergesCard

/-- THE TIED CARD OF 'trustflowlaw05.StorePins'. -/
def storePinsCard : Claim7 := { stood := { row := storePinsRow, standIns := [], harness := (true, "29dc605e7bcd8b9e702013660ff9249090da991a4ec47c4e29d912002bf65627"), looks := false }, kinds := [], alts := [], laidByText := true, laidKinds := [.data], laidTests := true, laidLooks := .later }
def StorePinsCardSaid : Prop := Claim7.holds Tryz.pinned (.plain (OpenSpec.ofChange storePinsSpec)) storePinsCard

/-- THE TIED CARD OF 'trustflowlaw05.StoreGrows'. -/
def storeGrowsCard : Claim7 := { stood := { row := storeGrowsRow, standIns := [], harness := (true, "29dc605e7bcd8b9e702013660ff9249090da991a4ec47c4e29d912002bf65627"), looks := false }, kinds := [], alts := [], laidByText := true, laidKinds := [.data], laidTests := true, laidLooks := .later }
def StoreGrowsCardSaid : Prop := Claim7.holds Tryz.pinned (.plain (OpenSpec.ofChange storeGrowsSpec)) storeGrowsCard

/-- THE TIED CARD OF 'trustflowlaw05.StoreFull'. -/
def storeFullCard : Claim7 := { stood := { row := storeFullRow, standIns := [], harness := (true, "29dc605e7bcd8b9e702013660ff9249090da991a4ec47c4e29d912002bf65627"), looks := false }, kinds := [], alts := [], laidByText := true, laidKinds := [.data], laidTests := true, laidLooks := .later }
def StoreFullCardSaid : Prop := Claim7.holds Tryz.pinned (.plain (OpenSpec.ofChange storeFullSpec)) storeFullCard

/-- THE SECOND FORM's CARD OF 'trustflowlaw05.StoreRaw'. -/
def storeRawUptoCard : Claim7 := { stood := { row := storeRawUptoRow, standIns := [], harness := (true, "29dc605e7bcd8b9e702013660ff9249090da991a4ec47c4e29d912002bf65627"), looks := false }, kinds := [], alts := [], laidByText := true, laidKinds := [.data], laidTests := true, laidLooks := .later }
def StoreRawUptoCardSaid : Prop := Claim7.holds Tryz.pinned (.plain (OpenSpec.upto storeRawSpec)) storeRawUptoCard

/-- THE SECOND FORM's CARD OF 'trustflowlaw05.StoreMade'. -/
def storeMadeUptoCard : Claim7 := { stood := { row := storeMadeUptoRow, standIns := [], harness := (true, "29dc605e7bcd8b9e702013660ff9249090da991a4ec47c4e29d912002bf65627"), looks := false }, kinds := [], alts := [], laidByText := true, laidKinds := [.data], laidTests := true, laidLooks := .later }
def StoreMadeUptoCardSaid : Prop := Claim7.holds Tryz.pinned (.plain (OpenSpec.upto storeMadeSpec)) storeMadeUptoCard

/-- THE SECOND FORM's CARD OF 'trustflowlaw05.StoreMerges'. -/
def storeMergesUptoCard : Claim7 := { stood := { row := storeMergesUptoRow, standIns := [], harness := (true, "29dc605e7bcd8b9e702013660ff9249090da991a4ec47c4e29d912002bf65627"), looks := false }, kinds := [], alts := [], laidByText := true, laidKinds := [.data], laidTests := true, laidLooks := .later }
def StoreMergesUptoCardSaid : Prop := Claim7.holds Tryz.pinned (.plain (OpenSpec.upto storeMergesSpec)) storeMergesUptoCard

/-- THE SECOND FORM's CARD OF 'trustflowlaw05.StorePins'. -/
def storePinsUptoCard : Claim7 := { stood := { row := storePinsUptoRow, standIns := [], harness := (true, "29dc605e7bcd8b9e702013660ff9249090da991a4ec47c4e29d912002bf65627"), looks := false }, kinds := [], alts := [], laidByText := true, laidKinds := [.data], laidTests := true, laidLooks := .later }
def StorePinsUptoCardSaid : Prop := Claim7.holds Tryz.pinned (.plain (OpenSpec.upto storePinsSpec)) storePinsUptoCard

/-- THE SECOND FORM's CARD OF 'trustflowlaw05.StoreGrows'. -/
def storeGrowsUptoCard : Claim7 := { stood := { row := storeGrowsUptoRow, standIns := [], harness := (true, "29dc605e7bcd8b9e702013660ff9249090da991a4ec47c4e29d912002bf65627"), looks := false }, kinds := [], alts := [], laidByText := true, laidKinds := [.data], laidTests := true, laidLooks := .later }
def StoreGrowsUptoCardSaid : Prop := Claim7.holds Tryz.pinned (.plain (OpenSpec.upto storeGrowsSpec)) storeGrowsUptoCard

/-- THE SECOND FORM's CARD OF 'trustflowlaw05.StoreFull'. -/
def storeFullUptoCard : Claim7 := { stood := { row := storeFullUptoRow, standIns := [], harness := (true, "29dc605e7bcd8b9e702013660ff9249090da991a4ec47c4e29d912002bf65627"), looks := false }, kinds := [], alts := [], laidByText := true, laidKinds := [.data], laidTests := true, laidLooks := .later }
def StoreFullUptoCardSaid : Prop := Claim7.holds Tryz.pinned (.plain (OpenSpec.upto storeFullSpec)) storeFullUptoCard
end Rows
end Go.Proofs.YtnjilfdmplbalaaGreatDoor
