/-
  DERIVED. GIVEN WITH THE SEED: THE CARDS: each row of YtnpklimlggffjaaGreatDoorRows.lean that lists a variable, with what it lists TIED to the program's text (the seventh form; the later family's looks); each row that meets fmt, with fmt's text TOLD by the authors' own Lean function (tested against real Go, not proved from fmt's source: count such statements apart). THE CARD IS WHAT COUNTS. Prove the row's statement (the work); the ties are given (YtnpklimlggffjaaGreatDoorTie.lean); close each card by the builder's one call (the guide's Derived/Test/ToyasCard.lean, 'card_holds'). Laid BY PROGRAM, IN A SANDBOX (cutbox-door.mjs). By AI agents, Wed Nov 11 2026. No macro, syntax, notation, axiom, sorry.
-/
import Derived.Test.YtnpklimlggffjaaGreatDoorRows
import GoSem.ClaimSeven
namespace Go.Proofs.YtnpklimlggffjaaGreatDoor
namespace Rows

/-- THE TIED CARD OF 'savantlaw02.TypesReads'. -/
def typesReadsCard : Claim7 := { stood := { row := typesReadsRow, standIns := [], harness := (true, "64c1bbc69ccb6cf1e7a470b8f7d4415213742d37e9ffd4d7de1089428987874a"), looks := true }, kinds := [], alts := [], laidByText := true, laidKinds := [.data, .data, .data, .sentinel, .sentinel], laidTests := true, laidLooks := .later }
def TypesReadsCardSaid : Prop := Claim7.holds Tryz.pinned (.plain (OpenSpec.ofChange typesReadsSpec)) typesReadsCard

/-- THE TIED CARD OF 'savantlaw02.TypesTells'. -/
def typesTellsCard : Claim7 := { stood := { row := typesTellsRow, standIns := [], harness := (true, "64c1bbc69ccb6cf1e7a470b8f7d4415213742d37e9ffd4d7de1089428987874a"), looks := true }, kinds := [], alts := [], laidByText := true, laidKinds := [.data, .data, .data, .sentinel, .sentinel], laidTests := true, laidLooks := .later }
def TypesTellsCardSaid : Prop := Claim7.holds Tryz.pinned (.plain (OpenSpec.ofChange typesTellsSpec)) typesTellsCard

/-- THE TIED CARD OF 'savantlaw02.TypesPuts'. -/
def typesPutsCard : Claim7 := { stood := { row := typesPutsRow, standIns := [], harness := (true, "64c1bbc69ccb6cf1e7a470b8f7d4415213742d37e9ffd4d7de1089428987874a"), looks := true }, kinds := [], alts := [], laidByText := true, laidKinds := [.data, .data, .data, .sentinel, .sentinel], laidTests := true, laidLooks := .later }
def TypesPutsCardSaid : Prop := Claim7.holds Tryz.pinned (.plain (OpenSpec.ofChange typesPutsSpec)) typesPutsCard

/-- THE TIED CARD OF 'savantlaw02.TypesBack'. -/
def typesBackCard : Claim7 := { stood := { row := typesBackRow, standIns := [], harness := (true, "64c1bbc69ccb6cf1e7a470b8f7d4415213742d37e9ffd4d7de1089428987874a"), looks := true }, kinds := [], alts := [], laidByText := true, laidKinds := [.data, .data, .data, .sentinel, .sentinel], laidTests := true, laidLooks := .later }
def TypesBackCardSaid : Prop := Claim7.holds Tryz.pinned (.plain (OpenSpec.ofChange typesBackSpec)) typesBackCard

/-- THE TIED CARD OF 'savantlaw02.TypesSame'. -/
def typesSameCard : Claim7 := { stood := { row := typesSameRow, standIns := [], harness := (true, "64c1bbc69ccb6cf1e7a470b8f7d4415213742d37e9ffd4d7de1089428987874a"), looks := true }, kinds := [], alts := [], laidByText := true, laidKinds := [.data, .data, .data, .sentinel, .sentinel], laidTests := true, laidLooks := .later }
def TypesSameCardSaid : Prop := Claim7.holds Tryz.pinned (.plain (OpenSpec.ofChange typesSameSpec)) typesSameCard

/-- THE TIED CARD OF 'savantlaw02.TypesOrder'. -/
def typesOrderCard : Claim7 := { stood := { row := typesOrderRow, standIns := [], harness := (true, "64c1bbc69ccb6cf1e7a470b8f7d4415213742d37e9ffd4d7de1089428987874a"), looks := true }, kinds := [], alts := [], laidByText := true, laidKinds := [.data, .data, .data, .sentinel, .sentinel], laidTests := true, laidLooks := .later }
def TypesOrderCardSaid : Prop := Claim7.holds Tryz.pinned (.plain (OpenSpec.ofChange typesOrderSpec)) typesOrderCard

/-- THE TIED CARD OF 'savantlaw02.TypesDeeper'. -/
def typesDeeperCard : Claim7 := { stood := { row := typesDeeperRow, standIns := [], harness := (true, "64c1bbc69ccb6cf1e7a470b8f7d4415213742d37e9ffd4d7de1089428987874a"), looks := true }, kinds := [], alts := [], laidByText := true, laidKinds := [.data, .data, .data, .sentinel, .sentinel], laidTests := true, laidLooks := .later }
def TypesDeeperCardSaid : Prop := Claim7.holds Tryz.pinned (.plain (OpenSpec.ofChange typesDeeperSpec)) typesDeeperCard

/-- THE TIED CARD OF 'savantlaw02.TypesFilled'. -/
def typesFilledCard : Claim7 := { stood := { row := typesFilledRow, standIns := [], harness := (true, "64c1bbc69ccb6cf1e7a470b8f7d4415213742d37e9ffd4d7de1089428987874a"), looks := true }, kinds := [], alts := [], laidByText := true, laidKinds := [.data, .data, .data, .sentinel, .sentinel], laidTests := true, laidLooks := .later }
def TypesFilledCardSaid : Prop := Claim7.holds Tryz.pinned (.plain (OpenSpec.ofChange typesFilledSpec)) typesFilledCard

/-- THE TIED CARD OF 'savantlaw02.TypesTokens'. -/
def typesTokensCard : Claim7 := { stood := { row := typesTokensRow, standIns := [], harness := (true, "64c1bbc69ccb6cf1e7a470b8f7d4415213742d37e9ffd4d7de1089428987874a"), looks := true }, kinds := [], alts := [], laidByText := true, laidKinds := [.data, .data, .data, .sentinel, .sentinel], laidTests := true, laidLooks := .later }
def TypesTokensCardSaid : Prop := Claim7.holds Tryz.pinned (.plain (OpenSpec.ofChange typesTokensSpec)) typesTokensCard

/-- THE SECOND FORM's CARD OF 'savantlaw02.TypesReads'. -/
def typesReadsUptoCard : Claim7 := { stood := { row := typesReadsUptoRow, standIns := [], harness := (true, "64c1bbc69ccb6cf1e7a470b8f7d4415213742d37e9ffd4d7de1089428987874a"), looks := true }, kinds := [], alts := [], laidByText := true, laidKinds := [.data, .data, .data, .sentinel, .sentinel], laidTests := true, laidLooks := .later }
def TypesReadsUptoCardSaid : Prop := Claim7.holds Tryz.pinned (.plain (OpenSpec.upto typesReadsSpec)) typesReadsUptoCard

/-- THE SECOND FORM's CARD OF 'savantlaw02.TypesTells'. -/
def typesTellsUptoCard : Claim7 := { stood := { row := typesTellsUptoRow, standIns := [], harness := (true, "64c1bbc69ccb6cf1e7a470b8f7d4415213742d37e9ffd4d7de1089428987874a"), looks := true }, kinds := [], alts := [], laidByText := true, laidKinds := [.data, .data, .data, .sentinel, .sentinel], laidTests := true, laidLooks := .later }
def TypesTellsUptoCardSaid : Prop := Claim7.holds Tryz.pinned (.plain (OpenSpec.upto typesTellsSpec)) typesTellsUptoCard

/-- THE SECOND FORM's CARD OF 'savantlaw02.TypesPuts'. -/
def typesPutsUptoCard : Claim7 := { stood := { row := typesPutsUptoRow, standIns := [], harness := (true, "64c1bbc69ccb6cf1e7a470b8f7d4415213742d37e9ffd4d7de1089428987874a"), looks := true }, kinds := [], alts := [], laidByText := true, laidKinds := [.data, .data, .data, .sentinel, .sentinel], laidTests := true, laidLooks := .later }
def TypesPutsUptoCardSaid : Prop := Claim7.holds Tryz.pinned (.plain (OpenSpec.upto typesPutsSpec)) typesPutsUptoCard

/-- THE SECOND FORM's CARD OF 'savantlaw02.TypesBack'. -/
def typesBackUptoCard : Claim7 := { stood := { row := typesBackUptoRow, standIns := [], harness := (true, "64c1bbc69ccb6cf1e7a470b8f7d4415213742d37e9ffd4d7de1089428987874a"), looks := true }, kinds := [], alts := [], laidByText := true, laidKinds := [.data, .data, .data, .sentinel, .sentinel], laidTests := true, laidLooks := .later }
def TypesBackUptoCardSaid : Prop := Claim7.holds Tryz.pinned (.plain (OpenSpec.upto typesBackSpec)) typesBackUptoCard

/-- THE SECOND FORM's CARD OF 'savantlaw02.TypesSame'. -/
def typesSameUptoCard : Claim7 := { stood := { row := typesSameUptoRow, standIns := [], harness := (true, "64c1bbc69ccb6cf1e7a470b8f7d4415213742d37e9ffd4d7de1089428987874a"), looks := true }, kinds := [], alts := [], laidByText := true, laidKinds := [.data, .data, .data, .sentinel, .sentinel], laidTests := true, laidLooks := .later }
def TypesSameUptoCardSaid : Prop := Claim7.holds Tryz.pinned (.plain (OpenSpec.upto typesSameSpec)) typesSameUptoCard

/-- THE SECOND FORM's CARD OF 'savantlaw02.TypesOrder'. -/
def typesOrderUptoCard : Claim7 := { stood := { row := typesOrderUptoRow, standIns := [], harness := (true, "64c1bbc69ccb6cf1e7a470b8f7d4415213742d37e9ffd4d7de1089428987874a"), looks := true }, kinds := [], alts := [], laidByText := true, laidKinds := [.data, .data, .data, .sentinel, .sentinel], laidTests := true, laidLooks := .later }
def TypesOrderUptoCardSaid : Prop := Claim7.holds Tryz.pinned (.plain (OpenSpec.upto typesOrderSpec)) typesOrderUptoCard

/-- THE SECOND FORM's CARD OF 'savantlaw02.TypesDeeper'. -/
def typesDeeperUptoCard : Claim7 := { stood := { row := typesDeeperUptoRow, standIns := [], harness := (true, "64c1bbc69ccb6cf1e7a470b8f7d4415213742d37e9ffd4d7de1089428987874a"), looks := true }, kinds := [], alts := [], laidByText := true, laidKinds := [.data, .data, .data, .sentinel, .sentinel], laidTests := true, laidLooks := .later }
def TypesDeeperUptoCardSaid : Prop := Claim7.holds Tryz.pinned (.plain (OpenSpec.upto typesDeeperSpec)) typesDeeperUptoCard

/-- THE SECOND FORM's CARD OF 'savantlaw02.TypesFilled'. -/
def typesFilledUptoCard : Claim7 := { stood := { row := typesFilledUptoRow, standIns := [], harness := (true, "64c1bbc69ccb6cf1e7a470b8f7d4415213742d37e9ffd4d7de1089428987874a"), looks := true }, kinds := [], alts := [], laidByText := true, laidKinds := [.data, .data, .data, .sentinel, .sentinel], laidTests := true, laidLooks := .later }
def TypesFilledUptoCardSaid : Prop := Claim7.holds Tryz.pinned (.plain (OpenSpec.upto typesFilledSpec)) typesFilledUptoCard

/-- THE SECOND FORM's CARD OF 'savantlaw02.TypesTokens'. -/
def typesTokensUptoCard : Claim7 := { stood := { row := typesTokensUptoRow, standIns := [], harness := (true, "64c1bbc69ccb6cf1e7a470b8f7d4415213742d37e9ffd4d7de1089428987874a"), looks := true }, kinds := [], alts := [], laidByText := true, laidKinds := [.data, .data, .data, .sentinel, .sentinel], laidTests := true, laidLooks := .later }
def TypesTokensUptoCardSaid : Prop := Claim7.holds Tryz.pinned (.plain (OpenSpec.upto typesTokensSpec)) typesTokensUptoCard
end Rows
end Go.Proofs.YtnpklimlggffjaaGreatDoor
