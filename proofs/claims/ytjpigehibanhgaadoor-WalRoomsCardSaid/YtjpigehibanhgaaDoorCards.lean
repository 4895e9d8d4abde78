/-
  DERIVED. GIVEN WITH THE SEED: THE CARDS: each row of YtjpigehibanhgaaDoorRows.lean that lists a variable, with what it lists TIED to the program's text (the seventh form; the later family's looks); each row that meets fmt, with fmt's text TOLD by the authors' own Lean function (tested against real Go, not proved from fmt's source: count such statements apart). THE CARD IS WHAT COUNTS. Prove the row's statement (the work); the ties are given (YtjpigehibanhgaaDoorTie.lean); close each card by the builder's one call (the guide's Derived/Test/ToyasCard.lean, 'card_holds'). Laid BY PROGRAM, IN A SANDBOX (cutbox-door.mjs). By AI agents, Wed Nov 11 2026. No macro, syntax, notation, axiom, sorry.
-/
import Derived.Test.YtjpigehibanhgaaDoorRows
import GoSem.ClaimSeven
namespace Go.Proofs.YtjpigehibanhgaaDoor
namespace Rows

/-- THE TIED CARD OF 'stanchionlaw04.WalScans'. -/
def walScansCard : Claim7 := { stood := { row := walScansRow, standIns := [], harness := (true, "b44b7d48619f857199b87f706060fb7f5db2573373599080639db946ab535655"), looks := false }, kinds := [], alts := [], laidByText := true, laidKinds := [.data, .data, .data], laidTests := true, laidLooks := .later }
def WalScansCardSaid : Prop := Claim7.holds Tryd.pinned (.plain (OpenSpec.ofChange walScansSpec)) walScansCard

/-- THE TIED CARD OF 'stanchionlaw04.WalPuts'. -/
def walPutsCard : Claim7 := { stood := { row := walPutsRow, standIns := [], harness := (true, "b44b7d48619f857199b87f706060fb7f5db2573373599080639db946ab535655"), looks := false }, kinds := [], alts := [], laidByText := true, laidKinds := [.data, .data, .data], laidTests := true, laidLooks := .later }
def WalPutsCardSaid : Prop := Claim7.holds Tryd.pinned (.plain (OpenSpec.ofChange walPutsSpec)) walPutsCard

/-- THE TIED CARD OF 'stanchionlaw04.WalLasts'. -/
def walLastsCard : Claim7 := { stood := { row := walLastsRow, standIns := [], harness := (true, "b44b7d48619f857199b87f706060fb7f5db2573373599080639db946ab535655"), looks := false }, kinds := [], alts := [], laidByText := true, laidKinds := [.data, .data, .data], laidTests := true, laidLooks := .later }
def WalLastsCardSaid : Prop := Claim7.holds Tryd.pinned (.plain (OpenSpec.ofChange walLastsSpec)) walLastsCard

/-- THE TIED CARD OF 'stanchionlaw04.WalCut'. -/
def walCutCard : Claim7 := { stood := { row := walCutRow, standIns := [], harness := (true, "b44b7d48619f857199b87f706060fb7f5db2573373599080639db946ab535655"), looks := false }, kinds := [], alts := [], laidByText := true, laidKinds := [.data, .data, .data], laidTests := true, laidLooks := .later }
def WalCutCardSaid : Prop := Claim7.holds Tryd.pinned (.plain (OpenSpec.ofChange walCutSpec)) walCutCard

/-- THE TIED CARD OF 'stanchionlaw04.WalJoins'. -/
def walJoinsCard : Claim7 := { stood := { row := walJoinsRow, standIns := [], harness := (true, "b44b7d48619f857199b87f706060fb7f5db2573373599080639db946ab535655"), looks := false }, kinds := [], alts := [], laidByText := true, laidKinds := [.data, .data, .data], laidTests := true, laidLooks := .later }
def WalJoinsCardSaid : Prop := Claim7.holds Tryd.pinned (.plain (OpenSpec.ofChange walJoinsSpec)) walJoinsCard

/-- THE TIED CARD OF 'stanchionlaw04.WalRooms'. -/
def walRoomsCard : Claim7 := { stood := { row := walRoomsRow, standIns := [], harness := (true, "b44b7d48619f857199b87f706060fb7f5db2573373599080639db946ab535655"), looks := false }, kinds := [], alts := [], laidByText := true, laidKinds := [.data, .data, .data], laidTests := true, laidLooks := .later }
def WalRoomsCardSaid : Prop := Claim7.holds Tryd.pinned (.plain (OpenSpec.ofChange walRoomsSpec)) walRoomsCard

/-- THE SECOND FORM's CARD OF 'stanchionlaw04.WalScans'. -/
def walScansUptoCard : Claim7 := { stood := { row := walScansUptoRow, standIns := [], harness := (true, "b44b7d48619f857199b87f706060fb7f5db2573373599080639db946ab535655"), looks := false }, kinds := [], alts := [], laidByText := true, laidKinds := [.data, .data, .data], laidTests := true, laidLooks := .later }
def WalScansUptoCardSaid : Prop := Claim7.holds Tryd.pinned (.plain (OpenSpec.upto walScansSpec)) walScansUptoCard

/-- THE SECOND FORM's CARD OF 'stanchionlaw04.WalPuts'. -/
def walPutsUptoCard : Claim7 := { stood := { row := walPutsUptoRow, standIns := [], harness := (true, "b44b7d48619f857199b87f706060fb7f5db2573373599080639db946ab535655"), looks := false }, kinds := [], alts := [], laidByText := true, laidKinds := [.data, .data, .data], laidTests := true, laidLooks := .later }
def WalPutsUptoCardSaid : Prop := Claim7.holds Tryd.pinned (.plain (OpenSpec.upto walPutsSpec)) walPutsUptoCard

/-- THE SECOND FORM's CARD OF 'stanchionlaw04.WalLasts'. -/
def walLastsUptoCard : Claim7 := { stood := { row := walLastsUptoRow, standIns := [], harness := (true, "b44b7d48619f857199b87f706060fb7f5db2573373599080639db946ab535655"), looks := false }, kinds := [], alts := [], laidByText := true, laidKinds := [.data, .data, .data], laidTests := true, laidLooks := .later }
def WalLastsUptoCardSaid : Prop := Claim7.holds Tryd.pinned (.plain (OpenSpec.upto walLastsSpec)) walLastsUptoCard

/-- THE SECOND FORM's CARD OF 'stanchionlaw04.WalCut'. -/
def walCutUptoCard : Claim7 := { stood := { row := walCutUptoRow, standIns := [], harness := (true, "b44b7d48619f857199b87f706060fb7f5db2573373599080639db946ab535655"), looks := false }, kinds := [], alts := [], laidByText := true, laidKinds := [.data, .data, .data], laidTests := true, laidLooks := .later }
def WalCutUptoCardSaid : Prop := Claim7.holds Tryd.pinned (.plain (OpenSpec.upto walCutSpec)) walCutUptoCard

/-- THE SECOND FORM's CARD OF 'stanchionlaw04.WalJoins'. -/
def walJoinsUptoCard : Claim7 := { stood := { row := walJoinsUptoRow, standIns := [], harness := (true, "b44b7d48619f857199b87f706060fb7f5db2573373599080639db946ab535655"), looks := false }, kinds := [], alts := [], laidByText := true, laidKinds := [.data, .data, .data], laidTests := true, laidLooks := .later }
def WalJoinsUptoCardSaid : Prop := Claim7.holds Tryd.pinned (.plain (OpenSpec.upto walJoinsSpec)) walJoinsUptoCard

/-- THE SECOND FORM's CARD OF 'stanchionlaw04.WalRooms'. -/
def walRoomsUptoCard : Claim7 := { stood := { row := walRoomsUptoRow, standIns := [], harness := (true, "b44b7d48619f857199b87f706060fb7f5db2573373599080639db946ab535655"), looks := false }, kinds := [], alts := [], laidByText := true, laidKinds := [.data, .data, .data], laidTests := true, laidLooks := .later }
def WalRoomsUptoCardSaid : Prop := Claim7.holds Tryd.pinned (.plain (OpenSpec.upto walRoomsSpec)) walRoomsUptoCard
end Rows
end Go.Proofs.YtjpigehibanhgaaDoor
