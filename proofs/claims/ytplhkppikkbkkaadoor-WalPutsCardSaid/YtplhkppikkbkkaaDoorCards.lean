/-
  DERIVED. GIVEN WITH THE SEED: THE CARDS: each row of YtplhkppikkbkkaaDoorRows.lean that lists a variable, with what it lists TIED to the program's text (the seventh form; the later family's looks); each row that meets fmt, with fmt's text TOLD by the authors' own Lean function (tested against real Go, not proved from fmt's source: count such statements apart). THE CARD IS WHAT COUNTS. Prove the row's statement (the work); the ties are given (YtplhkppikkbkkaaDoorTie.lean); close each card by the builder's one call (the guide's Derived/Test/ToyasCard.lean, 'card_holds'). Laid BY PROGRAM, IN A SANDBOX (cutbox-door.mjs). By AI agents, Wed Nov 11 2026. No macro, syntax, notation, axiom, sorry.
-/
import Derived.Test.YtplhkppikkbkkaaDoorRows
import GoSem.ClaimSeven
namespace Go.Proofs.YtplhkppikkbkkaaDoor
namespace Rows

/-- THE TIED CARD OF 'stanchionlaw04.WalPuts'. -/
def walPutsCard : Claim7 := { stood := { row := walPutsRow, standIns := [], harness := (true, "7d8abffd5e24a85b5d9a3bae6988170d9786d838700312d515134522a6ff6740"), looks := false }, kinds := [], alts := [], laidByText := true, laidKinds := [.data, .data, .data], laidTests := true, laidLooks := .later }
def WalPutsCardSaid : Prop := Claim7.holds Tryd.pinned (.plain (OpenSpec.ofChange walPutsSpec)) walPutsCard

/-- THE TIED CARD OF 'stanchionlaw04.WalLasts'. -/
def walLastsCard : Claim7 := { stood := { row := walLastsRow, standIns := [], harness := (true, "7d8abffd5e24a85b5d9a3bae6988170d9786d838700312d515134522a6ff6740"), looks := false }, kinds := [], alts := [], laidByText := true, laidKinds := [.data, .data, .data], laidTests := true, laidLooks := .later }
def WalLastsCardSaid : Prop := Claim7.holds Tryd.pinned (.plain (OpenSpec.ofChange walLastsSpec)) walLastsCard

/-- THE SECOND FORM's CARD OF 'stanchionlaw04.WalPuts'. -/
def walPutsUptoCard : Claim7 := { stood := { row := walPutsUptoRow, standIns := [], harness := (true, "7d8abffd5e24a85b5d9a3bae6988170d9786d838700312d515134522a6ff6740"), looks := false }, kinds := [], alts := [], laidByText := true, laidKinds := [.data, .data, .data], laidTests := true, laidLooks := .later }
def WalPutsUptoCardSaid : Prop := Claim7.holds Tryd.pinned (.plain (OpenSpec.upto walPutsSpec)) walPutsUptoCard

/-- THE SECOND FORM's CARD OF 'stanchionlaw04.WalLasts'. -/
def walLastsUptoCard : Claim7 := { stood := { row := walLastsUptoRow, standIns := [], harness := (true, "7d8abffd5e24a85b5d9a3bae6988170d9786d838700312d515134522a6ff6740"), looks := false }, kinds := [], alts := [], laidByText := true, laidKinds := [.data, .data, .data], laidTests := true, laidLooks := .later }
def WalLastsUptoCardSaid : Prop := Claim7.holds Tryd.pinned (.plain (OpenSpec.upto walLastsSpec)) walLastsUptoCard
end Rows
end Go.Proofs.YtplhkppikkbkkaaDoor
