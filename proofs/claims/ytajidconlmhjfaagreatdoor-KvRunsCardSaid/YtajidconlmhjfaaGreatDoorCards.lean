/-
  DERIVED. GIVEN WITH THE SEED: THE CARDS: each row of YtajidconlmhjfaaGreatDoorRows.lean that lists a variable, with what it lists TIED to the program's text (the seventh form; the later family's looks); each row that meets fmt, with fmt's text TOLD by the authors' own Lean function (tested against real Go, not proved from fmt's source: count such statements apart). THE CARD IS WHAT COUNTS. Prove the row's statement (the work); the ties are given (YtajidconlmhjfaaGreatDoorTie.lean); close each card by the builder's one call (the guide's Derived/Test/ToyasCard.lean, 'card_holds'). Laid BY PROGRAM, IN A SANDBOX (cutbox-door.mjs). By AI agents, Wed Nov 11 2026. No macro, syntax, notation, axiom, sorry.
-/
import Derived.Test.YtajidconlmhjfaaGreatDoorRows
import GoSem.ClaimSeven
namespace Go.Proofs.YtajidconlmhjfaaGreatDoor
namespace Rows

/-- THE TIED CARD OF 'stanchionlaw08.KvOpens'. -/
def kvOpensCard : Claim7 := { stood := { row := kvOpensRow, standIns := [], harness := (true, "d4c8104265068844a6b73ccaf7ed467f9a67887c120182a7956740ad5b0be2a3"), looks := true }, kinds := [], alts := [], laidByText := true, laidKinds := [.data, .data, .data, .handle, .sentinel, .sentinel], laidTests := true, laidLooks := .later }
def KvOpensCardSaid : Prop := Claim7.holds Tryz.pinned (.plain (OpenSpec.ofChange kvOpensSpec)) kvOpensCard

/-- THE TIED CARD OF 'stanchionlaw08.KvDoes'. -/
def kvDoesCard : Claim7 := { stood := { row := kvDoesRow, standIns := [], harness := (true, "d4c8104265068844a6b73ccaf7ed467f9a67887c120182a7956740ad5b0be2a3"), looks := true }, kinds := [], alts := [], laidByText := true, laidKinds := [.data, .data, .data, .handle, .sentinel, .sentinel, .sentinel, .sentinel], laidTests := true, laidLooks := .later }
def KvDoesCardSaid : Prop := Claim7.holds Tryz.pinned (.plain (OpenSpec.ofChange kvDoesSpec)) kvDoesCard

/-- THE TIED CARD OF 'stanchionlaw08.KvLasts'. -/
def kvLastsCard : Claim7 := { stood := { row := kvLastsRow, standIns := [], harness := (true, "d4c8104265068844a6b73ccaf7ed467f9a67887c120182a7956740ad5b0be2a3"), looks := true }, kinds := [], alts := [], laidByText := true, laidKinds := [.data, .data, .data, .handle, .sentinel, .sentinel, .sentinel, .sentinel], laidTests := true, laidLooks := .later }
def KvLastsCardSaid : Prop := Claim7.holds Tryz.pinned (.plain (OpenSpec.ofChange kvLastsSpec)) kvLastsCard

/-- THE TIED CARD OF 'stanchionlaw08.KvChecks'. -/
def kvChecksCard : Claim7 := { stood := { row := kvChecksRow, standIns := [], harness := (true, "d4c8104265068844a6b73ccaf7ed467f9a67887c120182a7956740ad5b0be2a3"), looks := true }, kinds := [], alts := [], laidByText := true, laidKinds := [.data, .data, .data, .handle, .sentinel, .sentinel, .sentinel, .sentinel], laidTests := true, laidLooks := .later }
def KvChecksCardSaid : Prop := Claim7.holds Tryz.pinned (.plain (OpenSpec.ofChange kvChecksSpec)) kvChecksCard

/-- THE TIED CARD OF 'stanchionlaw08.KvRuns'. -/
def kvRunsCard : Claim7 := { stood := { row := kvRunsRow, standIns := [], harness := (true, "d4c8104265068844a6b73ccaf7ed467f9a67887c120182a7956740ad5b0be2a3"), looks := true }, kinds := [], alts := [], laidByText := true, laidKinds := [.data, .data, .data, .handle, .sentinel, .sentinel, .sentinel, .sentinel], laidTests := true, laidLooks := .later }
def KvRunsCardSaid : Prop := Claim7.holds Tryz.pinned (.plain (OpenSpec.ofChange kvRunsSpec)) kvRunsCard

/-- THE SECOND FORM's CARD OF 'stanchionlaw08.KvOpens'. -/
def kvOpensUptoCard : Claim7 := { stood := { row := kvOpensUptoRow, standIns := [], harness := (true, "d4c8104265068844a6b73ccaf7ed467f9a67887c120182a7956740ad5b0be2a3"), looks := true }, kinds := [], alts := [], laidByText := true, laidKinds := [.data, .data, .data, .handle, .sentinel, .sentinel], laidTests := true, laidLooks := .later }
def KvOpensUptoCardSaid : Prop := Claim7.holds Tryz.pinned (.plain (OpenSpec.upto kvOpensSpec)) kvOpensUptoCard

/-- THE SECOND FORM's CARD OF 'stanchionlaw08.KvDoes'. -/
def kvDoesUptoCard : Claim7 := { stood := { row := kvDoesUptoRow, standIns := [], harness := (true, "d4c8104265068844a6b73ccaf7ed467f9a67887c120182a7956740ad5b0be2a3"), looks := true }, kinds := [], alts := [], laidByText := true, laidKinds := [.data, .data, .data, .handle, .sentinel, .sentinel, .sentinel, .sentinel], laidTests := true, laidLooks := .later }
def KvDoesUptoCardSaid : Prop := Claim7.holds Tryz.pinned (.plain (OpenSpec.upto kvDoesSpec)) kvDoesUptoCard

/-- THE SECOND FORM's CARD OF 'stanchionlaw08.KvLasts'. -/
def kvLastsUptoCard : Claim7 := { stood := { row := kvLastsUptoRow, standIns := [], harness := (true, "d4c8104265068844a6b73ccaf7ed467f9a67887c120182a7956740ad5b0be2a3"), looks := true }, kinds := [], alts := [], laidByText := true, laidKinds := [.data, .data, .data, .handle, .sentinel, .sentinel, .sentinel, .sentinel], laidTests := true, laidLooks := .later }
def KvLastsUptoCardSaid : Prop := Claim7.holds Tryz.pinned (.plain (OpenSpec.upto kvLastsSpec)) kvLastsUptoCard

/-- THE SECOND FORM's CARD OF 'stanchionlaw08.KvChecks'. -/
def kvChecksUptoCard : Claim7 := { stood := { row := kvChecksUptoRow, standIns := [], harness := (true, "d4c8104265068844a6b73ccaf7ed467f9a67887c120182a7956740ad5b0be2a3"), looks := true }, kinds := [], alts := [], laidByText := true, laidKinds := [.data, .data, .data, .handle, .sentinel, .sentinel, .sentinel, .sentinel], laidTests := true, laidLooks := .later }
def KvChecksUptoCardSaid : Prop := Claim7.holds Tryz.pinned (.plain (OpenSpec.upto kvChecksSpec)) kvChecksUptoCard

/-- THE SECOND FORM's CARD OF 'stanchionlaw08.KvRuns'. -/
def kvRunsUptoCard : Claim7 := { stood := { row := kvRunsUptoRow, standIns := [], harness := (true, "d4c8104265068844a6b73ccaf7ed467f9a67887c120182a7956740ad5b0be2a3"), looks := true }, kinds := [], alts := [], laidByText := true, laidKinds := [.data, .data, .data, .handle, .sentinel, .sentinel, .sentinel, .sentinel], laidTests := true, laidLooks := .later }
def KvRunsUptoCardSaid : Prop := Claim7.holds Tryz.pinned (.plain (OpenSpec.upto kvRunsSpec)) kvRunsUptoCard
end Rows
end Go.Proofs.YtajidconlmhjfaaGreatDoor
