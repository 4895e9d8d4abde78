/-
  DERIVED. GIVEN WITH THE SEED: THE CARDS: each row of YtccoknaaofmbcaaGreatDoorRows.lean that lists a variable, with what it lists TIED to the program's text (the seventh form; the later family's looks); each row that meets fmt, with fmt's text TOLD by the authors' own Lean function (tested against real Go, not proved from fmt's source: count such statements apart). THE CARD IS WHAT COUNTS. Prove the row's statement (the work); the ties are given (YtccoknaaofmbcaaGreatDoorTie.lean); close each card by the builder's one call (the guide's Derived/Test/ToyasCard.lean, 'card_holds'). Laid BY PROGRAM, IN A SANDBOX (cutbox-door.mjs). By AI agents, Wed Nov 11 2026. No macro, syntax, notation, axiom, sorry.
-/
import Derived.Test.YtccoknaaofmbcaaGreatDoorRows
import GoSem.ClaimSeven
namespace Go.Proofs.YtccoknaaofmbcaaGreatDoor
namespace Rows

/-- THE TIED CARD OF 'stanchionlaw08.KvOpens'. -/
def kvOpensCard : Claim7 := { stood := { row := kvOpensRow, standIns := [], harness := (true, "ac254fd956e33521537a92139e6e73ca54f26abf36190d28248ba39e3ca796f9"), looks := true }, kinds := [], alts := [], laidByText := true, laidKinds := [.data, .data, .data, .handle, .sentinel, .sentinel], laidTests := true, laidLooks := .later }
def KvOpensCardSaid : Prop := Claim7.holds Tryz.pinned (.plain (OpenSpec.ofChange kvOpensSpec)) kvOpensCard

/-- THE TIED CARD OF 'stanchionlaw08.KvDoes'. -/
def kvDoesCard : Claim7 := { stood := { row := kvDoesRow, standIns := [], harness := (true, "ac254fd956e33521537a92139e6e73ca54f26abf36190d28248ba39e3ca796f9"), looks := true }, kinds := [], alts := [], laidByText := true, laidKinds := [.data, .data, .data, .handle, .sentinel, .sentinel, .sentinel, .sentinel], laidTests := true, laidLooks := .later }
def KvDoesCardSaid : Prop := Claim7.holds Tryz.pinned (.plain (OpenSpec.ofChange kvDoesSpec)) kvDoesCard

/-- THE TIED CARD OF 'stanchionlaw08.KvLasts'. -/
def kvLastsCard : Claim7 := { stood := { row := kvLastsRow, standIns := [], harness := (true, "ac254fd956e33521537a92139e6e73ca54f26abf36190d28248ba39e3ca796f9"), looks := true }, kinds := [], alts := [], laidByText := true, laidKinds := [.data, .data, .data, .handle, .sentinel, .sentinel, .sentinel, .sentinel], laidTests := true, laidLooks := .later }
def KvLastsCardSaid : Prop := Claim7.holds Tryz.pinned (.plain (OpenSpec.ofChange kvLastsSpec)) kvLastsCard

/-- THE SECOND FORM's CARD OF 'stanchionlaw08.KvOpens'. -/
def kvOpensUptoCard : Claim7 := { stood := { row := kvOpensUptoRow, standIns := [], harness := (true, "ac254fd956e33521537a92139e6e73ca54f26abf36190d28248ba39e3ca796f9"), looks := true }, kinds := [], alts := [], laidByText := true, laidKinds := [.data, .data, .data, .handle, .sentinel, .sentinel], laidTests := true, laidLooks := .later }
def KvOpensUptoCardSaid : Prop := Claim7.holds Tryz.pinned (.plain (OpenSpec.upto kvOpensSpec)) kvOpensUptoCard

/-- THE SECOND FORM's CARD OF 'stanchionlaw08.KvDoes'. -/
def kvDoesUptoCard : Claim7 := { stood := { row := kvDoesUptoRow, standIns := [], harness := (true, "ac254fd956e33521537a92139e6e73ca54f26abf36190d28248ba39e3ca796f9"), looks := true }, kinds := [], alts := [], laidByText := true, laidKinds := [.data, .data, .data, .handle, .sentinel, .sentinel, .sentinel, .sentinel], laidTests := true, laidLooks := .later }
def KvDoesUptoCardSaid : Prop := Claim7.holds Tryz.pinned (.plain (OpenSpec.upto kvDoesSpec)) kvDoesUptoCard

/-- THE SECOND FORM's CARD OF 'stanchionlaw08.KvLasts'. -/
def kvLastsUptoCard : Claim7 := { stood := { row := kvLastsUptoRow, standIns := [], harness := (true, "ac254fd956e33521537a92139e6e73ca54f26abf36190d28248ba39e3ca796f9"), looks := true }, kinds := [], alts := [], laidByText := true, laidKinds := [.data, .data, .data, .handle, .sentinel, .sentinel, .sentinel, .sentinel], laidTests := true, laidLooks := .later }
def KvLastsUptoCardSaid : Prop := Claim7.holds Tryz.pinned (.plain (OpenSpec.upto kvLastsSpec)) kvLastsUptoCard
end Rows
end Go.Proofs.YtccoknaaofmbcaaGreatDoor
