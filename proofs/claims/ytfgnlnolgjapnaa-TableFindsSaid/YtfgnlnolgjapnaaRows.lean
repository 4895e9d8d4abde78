/-
  No cell of these rows narrows 'for every input' (looked for: loops, veiled, ifaces, maps, wideKeys, modest, calm, conditions, laid).
  DERIVED. THE GIVEN ROWS OF THIS SEAT. 8 by the template 'for every input the law returns true; each argument reads behind the call as it read before'; 0 by the template 'total and deterministic' (their statements: YtfgnlnolgjapnaaTotals.lean).
  GIVEN WITH THE SEED: the statements are not yours to turn. If you find one false, say at which input.
  Laid BY PROGRAM, IN A SANDBOX (cutbox-rows.mjs): the forced cells as the released guide's own fill.sh prints them over the translation 7b6227791d8cb80c… (all of the seat's roots in one cut). By AI agents, Wed Nov 11 2026. No macro, syntax, notation, axiom, sorry.
-/
import Derived.Test.YtfgnlnolgjapnaaChecked
import GoSem.Claim
import GoSem.ClaimJoined
import GoSem.ClaimMapViews
import Derived.JoinedTies
import Derived.KernelRfl
namespace Go.Proofs.Ytfgnlnolgjapnaa
/- THE CELL 'sum', in the pinned program and in every row, IS THE sha256 OF THE DUMP (.gsa) THAT YtfgnlnolgjapnaaProg.lean LOADS. Nothing in Lean hashes anything: it is a label: what it is worth is what the hold of that sum in a sandbox is worth. -/
noncomputable def Try.pinned : Pinned := { name := "ytfgnlnolgjapnaa", sum := "7b6227791d8cb80cc42c27147e52f46575343aff593dedd3ca53c66ba5d6f9d5", checked := Try.checked }
namespace Rows
def none {H : Type} : Left H := { results := [], args := [] }

/-- 'stanchionlaw05.TablePuts': WHATEVER THE INPUT: true; the input reads as it did. -/
def tablePutsSpec : ChangeSpec := { name := "tablePuts", fn := fun _ => fun
  | [d] => { results := [.lit (.bool true)], args := [d] }
  | _ => none }
def tablePutsRow : OpenClaim := { program := "ytfgnlnolgjapnaa", sum := "7b6227791d8cb80cc42c27147e52f46575343aff593dedd3ca53c66ba5d6f9d5", func := "stanchion/stanchionlaw05.TablePuts", spec := "tablePuts", inPlace := ["slices.overlaps[stanchion/api.Pair]"], unfollowed := true, recurses := true, apart := false }
def TablePutsSaid : Prop := tablePutsRow.holds Try.pinned (OpenSpec.ofChange tablePutsSpec)

/-- ITS FALSE NEIGHBOUR: 'it returns false'. Refute it at one input. -/
def tablePutsWrong : ChangeSpec := { name := "tablePuts", fn := fun _ => fun
  | [d] => { results := [.lit (.bool false)], args := [d] }
  | _ => none }
def TablePutsWrongFalsely : Prop := tablePutsRow.holds Try.pinned (OpenSpec.ofChange tablePutsWrong)

/-- 'stanchionlaw05.TableFinds': WHATEVER THE INPUT: true; the input reads as it did. -/
def tableFindsSpec : ChangeSpec := { name := "tableFinds", fn := fun _ => fun
  | [d] => { results := [.lit (.bool true)], args := [d] }
  | _ => none }
def tableFindsRow : OpenClaim := { program := "ytfgnlnolgjapnaa", sum := "7b6227791d8cb80cc42c27147e52f46575343aff593dedd3ca53c66ba5d6f9d5", func := "stanchion/stanchionlaw05.TableFinds", spec := "tableFinds", inPlace := ["slices.overlaps[stanchion/api.Pair]"], unfollowed := true, recurses := true, apart := false }
def TableFindsSaid : Prop := tableFindsRow.holds Try.pinned (OpenSpec.ofChange tableFindsSpec)

/-- ITS FALSE NEIGHBOUR: 'it returns false'. Refute it at one input. -/
def tableFindsWrong : ChangeSpec := { name := "tableFinds", fn := fun _ => fun
  | [d] => { results := [.lit (.bool false)], args := [d] }
  | _ => none }
def TableFindsWrongFalsely : Prop := tableFindsRow.holds Try.pinned (OpenSpec.ofChange tableFindsWrong)

/-- 'stanchionlaw05.TableStays': WHATEVER THE INPUT: true; the input reads as it did. -/
def tableStaysSpec : ChangeSpec := { name := "tableStays", fn := fun _ => fun
  | [d] => { results := [.lit (.bool true)], args := [d] }
  | _ => none }
def tableStaysRow : OpenClaim := { program := "ytfgnlnolgjapnaa", sum := "7b6227791d8cb80cc42c27147e52f46575343aff593dedd3ca53c66ba5d6f9d5", func := "stanchion/stanchionlaw05.TableStays", spec := "tableStays", inPlace := ["slices.overlaps[stanchion/api.Pair]"], unfollowed := true, recurses := true, apart := false }
def TableStaysSaid : Prop := tableStaysRow.holds Try.pinned (OpenSpec.ofChange tableStaysSpec)

/-- ITS FALSE NEIGHBOUR: 'it returns false'. Refute it at one input. -/
def tableStaysWrong : ChangeSpec := { name := "tableStays", fn := fun _ => fun
  | [d] => { results := [.lit (.bool false)], args := [d] }
  | _ => none }
def TableStaysWrongFalsely : Prop := tableStaysRow.holds Try.pinned (OpenSpec.ofChange tableStaysWrong)

/-- 'stanchionlaw05.TableApart': WHATEVER THE INPUT: true; the input reads as it did. -/
def tableApartSpec : ChangeSpec := { name := "tableApart", fn := fun _ => fun
  | [d] => { results := [.lit (.bool true)], args := [d] }
  | _ => none }
def tableApartRow : OpenClaim := { program := "ytfgnlnolgjapnaa", sum := "7b6227791d8cb80cc42c27147e52f46575343aff593dedd3ca53c66ba5d6f9d5", func := "stanchion/stanchionlaw05.TableApart", spec := "tableApart", inPlace := ["slices.overlaps[stanchion/api.Pair]"], unfollowed := true, recurses := true, apart := false }
def TableApartSaid : Prop := tableApartRow.holds Try.pinned (OpenSpec.ofChange tableApartSpec)

/-- ITS FALSE NEIGHBOUR: 'it returns false'. Refute it at one input. -/
def tableApartWrong : ChangeSpec := { name := "tableApart", fn := fun _ => fun
  | [d] => { results := [.lit (.bool false)], args := [d] }
  | _ => none }
def TableApartWrongFalsely : Prop := tableApartRow.holds Try.pinned (OpenSpec.ofChange tableApartWrong)

/-- 'stanchionlaw05.TableLast': WHATEVER THE INPUT: true; the input reads as it did. -/
def tableLastSpec : ChangeSpec := { name := "tableLast", fn := fun _ => fun
  | [d1, d2, d3] => { results := [.lit (.bool true)], args := [d1, d2, d3] }
  | _ => none }
def tableLastRow : OpenClaim := { program := "ytfgnlnolgjapnaa", sum := "7b6227791d8cb80cc42c27147e52f46575343aff593dedd3ca53c66ba5d6f9d5", func := "stanchion/stanchionlaw05.TableLast", spec := "tableLast", inPlace := ["slices.overlaps[stanchion/api.Pair]"], unfollowed := true, recurses := true, apart := false }
def TableLastSaid : Prop := tableLastRow.holds Try.pinned (OpenSpec.ofChange tableLastSpec)

/-- ITS FALSE NEIGHBOUR: 'it returns false'. Refute it at one input. -/
def tableLastWrong : ChangeSpec := { name := "tableLast", fn := fun _ => fun
  | [d1, d2, d3] => { results := [.lit (.bool false)], args := [d1, d2, d3] }
  | _ => none }
def TableLastWrongFalsely : Prop := tableLastRow.holds Try.pinned (OpenSpec.ofChange tableLastWrong)

/-- 'stanchionlaw05.TableParts': WHATEVER THE INPUT: true; the input reads as it did. -/
def tablePartsSpec : ChangeSpec := { name := "tableParts", fn := fun _ => fun
  | [d] => { results := [.lit (.bool true)], args := [d] }
  | _ => none }
def tablePartsRow : OpenClaim := { program := "ytfgnlnolgjapnaa", sum := "7b6227791d8cb80cc42c27147e52f46575343aff593dedd3ca53c66ba5d6f9d5", func := "stanchion/stanchionlaw05.TableParts", spec := "tableParts", inPlace := ["slices.overlaps[stanchion/api.Pair]"], unfollowed := true, recurses := true, apart := false }
def TablePartsSaid : Prop := tablePartsRow.holds Try.pinned (OpenSpec.ofChange tablePartsSpec)

/-- ITS FALSE NEIGHBOUR: 'it returns false'. Refute it at one input. -/
def tablePartsWrong : ChangeSpec := { name := "tableParts", fn := fun _ => fun
  | [d] => { results := [.lit (.bool false)], args := [d] }
  | _ => none }
def TablePartsWrongFalsely : Prop := tablePartsRow.holds Try.pinned (OpenSpec.ofChange tablePartsWrong)

/-- 'stanchionlaw05.TableTwice': WHATEVER THE INPUT: true; the input reads as it did. -/
def tableTwiceSpec : ChangeSpec := { name := "tableTwice", fn := fun _ => fun
  | [d] => { results := [.lit (.bool true)], args := [d] }
  | _ => none }
def tableTwiceRow : OpenClaim := { program := "ytfgnlnolgjapnaa", sum := "7b6227791d8cb80cc42c27147e52f46575343aff593dedd3ca53c66ba5d6f9d5", func := "stanchion/stanchionlaw05.TableTwice", spec := "tableTwice", inPlace := ["slices.overlaps[stanchion/api.Pair]"], unfollowed := true, recurses := true, apart := false }
def TableTwiceSaid : Prop := tableTwiceRow.holds Try.pinned (OpenSpec.ofChange tableTwiceSpec)

/-- ITS FALSE NEIGHBOUR: 'it returns false'. Refute it at one input. -/
def tableTwiceWrong : ChangeSpec := { name := "tableTwice", fn := fun _ => fun
  | [d] => { results := [.lit (.bool false)], args := [d] }
  | _ => none }
def TableTwiceWrongFalsely : Prop := tableTwiceRow.holds Try.pinned (OpenSpec.ofChange tableTwiceWrong)

/-- 'stanchionlaw05.TableMost': WHATEVER THE INPUT: true; the input reads as it did. -/
def tableMostSpec : ChangeSpec := { name := "tableMost", fn := fun _ => fun
  | [d] => { results := [.lit (.bool true)], args := [d] }
  | _ => none }
def tableMostRow : OpenClaim := { program := "ytfgnlnolgjapnaa", sum := "7b6227791d8cb80cc42c27147e52f46575343aff593dedd3ca53c66ba5d6f9d5", func := "stanchion/stanchionlaw05.TableMost", spec := "tableMost", inPlace := ["slices.overlaps[stanchion/api.Pair]"], unfollowed := true, recurses := true, apart := false }
def TableMostSaid : Prop := tableMostRow.holds Try.pinned (OpenSpec.ofChange tableMostSpec)

/-- ITS FALSE NEIGHBOUR: 'it returns false'. Refute it at one input. -/
def tableMostWrong : ChangeSpec := { name := "tableMost", fn := fun _ => fun
  | [d] => { results := [.lit (.bool false)], args := [d] }
  | _ => none }
def TableMostWrongFalsely : Prop := tableMostRow.holds Try.pinned (OpenSpec.ofChange tableMostWrong)

/- THE SECOND FORM. 'bulk': how many values and letters a reading holds, each counted each time it is reached (what is shared counts as often as it is met; a slice's spare places count too). A statement '..UptoSaid' is the law's where the arguments, and the package variables that the reading takes, are together of bulk at most 1048576: NARROWER than '..Said'. Prove '..Said' where nothing that the law and all that it calls make is longer than what came in: it says more and counts as full. Else prove '..UptoSaid'. A law counts once. -/
mutual
def uptoBulk {H : Type} : DataW H → Nat
  | .lit (.string bytes) => bytes.length + 1
  | .lit _ => 1
  | .nil => 1
  | .ptr d => uptoBulk d + 1
  | .slice elems spare => uptoBulkAll elems + uptoBulkAll spare + 1
  | .agg parts => uptoBulkAll parts + 1
  | .iface _ d => uptoBulk d + 1
  | .map entries => uptoBulkEntries entries + 1
  | .held _ => 1
def uptoBulkAll {H : Type} : List (DataW H) → Nat
  | [] => 0
  | d :: r => uptoBulk d + uptoBulkAll r
def uptoBulkEntries {H : Type} : List (Lit × DataW H) → Nat
  | [] => 0
  | x :: r => uptoBulkEntry x + uptoBulkEntries r
def uptoBulkEntry {H : Type} : Lit × DataW H → Nat
  | (.string bytes, d) => bytes.length + uptoBulk d + 1
  | (_, d) => uptoBulk d + 1
 end
def uptoSmall : (H : Type) → List (DataW H) → Bool := fun _ ds => decide (uptoBulkAll ds ≤ 1048576)
def OpenSpec.upto (s : _root_.Go.ChangeSpec) : _root_.Go.OpenSpec := { _root_.Go.OpenSpec.ofChange s with cond := some uptoSmall }

/-- 'stanchionlaw05.TablePuts', WHERE WHAT IT READS IS OF BULK AT MOST 1048576: true; the input reads as it did. -/
def tablePutsUptoRow : OpenClaim := { program := "ytfgnlnolgjapnaa", sum := "7b6227791d8cb80cc42c27147e52f46575343aff593dedd3ca53c66ba5d6f9d5", func := "stanchion/stanchionlaw05.TablePuts", spec := "tablePuts", inPlace := ["slices.overlaps[stanchion/api.Pair]"], unfollowed := true, recurses := true, apart := false, narrowed := true }
def TablePutsUptoSaid : Prop := tablePutsUptoRow.holds Try.pinned (OpenSpec.upto tablePutsSpec)

/-- 'stanchionlaw05.TableFinds', WHERE WHAT IT READS IS OF BULK AT MOST 1048576: true; the input reads as it did. -/
def tableFindsUptoRow : OpenClaim := { program := "ytfgnlnolgjapnaa", sum := "7b6227791d8cb80cc42c27147e52f46575343aff593dedd3ca53c66ba5d6f9d5", func := "stanchion/stanchionlaw05.TableFinds", spec := "tableFinds", inPlace := ["slices.overlaps[stanchion/api.Pair]"], unfollowed := true, recurses := true, apart := false, narrowed := true }
def TableFindsUptoSaid : Prop := tableFindsUptoRow.holds Try.pinned (OpenSpec.upto tableFindsSpec)

/-- 'stanchionlaw05.TableStays', WHERE WHAT IT READS IS OF BULK AT MOST 1048576: true; the input reads as it did. -/
def tableStaysUptoRow : OpenClaim := { program := "ytfgnlnolgjapnaa", sum := "7b6227791d8cb80cc42c27147e52f46575343aff593dedd3ca53c66ba5d6f9d5", func := "stanchion/stanchionlaw05.TableStays", spec := "tableStays", inPlace := ["slices.overlaps[stanchion/api.Pair]"], unfollowed := true, recurses := true, apart := false, narrowed := true }
def TableStaysUptoSaid : Prop := tableStaysUptoRow.holds Try.pinned (OpenSpec.upto tableStaysSpec)

/-- 'stanchionlaw05.TableApart', WHERE WHAT IT READS IS OF BULK AT MOST 1048576: true; the input reads as it did. -/
def tableApartUptoRow : OpenClaim := { program := "ytfgnlnolgjapnaa", sum := "7b6227791d8cb80cc42c27147e52f46575343aff593dedd3ca53c66ba5d6f9d5", func := "stanchion/stanchionlaw05.TableApart", spec := "tableApart", inPlace := ["slices.overlaps[stanchion/api.Pair]"], unfollowed := true, recurses := true, apart := false, narrowed := true }
def TableApartUptoSaid : Prop := tableApartUptoRow.holds Try.pinned (OpenSpec.upto tableApartSpec)

/-- 'stanchionlaw05.TableLast', WHERE WHAT IT READS IS OF BULK AT MOST 1048576: true; the input reads as it did. -/
def tableLastUptoRow : OpenClaim := { program := "ytfgnlnolgjapnaa", sum := "7b6227791d8cb80cc42c27147e52f46575343aff593dedd3ca53c66ba5d6f9d5", func := "stanchion/stanchionlaw05.TableLast", spec := "tableLast", inPlace := ["slices.overlaps[stanchion/api.Pair]"], unfollowed := true, recurses := true, apart := false, narrowed := true }
def TableLastUptoSaid : Prop := tableLastUptoRow.holds Try.pinned (OpenSpec.upto tableLastSpec)

/-- 'stanchionlaw05.TableParts', WHERE WHAT IT READS IS OF BULK AT MOST 1048576: true; the input reads as it did. -/
def tablePartsUptoRow : OpenClaim := { program := "ytfgnlnolgjapnaa", sum := "7b6227791d8cb80cc42c27147e52f46575343aff593dedd3ca53c66ba5d6f9d5", func := "stanchion/stanchionlaw05.TableParts", spec := "tableParts", inPlace := ["slices.overlaps[stanchion/api.Pair]"], unfollowed := true, recurses := true, apart := false, narrowed := true }
def TablePartsUptoSaid : Prop := tablePartsUptoRow.holds Try.pinned (OpenSpec.upto tablePartsSpec)

/-- 'stanchionlaw05.TableTwice', WHERE WHAT IT READS IS OF BULK AT MOST 1048576: true; the input reads as it did. -/
def tableTwiceUptoRow : OpenClaim := { program := "ytfgnlnolgjapnaa", sum := "7b6227791d8cb80cc42c27147e52f46575343aff593dedd3ca53c66ba5d6f9d5", func := "stanchion/stanchionlaw05.TableTwice", spec := "tableTwice", inPlace := ["slices.overlaps[stanchion/api.Pair]"], unfollowed := true, recurses := true, apart := false, narrowed := true }
def TableTwiceUptoSaid : Prop := tableTwiceUptoRow.holds Try.pinned (OpenSpec.upto tableTwiceSpec)

/-- 'stanchionlaw05.TableMost', WHERE WHAT IT READS IS OF BULK AT MOST 1048576: true; the input reads as it did. -/
def tableMostUptoRow : OpenClaim := { program := "ytfgnlnolgjapnaa", sum := "7b6227791d8cb80cc42c27147e52f46575343aff593dedd3ca53c66ba5d6f9d5", func := "stanchion/stanchionlaw05.TableMost", spec := "tableMost", inPlace := ["slices.overlaps[stanchion/api.Pair]"], unfollowed := true, recurses := true, apart := false, narrowed := true }
def TableMostUptoSaid : Prop := tableMostUptoRow.holds Try.pinned (OpenSpec.upto tableMostSpec)

end Rows
end Go.Proofs.Ytfgnlnolgjapnaa
