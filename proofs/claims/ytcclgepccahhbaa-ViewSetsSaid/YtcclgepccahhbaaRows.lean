/-
  No cell of these rows narrows 'for every input' (looked for: loops, veiled, ifaces, maps, wideKeys, modest, calm, conditions, laid).
  DERIVED. THE GIVEN ROWS OF THIS SEAT. 7 by the template 'for every input the law returns true; each argument reads behind the call as it read before'; 0 by the template 'total and deterministic' (their statements: YtcclgepccahhbaaTotals.lean).
  GIVEN WITH THE SEED: the statements are not yours to turn. If you find one false, say at which input.
  Laid BY PROGRAM, IN A SANDBOX (cutbox-rows.mjs): the forced cells as the released guide's own fill.sh prints them over the translation 938388c992b85e29… (all of the seat's roots in one cut). By AI agents, Wed Nov 11 2026. No macro, syntax, notation, axiom, sorry.
-/
import Derived.Test.YtcclgepccahhbaaChecked
import GoSem.Claim
import GoSem.ClaimJoined
import GoSem.ClaimMapViews
import Derived.JoinedTies
import Derived.KernelRfl
namespace Go.Proofs.Ytcclgepccahhbaa
/- THE CELL 'sum', in the pinned program and in every row, IS THE sha256 OF THE DUMP (.gsa) THAT YtcclgepccahhbaaProg.lean LOADS. Nothing in Lean hashes anything: it is a label: what it is worth is what the hold of that sum in a sandbox is worth. -/
noncomputable def Try.pinned : Pinned := { name := "ytcclgepccahhbaa", sum := "938388c992b85e2970568b4f10d2d48497df3998067f9268bf34946876f8ab50", checked := Try.checked }
namespace Rows
def none {H : Type} : Left H := { results := [], args := [] }

/-- 'stanchionlaw12.ViewSets': WHATEVER THE INPUT: true; the input reads as it did. -/
def viewSetsSpec : ChangeSpec := { name := "viewSets", fn := fun _ => fun
  | [d1, d2] => { results := [.lit (.bool true)], args := [d1, d2] }
  | _ => none }
def viewSetsRow : OpenClaim := { program := "ytcclgepccahhbaa", sum := "938388c992b85e2970568b4f10d2d48497df3998067f9268bf34946876f8ab50", func := "stanchion/stanchionlaw12.ViewSets", spec := "viewSets", inPlace := ["slices.overlaps[stanchion/api.Pair]"], unfollowed := true, recurses := true, apart := false }
def ViewSetsSaid : Prop := viewSetsRow.holds Try.pinned (OpenSpec.ofChange viewSetsSpec)

/-- ITS FALSE NEIGHBOUR: 'it returns false'. Refute it at one input. -/
def viewSetsWrong : ChangeSpec := { name := "viewSets", fn := fun _ => fun
  | [d1, d2] => { results := [.lit (.bool false)], args := [d1, d2] }
  | _ => none }
def ViewSetsWrongFalsely : Prop := viewSetsRow.holds Try.pinned (OpenSpec.ofChange viewSetsWrong)

/-- 'stanchionlaw12.ViewReads': WHATEVER THE INPUT: true; the input reads as it did. -/
def viewReadsSpec : ChangeSpec := { name := "viewReads", fn := fun _ => fun
  | [d] => { results := [.lit (.bool true)], args := [d] }
  | _ => none }
def viewReadsRow : OpenClaim := { program := "ytcclgepccahhbaa", sum := "938388c992b85e2970568b4f10d2d48497df3998067f9268bf34946876f8ab50", func := "stanchion/stanchionlaw12.ViewReads", spec := "viewReads", inPlace := ["slices.overlaps[stanchion/api.Pair]"], unfollowed := true, recurses := true, apart := false }
def ViewReadsSaid : Prop := viewReadsRow.holds Try.pinned (OpenSpec.ofChange viewReadsSpec)

/-- ITS FALSE NEIGHBOUR: 'it returns false'. Refute it at one input. -/
def viewReadsWrong : ChangeSpec := { name := "viewReads", fn := fun _ => fun
  | [d] => { results := [.lit (.bool false)], args := [d] }
  | _ => none }
def ViewReadsWrongFalsely : Prop := viewReadsRow.holds Try.pinned (OpenSpec.ofChange viewReadsWrong)

/-- 'stanchionlaw12.ViewOwn': WHATEVER THE INPUT: true; the input reads as it did. -/
def viewOwnSpec : ChangeSpec := { name := "viewOwn", fn := fun _ => fun
  | [d] => { results := [.lit (.bool true)], args := [d] }
  | _ => none }
def viewOwnRow : OpenClaim := { program := "ytcclgepccahhbaa", sum := "938388c992b85e2970568b4f10d2d48497df3998067f9268bf34946876f8ab50", func := "stanchion/stanchionlaw12.ViewOwn", spec := "viewOwn", inPlace := ["slices.overlaps[stanchion/api.Pair]"], unfollowed := true, recurses := true, apart := false }
def ViewOwnSaid : Prop := viewOwnRow.holds Try.pinned (OpenSpec.ofChange viewOwnSpec)

/-- ITS FALSE NEIGHBOUR: 'it returns false'. Refute it at one input. -/
def viewOwnWrong : ChangeSpec := { name := "viewOwn", fn := fun _ => fun
  | [d] => { results := [.lit (.bool false)], args := [d] }
  | _ => none }
def ViewOwnWrongFalsely : Prop := viewOwnRow.holds Try.pinned (OpenSpec.ofChange viewOwnWrong)

/-- 'stanchionlaw12.ViewRises': WHATEVER THE INPUT: true; the input reads as it did. -/
def viewRisesSpec : ChangeSpec := { name := "viewRises", fn := fun _ => fun
  | [d1, d2] => { results := [.lit (.bool true)], args := [d1, d2] }
  | _ => none }
def viewRisesRow : OpenClaim := { program := "ytcclgepccahhbaa", sum := "938388c992b85e2970568b4f10d2d48497df3998067f9268bf34946876f8ab50", func := "stanchion/stanchionlaw12.ViewRises", spec := "viewRises", inPlace := ["slices.overlaps[stanchion/api.Pair]"], unfollowed := true, recurses := true, apart := false }
def ViewRisesSaid : Prop := viewRisesRow.holds Try.pinned (OpenSpec.ofChange viewRisesSpec)

/-- ITS FALSE NEIGHBOUR: 'it returns false'. Refute it at one input. -/
def viewRisesWrong : ChangeSpec := { name := "viewRises", fn := fun _ => fun
  | [d1, d2] => { results := [.lit (.bool false)], args := [d1, d2] }
  | _ => none }
def ViewRisesWrongFalsely : Prop := viewRisesRow.holds Try.pinned (OpenSpec.ofChange viewRisesWrong)

/-- 'stanchionlaw12.ViewAgrees': WHATEVER THE INPUT: true; the input reads as it did. -/
def viewAgreesSpec : ChangeSpec := { name := "viewAgrees", fn := fun _ => fun
  | [d1, d2, d3] => { results := [.lit (.bool true)], args := [d1, d2, d3] }
  | _ => none }
def viewAgreesRow : OpenClaim := { program := "ytcclgepccahhbaa", sum := "938388c992b85e2970568b4f10d2d48497df3998067f9268bf34946876f8ab50", func := "stanchion/stanchionlaw12.ViewAgrees", spec := "viewAgrees", inPlace := ["slices.overlaps[stanchion/api.Pair]"], unfollowed := true, recurses := true, apart := false }
def ViewAgreesSaid : Prop := viewAgreesRow.holds Try.pinned (OpenSpec.ofChange viewAgreesSpec)

/-- ITS FALSE NEIGHBOUR: 'it returns false'. Refute it at one input. -/
def viewAgreesWrong : ChangeSpec := { name := "viewAgrees", fn := fun _ => fun
  | [d1, d2, d3] => { results := [.lit (.bool false)], args := [d1, d2, d3] }
  | _ => none }
def ViewAgreesWrongFalsely : Prop := viewAgreesRow.holds Try.pinned (OpenSpec.ofChange viewAgreesWrong)

/-- 'stanchionlaw12.ViewTwice': WHATEVER THE INPUT: true; the input reads as it did. -/
def viewTwiceSpec : ChangeSpec := { name := "viewTwice", fn := fun _ => fun
  | [d1, d2, d3] => { results := [.lit (.bool true)], args := [d1, d2, d3] }
  | _ => none }
def viewTwiceRow : OpenClaim := { program := "ytcclgepccahhbaa", sum := "938388c992b85e2970568b4f10d2d48497df3998067f9268bf34946876f8ab50", func := "stanchion/stanchionlaw12.ViewTwice", spec := "viewTwice", inPlace := ["slices.overlaps[stanchion/api.Pair]"], unfollowed := true, recurses := true, apart := false }
def ViewTwiceSaid : Prop := viewTwiceRow.holds Try.pinned (OpenSpec.ofChange viewTwiceSpec)

/-- ITS FALSE NEIGHBOUR: 'it returns false'. Refute it at one input. -/
def viewTwiceWrong : ChangeSpec := { name := "viewTwice", fn := fun _ => fun
  | [d1, d2, d3] => { results := [.lit (.bool false)], args := [d1, d2, d3] }
  | _ => none }
def ViewTwiceWrongFalsely : Prop := viewTwiceRow.holds Try.pinned (OpenSpec.ofChange viewTwiceWrong)

/-- 'stanchionlaw12.ViewNothing': WHATEVER THE INPUT: true; the input reads as it did. -/
def viewNothingSpec : ChangeSpec := { name := "viewNothing", fn := fun _ => fun
  | [d] => { results := [.lit (.bool true)], args := [d] }
  | _ => none }
def viewNothingRow : OpenClaim := { program := "ytcclgepccahhbaa", sum := "938388c992b85e2970568b4f10d2d48497df3998067f9268bf34946876f8ab50", func := "stanchion/stanchionlaw12.ViewNothing", spec := "viewNothing", inPlace := ["slices.overlaps[stanchion/api.Pair]"], unfollowed := true, recurses := true, apart := false }
def ViewNothingSaid : Prop := viewNothingRow.holds Try.pinned (OpenSpec.ofChange viewNothingSpec)

/-- ITS FALSE NEIGHBOUR: 'it returns false'. Refute it at one input. -/
def viewNothingWrong : ChangeSpec := { name := "viewNothing", fn := fun _ => fun
  | [d] => { results := [.lit (.bool false)], args := [d] }
  | _ => none }
def ViewNothingWrongFalsely : Prop := viewNothingRow.holds Try.pinned (OpenSpec.ofChange viewNothingWrong)

/- THE SECOND FORM. 'bulk': how many values and letters a reading holds, each counted each time it is reached (what is shared counts as often as it is met; a slice's spare places count too). A statement '..UptoSaid' is the law's where the arguments, and the package variables that the reading takes, are together of bulk at most 1048576: NARROWER than '..Said'. Prove '..Said' where nothing that the law and all that it calls make is longer than what came in: it says more and counts as full. Else prove '..UptoSaid'. A law counts once. -/
mutual
def uptoBulk {H : Type} : DataW H → Nat
  | .lit (.string bytes) => bytes.length + 1
  | .lit _ => 1
  | .nil => 1
  | .ptr d => uptoBulk d + 1
  | .slice elems spare => uptoBulkAll elems + uptoBulkAll spare + 1
  | .agg parts => uptoBulkAll parts + 1
  | .iface _ d => uptoBulk d + 1
  | .map entries => uptoBulkEntries entries + 1
  | .held _ => 1
def uptoBulkAll {H : Type} : List (DataW H) → Nat
  | [] => 0
  | d :: r => uptoBulk d + uptoBulkAll r
def uptoBulkEntries {H : Type} : List (Lit × DataW H) → Nat
  | [] => 0
  | x :: r => uptoBulkEntry x + uptoBulkEntries r
def uptoBulkEntry {H : Type} : Lit × DataW H → Nat
  | (.string bytes, d) => bytes.length + uptoBulk d + 1
  | (_, d) => uptoBulk d + 1
 end
def uptoSmall : (H : Type) → List (DataW H) → Bool := fun _ ds => decide (uptoBulkAll ds ≤ 1048576)
def OpenSpec.upto (s : _root_.Go.ChangeSpec) : _root_.Go.OpenSpec := { _root_.Go.OpenSpec.ofChange s with cond := some uptoSmall }

/-- 'stanchionlaw12.ViewSets', WHERE WHAT IT READS IS OF BULK AT MOST 1048576: true; the input reads as it did. -/
def viewSetsUptoRow : OpenClaim := { program := "ytcclgepccahhbaa", sum := "938388c992b85e2970568b4f10d2d48497df3998067f9268bf34946876f8ab50", func := "stanchion/stanchionlaw12.ViewSets", spec := "viewSets", inPlace := ["slices.overlaps[stanchion/api.Pair]"], unfollowed := true, recurses := true, apart := false, narrowed := true }
def ViewSetsUptoSaid : Prop := viewSetsUptoRow.holds Try.pinned (OpenSpec.upto viewSetsSpec)

/-- 'stanchionlaw12.ViewReads', WHERE WHAT IT READS IS OF BULK AT MOST 1048576: true; the input reads as it did. -/
def viewReadsUptoRow : OpenClaim := { program := "ytcclgepccahhbaa", sum := "938388c992b85e2970568b4f10d2d48497df3998067f9268bf34946876f8ab50", func := "stanchion/stanchionlaw12.ViewReads", spec := "viewReads", inPlace := ["slices.overlaps[stanchion/api.Pair]"], unfollowed := true, recurses := true, apart := false, narrowed := true }
def ViewReadsUptoSaid : Prop := viewReadsUptoRow.holds Try.pinned (OpenSpec.upto viewReadsSpec)

/-- 'stanchionlaw12.ViewOwn', WHERE WHAT IT READS IS OF BULK AT MOST 1048576: true; the input reads as it did. -/
def viewOwnUptoRow : OpenClaim := { program := "ytcclgepccahhbaa", sum := "938388c992b85e2970568b4f10d2d48497df3998067f9268bf34946876f8ab50", func := "stanchion/stanchionlaw12.ViewOwn", spec := "viewOwn", inPlace := ["slices.overlaps[stanchion/api.Pair]"], unfollowed := true, recurses := true, apart := false, narrowed := true }
def ViewOwnUptoSaid : Prop := viewOwnUptoRow.holds Try.pinned (OpenSpec.upto viewOwnSpec)

/-- 'stanchionlaw12.ViewRises', WHERE WHAT IT READS IS OF BULK AT MOST 1048576: true; the input reads as it did. -/
def viewRisesUptoRow : OpenClaim := { program := "ytcclgepccahhbaa", sum := "938388c992b85e2970568b4f10d2d48497df3998067f9268bf34946876f8ab50", func := "stanchion/stanchionlaw12.ViewRises", spec := "viewRises", inPlace := ["slices.overlaps[stanchion/api.Pair]"], unfollowed := true, recurses := true, apart := false, narrowed := true }
def ViewRisesUptoSaid : Prop := viewRisesUptoRow.holds Try.pinned (OpenSpec.upto viewRisesSpec)

/-- 'stanchionlaw12.ViewAgrees', WHERE WHAT IT READS IS OF BULK AT MOST 1048576: true; the input reads as it did. -/
def viewAgreesUptoRow : OpenClaim := { program := "ytcclgepccahhbaa", sum := "938388c992b85e2970568b4f10d2d48497df3998067f9268bf34946876f8ab50", func := "stanchion/stanchionlaw12.ViewAgrees", spec := "viewAgrees", inPlace := ["slices.overlaps[stanchion/api.Pair]"], unfollowed := true, recurses := true, apart := false, narrowed := true }
def ViewAgreesUptoSaid : Prop := viewAgreesUptoRow.holds Try.pinned (OpenSpec.upto viewAgreesSpec)

/-- 'stanchionlaw12.ViewTwice', WHERE WHAT IT READS IS OF BULK AT MOST 1048576: true; the input reads as it did. -/
def viewTwiceUptoRow : OpenClaim := { program := "ytcclgepccahhbaa", sum := "938388c992b85e2970568b4f10d2d48497df3998067f9268bf34946876f8ab50", func := "stanchion/stanchionlaw12.ViewTwice", spec := "viewTwice", inPlace := ["slices.overlaps[stanchion/api.Pair]"], unfollowed := true, recurses := true, apart := false, narrowed := true }
def ViewTwiceUptoSaid : Prop := viewTwiceUptoRow.holds Try.pinned (OpenSpec.upto viewTwiceSpec)

/-- 'stanchionlaw12.ViewNothing', WHERE WHAT IT READS IS OF BULK AT MOST 1048576: true; the input reads as it did. -/
def viewNothingUptoRow : OpenClaim := { program := "ytcclgepccahhbaa", sum := "938388c992b85e2970568b4f10d2d48497df3998067f9268bf34946876f8ab50", func := "stanchion/stanchionlaw12.ViewNothing", spec := "viewNothing", inPlace := ["slices.overlaps[stanchion/api.Pair]"], unfollowed := true, recurses := true, apart := false, narrowed := true }
def ViewNothingUptoSaid : Prop := viewNothingUptoRow.holds Try.pinned (OpenSpec.upto viewNothingSpec)

end Rows
end Go.Proofs.Ytcclgepccahhbaa
