/-
  No cell of these rows narrows 'for every input' (looked for: loops, veiled, ifaces, maps, wideKeys, modest, calm, conditions, laid).
  DERIVED. THE GIVEN ROWS OF THIS SEAT. 8 by the template 'for every input the law returns true; each argument reads behind the call as it read before'; 0 by the template 'total and deterministic' (their statements: YtlbjobbmjccekaaTotals.lean).
  GIVEN WITH THE SEED: the statements are not yours to turn. If you find one false, say at which input.
  Laid BY PROGRAM, IN A SANDBOX (cutbox-rows.mjs): the forced cells as the released guide's own fill.sh prints them over the translation 861cd13701520e76… (all of the seat's roots in one cut). By AI agents, Wed Nov 11 2026. No macro, syntax, notation, axiom, sorry.
-/
import Derived.Test.YtlbjobbmjccekaaChecked
import GoSem.Claim
import GoSem.ClaimJoined
import GoSem.ClaimMapViews
import Derived.JoinedTies
import Derived.KernelRfl
namespace Go.Proofs.Ytlbjobbmjccekaa
/- THE CELL 'sum', in the pinned program and in every row, IS THE sha256 OF THE DUMP (.gsa) THAT YtlbjobbmjccekaaProg.lean LOADS. Nothing in Lean hashes anything: it is a label: what it is worth is what the hold of that sum in a sandbox is worth. -/
noncomputable def Try.pinned : Pinned := { name := "ytlbjobbmjccekaa", sum := "861cd13701520e76812b8b6990be44246590d8f3dbd0269ca33eba49293b6969", checked := Try.checked }
namespace Rows
def none {H : Type} : Left H := { results := [], args := [] }

/-- 'stanchionlaw07.BatchBytes': WHATEVER THE INPUT: true; the input reads as it did. -/
def batchBytesSpec : ChangeSpec := { name := "batchBytes", fn := fun _ => fun
  | [d1, d2] => { results := [.lit (.bool true)], args := [d1, d2] }
  | _ => none }
def batchBytesRow : OpenClaim := { program := "ytlbjobbmjccekaa", sum := "861cd13701520e76812b8b6990be44246590d8f3dbd0269ca33eba49293b6969", func := "stanchion/stanchionlaw07.BatchBytes", spec := "batchBytes", inPlace := ["internal/abi.NoEscape"], unfollowed := true, recurses := true, apart := false }
def BatchBytesSaid : Prop := batchBytesRow.holds Try.pinned (OpenSpec.ofChange batchBytesSpec)

/-- ITS FALSE NEIGHBOUR: 'it returns false'. Refute it at one input. -/
def batchBytesWrong : ChangeSpec := { name := "batchBytes", fn := fun _ => fun
  | [d1, d2] => { results := [.lit (.bool false)], args := [d1, d2] }
  | _ => none }
def BatchBytesWrongFalsely : Prop := batchBytesRow.holds Try.pinned (OpenSpec.ofChange batchBytesWrong)

/-- 'stanchionlaw07.BatchDoes': WHATEVER THE INPUT: true; the input reads as it did. -/
def batchDoesSpec : ChangeSpec := { name := "batchDoes", fn := fun _ => fun
  | [d] => { results := [.lit (.bool true)], args := [d] }
  | _ => none }
def batchDoesRow : OpenClaim := { program := "ytlbjobbmjccekaa", sum := "861cd13701520e76812b8b6990be44246590d8f3dbd0269ca33eba49293b6969", func := "stanchion/stanchionlaw07.BatchDoes", spec := "batchDoes", inPlace := ["internal/abi.NoEscape", "slices.overlaps[stanchion/api.Pair]"], unfollowed := true, recurses := true, apart := false }
def BatchDoesSaid : Prop := batchDoesRow.holds Try.pinned (OpenSpec.ofChange batchDoesSpec)

/-- ITS FALSE NEIGHBOUR: 'it returns false'. Refute it at one input. -/
def batchDoesWrong : ChangeSpec := { name := "batchDoes", fn := fun _ => fun
  | [d] => { results := [.lit (.bool false)], args := [d] }
  | _ => none }
def BatchDoesWrongFalsely : Prop := batchDoesRow.holds Try.pinned (OpenSpec.ofChange batchDoesWrong)

/-- 'stanchionlaw07.BatchPairs': WHATEVER THE INPUT: true; the input reads as it did. -/
def batchPairsSpec : ChangeSpec := { name := "batchPairs", fn := fun _ => fun
  | [d1, d2] => { results := [.lit (.bool true)], args := [d1, d2] }
  | _ => none }
def batchPairsRow : OpenClaim := { program := "ytlbjobbmjccekaa", sum := "861cd13701520e76812b8b6990be44246590d8f3dbd0269ca33eba49293b6969", func := "stanchion/stanchionlaw07.BatchPairs", spec := "batchPairs", inPlace := ["internal/abi.NoEscape"], unfollowed := true, recurses := true, apart := false }
def BatchPairsSaid : Prop := batchPairsRow.holds Try.pinned (OpenSpec.ofChange batchPairsSpec)

/-- ITS FALSE NEIGHBOUR: 'it returns false'. Refute it at one input. -/
def batchPairsWrong : ChangeSpec := { name := "batchPairs", fn := fun _ => fun
  | [d1, d2] => { results := [.lit (.bool false)], args := [d1, d2] }
  | _ => none }
def BatchPairsWrongFalsely : Prop := batchPairsRow.holds Try.pinned (OpenSpec.ofChange batchPairsWrong)

/-- 'stanchionlaw07.BatchBack': WHATEVER THE INPUT: true; the input reads as it did. -/
def batchBackSpec : ChangeSpec := { name := "batchBack", fn := fun _ => fun
  | [d1, d2] => { results := [.lit (.bool true)], args := [d1, d2] }
  | _ => none }
def batchBackRow : OpenClaim := { program := "ytlbjobbmjccekaa", sum := "861cd13701520e76812b8b6990be44246590d8f3dbd0269ca33eba49293b6969", func := "stanchion/stanchionlaw07.BatchBack", spec := "batchBack", inPlace := ["internal/abi.NoEscape"], unfollowed := true, recurses := true, apart := false }
def BatchBackSaid : Prop := batchBackRow.holds Try.pinned (OpenSpec.ofChange batchBackSpec)

/-- ITS FALSE NEIGHBOUR: 'it returns false'. Refute it at one input. -/
def batchBackWrong : ChangeSpec := { name := "batchBack", fn := fun _ => fun
  | [d1, d2] => { results := [.lit (.bool false)], args := [d1, d2] }
  | _ => none }
def BatchBackWrongFalsely : Prop := batchBackRow.holds Try.pinned (OpenSpec.ofChange batchBackWrong)

/-- 'stanchionlaw07.BatchOnce': WHATEVER THE INPUT: true; the input reads as it did. -/
def batchOnceSpec : ChangeSpec := { name := "batchOnce", fn := fun _ => fun
  | [d] => { results := [.lit (.bool true)], args := [d] }
  | _ => none }
def batchOnceRow : OpenClaim := { program := "ytlbjobbmjccekaa", sum := "861cd13701520e76812b8b6990be44246590d8f3dbd0269ca33eba49293b6969", func := "stanchion/stanchionlaw07.BatchOnce", spec := "batchOnce", inPlace := ["internal/abi.NoEscape", "slices.overlaps[stanchion/api.Pair]"], unfollowed := true, recurses := true, apart := false }
def BatchOnceSaid : Prop := batchOnceRow.holds Try.pinned (OpenSpec.ofChange batchOnceSpec)

/-- ITS FALSE NEIGHBOUR: 'it returns false'. Refute it at one input. -/
def batchOnceWrong : ChangeSpec := { name := "batchOnce", fn := fun _ => fun
  | [d] => { results := [.lit (.bool false)], args := [d] }
  | _ => none }
def BatchOnceWrongFalsely : Prop := batchOnceRow.holds Try.pinned (OpenSpec.ofChange batchOnceWrong)

/-- 'stanchionlaw07.BatchState': WHATEVER THE INPUT: true; the input reads as it did. -/
def batchStateSpec : ChangeSpec := { name := "batchState", fn := fun _ => fun
  | [d] => { results := [.lit (.bool true)], args := [d] }
  | _ => none }
def batchStateRow : OpenClaim := { program := "ytlbjobbmjccekaa", sum := "861cd13701520e76812b8b6990be44246590d8f3dbd0269ca33eba49293b6969", func := "stanchion/stanchionlaw07.BatchState", spec := "batchState", inPlace := ["internal/abi.NoEscape", "slices.overlaps[stanchion/api.Pair]"], unfollowed := true, recurses := true, apart := false }
def BatchStateSaid : Prop := batchStateRow.holds Try.pinned (OpenSpec.ofChange batchStateSpec)

/-- ITS FALSE NEIGHBOUR: 'it returns false'. Refute it at one input. -/
def batchStateWrong : ChangeSpec := { name := "batchState", fn := fun _ => fun
  | [d] => { results := [.lit (.bool false)], args := [d] }
  | _ => none }
def BatchStateWrongFalsely : Prop := batchStateRow.holds Try.pinned (OpenSpec.ofChange batchStateWrong)

/-- 'stanchionlaw07.BatchApart': WHATEVER THE INPUT: true; the input reads as it did. -/
def batchApartSpec : ChangeSpec := { name := "batchApart", fn := fun _ => fun
  | [d] => { results := [.lit (.bool true)], args := [d] }
  | _ => none }
def batchApartRow : OpenClaim := { program := "ytlbjobbmjccekaa", sum := "861cd13701520e76812b8b6990be44246590d8f3dbd0269ca33eba49293b6969", func := "stanchion/stanchionlaw07.BatchApart", spec := "batchApart", inPlace := ["internal/abi.NoEscape", "slices.overlaps[stanchion/api.Pair]"], unfollowed := true, recurses := true, apart := false }
def BatchApartSaid : Prop := batchApartRow.holds Try.pinned (OpenSpec.ofChange batchApartSpec)

/-- ITS FALSE NEIGHBOUR: 'it returns false'. Refute it at one input. -/
def batchApartWrong : ChangeSpec := { name := "batchApart", fn := fun _ => fun
  | [d] => { results := [.lit (.bool false)], args := [d] }
  | _ => none }
def BatchApartWrongFalsely : Prop := batchApartRow.holds Try.pinned (OpenSpec.ofChange batchApartWrong)

/-- 'stanchionlaw07.BatchWrites': WHATEVER THE INPUT: true; the input reads as it did. -/
def batchWritesSpec : ChangeSpec := { name := "batchWrites", fn := fun _ => fun
  | [d1, d2, d3] => { results := [.lit (.bool true)], args := [d1, d2, d3] }
  | _ => none }
def batchWritesRow : OpenClaim := { program := "ytlbjobbmjccekaa", sum := "861cd13701520e76812b8b6990be44246590d8f3dbd0269ca33eba49293b6969", func := "stanchion/stanchionlaw07.BatchWrites", spec := "batchWrites", inPlace := ["internal/abi.NoEscape", "slices.overlaps[stanchion/api.Pair]"], unfollowed := true, recurses := true, apart := false }
def BatchWritesSaid : Prop := batchWritesRow.holds Try.pinned (OpenSpec.ofChange batchWritesSpec)

/-- ITS FALSE NEIGHBOUR: 'it returns false'. Refute it at one input. -/
def batchWritesWrong : ChangeSpec := { name := "batchWrites", fn := fun _ => fun
  | [d1, d2, d3] => { results := [.lit (.bool false)], args := [d1, d2, d3] }
  | _ => none }
def BatchWritesWrongFalsely : Prop := batchWritesRow.holds Try.pinned (OpenSpec.ofChange batchWritesWrong)

/- THE SECOND FORM. 'bulk': how many values and letters a reading holds, each counted each time it is reached (what is shared counts as often as it is met; a slice's spare places count too). A statement '..UptoSaid' is the law's where the arguments, and the package variables that the reading takes, are together of bulk at most 1048576: NARROWER than '..Said'. Prove '..Said' where nothing that the law and all that it calls make is longer than what came in: it says more and counts as full. Else prove '..UptoSaid'. A law counts once. -/
mutual
def uptoBulk {H : Type} : DataW H → Nat
  | .lit (.string bytes) => bytes.length + 1
  | .lit _ => 1
  | .nil => 1
  | .ptr d => uptoBulk d + 1
  | .slice elems spare => uptoBulkAll elems + uptoBulkAll spare + 1
  | .agg parts => uptoBulkAll parts + 1
  | .iface _ d => uptoBulk d + 1
  | .map entries => uptoBulkEntries entries + 1
  | .held _ => 1
def uptoBulkAll {H : Type} : List (DataW H) → Nat
  | [] => 0
  | d :: r => uptoBulk d + uptoBulkAll r
def uptoBulkEntries {H : Type} : List (Lit × DataW H) → Nat
  | [] => 0
  | x :: r => uptoBulkEntry x + uptoBulkEntries r
def uptoBulkEntry {H : Type} : Lit × DataW H → Nat
  | (.string bytes, d) => bytes.length + uptoBulk d + 1
  | (_, d) => uptoBulk d + 1
 end
def uptoSmall : (H : Type) → List (DataW H) → Bool := fun _ ds => decide (uptoBulkAll ds ≤ 1048576)
def OpenSpec.upto (s : _root_.Go.ChangeSpec) : _root_.Go.OpenSpec := { _root_.Go.OpenSpec.ofChange s with cond := some uptoSmall }

/-- 'stanchionlaw07.BatchBytes', WHERE WHAT IT READS IS OF BULK AT MOST 1048576: true; the input reads as it did. -/
def batchBytesUptoRow : OpenClaim := { program := "ytlbjobbmjccekaa", sum := "861cd13701520e76812b8b6990be44246590d8f3dbd0269ca33eba49293b6969", func := "stanchion/stanchionlaw07.BatchBytes", spec := "batchBytes", inPlace := ["internal/abi.NoEscape"], unfollowed := true, recurses := true, apart := false, narrowed := true }
def BatchBytesUptoSaid : Prop := batchBytesUptoRow.holds Try.pinned (OpenSpec.upto batchBytesSpec)

/-- 'stanchionlaw07.BatchDoes', WHERE WHAT IT READS IS OF BULK AT MOST 1048576: true; the input reads as it did. -/
def batchDoesUptoRow : OpenClaim := { program := "ytlbjobbmjccekaa", sum := "861cd13701520e76812b8b6990be44246590d8f3dbd0269ca33eba49293b6969", func := "stanchion/stanchionlaw07.BatchDoes", spec := "batchDoes", inPlace := ["internal/abi.NoEscape", "slices.overlaps[stanchion/api.Pair]"], unfollowed := true, recurses := true, apart := false, narrowed := true }
def BatchDoesUptoSaid : Prop := batchDoesUptoRow.holds Try.pinned (OpenSpec.upto batchDoesSpec)

/-- 'stanchionlaw07.BatchPairs', WHERE WHAT IT READS IS OF BULK AT MOST 1048576: true; the input reads as it did. -/
def batchPairsUptoRow : OpenClaim := { program := "ytlbjobbmjccekaa", sum := "861cd13701520e76812b8b6990be44246590d8f3dbd0269ca33eba49293b6969", func := "stanchion/stanchionlaw07.BatchPairs", spec := "batchPairs", inPlace := ["internal/abi.NoEscape"], unfollowed := true, recurses := true, apart := false, narrowed := true }
def BatchPairsUptoSaid : Prop := batchPairsUptoRow.holds Try.pinned (OpenSpec.upto batchPairsSpec)

/-- 'stanchionlaw07.BatchBack', WHERE WHAT IT READS IS OF BULK AT MOST 1048576: true; the input reads as it did. -/
def batchBackUptoRow : OpenClaim := { program := "ytlbjobbmjccekaa", sum := "861cd13701520e76812b8b6990be44246590d8f3dbd0269ca33eba49293b6969", func := "stanchion/stanchionlaw07.BatchBack", spec := "batchBack", inPlace := ["internal/abi.NoEscape"], unfollowed := true, recurses := true, apart := false, narrowed := true }
def BatchBackUptoSaid : Prop := batchBackUptoRow.holds Try.pinned (OpenSpec.upto batchBackSpec)

/-- 'stanchionlaw07.BatchOnce', WHERE WHAT IT READS IS OF BULK AT MOST 1048576: true; the input reads as it did. -/
def batchOnceUptoRow : OpenClaim := { program := "ytlbjobbmjccekaa", sum := "861cd13701520e76812b8b6990be44246590d8f3dbd0269ca33eba49293b6969", func := "stanchion/stanchionlaw07.BatchOnce", spec := "batchOnce", inPlace := ["internal/abi.NoEscape", "slices.overlaps[stanchion/api.Pair]"], unfollowed := true, recurses := true, apart := false, narrowed := true }
def BatchOnceUptoSaid : Prop := batchOnceUptoRow.holds Try.pinned (OpenSpec.upto batchOnceSpec)

/-- 'stanchionlaw07.BatchState', WHERE WHAT IT READS IS OF BULK AT MOST 1048576: true; the input reads as it did. -/
def batchStateUptoRow : OpenClaim := { program := "ytlbjobbmjccekaa", sum := "861cd13701520e76812b8b6990be44246590d8f3dbd0269ca33eba49293b6969", func := "stanchion/stanchionlaw07.BatchState", spec := "batchState", inPlace := ["internal/abi.NoEscape", "slices.overlaps[stanchion/api.Pair]"], unfollowed := true, recurses := true, apart := false, narrowed := true }
def BatchStateUptoSaid : Prop := batchStateUptoRow.holds Try.pinned (OpenSpec.upto batchStateSpec)

/-- 'stanchionlaw07.BatchApart', WHERE WHAT IT READS IS OF BULK AT MOST 1048576: true; the input reads as it did. -/
def batchApartUptoRow : OpenClaim := { program := "ytlbjobbmjccekaa", sum := "861cd13701520e76812b8b6990be44246590d8f3dbd0269ca33eba49293b6969", func := "stanchion/stanchionlaw07.BatchApart", spec := "batchApart", inPlace := ["internal/abi.NoEscape", "slices.overlaps[stanchion/api.Pair]"], unfollowed := true, recurses := true, apart := false, narrowed := true }
def BatchApartUptoSaid : Prop := batchApartUptoRow.holds Try.pinned (OpenSpec.upto batchApartSpec)

/-- 'stanchionlaw07.BatchWrites', WHERE WHAT IT READS IS OF BULK AT MOST 1048576: true; the input reads as it did. -/
def batchWritesUptoRow : OpenClaim := { program := "ytlbjobbmjccekaa", sum := "861cd13701520e76812b8b6990be44246590d8f3dbd0269ca33eba49293b6969", func := "stanchion/stanchionlaw07.BatchWrites", spec := "batchWrites", inPlace := ["internal/abi.NoEscape", "slices.overlaps[stanchion/api.Pair]"], unfollowed := true, recurses := true, apart := false, narrowed := true }
def BatchWritesUptoSaid : Prop := batchWritesUptoRow.holds Try.pinned (OpenSpec.upto batchWritesSpec)

end Rows
end Go.Proofs.Ytlbjobbmjccekaa
