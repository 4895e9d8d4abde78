/-
  No cell of these rows narrows 'for every input' (looked for: loops, veiled, ifaces, maps, wideKeys, modest, calm, conditions, laid).
  DERIVED. THE GIVEN ROWS OF THIS SEAT. 7 by the template 'for every input the law returns true; each argument reads behind the call as it read before'; 0 by the template 'total and deterministic' (their statements: YtenemdpjhoebpaaTotals.lean).
  GIVEN WITH THE SEED: the statements are not yours to turn. If you find one false, say at which input.
  Laid BY PROGRAM, IN A SANDBOX (cutbox-rows.mjs): the forced cells as the released guide's own fill.sh prints them over the translation 1f1eddac098e0b6f… (all of the seat's roots in one cut). By AI agents, Wed Nov 11 2026. No macro, syntax, notation, axiom, sorry.
-/
import Derived.Test.YtenemdpjhoebpaaChecked
import GoSem.Claim
import GoSem.ClaimJoined
import GoSem.ClaimMapViews
import Derived.JoinedTies
import Derived.KernelRfl
namespace Go.Proofs.Ytenemdpjhoebpaa
/- THE CELL 'sum', in the pinned program and in every row, IS THE sha256 OF THE DUMP (.gsa) THAT YtenemdpjhoebpaaProg.lean LOADS. Nothing in Lean hashes anything: it is a label: what it is worth is what the hold of that sum in a sandbox is worth. -/
noncomputable def Try.pinned : Pinned := { name := "ytenemdpjhoebpaa", sum := "1f1eddac098e0b6f8233b773dff2579c75e7a90fd9449cbb7cfb593ee411b470", checked := Try.checked }
namespace Rows
def none {H : Type} : Left H := { results := [], args := [] }

/-- 'stanchionlaw10.LockAsks': WHATEVER THE INPUT: true; the input reads as it did. -/
def lockAsksSpec : ChangeSpec := { name := "lockAsks", fn := fun _ => fun
  | [d] => { results := [.lit (.bool true)], args := [d] }
  | _ => none }
def lockAsksRow : OpenClaim := { program := "ytenemdpjhoebpaa", sum := "1f1eddac098e0b6f8233b773dff2579c75e7a90fd9449cbb7cfb593ee411b470", func := "stanchion/stanchionlaw10.LockAsks", spec := "lockAsks", unfollowed := true, recurses := true, apart := false }
def LockAsksSaid : Prop := lockAsksRow.holds Try.pinned (OpenSpec.ofChange lockAsksSpec)

/-- ITS FALSE NEIGHBOUR: 'it returns false'. Refute it at one input. -/
def lockAsksWrong : ChangeSpec := { name := "lockAsks", fn := fun _ => fun
  | [d] => { results := [.lit (.bool false)], args := [d] }
  | _ => none }
def LockAsksWrongFalsely : Prop := lockAsksRow.holds Try.pinned (OpenSpec.ofChange lockAsksWrong)

/-- 'stanchionlaw10.LockFrees': WHATEVER THE INPUT: true; the input reads as it did. -/
def lockFreesSpec : ChangeSpec := { name := "lockFrees", fn := fun _ => fun
  | [d1, d2] => { results := [.lit (.bool true)], args := [d1, d2] }
  | _ => none }
def lockFreesRow : OpenClaim := { program := "ytenemdpjhoebpaa", sum := "1f1eddac098e0b6f8233b773dff2579c75e7a90fd9449cbb7cfb593ee411b470", func := "stanchion/stanchionlaw10.LockFrees", spec := "lockFrees", unfollowed := true, recurses := true, apart := false }
def LockFreesSaid : Prop := lockFreesRow.holds Try.pinned (OpenSpec.ofChange lockFreesSpec)

/-- ITS FALSE NEIGHBOUR: 'it returns false'. Refute it at one input. -/
def lockFreesWrong : ChangeSpec := { name := "lockFrees", fn := fun _ => fun
  | [d1, d2] => { results := [.lit (.bool false)], args := [d1, d2] }
  | _ => none }
def LockFreesWrongFalsely : Prop := lockFreesRow.holds Try.pinned (OpenSpec.ofChange lockFreesWrong)

/-- 'stanchionlaw10.LockApart': WHATEVER THE INPUT: true; the input reads as it did. -/
def lockApartSpec : ChangeSpec := { name := "lockApart", fn := fun _ => fun
  | [d] => { results := [.lit (.bool true)], args := [d] }
  | _ => none }
def lockApartRow : OpenClaim := { program := "ytenemdpjhoebpaa", sum := "1f1eddac098e0b6f8233b773dff2579c75e7a90fd9449cbb7cfb593ee411b470", func := "stanchion/stanchionlaw10.LockApart", spec := "lockApart", unfollowed := true, recurses := true, apart := false }
def LockApartSaid : Prop := lockApartRow.holds Try.pinned (OpenSpec.ofChange lockApartSpec)

/-- ITS FALSE NEIGHBOUR: 'it returns false'. Refute it at one input. -/
def lockApartWrong : ChangeSpec := { name := "lockApart", fn := fun _ => fun
  | [d] => { results := [.lit (.bool false)], args := [d] }
  | _ => none }
def LockApartWrongFalsely : Prop := lockApartRow.holds Try.pinned (OpenSpec.ofChange lockApartWrong)

/-- 'stanchionlaw10.LockWaits': WHATEVER THE INPUT: true; the input reads as it did. -/
def lockWaitsSpec : ChangeSpec := { name := "lockWaits", fn := fun _ => fun
  | [d] => { results := [.lit (.bool true)], args := [d] }
  | _ => none }
def lockWaitsRow : OpenClaim := { program := "ytenemdpjhoebpaa", sum := "1f1eddac098e0b6f8233b773dff2579c75e7a90fd9449cbb7cfb593ee411b470", func := "stanchion/stanchionlaw10.LockWaits", spec := "lockWaits", unfollowed := true, recurses := true, apart := false }
def LockWaitsSaid : Prop := lockWaitsRow.holds Try.pinned (OpenSpec.ofChange lockWaitsSpec)

/-- ITS FALSE NEIGHBOUR: 'it returns false'. Refute it at one input. -/
def lockWaitsWrong : ChangeSpec := { name := "lockWaits", fn := fun _ => fun
  | [d] => { results := [.lit (.bool false)], args := [d] }
  | _ => none }
def LockWaitsWrongFalsely : Prop := lockWaitsRow.holds Try.pinned (OpenSpec.ofChange lockWaitsWrong)

/-- 'stanchionlaw10.LockGoes': WHATEVER THE INPUT: true; the input reads as it did. -/
def lockGoesSpec : ChangeSpec := { name := "lockGoes", fn := fun _ => fun
  | [d1, d2] => { results := [.lit (.bool true)], args := [d1, d2] }
  | _ => none }
def lockGoesRow : OpenClaim := { program := "ytenemdpjhoebpaa", sum := "1f1eddac098e0b6f8233b773dff2579c75e7a90fd9449cbb7cfb593ee411b470", func := "stanchion/stanchionlaw10.LockGoes", spec := "lockGoes", unfollowed := true, recurses := true, apart := false }
def LockGoesSaid : Prop := lockGoesRow.holds Try.pinned (OpenSpec.ofChange lockGoesSpec)

/-- ITS FALSE NEIGHBOUR: 'it returns false'. Refute it at one input. -/
def lockGoesWrong : ChangeSpec := { name := "lockGoes", fn := fun _ => fun
  | [d1, d2] => { results := [.lit (.bool false)], args := [d1, d2] }
  | _ => none }
def LockGoesWrongFalsely : Prop := lockGoesRow.holds Try.pinned (OpenSpec.ofChange lockGoesWrong)

/-- 'stanchionlaw10.LockCovered': WHATEVER THE INPUT: true; the input reads as it did. -/
def lockCoveredSpec : ChangeSpec := { name := "lockCovered", fn := fun _ => fun
  | [d1, d2, d3] => { results := [.lit (.bool true)], args := [d1, d2, d3] }
  | _ => none }
def lockCoveredRow : OpenClaim := { program := "ytenemdpjhoebpaa", sum := "1f1eddac098e0b6f8233b773dff2579c75e7a90fd9449cbb7cfb593ee411b470", func := "stanchion/stanchionlaw10.LockCovered", spec := "lockCovered", unfollowed := true, recurses := true, apart := false }
def LockCoveredSaid : Prop := lockCoveredRow.holds Try.pinned (OpenSpec.ofChange lockCoveredSpec)

/-- ITS FALSE NEIGHBOUR: 'it returns false'. Refute it at one input. -/
def lockCoveredWrong : ChangeSpec := { name := "lockCovered", fn := fun _ => fun
  | [d1, d2, d3] => { results := [.lit (.bool false)], args := [d1, d2, d3] }
  | _ => none }
def LockCoveredWrongFalsely : Prop := lockCoveredRow.holds Try.pinned (OpenSpec.ofChange lockCoveredWrong)

/-- 'stanchionlaw10.LockFair': WHATEVER THE INPUT: true; the input reads as it did. -/
def lockFairSpec : ChangeSpec := { name := "lockFair", fn := fun _ => fun
  | [d] => { results := [.lit (.bool true)], args := [d] }
  | _ => none }
def lockFairRow : OpenClaim := { program := "ytenemdpjhoebpaa", sum := "1f1eddac098e0b6f8233b773dff2579c75e7a90fd9449cbb7cfb593ee411b470", func := "stanchion/stanchionlaw10.LockFair", spec := "lockFair", unfollowed := true, recurses := true, apart := false }
def LockFairSaid : Prop := lockFairRow.holds Try.pinned (OpenSpec.ofChange lockFairSpec)

/-- ITS FALSE NEIGHBOUR: 'it returns false'. Refute it at one input. -/
def lockFairWrong : ChangeSpec := { name := "lockFair", fn := fun _ => fun
  | [d] => { results := [.lit (.bool false)], args := [d] }
  | _ => none }
def LockFairWrongFalsely : Prop := lockFairRow.holds Try.pinned (OpenSpec.ofChange lockFairWrong)

/- THE SECOND FORM. 'bulk': how many values and letters a reading holds, each counted each time it is reached (what is shared counts as often as it is met; a slice's spare places count too). A statement '..UptoSaid' is the law's where the arguments, and the package variables that the reading takes, are together of bulk at most 1048576: NARROWER than '..Said'. Prove '..Said' where nothing that the law and all that it calls make is longer than what came in: it says more and counts as full. Else prove '..UptoSaid'. A law counts once. -/
mutual
def uptoBulk {H : Type} : DataW H → Nat
  | .lit (.string bytes) => bytes.length + 1
  | .lit _ => 1
  | .nil => 1
  | .ptr d => uptoBulk d + 1
  | .slice elems spare => uptoBulkAll elems + uptoBulkAll spare + 1
  | .agg parts => uptoBulkAll parts + 1
  | .iface _ d => uptoBulk d + 1
  | .map entries => uptoBulkEntries entries + 1
  | .held _ => 1
def uptoBulkAll {H : Type} : List (DataW H) → Nat
  | [] => 0
  | d :: r => uptoBulk d + uptoBulkAll r
def uptoBulkEntries {H : Type} : List (Lit × DataW H) → Nat
  | [] => 0
  | x :: r => uptoBulkEntry x + uptoBulkEntries r
def uptoBulkEntry {H : Type} : Lit × DataW H → Nat
  | (.string bytes, d) => bytes.length + uptoBulk d + 1
  | (_, d) => uptoBulk d + 1
 end
def uptoSmall : (H : Type) → List (DataW H) → Bool := fun _ ds => decide (uptoBulkAll ds ≤ 1048576)
def OpenSpec.upto (s : _root_.Go.ChangeSpec) : _root_.Go.OpenSpec := { _root_.Go.OpenSpec.ofChange s with cond := some uptoSmall }

/-- 'stanchionlaw10.LockAsks', WHERE WHAT IT READS IS OF BULK AT MOST 1048576: true; the input reads as it did. -/
def lockAsksUptoRow : OpenClaim := { program := "ytenemdpjhoebpaa", sum := "1f1eddac098e0b6f8233b773dff2579c75e7a90fd9449cbb7cfb593ee411b470", func := "stanchion/stanchionlaw10.LockAsks", spec := "lockAsks", unfollowed := true, recurses := true, apart := false, narrowed := true }
def LockAsksUptoSaid : Prop := lockAsksUptoRow.holds Try.pinned (OpenSpec.upto lockAsksSpec)

/-- 'stanchionlaw10.LockFrees', WHERE WHAT IT READS IS OF BULK AT MOST 1048576: true; the input reads as it did. -/
def lockFreesUptoRow : OpenClaim := { program := "ytenemdpjhoebpaa", sum := "1f1eddac098e0b6f8233b773dff2579c75e7a90fd9449cbb7cfb593ee411b470", func := "stanchion/stanchionlaw10.LockFrees", spec := "lockFrees", unfollowed := true, recurses := true, apart := false, narrowed := true }
def LockFreesUptoSaid : Prop := lockFreesUptoRow.holds Try.pinned (OpenSpec.upto lockFreesSpec)

/-- 'stanchionlaw10.LockApart', WHERE WHAT IT READS IS OF BULK AT MOST 1048576: true; the input reads as it did. -/
def lockApartUptoRow : OpenClaim := { program := "ytenemdpjhoebpaa", sum := "1f1eddac098e0b6f8233b773dff2579c75e7a90fd9449cbb7cfb593ee411b470", func := "stanchion/stanchionlaw10.LockApart", spec := "lockApart", unfollowed := true, recurses := true, apart := false, narrowed := true }
def LockApartUptoSaid : Prop := lockApartUptoRow.holds Try.pinned (OpenSpec.upto lockApartSpec)

/-- 'stanchionlaw10.LockWaits', WHERE WHAT IT READS IS OF BULK AT MOST 1048576: true; the input reads as it did. -/
def lockWaitsUptoRow : OpenClaim := { program := "ytenemdpjhoebpaa", sum := "1f1eddac098e0b6f8233b773dff2579c75e7a90fd9449cbb7cfb593ee411b470", func := "stanchion/stanchionlaw10.LockWaits", spec := "lockWaits", unfollowed := true, recurses := true, apart := false, narrowed := true }
def LockWaitsUptoSaid : Prop := lockWaitsUptoRow.holds Try.pinned (OpenSpec.upto lockWaitsSpec)

/-- 'stanchionlaw10.LockGoes', WHERE WHAT IT READS IS OF BULK AT MOST 1048576: true; the input reads as it did. -/
def lockGoesUptoRow : OpenClaim := { program := "ytenemdpjhoebpaa", sum := "1f1eddac098e0b6f8233b773dff2579c75e7a90fd9449cbb7cfb593ee411b470", func := "stanchion/stanchionlaw10.LockGoes", spec := "lockGoes", unfollowed := true, recurses := true, apart := false, narrowed := true }
def LockGoesUptoSaid : Prop := lockGoesUptoRow.holds Try.pinned (OpenSpec.upto lockGoesSpec)

/-- 'stanchionlaw10.LockCovered', WHERE WHAT IT READS IS OF BULK AT MOST 1048576: true; the input reads as it did. -/
def lockCoveredUptoRow : OpenClaim := { program := "ytenemdpjhoebpaa", sum := "1f1eddac098e0b6f8233b773dff2579c75e7a90fd9449cbb7cfb593ee411b470", func := "stanchion/stanchionlaw10.LockCovered", spec := "lockCovered", unfollowed := true, recurses := true, apart := false, narrowed := true }
def LockCoveredUptoSaid : Prop := lockCoveredUptoRow.holds Try.pinned (OpenSpec.upto lockCoveredSpec)

/-- 'stanchionlaw10.LockFair', WHERE WHAT IT READS IS OF BULK AT MOST 1048576: true; the input reads as it did. -/
def lockFairUptoRow : OpenClaim := { program := "ytenemdpjhoebpaa", sum := "1f1eddac098e0b6f8233b773dff2579c75e7a90fd9449cbb7cfb593ee411b470", func := "stanchion/stanchionlaw10.LockFair", spec := "lockFair", unfollowed := true, recurses := true, apart := false, narrowed := true }
def LockFairUptoSaid : Prop := lockFairUptoRow.holds Try.pinned (OpenSpec.upto lockFairSpec)

end Rows
end Go.Proofs.Ytenemdpjhoebpaa
