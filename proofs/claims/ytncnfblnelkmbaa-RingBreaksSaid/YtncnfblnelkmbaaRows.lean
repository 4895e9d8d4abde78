/-
  No cell of these rows narrows 'for every input' (looked for: loops, veiled, ifaces, maps, wideKeys, modest, calm, conditions, laid).
  DERIVED. THE GIVEN ROWS OF THIS SEAT. 5 by the template 'for every input the law returns true; each argument reads behind the call as it read before'; 0 by the template 'total and deterministic' (their statements: YtncnfblnelkmbaaTotals.lean).
  GIVEN WITH THE SEED: the statements are not yours to turn. If you find one false, say at which input.
  Laid BY PROGRAM, IN A SANDBOX (cutbox-rows.mjs): the forced cells as the released guide's own fill.sh prints them over the translation abc87b1b9fecbb0a… (all of the seat's roots in one cut). By AI agents, Wed Nov 11 2026. No macro, syntax, notation, axiom, sorry.
-/
import Derived.Test.YtncnfblnelkmbaaChecked
import GoSem.Claim
import GoSem.ClaimJoined
import GoSem.ClaimMapViews
import Derived.JoinedTies
import Derived.KernelRfl
namespace Go.Proofs.Ytncnfblnelkmbaa
/- THE CELL 'sum', in the pinned program and in every row, IS THE sha256 OF THE DUMP (.gsa) THAT YtncnfblnelkmbaaProg.lean LOADS. Nothing in Lean hashes anything: it is a label: what it is worth is what the hold of that sum in a sandbox is worth. -/
noncomputable def Try.pinned : Pinned := { name := "ytncnfblnelkmbaa", sum := "abc87b1b9fecbb0aa39f667e49ad691ed7265c6e26cbc59ef4f77827ec607c9b", checked := Try.checked }
namespace Rows
def none {H : Type} : Left H := { results := [], args := [] }

/-- 'stanchionlaw11.RingTells': WHATEVER THE INPUT: true; the input reads as it did. -/
def ringTellsSpec : ChangeSpec := { name := "ringTells", fn := fun _ => fun
  | [d1, d2] => { results := [.lit (.bool true)], args := [d1, d2] }
  | _ => none }
def ringTellsRow : OpenClaim := { program := "ytncnfblnelkmbaa", sum := "abc87b1b9fecbb0aa39f667e49ad691ed7265c6e26cbc59ef4f77827ec607c9b", func := "stanchion/stanchionlaw11.RingTells", spec := "ringTells", unfollowed := true, recurses := true, apart := false }
def RingTellsSaid : Prop := ringTellsRow.holds Try.pinned (OpenSpec.ofChange ringTellsSpec)

/-- ITS FALSE NEIGHBOUR: 'it returns false'. Refute it at one input. -/
def ringTellsWrong : ChangeSpec := { name := "ringTells", fn := fun _ => fun
  | [d1, d2] => { results := [.lit (.bool false)], args := [d1, d2] }
  | _ => none }
def RingTellsWrongFalsely : Prop := ringTellsRow.holds Try.pinned (OpenSpec.ofChange ringTellsWrong)

/-- 'stanchionlaw11.RingSame': WHATEVER THE INPUT: true; the input reads as it did. -/
def ringSameSpec : ChangeSpec := { name := "ringSame", fn := fun _ => fun
  | [d1, d2] => { results := [.lit (.bool true)], args := [d1, d2] }
  | _ => none }
def ringSameRow : OpenClaim := { program := "ytncnfblnelkmbaa", sum := "abc87b1b9fecbb0aa39f667e49ad691ed7265c6e26cbc59ef4f77827ec607c9b", func := "stanchion/stanchionlaw11.RingSame", spec := "ringSame", unfollowed := true, recurses := true, apart := false }
def RingSameSaid : Prop := ringSameRow.holds Try.pinned (OpenSpec.ofChange ringSameSpec)

/-- ITS FALSE NEIGHBOUR: 'it returns false'. Refute it at one input. -/
def ringSameWrong : ChangeSpec := { name := "ringSame", fn := fun _ => fun
  | [d1, d2] => { results := [.lit (.bool false)], args := [d1, d2] }
  | _ => none }
def RingSameWrongFalsely : Prop := ringSameRow.holds Try.pinned (OpenSpec.ofChange ringSameWrong)

/-- 'stanchionlaw11.RingBreaks': WHATEVER THE INPUT: true; the input reads as it did. -/
def ringBreaksSpec : ChangeSpec := { name := "ringBreaks", fn := fun _ => fun
  | [d1, d2, d3] => { results := [.lit (.bool true)], args := [d1, d2, d3] }
  | _ => none }
def ringBreaksRow : OpenClaim := { program := "ytncnfblnelkmbaa", sum := "abc87b1b9fecbb0aa39f667e49ad691ed7265c6e26cbc59ef4f77827ec607c9b", func := "stanchion/stanchionlaw11.RingBreaks", spec := "ringBreaks", unfollowed := true, recurses := true, apart := false }
def RingBreaksSaid : Prop := ringBreaksRow.holds Try.pinned (OpenSpec.ofChange ringBreaksSpec)

/-- ITS FALSE NEIGHBOUR: 'it returns false'. Refute it at one input. -/
def ringBreaksWrong : ChangeSpec := { name := "ringBreaks", fn := fun _ => fun
  | [d1, d2, d3] => { results := [.lit (.bool false)], args := [d1, d2, d3] }
  | _ => none }
def RingBreaksWrongFalsely : Prop := ringBreaksRow.holds Try.pinned (OpenSpec.ofChange ringBreaksWrong)

/-- 'stanchionlaw11.RingNone': WHATEVER THE INPUT: true; the input reads as it did. -/
def ringNoneSpec : ChangeSpec := { name := "ringNone", fn := fun _ => fun
  | [d1, d2] => { results := [.lit (.bool true)], args := [d1, d2] }
  | _ => none }
def ringNoneRow : OpenClaim := { program := "ytncnfblnelkmbaa", sum := "abc87b1b9fecbb0aa39f667e49ad691ed7265c6e26cbc59ef4f77827ec607c9b", func := "stanchion/stanchionlaw11.RingNone", spec := "ringNone", unfollowed := true, recurses := true, apart := false }
def RingNoneSaid : Prop := ringNoneRow.holds Try.pinned (OpenSpec.ofChange ringNoneSpec)

/-- ITS FALSE NEIGHBOUR: 'it returns false'. Refute it at one input. -/
def ringNoneWrong : ChangeSpec := { name := "ringNone", fn := fun _ => fun
  | [d1, d2] => { results := [.lit (.bool false)], args := [d1, d2] }
  | _ => none }
def RingNoneWrongFalsely : Prop := ringNoneRow.holds Try.pinned (OpenSpec.ofChange ringNoneWrong)

/-- 'stanchionlaw11.RingVictim': WHATEVER THE INPUT: true; the input reads as it did. -/
def ringVictimSpec : ChangeSpec := { name := "ringVictim", fn := fun _ => fun
  | [d1, d2] => { results := [.lit (.bool true)], args := [d1, d2] }
  | _ => none }
def ringVictimRow : OpenClaim := { program := "ytncnfblnelkmbaa", sum := "abc87b1b9fecbb0aa39f667e49ad691ed7265c6e26cbc59ef4f77827ec607c9b", func := "stanchion/stanchionlaw11.RingVictim", spec := "ringVictim", unfollowed := true, recurses := true, apart := false }
def RingVictimSaid : Prop := ringVictimRow.holds Try.pinned (OpenSpec.ofChange ringVictimSpec)

/-- ITS FALSE NEIGHBOUR: 'it returns false'. Refute it at one input. -/
def ringVictimWrong : ChangeSpec := { name := "ringVictim", fn := fun _ => fun
  | [d1, d2] => { results := [.lit (.bool false)], args := [d1, d2] }
  | _ => none }
def RingVictimWrongFalsely : Prop := ringVictimRow.holds Try.pinned (OpenSpec.ofChange ringVictimWrong)

/- THE SECOND FORM. 'bulk': how many values and letters a reading holds, each counted each time it is reached (what is shared counts as often as it is met; a slice's spare places count too). A statement '..UptoSaid' is the law's where the arguments, and the package variables that the reading takes, are together of bulk at most 1048576: NARROWER than '..Said'. Prove '..Said' where nothing that the law and all that it calls make is longer than what came in: it says more and counts as full. Else prove '..UptoSaid'. A law counts once. -/
mutual
def uptoBulk {H : Type} : DataW H → Nat
  | .lit (.string bytes) => bytes.length + 1
  | .lit _ => 1
  | .nil => 1
  | .ptr d => uptoBulk d + 1
  | .slice elems spare => uptoBulkAll elems + uptoBulkAll spare + 1
  | .agg parts => uptoBulkAll parts + 1
  | .iface _ d => uptoBulk d + 1
  | .map entries => uptoBulkEntries entries + 1
  | .held _ => 1
def uptoBulkAll {H : Type} : List (DataW H) → Nat
  | [] => 0
  | d :: r => uptoBulk d + uptoBulkAll r
def uptoBulkEntries {H : Type} : List (Lit × DataW H) → Nat
  | [] => 0
  | x :: r => uptoBulkEntry x + uptoBulkEntries r
def uptoBulkEntry {H : Type} : Lit × DataW H → Nat
  | (.string bytes, d) => bytes.length + uptoBulk d + 1
  | (_, d) => uptoBulk d + 1
 end
def uptoSmall : (H : Type) → List (DataW H) → Bool := fun _ ds => decide (uptoBulkAll ds ≤ 1048576)
def OpenSpec.upto (s : _root_.Go.ChangeSpec) : _root_.Go.OpenSpec := { _root_.Go.OpenSpec.ofChange s with cond := some uptoSmall }

/-- 'stanchionlaw11.RingTells', WHERE WHAT IT READS IS OF BULK AT MOST 1048576: true; the input reads as it did. -/
def ringTellsUptoRow : OpenClaim := { program := "ytncnfblnelkmbaa", sum := "abc87b1b9fecbb0aa39f667e49ad691ed7265c6e26cbc59ef4f77827ec607c9b", func := "stanchion/stanchionlaw11.RingTells", spec := "ringTells", unfollowed := true, recurses := true, apart := false, narrowed := true }
def RingTellsUptoSaid : Prop := ringTellsUptoRow.holds Try.pinned (OpenSpec.upto ringTellsSpec)

/-- 'stanchionlaw11.RingSame', WHERE WHAT IT READS IS OF BULK AT MOST 1048576: true; the input reads as it did. -/
def ringSameUptoRow : OpenClaim := { program := "ytncnfblnelkmbaa", sum := "abc87b1b9fecbb0aa39f667e49ad691ed7265c6e26cbc59ef4f77827ec607c9b", func := "stanchion/stanchionlaw11.RingSame", spec := "ringSame", unfollowed := true, recurses := true, apart := false, narrowed := true }
def RingSameUptoSaid : Prop := ringSameUptoRow.holds Try.pinned (OpenSpec.upto ringSameSpec)

/-- 'stanchionlaw11.RingBreaks', WHERE WHAT IT READS IS OF BULK AT MOST 1048576: true; the input reads as it did. -/
def ringBreaksUptoRow : OpenClaim := { program := "ytncnfblnelkmbaa", sum := "abc87b1b9fecbb0aa39f667e49ad691ed7265c6e26cbc59ef4f77827ec607c9b", func := "stanchion/stanchionlaw11.RingBreaks", spec := "ringBreaks", unfollowed := true, recurses := true, apart := false, narrowed := true }
def RingBreaksUptoSaid : Prop := ringBreaksUptoRow.holds Try.pinned (OpenSpec.upto ringBreaksSpec)

/-- 'stanchionlaw11.RingNone', WHERE WHAT IT READS IS OF BULK AT MOST 1048576: true; the input reads as it did. -/
def ringNoneUptoRow : OpenClaim := { program := "ytncnfblnelkmbaa", sum := "abc87b1b9fecbb0aa39f667e49ad691ed7265c6e26cbc59ef4f77827ec607c9b", func := "stanchion/stanchionlaw11.RingNone", spec := "ringNone", unfollowed := true, recurses := true, apart := false, narrowed := true }
def RingNoneUptoSaid : Prop := ringNoneUptoRow.holds Try.pinned (OpenSpec.upto ringNoneSpec)

/-- 'stanchionlaw11.RingVictim', WHERE WHAT IT READS IS OF BULK AT MOST 1048576: true; the input reads as it did. -/
def ringVictimUptoRow : OpenClaim := { program := "ytncnfblnelkmbaa", sum := "abc87b1b9fecbb0aa39f667e49ad691ed7265c6e26cbc59ef4f77827ec607c9b", func := "stanchion/stanchionlaw11.RingVictim", spec := "ringVictim", unfollowed := true, recurses := true, apart := false, narrowed := true }
def RingVictimUptoSaid : Prop := ringVictimUptoRow.holds Try.pinned (OpenSpec.upto ringVictimSpec)

end Rows
end Go.Proofs.Ytncnfblnelkmbaa
