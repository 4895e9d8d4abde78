/-
  No cell of these rows narrows 'for every input' (looked for: loops, veiled, ifaces, maps, wideKeys, modest, calm, conditions, laid).
  DERIVED. THE GIVEN ROWS OF THIS SEAT. 5 by the template 'for every input the law returns true; each argument reads behind the call as it read before'; 0 by the template 'total and deterministic' (their statements: YtbclamfpoigneaaTotals.lean).
  GIVEN WITH THE SEED: the statements are not yours to turn. If you find one false, say at which input.
  Laid BY PROGRAM, IN A SANDBOX (cutbox-rows.mjs): the forced cells as the released guide's own fill.sh prints them over the translation b173c7261c4fd4ef… (all of the seat's roots in one cut). By AI agents, Wed Nov 11 2026. No macro, syntax, notation, axiom, sorry.
-/
import Derived.Test.YtbclamfpoigneaaChecked
import GoSem.Claim
import GoSem.ClaimJoined
import GoSem.ClaimMapViews
import Derived.JoinedTies
import Derived.KernelRfl
namespace Go.Proofs.Ytbclamfpoigneaa
/- THE CELL 'sum', in the pinned program and in every row, IS THE sha256 OF THE DUMP (.gsa) THAT YtbclamfpoigneaaProg.lean LOADS. Nothing in Lean hashes anything: it is a label: what it is worth is what the hold of that sum in a sandbox is worth. -/
noncomputable def Try.pinned : Pinned := { name := "ytbclamfpoigneaa", sum := "b173c7261c4fd4ef63ffaa3ed44f0603f066eae9fd84d0f97d1c91e0baf3f525", checked := Try.checked }
namespace Rows
def none {H : Type} : Left H := { results := [], args := [] }

/-- 'stanchionlaw15.AlarmActs': WHATEVER THE INPUT: true; the input reads as it did. -/
def alarmActsSpec : ChangeSpec := { name := "alarmActs", fn := fun _ => fun
  | [d] => { results := [.lit (.bool true)], args := [d] }
  | _ => none }
def alarmActsRow : OpenClaim := { program := "ytbclamfpoigneaa", sum := "b173c7261c4fd4ef63ffaa3ed44f0603f066eae9fd84d0f97d1c91e0baf3f525", func := "stanchion/stanchionlaw15.AlarmActs", spec := "alarmActs", apart := false }
def AlarmActsSaid : Prop := alarmActsRow.holds Try.pinned (OpenSpec.ofChange alarmActsSpec)

/-- ITS FALSE NEIGHBOUR: 'it returns false'. Refute it at one input. -/
def alarmActsWrong : ChangeSpec := { name := "alarmActs", fn := fun _ => fun
  | [d] => { results := [.lit (.bool false)], args := [d] }
  | _ => none }
def AlarmActsWrongFalsely : Prop := alarmActsRow.holds Try.pinned (OpenSpec.ofChange alarmActsWrong)

/-- 'stanchionlaw15.AlarmStays': WHATEVER THE INPUT: true; the input reads as it did. -/
def alarmStaysSpec : ChangeSpec := { name := "alarmStays", fn := fun _ => fun
  | [d] => { results := [.lit (.bool true)], args := [d] }
  | _ => none }
def alarmStaysRow : OpenClaim := { program := "ytbclamfpoigneaa", sum := "b173c7261c4fd4ef63ffaa3ed44f0603f066eae9fd84d0f97d1c91e0baf3f525", func := "stanchion/stanchionlaw15.AlarmStays", spec := "alarmStays", apart := false }
def AlarmStaysSaid : Prop := alarmStaysRow.holds Try.pinned (OpenSpec.ofChange alarmStaysSpec)

/-- ITS FALSE NEIGHBOUR: 'it returns false'. Refute it at one input. -/
def alarmStaysWrong : ChangeSpec := { name := "alarmStays", fn := fun _ => fun
  | [d] => { results := [.lit (.bool false)], args := [d] }
  | _ => none }
def AlarmStaysWrongFalsely : Prop := alarmStaysRow.holds Try.pinned (OpenSpec.ofChange alarmStaysWrong)

/-- 'stanchionlaw15.AlarmSorts': WHATEVER THE INPUT: true; the input reads as it did. -/
def alarmSortsSpec : ChangeSpec := { name := "alarmSorts", fn := fun _ => fun
  | [d] => { results := [.lit (.bool true)], args := [d] }
  | _ => none }
def alarmSortsRow : OpenClaim := { program := "ytbclamfpoigneaa", sum := "b173c7261c4fd4ef63ffaa3ed44f0603f066eae9fd84d0f97d1c91e0baf3f525", func := "stanchion/stanchionlaw15.AlarmSorts", spec := "alarmSorts", apart := false }
def AlarmSortsSaid : Prop := alarmSortsRow.holds Try.pinned (OpenSpec.ofChange alarmSortsSpec)

/-- ITS FALSE NEIGHBOUR: 'it returns false'. Refute it at one input. -/
def alarmSortsWrong : ChangeSpec := { name := "alarmSorts", fn := fun _ => fun
  | [d] => { results := [.lit (.bool false)], args := [d] }
  | _ => none }
def AlarmSortsWrongFalsely : Prop := alarmSortsRow.holds Try.pinned (OpenSpec.ofChange alarmSortsWrong)

/-- 'stanchionlaw15.AlarmDues': WHATEVER THE INPUT: true; the input reads as it did. -/
def alarmDuesSpec : ChangeSpec := { name := "alarmDues", fn := fun _ => fun
  | [d1, d2, d3] => { results := [.lit (.bool true)], args := [d1, d2, d3] }
  | _ => none }
def alarmDuesRow : OpenClaim := { program := "ytbclamfpoigneaa", sum := "b173c7261c4fd4ef63ffaa3ed44f0603f066eae9fd84d0f97d1c91e0baf3f525", func := "stanchion/stanchionlaw15.AlarmDues", spec := "alarmDues", apart := false }
def AlarmDuesSaid : Prop := alarmDuesRow.holds Try.pinned (OpenSpec.ofChange alarmDuesSpec)

/-- ITS FALSE NEIGHBOUR: 'it returns false'. Refute it at one input. -/
def alarmDuesWrong : ChangeSpec := { name := "alarmDues", fn := fun _ => fun
  | [d1, d2, d3] => { results := [.lit (.bool false)], args := [d1, d2, d3] }
  | _ => none }
def AlarmDuesWrongFalsely : Prop := alarmDuesRow.holds Try.pinned (OpenSpec.ofChange alarmDuesWrong)

/-- 'stanchionlaw15.AlarmFirst': WHATEVER THE INPUT: true; the input reads as it did. -/
def alarmFirstSpec : ChangeSpec := { name := "alarmFirst", fn := fun _ => fun
  | [d] => { results := [.lit (.bool true)], args := [d] }
  | _ => none }
def alarmFirstRow : OpenClaim := { program := "ytbclamfpoigneaa", sum := "b173c7261c4fd4ef63ffaa3ed44f0603f066eae9fd84d0f97d1c91e0baf3f525", func := "stanchion/stanchionlaw15.AlarmFirst", spec := "alarmFirst", apart := false }
def AlarmFirstSaid : Prop := alarmFirstRow.holds Try.pinned (OpenSpec.ofChange alarmFirstSpec)

/-- ITS FALSE NEIGHBOUR: 'it returns false'. Refute it at one input. -/
def alarmFirstWrong : ChangeSpec := { name := "alarmFirst", fn := fun _ => fun
  | [d] => { results := [.lit (.bool false)], args := [d] }
  | _ => none }
def AlarmFirstWrongFalsely : Prop := alarmFirstRow.holds Try.pinned (OpenSpec.ofChange alarmFirstWrong)

/- THE SECOND FORM. 'bulk': how many values and letters a reading holds, each counted each time it is reached (what is shared counts as often as it is met; a slice's spare places count too). A statement '..UptoSaid' is the law's where the arguments, and the package variables that the reading takes, are together of bulk at most 1048576: NARROWER than '..Said'. Prove '..Said' where nothing that the law and all that it calls make is longer than what came in: it says more and counts as full. Else prove '..UptoSaid'. A law counts once. -/
mutual
def uptoBulk {H : Type} : DataW H → Nat
  | .lit (.string bytes) => bytes.length + 1
  | .lit _ => 1
  | .nil => 1
  | .ptr d => uptoBulk d + 1
  | .slice elems spare => uptoBulkAll elems + uptoBulkAll spare + 1
  | .agg parts => uptoBulkAll parts + 1
  | .iface _ d => uptoBulk d + 1
  | .map entries => uptoBulkEntries entries + 1
  | .held _ => 1
def uptoBulkAll {H : Type} : List (DataW H) → Nat
  | [] => 0
  | d :: r => uptoBulk d + uptoBulkAll r
def uptoBulkEntries {H : Type} : List (Lit × DataW H) → Nat
  | [] => 0
  | x :: r => uptoBulkEntry x + uptoBulkEntries r
def uptoBulkEntry {H : Type} : Lit × DataW H → Nat
  | (.string bytes, d) => bytes.length + uptoBulk d + 1
  | (_, d) => uptoBulk d + 1
 end
def uptoSmall : (H : Type) → List (DataW H) → Bool := fun _ ds => decide (uptoBulkAll ds ≤ 1048576)
def OpenSpec.upto (s : _root_.Go.ChangeSpec) : _root_.Go.OpenSpec := { _root_.Go.OpenSpec.ofChange s with cond := some uptoSmall }

/-- 'stanchionlaw15.AlarmActs', WHERE WHAT IT READS IS OF BULK AT MOST 1048576: true; the input reads as it did. -/
def alarmActsUptoRow : OpenClaim := { program := "ytbclamfpoigneaa", sum := "b173c7261c4fd4ef63ffaa3ed44f0603f066eae9fd84d0f97d1c91e0baf3f525", func := "stanchion/stanchionlaw15.AlarmActs", spec := "alarmActs", apart := false, narrowed := true }
def AlarmActsUptoSaid : Prop := alarmActsUptoRow.holds Try.pinned (OpenSpec.upto alarmActsSpec)

/-- 'stanchionlaw15.AlarmStays', WHERE WHAT IT READS IS OF BULK AT MOST 1048576: true; the input reads as it did. -/
def alarmStaysUptoRow : OpenClaim := { program := "ytbclamfpoigneaa", sum := "b173c7261c4fd4ef63ffaa3ed44f0603f066eae9fd84d0f97d1c91e0baf3f525", func := "stanchion/stanchionlaw15.AlarmStays", spec := "alarmStays", apart := false, narrowed := true }
def AlarmStaysUptoSaid : Prop := alarmStaysUptoRow.holds Try.pinned (OpenSpec.upto alarmStaysSpec)

/-- 'stanchionlaw15.AlarmSorts', WHERE WHAT IT READS IS OF BULK AT MOST 1048576: true; the input reads as it did. -/
def alarmSortsUptoRow : OpenClaim := { program := "ytbclamfpoigneaa", sum := "b173c7261c4fd4ef63ffaa3ed44f0603f066eae9fd84d0f97d1c91e0baf3f525", func := "stanchion/stanchionlaw15.AlarmSorts", spec := "alarmSorts", apart := false, narrowed := true }
def AlarmSortsUptoSaid : Prop := alarmSortsUptoRow.holds Try.pinned (OpenSpec.upto alarmSortsSpec)

/-- 'stanchionlaw15.AlarmDues', WHERE WHAT IT READS IS OF BULK AT MOST 1048576: true; the input reads as it did. -/
def alarmDuesUptoRow : OpenClaim := { program := "ytbclamfpoigneaa", sum := "b173c7261c4fd4ef63ffaa3ed44f0603f066eae9fd84d0f97d1c91e0baf3f525", func := "stanchion/stanchionlaw15.AlarmDues", spec := "alarmDues", apart := false, narrowed := true }
def AlarmDuesUptoSaid : Prop := alarmDuesUptoRow.holds Try.pinned (OpenSpec.upto alarmDuesSpec)

/-- 'stanchionlaw15.AlarmFirst', WHERE WHAT IT READS IS OF BULK AT MOST 1048576: true; the input reads as it did. -/
def alarmFirstUptoRow : OpenClaim := { program := "ytbclamfpoigneaa", sum := "b173c7261c4fd4ef63ffaa3ed44f0603f066eae9fd84d0f97d1c91e0baf3f525", func := "stanchion/stanchionlaw15.AlarmFirst", spec := "alarmFirst", apart := false, narrowed := true }
def AlarmFirstUptoSaid : Prop := alarmFirstUptoRow.holds Try.pinned (OpenSpec.upto alarmFirstSpec)

end Rows
end Go.Proofs.Ytbclamfpoigneaa
