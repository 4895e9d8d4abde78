/-
  NARROWER THAN 'FOR EVERY INPUT', by the rows' own cells (each row's printed sentence says how): WireReqs: laid · WireReplies: laid · WireBack: laid · WireCut: laid · WireApart: laid.
  DERIVED. THE GIVEN ROWS OF THIS SEAT. 5 by the template 'for every input the law returns true; each argument reads behind the call as it read before'; 0 by the template 'total and deterministic' (their statements: YtdipikdebapmlaaDoorTotals.lean).
  GIVEN WITH THE SEED: the statements are not yours to turn. If you find one false, say at which input.
  Laid BY PROGRAM, IN A SANDBOX (cutbox-rows.mjs): the forced cells as the released guide's own fill.sh prints them over the translation a72b603fb86ad075… (all of the seat's roots in one cut). By AI agents, Wed Nov 11 2026. No macro, syntax, notation, axiom, sorry.
-/
import Derived.Test.YtdipikdebapmlaaDoorChecked
import GoSem.Claim
import GoSem.ClaimJoined
import GoSem.ClaimMapViews
import Derived.JoinedTies
import Derived.KernelRfl
namespace Go.Proofs.YtdipikdebapmlaaDoor
/- THE CELL 'sum', in the pinned program and in every row, IS THE sha256 OF THE DUMP (.gsa) THAT YtdipikdebapmlaaDoorProg.lean LOADS. Nothing in Lean hashes anything: it is a label: what it is worth is what the hold of that sum in a sandbox is worth. -/
noncomputable def Tryd.pinned : Pinned := { name := "ytdipikdebapmlaadoor", sum := "a72b603fb86ad07552b103885d117a6ec300c3407799722f180e0ea98131315e", checked := Tryd.checked }
namespace Rows
def none {H : Type} : Left H := { results := [], args := [] }

/- WHAT THE LISTED PACKAGE-LEVEL VARIABLES READ AS WHEN THE CALL BEGINS. Each datum BY PROGRAM (the guide's laid-datum.mjs) off the statement by which the dump's own 'gosem.cut.vars' lays the variable. In a bare row this is a premise. The card (YtdipikdebapmlaaDoorCards.lean) ties it to the program's text. -/
def laid_errors_errorType {H : Type} : DataW H := .iface "internal/reflectlite.rtype" (.agg [.ptr (.lit (.string [101, 114, 114, 111, 114]))])
def laid_stanchion_wire_errOdd {H : Type} : DataW H := .iface "*errors.errorString" (.ptr (.agg [.lit (.string [116, 104, 101, 32, 98, 121, 116, 101, 115, 32, 97, 114, 101, 32, 111, 100, 100])]))
def laid_stanchion_wire_errLong {H : Type} : DataW H := .iface "*errors.errorString" (.ptr (.agg [.lit (.string [116, 104, 101, 32, 98, 121, 116, 101, 115, 32, 97, 114, 101, 32, 116, 111, 111, 32, 109, 97, 110, 121])]))

/-- 'stanchionlaw16.WireReqs': WHATEVER THE INPUT: true; the input reads as it did. -/
def wireReqsSpec : ChangeSpec := { name := "wireReqs", fn := fun _ => fun
  | [d1, d2] => { results := [.lit (.bool true)], args := [d1, d2] }
  | _ => none }
def wireReqsRow : OpenClaim := { program := "ytdipikdebapmlaadoor", sum := "a72b603fb86ad07552b103885d117a6ec300c3407799722f180e0ea98131315e", func := "stanchion/stanchionlaw16.WireReqs", spec := "wireReqs", inPlace := ["internal/abi.NoEscape", "internal/reflectlite.ValueOf", "(internal/reflectlite.Value).Type", "(internal/reflectlite.Value).IsNil", "internal/reflectlite.TypeOf", "(internal/reflectlite.Value).Elem", "(internal/reflectlite.Value).Set"], unfollowed := true, recurses := true, named := ["stanchion/wire.errLong", "stanchion/wire.errOdd", "errors.errorType"], apart := false, laid := [("errors.errorType", laid_errors_errorType), ("stanchion/wire.errOdd", laid_stanchion_wire_errOdd), ("stanchion/wire.errLong", laid_stanchion_wire_errLong)] }
def WireReqsSaid : Prop := wireReqsRow.holds Tryd.pinned (OpenSpec.ofChange wireReqsSpec)

/-- ITS FALSE NEIGHBOUR: 'it returns false'. Refute it at one input. -/
def wireReqsWrong : ChangeSpec := { name := "wireReqs", fn := fun _ => fun
  | [d1, d2] => { results := [.lit (.bool false)], args := [d1, d2] }
  | _ => none }
def WireReqsWrongFalsely : Prop := wireReqsRow.holds Tryd.pinned (OpenSpec.ofChange wireReqsWrong)

/-- 'stanchionlaw16.WireReplies': WHATEVER THE INPUT: true; the input reads as it did. -/
def wireRepliesSpec : ChangeSpec := { name := "wireReplies", fn := fun _ => fun
  | [d1, d2, d3] => { results := [.lit (.bool true)], args := [d1, d2, d3] }
  | _ => none }
def wireRepliesRow : OpenClaim := { program := "ytdipikdebapmlaadoor", sum := "a72b603fb86ad07552b103885d117a6ec300c3407799722f180e0ea98131315e", func := "stanchion/stanchionlaw16.WireReplies", spec := "wireReplies", inPlace := ["internal/abi.NoEscape", "internal/reflectlite.ValueOf", "(internal/reflectlite.Value).Type", "(internal/reflectlite.Value).IsNil", "internal/reflectlite.TypeOf", "(internal/reflectlite.Value).Elem", "(internal/reflectlite.Value).Set"], unfollowed := true, recurses := true, named := ["stanchion/wire.errOdd", "errors.errorType"], apart := false, laid := [("errors.errorType", laid_errors_errorType), ("stanchion/wire.errOdd", laid_stanchion_wire_errOdd)] }
def WireRepliesSaid : Prop := wireRepliesRow.holds Tryd.pinned (OpenSpec.ofChange wireRepliesSpec)

/-- ITS FALSE NEIGHBOUR: 'it returns false'. Refute it at one input. -/
def wireRepliesWrong : ChangeSpec := { name := "wireReplies", fn := fun _ => fun
  | [d1, d2, d3] => { results := [.lit (.bool false)], args := [d1, d2, d3] }
  | _ => none }
def WireRepliesWrongFalsely : Prop := wireRepliesRow.holds Tryd.pinned (OpenSpec.ofChange wireRepliesWrong)

/-- 'stanchionlaw16.WireBack': WHATEVER THE INPUT: true; the input reads as it did. -/
def wireBackSpec : ChangeSpec := { name := "wireBack", fn := fun _ => fun
  | [d1, d2] => { results := [.lit (.bool true)], args := [d1, d2] }
  | _ => none }
def wireBackRow : OpenClaim := { program := "ytdipikdebapmlaadoor", sum := "a72b603fb86ad07552b103885d117a6ec300c3407799722f180e0ea98131315e", func := "stanchion/stanchionlaw16.WireBack", spec := "wireBack", inPlace := ["internal/abi.NoEscape", "internal/reflectlite.ValueOf", "(internal/reflectlite.Value).Type", "(internal/reflectlite.Value).IsNil", "internal/reflectlite.TypeOf", "(internal/reflectlite.Value).Elem", "(internal/reflectlite.Value).Set"], unfollowed := true, recurses := true, named := ["stanchion/wire.errLong", "stanchion/wire.errOdd", "errors.errorType"], apart := false, laid := [("errors.errorType", laid_errors_errorType), ("stanchion/wire.errOdd", laid_stanchion_wire_errOdd), ("stanchion/wire.errLong", laid_stanchion_wire_errLong)] }
def WireBackSaid : Prop := wireBackRow.holds Tryd.pinned (OpenSpec.ofChange wireBackSpec)

/-- ITS FALSE NEIGHBOUR: 'it returns false'. Refute it at one input. -/
def wireBackWrong : ChangeSpec := { name := "wireBack", fn := fun _ => fun
  | [d1, d2] => { results := [.lit (.bool false)], args := [d1, d2] }
  | _ => none }
def WireBackWrongFalsely : Prop := wireBackRow.holds Tryd.pinned (OpenSpec.ofChange wireBackWrong)

/-- 'stanchionlaw16.WireCut': WHATEVER THE INPUT: true; the input reads as it did. -/
def wireCutSpec : ChangeSpec := { name := "wireCut", fn := fun _ => fun
  | [d1, d2, d3] => { results := [.lit (.bool true)], args := [d1, d2, d3] }
  | _ => none }
def wireCutRow : OpenClaim := { program := "ytdipikdebapmlaadoor", sum := "a72b603fb86ad07552b103885d117a6ec300c3407799722f180e0ea98131315e", func := "stanchion/stanchionlaw16.WireCut", spec := "wireCut", inPlace := ["internal/abi.NoEscape", "internal/reflectlite.ValueOf", "(internal/reflectlite.Value).Type", "(internal/reflectlite.Value).IsNil", "internal/reflectlite.TypeOf", "(internal/reflectlite.Value).Elem", "(internal/reflectlite.Value).Set"], unfollowed := true, recurses := true, named := ["stanchion/wire.errLong", "stanchion/wire.errOdd", "errors.errorType"], apart := false, laid := [("errors.errorType", laid_errors_errorType), ("stanchion/wire.errOdd", laid_stanchion_wire_errOdd), ("stanchion/wire.errLong", laid_stanchion_wire_errLong)] }
def WireCutSaid : Prop := wireCutRow.holds Tryd.pinned (OpenSpec.ofChange wireCutSpec)

/-- ITS FALSE NEIGHBOUR: 'it returns false'. Refute it at one input. -/
def wireCutWrong : ChangeSpec := { name := "wireCut", fn := fun _ => fun
  | [d1, d2, d3] => { results := [.lit (.bool false)], args := [d1, d2, d3] }
  | _ => none }
def WireCutWrongFalsely : Prop := wireCutRow.holds Tryd.pinned (OpenSpec.ofChange wireCutWrong)

/-- 'stanchionlaw16.WireApart': WHATEVER THE INPUT: true; the input reads as it did. -/
def wireApartSpec : ChangeSpec := { name := "wireApart", fn := fun _ => fun
  | [d1, d2, d3] => { results := [.lit (.bool true)], args := [d1, d2, d3] }
  | _ => none }
def wireApartRow : OpenClaim := { program := "ytdipikdebapmlaadoor", sum := "a72b603fb86ad07552b103885d117a6ec300c3407799722f180e0ea98131315e", func := "stanchion/stanchionlaw16.WireApart", spec := "wireApart", inPlace := ["internal/abi.NoEscape", "internal/reflectlite.ValueOf", "(internal/reflectlite.Value).Type", "(internal/reflectlite.Value).IsNil", "internal/reflectlite.TypeOf", "(internal/reflectlite.Value).Elem", "(internal/reflectlite.Value).Set"], unfollowed := true, recurses := true, named := ["stanchion/wire.errLong", "stanchion/wire.errOdd", "errors.errorType"], apart := false, laid := [("errors.errorType", laid_errors_errorType), ("stanchion/wire.errOdd", laid_stanchion_wire_errOdd), ("stanchion/wire.errLong", laid_stanchion_wire_errLong)] }
def WireApartSaid : Prop := wireApartRow.holds Tryd.pinned (OpenSpec.ofChange wireApartSpec)

/-- ITS FALSE NEIGHBOUR: 'it returns false'. Refute it at one input. -/
def wireApartWrong : ChangeSpec := { name := "wireApart", fn := fun _ => fun
  | [d1, d2, d3] => { results := [.lit (.bool false)], args := [d1, d2, d3] }
  | _ => none }
def WireApartWrongFalsely : Prop := wireApartRow.holds Tryd.pinned (OpenSpec.ofChange wireApartWrong)

/- THE SECOND FORM. 'bulk': how many values and letters a reading holds, each counted each time it is reached (what is shared counts as often as it is met; a slice's spare places count too). A statement '..UptoSaid' is the law's where the arguments, and the package variables that the reading takes, are together of bulk at most 1048576: NARROWER than '..Said'. Prove '..Said' where nothing that the law and all that it calls make is longer than what came in: it says more and counts as full. Else prove '..UptoSaid'. A law counts once. -/
mutual
def uptoBulk {H : Type} : DataW H → Nat
  | .lit (.string bytes) => bytes.length + 1
  | .lit _ => 1
  | .nil => 1
  | .ptr d => uptoBulk d + 1
  | .slice elems spare => uptoBulkAll elems + uptoBulkAll spare + 1
  | .agg parts => uptoBulkAll parts + 1
  | .iface _ d => uptoBulk d + 1
  | .map entries => uptoBulkEntries entries + 1
  | .held _ => 1
def uptoBulkAll {H : Type} : List (DataW H) → Nat
  | [] => 0
  | d :: r => uptoBulk d + uptoBulkAll r
def uptoBulkEntries {H : Type} : List (Lit × DataW H) → Nat
  | [] => 0
  | x :: r => uptoBulkEntry x + uptoBulkEntries r
def uptoBulkEntry {H : Type} : Lit × DataW H → Nat
  | (.string bytes, d) => bytes.length + uptoBulk d + 1
  | (_, d) => uptoBulk d + 1
 end
def uptoSmall : (H : Type) → List (DataW H) → Bool := fun _ ds => decide (uptoBulkAll ds ≤ 1048576)
def OpenSpec.upto (s : _root_.Go.ChangeSpec) : _root_.Go.OpenSpec := { _root_.Go.OpenSpec.ofChange s with cond := some uptoSmall }

/-- 'stanchionlaw16.WireReqs', WHERE WHAT IT READS IS OF BULK AT MOST 1048576: true; the input reads as it did. -/
def wireReqsUptoRow : OpenClaim := { program := "ytdipikdebapmlaadoor", sum := "a72b603fb86ad07552b103885d117a6ec300c3407799722f180e0ea98131315e", func := "stanchion/stanchionlaw16.WireReqs", spec := "wireReqs", inPlace := ["internal/abi.NoEscape", "internal/reflectlite.ValueOf", "(internal/reflectlite.Value).Type", "(internal/reflectlite.Value).IsNil", "internal/reflectlite.TypeOf", "(internal/reflectlite.Value).Elem", "(internal/reflectlite.Value).Set"], unfollowed := true, recurses := true, named := ["stanchion/wire.errLong", "stanchion/wire.errOdd", "errors.errorType"], apart := false, laid := [("errors.errorType", laid_errors_errorType), ("stanchion/wire.errOdd", laid_stanchion_wire_errOdd), ("stanchion/wire.errLong", laid_stanchion_wire_errLong)], narrowed := true }
def WireReqsUptoSaid : Prop := wireReqsUptoRow.holds Tryd.pinned (OpenSpec.upto wireReqsSpec)

/-- 'stanchionlaw16.WireReplies', WHERE WHAT IT READS IS OF BULK AT MOST 1048576: true; the input reads as it did. -/
def wireRepliesUptoRow : OpenClaim := { program := "ytdipikdebapmlaadoor", sum := "a72b603fb86ad07552b103885d117a6ec300c3407799722f180e0ea98131315e", func := "stanchion/stanchionlaw16.WireReplies", spec := "wireReplies", inPlace := ["internal/abi.NoEscape", "internal/reflectlite.ValueOf", "(internal/reflectlite.Value).Type", "(internal/reflectlite.Value).IsNil", "internal/reflectlite.TypeOf", "(internal/reflectlite.Value).Elem", "(internal/reflectlite.Value).Set"], unfollowed := true, recurses := true, named := ["stanchion/wire.errOdd", "errors.errorType"], apart := false, laid := [("errors.errorType", laid_errors_errorType), ("stanchion/wire.errOdd", laid_stanchion_wire_errOdd)], narrowed := true }
def WireRepliesUptoSaid : Prop := wireRepliesUptoRow.holds Tryd.pinned (OpenSpec.upto wireRepliesSpec)

/-- 'stanchionlaw16.WireBack', WHERE WHAT IT READS IS OF BULK AT MOST 1048576: true; the input reads as it did. -/
def wireBackUptoRow : OpenClaim := { program := "ytdipikdebapmlaadoor", sum := "a72b603fb86ad07552b103885d117a6ec300c3407799722f180e0ea98131315e", func := "stanchion/stanchionlaw16.WireBack", spec := "wireBack", inPlace := ["internal/abi.NoEscape", "internal/reflectlite.ValueOf", "(internal/reflectlite.Value).Type", "(internal/reflectlite.Value).IsNil", "internal/reflectlite.TypeOf", "(internal/reflectlite.Value).Elem", "(internal/reflectlite.Value).Set"], unfollowed := true, recurses := true, named := ["stanchion/wire.errLong", "stanchion/wire.errOdd", "errors.errorType"], apart := false, laid := [("errors.errorType", laid_errors_errorType), ("stanchion/wire.errOdd", laid_stanchion_wire_errOdd), ("stanchion/wire.errLong", laid_stanchion_wire_errLong)], narrowed := true }
def WireBackUptoSaid : Prop := wireBackUptoRow.holds Tryd.pinned (OpenSpec.upto wireBackSpec)

/-- 'stanchionlaw16.WireCut', WHERE WHAT IT READS IS OF BULK AT MOST 1048576: true; the input reads as it did. -/
def wireCutUptoRow : OpenClaim := { program := "ytdipikdebapmlaadoor", sum := "a72b603fb86ad07552b103885d117a6ec300c3407799722f180e0ea98131315e", func := "stanchion/stanchionlaw16.WireCut", spec := "wireCut", inPlace := ["internal/abi.NoEscape", "internal/reflectlite.ValueOf", "(internal/reflectlite.Value).Type", "(internal/reflectlite.Value).IsNil", "internal/reflectlite.TypeOf", "(internal/reflectlite.Value).Elem", "(internal/reflectlite.Value).Set"], unfollowed := true, recurses := true, named := ["stanchion/wire.errLong", "stanchion/wire.errOdd", "errors.errorType"], apart := false, laid := [("errors.errorType", laid_errors_errorType), ("stanchion/wire.errOdd", laid_stanchion_wire_errOdd), ("stanchion/wire.errLong", laid_stanchion_wire_errLong)], narrowed := true }
def WireCutUptoSaid : Prop := wireCutUptoRow.holds Tryd.pinned (OpenSpec.upto wireCutSpec)

/-- 'stanchionlaw16.WireApart', WHERE WHAT IT READS IS OF BULK AT MOST 1048576: true; the input reads as it did. -/
def wireApartUptoRow : OpenClaim := { program := "ytdipikdebapmlaadoor", sum := "a72b603fb86ad07552b103885d117a6ec300c3407799722f180e0ea98131315e", func := "stanchion/stanchionlaw16.WireApart", spec := "wireApart", inPlace := ["internal/abi.NoEscape", "internal/reflectlite.ValueOf", "(internal/reflectlite.Value).Type", "(internal/reflectlite.Value).IsNil", "internal/reflectlite.TypeOf", "(internal/reflectlite.Value).Elem", "(internal/reflectlite.Value).Set"], unfollowed := true, recurses := true, named := ["stanchion/wire.errLong", "stanchion/wire.errOdd", "errors.errorType"], apart := false, laid := [("errors.errorType", laid_errors_errorType), ("stanchion/wire.errOdd", laid_stanchion_wire_errOdd), ("stanchion/wire.errLong", laid_stanchion_wire_errLong)], narrowed := true }
def WireApartUptoSaid : Prop := wireApartUptoRow.holds Tryd.pinned (OpenSpec.upto wireApartSpec)

end Rows
end Go.Proofs.YtdipikdebapmlaaDoor
