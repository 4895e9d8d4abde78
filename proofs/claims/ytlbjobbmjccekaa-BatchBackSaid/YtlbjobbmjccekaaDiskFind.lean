/- Contracts: the place of a file, and the file, in the program and in the document's answer. -/
import Derived.Test.YtlbjobbmjccekaaFiles
namespace Go.Proofs.Ytlbjobbmjccekaa
set_option maxRecDepth 100000
open Go.RowKit Dkm
set_option linter.unusedVariables false

abbrev dkv (A : Option Addr) (n c : Nat) (room fuse : Int) (off : Bool) : Value := .agg #[.slice A n c, .int .i64 room, .int .i64 fuse, .bool off]

end Go.Proofs.Ytlbjobbmjccekaa
