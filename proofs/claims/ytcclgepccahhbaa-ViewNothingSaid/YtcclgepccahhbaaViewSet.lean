/- Contract: view.Set. -/
import Derived.Test.YtcclgepccahhbaaView
import Derived.Test.YtcclgepccahhbaaGrow
import Derived.Test.YtcclgepccahhbaaHeldL
import Derived.Deep.Cut
namespace Go.Proofs.Ytcclgepccahhbaa
set_option maxRecDepth 100000
open Go.RowKit Prm Vm
set_option linter.unusedVariables false
set_option linter.unusedSimpArgs false

/-- what Set asks of place. -/
def PlaceAt (A : Option Addr) (n c : Nat) (l : List Wr) (xk : ByteArray) (at_ : Nat) (is : Bool) : Prop := ∀ (W : World) (B : Nat), B < W.heap.size → W.cell? ⟨B, 0, none⟩ = some (.string xk) → Lst writeK W A n l →
  Calls Try.prog 26 #[.slice A n c, .func (.func 35) #[] #[.pointer (some ⟨B, 0, none⟩)]] W fun e w' => e = .returned (.tuple #[.int .i64 at_, .bool is]) ∧ Q W w'
theorem xbox (w : World) (xk xv : ByteArray) (xd : Bool) : (w.alloc (.cells #[.string xk, .string xv, .bool xd] 24)).cell? ⟨w.heap.size, 0, none⟩ = some (.string xk) ∧ (w.alloc (.cells #[.string xk, .string xv, .bool xd] 24)).cell? ⟨w.heap.size, 1, none⟩ = some (.string xv) ∧ (w.alloc (.cells #[.string xk, .string xv, .bool xd] 24)).cell? ⟨w.heap.size, 2, none⟩ = some (.bool xd) :=
  ⟨by simp [World.cell?_alloc_at, World.cell?_alloc_past], by simp [World.cell?_alloc_at, World.cell?_alloc_past], by simp [World.cell?_alloc_at, World.cell?_alloc_past]⟩

end Go.Proofs.Ytcclgepccahhbaa
