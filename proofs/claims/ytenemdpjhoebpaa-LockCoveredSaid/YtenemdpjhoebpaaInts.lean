/- Integers as a kind of elements. -/
import Derived.Test.YtenemdpjhoebpaaKind
namespace Go.Proofs.Ytenemdpjhoebpaa
set_option maxRecDepth 100000
open Go.RowKit
set_option linter.unusedVariables false
set_option linter.unusedSimpArgs false

def numK : Kind Int where
  T := 3
  S := 40
  k := 1
  bs := 8
  z := .int .i64 0
  row := fun r => [.int .i64 r]
  pos := by omega
  bpos := by omega
  len := fun _ => rfl
  one := fun _ u hu => by simp at hu; rcases hu with rfl; rfl
  und := Try.underlying40
  info := by kernel_rfl
  zc := rfl
theorem numK_rows (l : List Int) : numK.rows l = l.map (Value.int .i64) := by
  induction l with
  | nil => rfl
  | cons a l ih => rw [Kind.rows, ih]; rfl
theorem lst_lit1 (w : World) (x : Int) : Lst numK (w.alloc (.cells #[.int .i64 x] 3)) (some ⟨w.heap.size, 0, none⟩) 1 [x] :=
  (OwnK.lit1 numK w w.heap.size (Nat.le_refl _) x).lst
end Go.Proofs.Ytenemdpjhoebpaa
