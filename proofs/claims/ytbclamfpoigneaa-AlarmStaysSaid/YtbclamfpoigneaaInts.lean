/- Integers as a kind of elements. -/
import Derived.Test.YtbclamfpoigneaaKind
namespace Go.Proofs.Ytbclamfpoigneaa
set_option maxRecDepth 100000
open Go.RowKit
set_option linter.unusedVariables false
set_option linter.unusedSimpArgs false

def numK : Kind Int where
  T := 3
  S := 33
  k := 1
  bs := 8
  z := .int .i64 0
  row := fun r => [.int .i64 r]
  pos := by omega
  bpos := by omega
  len := fun _ => rfl
  one := fun _ u hu => by simp at hu; rcases hu with rfl; rfl
  und := Try.underlying33
  info := by kernel_rfl
  zc := rfl
theorem numK_rows (l : List Int) : numK.rows l = l.map (Value.int .i64) := by
  induction l with
  | nil => rfl
  | cons a l ih => rw [Kind.rows, ih]; rfl
theorem lst_lit1 (w : World) (x : Int) : Lst numK (w.alloc (.cells #[.int .i64 x] 3)) (some ⟨w.heap.size, 0, none⟩) 1 [x] :=
  (OwnK.lit1 numK w w.heap.size (Nat.le_refl _) x).lst
theorem load_num {w : World} {A : Option Addr} {n : Nat} {l : List Int} (h : Lst numK w A n l) {k : Nat} (hk : k < n) (hl : k < l.length) :
    ∃ ad, A = some ad ∧ ad.block < w.heap.size ∧ w.cell? (ad.add k) = some (.int .i64 l[k]) := by
  obtain ⟨ad, e, hb, hc⟩ := h.load hk hl
  refine ⟨ad, e, hb, ?_⟩
  have := hc 0 _ rfl
  rwa [show k * numK.k = k from Nat.mul_one k] at this
end Go.Proofs.Ytbclamfpoigneaa
