/- Contracts: lists of files of the call's own: a clone, a file that is set. -/
import Derived.Test.YtlbjobbmjccekaaDiskFind
import Derived.Maps.AppendAt
import Derived.Laws.AppendOwnNone
namespace Go.Proofs.Ytlbjobbmjccekaa
set_option maxRecDepth 100000
open Go.RowKit Dkm
set_option linter.unusedVariables false

/-- A slice of files as it comes in. -/
structure Dsk (w : World) (A : Option Addr) (n c : Nat) (l : List Fil) : Prop where
  files : Files w A n l
  nil : A = none → n = 0 ∧ c = 0
  le : n ≤ c
  cap : c ≤ maxLen
  few : n * 48 ≤ 140737488355328

theorem Dsk.len {w : World} {A : Option Addr} {n c : Nat} {l : List Fil} (h : Dsk w A n c l) : l.length = n := h.files.len
theorem Dsk.q {w w' : World} {A : Option Addr} {n c : Nat} {l : List Fil} (h : Dsk w A n c l) (hq : Q w w') : Dsk w' A n c l := ⟨h.files.q hq, h.nil, h.le, h.cap, h.few⟩
theorem Dsk.max {w : World} {A : Option Addr} {n c : Nat} {l : List Fil} (h : Dsk w A n c l) : n ≤ maxLen := Nat.le_trans h.le h.cap

theorem rows_set (l : List Fil) (k : Nat) (h : k < l.length) (f : Fil) : (((rows l).set (k * 3) (.string f.nm)).set (k * 3 + 1) (.string f.sf)).set (k * 3 + 2) (.string f.wt) = rows (l.set k f) := by
  induction l generalizing k with
  | nil => simp at h
  | cons g l ih =>
    cases k with
    | zero => simp [rows, Fil.row]
    | succ k =>
      have e := ih k (by simpa using h)
      have e0 : (k + 1) * 3 = k * 3 + 3 := by omega
      simp only [rows, List.set_cons_succ, Fil.row, e0, List.cons_append, List.nil_append, ← e]

end Go.Proofs.Ytlbjobbmjccekaa
