/- Files in memory: a list of files as the cells of a slice; what is read of it. -/
import Derived.Test.YtlbjobbmjccekaaBase
import Derived.Test.YtlbjobbmjccekaaDiskMath
import Derived.Test.YtlbjobbmjccekaaMem
import Derived.Laws.IdiomStrings
import Derived.Laws.OwnMore
import Derived.Laws.Rows
import Derived.Deep.MidRow
import Derived.Deep.AppendLies
import Derived.Deep.Fields
import Derived.OwnWalk
namespace Go.Proofs.Ytlbjobbmjccekaa
set_option maxRecDepth 100000
open Go.RowKit Dkm
set_option linter.unusedVariables false

def Dkm.Fil.row (f : Fil) : List Value := [.string f.nm, .string f.sf, .string f.wt]
abbrev Dkm.Fil.val (f : Fil) : Value := .agg #[.string f.nm, .string f.sf, .string f.wt]
def rows : List Fil → List Value
  | [] => []
  | f :: l => f.row ++ rows l

theorem rows_length (l : List Fil) : (rows l).length = l.length * 3 := by
  induction l with
  | nil => rfl
  | cons f l ih => simp only [rows, List.length_append, ih, List.length_cons, Fil.row, List.length_nil]; omega
theorem rows_append (l m : List Fil) : rows (l ++ m) = rows l ++ rows m := by
  induction l with
  | nil => rfl
  | cons f l ih => simp [rows, ih]
theorem rows_at (l : List Fil) (k : Nat) (h : k < l.length) (j : Nat) (hj : j < 3) : (rows l)[k * 3 + j]? = (l[k]).row[j]? := by
  induction l generalizing k with
  | nil => simp at h
  | cons f l ih =>
    cases k with
    | zero =>
      simp only [rows, Nat.zero_mul, Nat.zero_add, List.getElem_cons_zero]
      exact List.getElem?_append_left (by simpa [Fil.row] using hj)
    | succ k =>
      simp only [rows, List.getElem_cons_succ]
      rw [List.getElem?_append_right (by simp [Fil.row]; omega), ← ih k (by simpa using h)]
      congr 1
      simp [Fil.row]; omega
theorem rows_one (l : List Fil) : ∀ u ∈ rows l, u.oneCell' = true := by
  induction l with
  | nil => simp [rows]
  | cons f l ih =>
    intro u hu
    rcases List.mem_append.1 hu with h | h
    · simp only [Fil.row, List.mem_cons, List.not_mem_nil, or_false] at h
      rcases h with rfl | rfl | rfl <;> rfl
    · exact ih u h

def Files (w : World) (A : Option Addr) (n : Nat) (l : List Fil) : Prop := Holds w w.heap.size 3 A n (rows l)
theorem Files.q {w w' : World} {A : Option Addr} {n : Nat} {l : List Fil} (h : Files w A n l) (hq : Q w w') : Files w' A n l := Holds.q h hq
theorem Files.len {w : World} {A : Option Addr} {n : Nat} {l : List Fil} (h : Files w A n l) : l.length = n := by
  have := h.1; rw [rows_length] at this; omega

/-- What a load of the file in place k reads. -/
theorem Files.load {w : World} {A : Option Addr} {n : Nat} {l : List Fil} (h : Files w A n l) {k : Nat} (hk : k < n) (hl : k < l.length) :
    ∃ ad, A = some ad ∧ ad.block < w.heap.size ∧ w.cell? (ad.add (k * 3)) = some (.string l[k].nm) ∧ w.cell? ⟨(ad.add (k * 3)).block, (ad.add (k * 3)).off + 1, none⟩ = some (.string l[k].sf) ∧
      w.cell? ⟨(ad.add (k * 3)).block, (ad.add (k * 3)).off + 2, none⟩ = some (.string l[k].wt) := by
  have h0 := h.2 (k * 3 + 0) _ (rows_at l k hl 0 (by omega))
  have h1 := h.2 (k * 3 + 1) _ (rows_at l k hl 1 (by omega))
  have h2 := h.2 (k * 3 + 2) _ (rows_at l k hl 2 (by omega))
  obtain ⟨ad, rfl, hb, c0⟩ := h0
  obtain ⟨_, e1, _, c1⟩ := h1
  obtain ⟨_, e2, _, c2⟩ := h2
  injection e1 with e1; subst e1
  injection e2 with e2; subst e2
  rw [← addr_add] at c1 c2
  exact ⟨ad, rfl, hb, c0, c1, c2⟩
end Go.Proofs.Ytlbjobbmjccekaa
