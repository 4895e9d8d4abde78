/- What comes in: a list of a kind of elements, opened out of a reading. -/
import Derived.Test.YtbclamfpoigneaaFlat
import Derived.Test.YtbclamfpoigneaaKind
namespace Go.Proofs.Ytbclamfpoigneaa
set_option maxRecDepth 100000
open Go.ChangeShapes Go.WideShapes Go.RowKit
set_option linter.unusedVariables false

theorem Kind.rows_flat {α : Type} (K : Kind α) (l : List α) : K.rows l = l.flatMap K.row := by
  induction l with
  | nil => rfl
  | cons f l ih => rw [Kind.rows, ih, List.flatMap_cons]
theorem open_kind {α : Type} (K : Kind α) (P : α → Prop) {w : World} (hel : ∀ cs, Rd w K.T cs → ∃ a, cs = K.row a ∧ P a) (hby : Try.prog.bytesOf K.T = K.bs) (hce : Try.prog.cellsOf K.T = K.k) {cs : List Value} (h : Rd w K.S cs) :
    ∃ A n c l, cs = [.slice A n c] ∧ In_ K w A n c l ∧ n * K.bs ≤ 140737488351232 ∧ ∀ a ∈ l, P a := by
  rcases h.slice K.und with rfl | ⟨a, len, cap, rfl, hlc, hcm, hb, hi⟩
  · exact ⟨none, 0, 0, [], rfl, In_.none_ K w, by simp, by simp⟩
  · rw [hby] at hb
    rw [hce] at hi
    have hlb : len * K.bs ≤ cap * K.bs := Nat.mul_le_mul_right _ hlc
    obtain ⟨l, hl, hr⟩ := choose_list (R := fun i (f : α) => w.cells? 0 (a.add (i * K.k)) K.k = some (K.row f) ∧ P f) len (fun i hlt => by
      obtain ⟨cs', hc, hrd⟩ := hi i (by omega)
      obtain ⟨f, rfl, hf⟩ := hel cs' hrd
      exact ⟨f, hc, hf⟩)
    refine ⟨some a, len, cap, l, rfl, ⟨?_, fun e => by (cases e), hlc, hcm, by omega⟩, by omega, fun f hf => ?_⟩
    · have := holds_flat K.row K.k K.len w a l (fun i hi => (hr i hi).1)
      rw [hl, ← K.rows_flat] at this
      exact this
    · obtain ⟨i, hi, rfl⟩ := List.getElem_of_mem hf
      exact (hr i hi).2
theorem small_list {α : Type} {K : Kind α} {w : World} {A : Option Addr} {n c : Nat} {l : List α} (h : In_ K w A n c l) (hc : ∀ a, A = some a → c ≤ 1048576) : n ≤ 1048576 := by
  have := h.le
  cases A with
  | none => have := (h.nil rfl).1; omega
  | some a => have := hc a rfl; omega
end Go.Proofs.Ytbclamfpoigneaa
