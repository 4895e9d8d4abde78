/- What comes in: a span. -/
import Derived.Test.YtenemdpjhoebpaaSpanRef
import Derived.Test.YtenemdpjhoebpaaFlat
namespace Go.Proofs.Ytenemdpjhoebpaa
set_option maxRecDepth 100000
open Go.ChangeShapes Go.WideShapes Go.RowKit Prm Sm
set_option linter.unusedVariables false
set_option linter.unusedSimpArgs false

theorem open_want {w : World} {cs : List Value} (h : Rd w 27 cs) : ∃ x : Wn, cs = [.int .i64 x.mode, .string x.lo, .string x.hi] ∧ x.lo.size ≤ 140737488351232 ∧ x.hi.size ≤ 140737488351232 ∧ -9223372036854775808 ≤ x.mode ∧ x.mode ≤ 9223372036854775807 := by
  obtain ⟨hl, hf⟩ := h.struct Try.underlying27
  rw [show Try.prog.cellsOf 27 = 3 by kernel_rfl] at hl
  match cs, hl with
  | [a, b, x], _ =>
    obtain ⟨k, e0, r0⟩ := (h.field Try.underlying27 0 (ty := 3) 0 1 rfl (by kernel_rfl)).int Try.underlying3
    obtain ⟨lo, e1, r1⟩ := (h.field Try.underlying27 1 (ty := 9) 1 1 rfl (by kernel_rfl)).string Try.underlying9
    obtain ⟨hi, e2, r2⟩ := (h.field Try.underlying27 2 (ty := 9) 2 1 rfl (by kernel_rfl)).string Try.underlying9
    simp at e0 e1 e2
    subst e0 e1 e2
    exact ⟨⟨k, lo, hi⟩, rfl, r1, r2, (wf_i64 r0).1, (wf_i64 r0).2⟩
theorem wns {x : Wn} (h1 : x.lo.size ≤ 140737488351232) (h2 : x.hi.size ≤ 140737488351232) : WnS x := ⟨by unfold maxLen; omega, by unfold maxLen; omega⟩
end Go.Proofs.Ytenemdpjhoebpaa
