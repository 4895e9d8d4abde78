/- What comes in: lists of pairs and of writes. -/
import Derived.Test.YtcclgepccahhbaaKindIn
import Derived.Test.YtcclgepccahhbaaPair
import Derived.Test.YtcclgepccahhbaaTableRef5
import Derived.Test.YtcclgepccahhbaaTableShown
namespace Go.Proofs.Ytcclgepccahhbaa
set_option maxRecDepth 100000
open Go.ChangeShapes Go.WideShapes Go.RowKit Prm
set_option linter.unusedVariables false

def PrIn (p : Pr) : Prop := p.key.size ≤ 140737488351232 ∧ p.val.size ≤ 140737488351232
def WrIn (p : Wr) : Prop := p.key.size ≤ 140737488351232 ∧ p.val.size ≤ 140737488351232
theorem open_pair {w : World} {cs : List Value} (h : Rd w 44 cs) : ∃ p : Pr, cs = pairK.row p ∧ PrIn p := by
  obtain ⟨hl, hf⟩ := h.struct Try.underlying44
  rw [show Try.prog.cellsOf 44 = 2 by kernel_rfl] at hl
  match cs, hl with
  | [a, b], _ =>
    obtain ⟨s0, e0, r0⟩ := (h.field Try.underlying44 0 (ty := 9) 0 1 rfl (by kernel_rfl)).string Try.underlying9
    obtain ⟨s1, e1, r1⟩ := (h.field Try.underlying44 1 (ty := 9) 1 1 rfl (by kernel_rfl)).string Try.underlying9
    simp at e0 e1
    subst e0 e1
    exact ⟨⟨s0, s1⟩, rfl, r0, r1⟩
theorem open_pairs {w : World} {cs : List Value} (h : Rd w 31 cs) : ∃ A n c l, cs = [.slice A n c] ∧ In_ pairK w A n c l ∧ n * 32 ≤ 140737488351232 ∧ ∀ p ∈ l, PrIn p :=
  open_kind pairK PrIn (fun cs hc => open_pair hc) (by kernel_rfl) (by kernel_rfl) h
theorem open_write {w : World} {cs : List Value} (h : Rd w 24 cs) : ∃ p : Wr, cs = writeK.row p ∧ WrIn p := by
  obtain ⟨hl, hf⟩ := h.struct Try.underlying24
  rw [show Try.prog.cellsOf 24 = 3 by kernel_rfl] at hl
  match cs, hl with
  | [a, b, c], _ =>
    obtain ⟨s0, e0, r0⟩ := (h.field Try.underlying24 0 (ty := 9) 0 1 rfl (by kernel_rfl)).string Try.underlying9
    obtain ⟨s1, e1, r1⟩ := (h.field Try.underlying24 1 (ty := 9) 1 1 rfl (by kernel_rfl)).string Try.underlying9
    obtain ⟨s2, e2⟩ := (h.field Try.underlying24 2 (ty := 4) 2 1 rfl (by kernel_rfl)).bool Try.underlying4
    simp at e0 e1 e2
    subst e0 e1 e2
    exact ⟨⟨s0, s1, s2⟩, rfl, r0, r1⟩
theorem open_writes {w : World} {cs : List Value} (h : Rd w 22 cs) : ∃ A n c l, cs = [.slice A n c] ∧ In_ writeK w A n c l ∧ n * 40 ≤ 140737488351232 ∧ ∀ p ∈ l, WrIn p :=
  open_kind writeK WrIn (fun cs hc => open_write hc) (by kernel_rfl) (by kernel_rfl) h
theorem keys_in {l : List Pr} (h : ∀ p ∈ l, PrIn p) : KeysIn l := fun p hp => by have := (h p hp).1; unfold maxLen; omega
theorem wkeys_in {l : List Wr} (h : ∀ p ∈ l, WrIn p) : WKeysIn l := fun p hp => by have := (h p hp).1; unfold maxLen; omega
end Go.Proofs.Ytcclgepccahhbaa
