/- Pairs and writes in memory; contracts: the closures that find pairs, slices.IndexFunc, slices.Clone, table.Find, Between, Right, and the document's Less. -/
import Derived.Test.YtenemdpjhoebpaaKind
import Derived.Test.YtenemdpjhoebpaaPairMath
namespace Go.Proofs.Ytenemdpjhoebpaa
set_option maxRecDepth 100000
open Go.RowKit Prm
set_option linter.unusedVariables false

abbrev Prm.Pr.v (p : Pr) : Value := .agg #[.string p.key, .string p.val]
abbrev Prm.Wr.v (w : Wr) : Value := .agg #[.string w.key, .string w.val, .bool w.del]
/-- the walk's words for '>' and '>=' on texts. -/
theorem gtr_lt (a b : ByteArray) : (!(Op.bytesLess a.toList b.toList || a.toList == b.toList)) = lt b a := by
  rw [lt_data, same_str]
  by_cases h : a = b
  · subst h; simp [lt_irrefl]
  · cases k : lt a b with
    | true => simp [lt_asymm k]
    | false => simp [h, lt_tri h k]
theorem leq_lt (a b : ByteArray) : (Op.bytesLess a.toList b.toList || a.toList == b.toList) = !lt b a := by
  have := gtr_lt a b
  cases h : (Op.bytesLess a.toList b.toList || a.toList == b.toList) <;> rw [h] at this <;> simp at this <;> simp [this]

/-- a closure over one text that tells pairs. -/
def Tells (F : FuncId) (key : ByteArray) (P : Pr → Bool) : Prop := ∀ (p : Pr) (B : Nat) (w : World), B < w.heap.size → w.cell? ⟨B, 0, none⟩ = some (.string key) →
  Calls Try.prog F #[p.v, .pointer (some ⟨B, 0, none⟩)] w fun e w' => e = .returned (.bool (P p)) ∧ Q w w'

theorem empty_no {s : ByteArray} (h : ¬ s = ⟨#[]⟩) : s.toList ≠ [] ∧ s.toList.isEmpty = false ∧ (s.toList == []) = false := by
  have h1 : s.toList ≠ [] := by
    intro e
    have e1 : s.data.toList = [] := by simpa [ByteArray.toList_eq] using e
    exact h (ByteArray.ext (by simpa using e1))
  exact ⟨h1, by simpa using h1, by simpa using h1⟩
end Go.Proofs.Ytenemdpjhoebpaa
