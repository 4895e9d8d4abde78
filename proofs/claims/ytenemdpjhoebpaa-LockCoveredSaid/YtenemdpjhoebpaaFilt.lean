/- What a DeleteFunc makes of a list: plain mathematics. -/
import Derived.Test.YtenemdpjhoebpaaKindRow
import Derived.Test.YtenemdpjhoebpaaPairMath
namespace Go.Proofs.Ytenemdpjhoebpaa
set_option maxRecDepth 100000
open Go.RowKit Prm
set_option linter.unusedVariables false

theorem zero_kind {α : Type} (K : Kind α) : ∀ W, (zeroValue K.T).run Try.prog W = .ok K.z W := by
  obtain ⟨t, hi, hz, hs, hy⟩ := info_parts K.info
  intro W
  simp [zeroValue, typeInfo, hi, hz]
section
variable {α : Type} {P : α → Bool} {l cur : List α} {a b k : Nat}
/-- what stays. -/
def stay (P : α → Bool) (l : List α) : List α := l.filter fun x => !P x
theorem stay_all (h : ∀ a ∈ l, P a = false) : stay P l = l := List.filter_eq_self.2 fun a ha => by rw [h a ha]; rfl
theorem stay_first (hk : k < l.length) (h : P l[k] = true) (hf : ∀ j, ∀ hj : j < l.length, j < k → P l[j] = false) : stay P (l.take (k + 1)) = l.take k := by
  unfold stay
  rw [List.take_succ_eq_append_getElem hk, List.filter_append]
  have h1 : (l.take k).filter (fun x => !P x) = l.take k := List.filter_eq_self.2 fun a ha => by
    obtain ⟨j, hj, rfl⟩ := List.mem_iff_getElem.1 ha
    rw [List.length_take] at hj
    rw [List.getElem_take, hf j (by omega) (by omega)]; rfl
  rw [h1, List.filter_cons, h]; simp
theorem stay_keep (hb : b < l.length) (hab : a < b) (hc : cur.length = l.length) (h1 : cur.take a = stay P (l.take b)) (h2 : cur.drop b = l.drop b) (hk : P l[b] = false) :
    (cur.set a l[b]).take (a + 1) = stay P (l.take (b + 1)) ∧ (cur.set a l[b]).drop (b + 1) = l.drop (b + 1) := by
  unfold stay at *
  constructor
  · rw [List.take_succ_eq_append_getElem (by simp; omega), List.take_set_of_le (Nat.le_refl _), h1, List.getElem_set_self, List.take_succ_eq_append_getElem hb, List.filter_append, List.filter_cons, hk]
    simp
  · rw [List.drop_set_of_lt (by omega), ← List.drop_drop, ← List.drop_drop, h2]
theorem stay_skip (hb : b < l.length) (h1 : cur.take a = stay P (l.take b)) (h2 : cur.drop b = l.drop b) (hk : P l[b] = true) :
    cur.take a = stay P (l.take (b + 1)) ∧ cur.drop (b + 1) = l.drop (b + 1) := by
  unfold stay at *
  constructor
  · rw [h1, List.take_succ_eq_append_getElem hb, List.filter_append, List.filter_cons, hk]; simp
  · rw [← List.drop_drop, ← List.drop_drop, h2]
end
end Go.Proofs.Ytenemdpjhoebpaa
