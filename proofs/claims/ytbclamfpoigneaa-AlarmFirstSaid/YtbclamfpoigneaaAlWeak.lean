/- What the calls of package alarm answer, as weakly as the laws want it; the document's calls so. -/
import Derived.Test.YtbclamfpoigneaaAlRefDue
import Derived.Test.YtbclamfpoigneaaAlRefDrop
import Derived.Test.YtbclamfpoigneaaAlRefHeap
namespace Go.Proofs.Ytbclamfpoigneaa
set_option maxRecDepth 100000
open Go.RowKit
set_option linter.unusedVariables false
set_option linter.unusedSimpArgs false
namespace Am
def RetPw (w : World) (h : List Al) (e : Ending) (w' : World) : Prop :=
  ∃ A c, e = .returned (.tuple #[.slice A (popR h).length c, alV (g h 0), .bool (decide (0 < h.length))]) ∧ In_ alK w' A (popR h).length c (popR h) ∧ Q w w'
def RetDw (w : World) (x : List Al × List Int) (e : Ending) (w' : World) : Prop :=
  ∃ A c B d, e = .returned (.tuple #[.slice A x.1.length c, .slice B x.2.length d]) ∧ In_ alK w' A x.1.length c x.1 ∧ Lst numK w' B x.2.length x.2 ∧ Q w w'
/-- the same, and that what is left of a row lies in memory of the call's own. -/
def RetPs (w : World) (h : List Al) (e : Ending) (w' : World) : Prop :=
  ∃ A c, e = .returned (.tuple #[.slice A (popR h).length c, alV (g h 0), .bool (decide (0 < h.length))]) ∧ In_ alK w' A (popR h).length c (popR h) ∧ (0 < h.length → ∀ ad, A = some ad → w.heap.size ≤ ad.block ∧ ad.block < w'.heap.size) ∧ Q w w'
theorem retPs_w {w : World} {h : List Al} {e : Ending} {w' : World} : RetPs w h e w' → RetPw w h e w' := fun ⟨A, c, he, hi, _, q⟩ => ⟨A, c, he, hi, q⟩
theorem retP_w {w : World} {h : List Al} {e : Ending} {w' : World} : RetP w h e w' → RetPw w h e w' := fun ⟨A, c, he, hi, _, q⟩ => ⟨A, c, he, hi, q⟩
theorem retD_w {w : World} {x : List Al × List Int} {e : Ending} {w' : World} : RetD w x e w' → RetDw w x e w' := fun ⟨A, c, B, d, he, hi, ho, q⟩ => ⟨A, c, B, d, he, hi, ho.lst, q⟩
theorem retL_i {w : World} {n : Nat} {l : List Al} (hn : n ≤ 1000000) {e : Ending} {w' : World} : RetL alK w n l e w' → RetI alK w l e w' := fun ⟨A, c, he, ho, q⟩ => by
  have hl := ho.len
  subst hl
  exact ⟨A, c, he, ho.in_ (by show _ * 16 ≤ _; omega), q⟩
theorem due_len : ∀ (n : Nat) (h : List Al) (now : Nat), (due n h now).1.length + (due n h now).2.length = h.length
  | 0, h, now => by simp [due]
  | n + 1, h, now => by
    unfold due
    split
    · rename_i hc
      have := due_len n (popR h) now
      have := popR_len h
      simp only [List.length_cons]
      omega
    · simp
end Am
end Go.Proofs.Ytbclamfpoigneaa
