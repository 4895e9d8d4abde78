/- Boxes of two cells; a struct of two slices. -/
import Derived.Test.YtbclamfpoigneaaKind
import Derived.Test.YtbclamfpoigneaaBox
namespace Go.Proofs.Ytbclamfpoigneaa
set_option maxRecDepth 100000
open Go.RowKit
set_option linter.unusedVariables false

abbrev staV (A : Option Addr) (n c : Nat) (B : Option Addr) (m d : Nat) : Value := .agg #[.slice A n c, .slice B m d]
theorem Bx.get2 {w : World} {b : Nat} {x y : Value} (h : Bx w b [x, y]) : (w.cell? ⟨b, 0, none⟩ = some x ∧ w.cell? ⟨b, 1, none⟩ = some y) ∧ w.frozen? ⟨b, 0, none⟩ = false ∧ w.frozen? ⟨b, 1, none⟩ = false :=
  ⟨⟨(h 0 _ rfl).1, (h 1 _ rfl).1⟩, (h 0 _ rfl).2, (h 1 _ rfl).2⟩
theorem Bx.set2 {w : World} {b : Nat} {x y : Value} (h : Bx w b [x, y]) (x' y' : Value) : Bx ((w.setCell ⟨b, 0, none⟩ x').setCell ⟨b, 1, none⟩ y') b [x', y'] :=
  (h.set (k := 0) (by simp) x').set (k := 1) (by simp) y'
theorem Bx.far2 {w : World} {b c : Nat} {vs : List Value} (h : Bx w b vs) (hc : c ≠ b) (x' y' : Value) : Bx ((w.setCell ⟨c, 0, none⟩ x').setCell ⟨c, 1, none⟩ y') b vs :=
  (h.far (p := ⟨c, 0, none⟩) hc x').far (p := ⟨c, 1, none⟩) hc y'
theorem Q.set2 {a w : World} (h : Q a w) {b : Nat} (hb : a.heap.size ≤ b) (x y : Value) : Q a ((w.setCell ⟨b, 0, none⟩ x).setCell ⟨b, 1, none⟩ y) := (h.setCell (p := ⟨b, 0, none⟩) hb x).setCell (p := ⟨b, 1, none⟩) hb y
theorem OwnK.set2 {α : Type} {K : Kind α} {w : World} {base n c : Nat} {A : Option Addr} {l : List α} (h : OwnK K w base A n c l) {b : Nat} (hp : b < base) (x y : Value) : OwnK K ((w.setCell ⟨b, 0, none⟩ x).setCell ⟨b, 1, none⟩ y) base A n c l :=
  (h.setCell (p := ⟨b, 0, none⟩) hp x).setCell (p := ⟨b, 1, none⟩) hp y
end Go.Proofs.Ytbclamfpoigneaa
