/- Boxes: what lies in a block of three or four cells, and may be written (of any kind). -/
import Derived.Test.YtbclamfpoigneaaMem
namespace Go.Proofs.Ytbclamfpoigneaa
set_option maxRecDepth 100000
open Go.RowKit
set_option linter.unusedVariables false

/-- the cells of block b hold these values, and may be written. -/
def Bx (w : World) (b : Nat) (vs : List Value) : Prop := ∀ j v, vs[j]? = some v → w.cell? ⟨b, j, none⟩ = some v ∧ w.frozen? ⟨b, j, none⟩ = false

theorem Bx.new (w : World) (cs : List Value) (t : TypeId) : Bx (w.alloc (.cells cs.toArray t)) w.heap.size cs := fun j v h => by
  have e := heap_alloc_new w (.cells cs.toArray t)
  exact ⟨(cell_of_row _ _ j _ t (0, 0) e).trans (by simpa using h), frozen_of_row _ _ j _ t e⟩
theorem Bx.lt {w : World} {b : Nat} {v : Value} {vs : List Value} (h : Bx w b (v :: vs)) : b < w.heap.size := block_lt_of_cell (h 0 v rfl).1
theorem Bx.below {w w' : World} {b B : Nat} {vs : List Value} (h : Bx w b vs) (hb : Below B w w') (hB : b < B) : Bx w' b vs := fun j v hj =>
  ⟨(hb.cell (p := ⟨b, j, none⟩) hB).trans (h j v hj).1, (hb.frozen (p := ⟨b, j, none⟩) hB).trans (h j v hj).2⟩
theorem Bx.q {w w' : World} {b : Nat} {vs : List Value} (h : Bx w b vs) (hq : Q w w') : Bx w' b vs := fun j v hj => by
  have hb : b < w.heap.size := block_lt_of_cell (h j v hj).1
  exact ⟨(hq.below.cell (p := ⟨b, j, none⟩) hb).trans (h j v hj).1, (hq.below.frozen (p := ⟨b, j, none⟩) hb).trans (h j v hj).2⟩
theorem Bx.alloc {w : World} {b : Nat} {vs : List Value} (h : Bx w b vs) (o : Obj) : Bx (w.alloc o) b vs := h.q ((Q.refl _).alloc o)
theorem Bx.drew {w : World} {b : Nat} {vs : List Value} (h : Bx w b vs) : Bx w.drew b vs := h
theorem Bx.far {w : World} {b : Nat} {vs : List Value} (h : Bx w b vs) {p : Addr} (hp : p.block ≠ b) (u : Value) : Bx (w.setCell p u) b vs := fun j v hj =>
  ⟨(World.cell?_setCell_other _ _ _ _ (by rintro rfl; exact hp rfl)).trans (h j v hj).1, by rw [World.frozen?_setCell]; exact (h j v hj).2⟩
theorem Bx.set {w : World} {b : Nat} {vs : List Value} (h : Bx w b vs) {k : Nat} (hk : k < vs.length) (u : Value) : Bx (w.setCell ⟨b, k, none⟩ u) b (vs.set k u) := fun j v hj => by
  rw [World.frozen?_setCell]
  by_cases e : k = j
  · subst e
    rw [World.cell?_setCell_same _ _ _ (h k _ (List.getElem?_eq_getElem hk)).1]
    simp only [List.getElem?_set_self hk] at hj
    exact ⟨hj, (h k _ (List.getElem?_eq_getElem hk)).2⟩
  · rw [World.cell?_setCell_other _ _ _ _ (by intro he; injection he with _ he; exact e he)]
    rw [List.getElem?_set_ne e] at hj
    exact h j v hj
theorem Bx.put4 {w : World} {b : Nat} {x y z u : Value} (h : Bx w b [x, y, z, u]) (x' y' z' u' : Value) : Bx ((((w.setCell ⟨b, 0, none⟩ x').setCell ⟨b, 1, none⟩ y').setCell ⟨b, 2, none⟩ z').setCell ⟨b, 3, none⟩ u') b [x', y', z', u'] :=
  (((h.set (k := 0) (by simp) x').set (k := 1) (by simp) y').set (k := 2) (by simp) z').set (k := 3) (by simp) u'
theorem Bx.far4 {w : World} {b c : Nat} {vs : List Value} (h : Bx w b vs) (hc : c ≠ b) (x' y' z' u' : Value) : Bx ((((w.setCell ⟨c, 0, none⟩ x').setCell ⟨c, 1, none⟩ y').setCell ⟨c, 2, none⟩ z').setCell ⟨c, 3, none⟩ u') b vs :=
  (((h.far (p := ⟨c, 0, none⟩) hc x').far (p := ⟨c, 1, none⟩) hc y').far (p := ⟨c, 2, none⟩) hc z').far (p := ⟨c, 3, none⟩) hc u'
theorem Bx.get3 {w : World} {b : Nat} {x y z : Value} (h : Bx w b [x, y, z]) : (w.cell? ⟨b, 0, none⟩ = some x ∧ w.cell? ⟨b, 1, none⟩ = some y ∧ w.cell? ⟨b, 2, none⟩ = some z) ∧ w.frozen? ⟨b, 0, none⟩ = false ∧ w.frozen? ⟨b, 1, none⟩ = false ∧ w.frozen? ⟨b, 2, none⟩ = false :=
  ⟨⟨(h 0 _ rfl).1, (h 1 _ rfl).1, (h 2 _ rfl).1⟩, (h 0 _ rfl).2, (h 1 _ rfl).2, (h 2 _ rfl).2⟩
theorem Bx.get4 {w : World} {b : Nat} {x y z u : Value} (h : Bx w b [x, y, z, u]) : (w.cell? ⟨b, 0, none⟩ = some x ∧ w.cell? ⟨b, 1, none⟩ = some y ∧ w.cell? ⟨b, 2, none⟩ = some z ∧ w.cell? ⟨b, 3, none⟩ = some u) ∧
    w.frozen? ⟨b, 0, none⟩ = false ∧ w.frozen? ⟨b, 1, none⟩ = false ∧ w.frozen? ⟨b, 2, none⟩ = false ∧ w.frozen? ⟨b, 3, none⟩ = false :=
  ⟨⟨(h 0 _ rfl).1, (h 1 _ rfl).1, (h 2 _ rfl).1, (h 3 _ rfl).1⟩, (h 0 _ rfl).2, (h 1 _ rfl).2, (h 2 _ rfl).2, (h 3 _ rfl).2⟩
end Go.Proofs.Ytbclamfpoigneaa
