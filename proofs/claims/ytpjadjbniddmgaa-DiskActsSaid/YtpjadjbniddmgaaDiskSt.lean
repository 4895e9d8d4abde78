/- The state of a call that has taken a disk of its own: the variable's box, the result's box, the list. -/
import Derived.Test.YtpjadjbniddmgaaDiskMath2
import Derived.Test.YtpjadjbniddmgaaDiskArm
namespace Go.Proofs.Ytpjadjbniddmgaa
open Go.RowKit Dkm
set_option linter.unusedVariables false

structure St (w : World) (A1 : Option Addr) (n c1 : Nat) (room fuse : Int) (off : Bool) (l : List Fil) (wr : World) : Prop where
  own : Own wr (w.heap.size + 2) A1 n c1 l
  box : Bx wr w.heap.size [.slice A1 n c1, .int .i64 room, .int .i64 fuse, .bool off]
  res : Bx wr (w.heap.size + 1) [.slice none 0 0, .int .i64 0, .int .i64 0, .bool false]
  q : Q w wr

theorem St.new {w w1 : World} {A A1 : Option Addr} {n c n1 c1 : Nat} {room fuse room1 fuse1 : Int} {off off1 : Bool} {l : List Fil}
    (ho : Own w1 ((w.alloc (.cells #[.slice A n c, .int .i64 room, .int .i64 fuse, .bool off] 24)).alloc (.cells #[.slice none 0 0, .int .i64 0, .int .i64 0, .bool false] 24)).heap.size A1 n1 c1 l)
    (q1 : Q ((w.alloc (.cells #[.slice A n c, .int .i64 room, .int .i64 fuse, .bool off] 24)).alloc (.cells #[.slice none 0 0, .int .i64 0, .int .i64 0, .bool false] 24)) w1) :
    St w A1 n1 c1 room1 fuse1 off1 l ((((w1.setCell ⟨w.heap.size, 0, none⟩ (.slice A1 n1 c1)).setCell ⟨w.heap.size, 1, none⟩ (.int .i64 room1)).setCell ⟨w.heap.size, 2, none⟩ (.int .i64 fuse1)).setCell ⟨w.heap.size, 3, none⟩ (.bool off1)) := by
  have B0 := two_new w (.slice A n c) (.int .i64 room) (.int .i64 fuse) (.bool off) (.slice none 0 0) (.int .i64 0) (.int .i64 0) (.bool false) 24
  rw [size_two] at ho
  exact ⟨ho.set4 (b := w.heap.size) (by omega) _ _ _ _, (B0.1.q q1).put4 _ _ _ _, (B0.2.q q1).far4 (c := w.heap.size) (by omega) _ _ _ _, (((((Q.refl w).alloc _).alloc _).trans q1)).set4 (b := w.heap.size) (Nat.le_refl _) _ _ _ _⟩
theorem St.get0 {w w1 : World} {A : Option Addr} {n c : Nat} {room fuse : Int} {off : Bool}
    (q1 : Q ((w.alloc (.cells #[.slice A n c, .int .i64 room, .int .i64 fuse, .bool off] 24)).alloc (.cells #[.slice none 0 0, .int .i64 0, .int .i64 0, .bool false] 24)) w1) :
    (w1.cell? ⟨w.heap.size, 0, none⟩ = some (.slice A n c) ∧ w1.cell? ⟨w.heap.size, 1, none⟩ = some (.int .i64 room) ∧ w1.cell? ⟨w.heap.size, 2, none⟩ = some (.int .i64 fuse) ∧ w1.cell? ⟨w.heap.size, 3, none⟩ = some (.bool off)) ∧
    w1.frozen? ⟨w.heap.size, 0, none⟩ = false ∧ w1.frozen? ⟨w.heap.size, 1, none⟩ = false ∧ w1.frozen? ⟨w.heap.size, 2, none⟩ = false ∧ w1.frozen? ⟨w.heap.size, 3, none⟩ = false :=
  ((two_new w (.slice A n c) (.int .i64 room) (.int .i64 fuse) (.bool off) (.slice none 0 0) (.int .i64 0) (.int .i64 0) (.bool false) 24).1.q q1).get4

section
variable {w wr : World} {A1 : Option Addr} {n c1 : Nat} {room fuse : Int} {off : Bool} {l : List Fil}
theorem St.lt (h : St w A1 n c1 room fuse off l wr) : w.heap.size < wr.heap.size ∧ w.heap.size + 1 < wr.heap.size ∧ w.heap.size ≠ wr.heap.size ∧ w.heap.size + 1 ≠ wr.heap.size := by
  have := h.res.lt; omega
theorem St.step {w2 : World} (h : St w A1 n c1 room fuse off l wr) (hq : Q wr w2) : St w A1 n c1 room fuse off l w2 := ⟨h.own.q hq, h.box.q hq, h.res.q hq, h.q.trans hq⟩
theorem St.alloc (h : St w A1 n c1 room fuse off l wr) (o : Obj) : St w A1 n c1 room fuse off l (wr.alloc o) := h.step ((Q.refl _).alloc o)
theorem St.drewN (h : St w A1 n c1 room fuse off l wr) (k : Nat) : St w A1 n c1 room fuse off l (wr.drewN k) := h.step ((Q.refl _).drewN k)
theorem St.drew (h : St w A1 n c1 room fuse off l wr) : St w A1 n c1 room fuse off l wr.drew := h.step (Q.refl _).drew
theorem St.put (h : St w A1 n c1 room fuse off l wr) {k : Nat} (hk : k < 4) (u : Value) {A2 : Option Addr} {n2 c2 : Nat} {room2 fuse2 : Int} {off2 : Bool} {l2 : List Fil} (hv : [Value.slice A1 n c1, .int .i64 room, .int .i64 fuse, .bool off].set k u = [.slice A2 n2 c2, .int .i64 room2, .int .i64 fuse2, .bool off2]) (ho : Own wr (w.heap.size + 2) A2 n2 c2 l2) :
    St w A2 n2 c2 room2 fuse2 off2 l2 (wr.setCell ⟨w.heap.size, k, none⟩ u) :=
  ⟨ho.setCell (p := ⟨w.heap.size, k, none⟩) (by simp) u, by rw [← hv]; exact h.box.set (k := k) (by simpa using hk) u, h.res.far (p := ⟨w.heap.size, k, none⟩) (by simp) u, h.q.setCell (p := ⟨w.heap.size, k, none⟩) (Nat.le_refl _) u⟩
theorem St.setRoom (h : St w A1 n c1 room fuse off l wr) (x : Int) : St w A1 n c1 x fuse off l (wr.setCell ⟨w.heap.size, 1, none⟩ (.int .i64 x)) := h.put (k := 1) (by omega) _ rfl h.own
theorem St.setFuse (h : St w A1 n c1 room fuse off l wr) (x : Int) : St w A1 n c1 room x off l (wr.setCell ⟨w.heap.size, 2, none⟩ (.int .i64 x)) := h.put (k := 2) (by omega) _ rfl h.own
theorem St.setOff (h : St w A1 n c1 room fuse off l wr) (x : Bool) : St w A1 n c1 room fuse x l (wr.setCell ⟨w.heap.size, 3, none⟩ (.bool x)) := h.put (k := 3) (by omega) _ rfl h.own
/-- behind a call that wrote into the list alone. -/
theorem St.wrote {w2 : World} (h : St w A1 n c1 room fuse off l wr) {A2 : Option Addr} {n2 c2 : Nat} {l2 : List Fil} (ho : Own w2 (w.heap.size + 2) A2 n2 c2 l2) (hb : Below (w.heap.size + 2) wr w2) :
    St w A2 n2 c2 room fuse off l2 (w2.setCell ⟨w.heap.size, 0, none⟩ (.slice A2 n2 c2)) := by
  have hb0 : Bx w2 w.heap.size [.slice A1 n c1, .int .i64 room, .int .i64 fuse, .bool off] := h.box.below hb (by omega)
  have hr0 : Bx w2 (w.heap.size + 1) [.slice none 0 0, .int .i64 0, .int .i64 0, .bool false] := h.res.below hb (by omega)
  have hq : Q w w2 := h.q.below.trans (hb.mono (by omega))
  exact ⟨ho.setCell (p := ⟨w.heap.size, 0, none⟩) (by simp) _, hb0.set (k := 0) (by simp) _, hr0.far (p := ⟨w.heap.size, 0, none⟩) (by simp) _, hq.setCell (p := ⟨w.heap.size, 0, none⟩) (Nat.le_refl _) _⟩
theorem St.get (h : St w A1 n c1 room fuse off l wr) : ((wr.cell? ⟨w.heap.size, 0, none⟩ = some (.slice A1 n c1) ∧ wr.cell? ⟨w.heap.size, 1, none⟩ = some (.int .i64 room) ∧ wr.cell? ⟨w.heap.size, 2, none⟩ = some (.int .i64 fuse) ∧ wr.cell? ⟨w.heap.size, 3, none⟩ = some (.bool off)) ∧
    wr.frozen? ⟨w.heap.size, 0, none⟩ = false ∧ wr.frozen? ⟨w.heap.size, 1, none⟩ = false ∧ wr.frozen? ⟨w.heap.size, 2, none⟩ = false ∧ wr.frozen? ⟨w.heap.size, 3, none⟩ = false) := h.box.get4
theorem St.getR (h : St w A1 n c1 room fuse off l wr) : ((wr.cell? ⟨w.heap.size + 1, 0, none⟩ = some (.slice none 0 0) ∧ wr.cell? ⟨w.heap.size + 1, 1, none⟩ = some (.int .i64 0) ∧ wr.cell? ⟨w.heap.size + 1, 2, none⟩ = some (.int .i64 0) ∧ wr.cell? ⟨w.heap.size + 1, 3, none⟩ = some (.bool false)) ∧
    wr.frozen? ⟨w.heap.size + 1, 0, none⟩ = false ∧ wr.frozen? ⟨w.heap.size + 1, 1, none⟩ = false ∧ wr.frozen? ⟨w.heap.size + 1, 2, none⟩ = false ∧ wr.frozen? ⟨w.heap.size + 1, 3, none⟩ = false) := h.res.get4
/-- the end: the result's box has the disk. -/
theorem St.endD (h : St w A1 n c1 room fuse off l wr) (x y z u : Value) : RetD w ⟨l, room, fuse, off⟩ (.returned (dkv A1 n c1 room fuse off)) ((((wr.setCell ⟨w.heap.size + 1, 0, none⟩ x).setCell ⟨w.heap.size + 1, 1, none⟩ y).setCell ⟨w.heap.size + 1, 2, none⟩ z).setCell ⟨w.heap.size + 1, 3, none⟩ u) :=
  ⟨A1, n, c1, rfl, (h.own.set4 (b := w.heap.size + 1) (by omega) _ _ _ _).lower (by omega), h.q.set4 (b := w.heap.size + 1) (by omega) _ _ _ _⟩
theorem St.endDE (h : St w A1 n c1 room fuse off l wr) (er : Int) (x y z u : Value) : RetDE w ⟨l, room, fuse, off⟩ er (.returned (.tuple #[dkv A1 n c1 room fuse off, .int .i64 er])) ((((wr.setCell ⟨w.heap.size + 1, 0, none⟩ x).setCell ⟨w.heap.size + 1, 1, none⟩ y).setCell ⟨w.heap.size + 1, 2, none⟩ z).setCell ⟨w.heap.size + 1, 3, none⟩ u) :=
  ⟨A1, n, c1, rfl, (h.own.set4 (b := w.heap.size + 1) (by omega) _ _ _ _).lower (by omega), h.q.set4 (b := w.heap.size + 1) (by omega) _ _ _ _⟩
end
end Go.Proofs.Ytpjadjbniddmgaa
