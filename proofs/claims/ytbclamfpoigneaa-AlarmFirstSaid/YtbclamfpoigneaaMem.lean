/- Memory: addresses, what a slice holds, cells that are as they were; strings that are the same. -/
import Derived.Test.YtbclamfpoigneaaBase
import Derived.Laws.IdiomStrings
import Derived.Laws.OwnMore
import Derived.Laws.Rows
import Derived.Deep.MidRow
import Derived.Deep.AppendLies
import Derived.Deep.Fields
import Derived.OwnWalk
namespace Go.Proofs.Ytbclamfpoigneaa
set_option maxRecDepth 100000
open Go.RowKit
set_option linter.unusedVariables false

theorem addr_add (a : Addr) (i j : Nat) : (a.add i).add j = a.add (i + j) := by
  unfold Addr.add
  by_cases hi : i = 0 <;> by_cases hj : j = 0 <;> simp [hi, hj, Nat.add_assoc]
theorem addr_block (a : Addr) (i : Nat) : (a.add i).block = a.block := by
  unfold Addr.add; split <;> rfl

/-- The slice '.slice A n c' holds the cells xs (k of them each element), below block B. -/
def Holds (w : World) (B k : Nat) (A : Option Addr) (n : Nat) (xs : List Value) : Prop :=
  xs.length = n * k ∧ ∀ j u, xs[j]? = some u → ∃ ad, A = some ad ∧ ad.block < B ∧ w.cell? (ad.add j) = some u

theorem Holds.carry {w w' : World} {B B' k : Nat} {A : Option Addr} {n : Nat} {xs : List Value} (h : Holds w B k A n xs) (hB : B ≤ B') (hc : ∀ p : Addr, p.block < B → w'.cell? p = w.cell? p) : Holds w' B' k A n xs :=
  ⟨h.1, fun j u hu => by
    obtain ⟨ad, e, hb, hx⟩ := h.2 j u hu
    exact ⟨ad, e, by omega, (hc _ (by rw [addr_block]; exact hb)).trans hx⟩⟩
theorem Holds.q {w w' : World} {k : Nat} {A : Option Addr} {n : Nat} {xs : List Value} (h : Holds w w.heap.size k A n xs) (hq : Q w w') : Holds w' w'.heap.size k A n xs :=
  h.carry hq.size fun _ hp => hq.below.cell hp
theorem Holds.none_ (w : World) (B k : Nat) (A : Option Addr) : Holds w B k A 0 [] := ⟨by simp, fun j u h => by simp at h⟩

theorem bcell {W w1 : World} (hb : Below W.heap.size W w1) : (∀ b o, b < W.heap.size → w1.cell? ⟨b, o, none⟩ = W.cell? ⟨b, o, none⟩) ∧ (∀ b o, b < W.heap.size → w1.frozen? ⟨b, o, none⟩ = W.frozen? ⟨b, o, none⟩) :=
  ⟨fun b o h => hb.cell (p := ⟨b, o, none⟩) h, fun b o h => hb.frozen (p := ⟨b, o, none⟩) h⟩

theorem same_str (a b : ByteArray) : (a.toList == b.toList) = decide (a = b) := by
  by_cases h : a = b
  · subst h; simp
  · have : ¬ a.toList = b.toList := fun e => h (by
      have e1 : a.data.toList = b.data.toList := by simpa [ByteArray.toList_eq] using e
      exact ByteArray.ext (Array.ext' e1))
    simp [h, this]

theorem str_inj (a b : ByteArray) : (a.toList = b.toList) = (a = b) := by
  refine propext ⟨fun h => ?_, fun h => by rw [h]⟩
  have e := same_str a b
  rw [h] at e
  simpa using e

theorem box_ {W w1 : World} (q : Q W w1) {p : Addr} {v : Value} (h : W.cell? p = some v) : w1.cell? p = some v := (q.below.cell (block_lt_of_cell h)).trans h
theorem box4 {W w1 : World} (q : Q W w1) {b : Nat} {x y z u : Value} (h0 : W.cell? ⟨b, 0, none⟩ = some x) (h1 : W.cell? ⟨b, 1, none⟩ = some y) (h2 : W.cell? ⟨b, 2, none⟩ = some z) (h3 : W.cell? ⟨b, 3, none⟩ = some u) :
    w1.cell? ⟨b, 0, none⟩ = some x ∧ w1.cell? ⟨b, 1, none⟩ = some y ∧ w1.cell? ⟨b, 2, none⟩ = some z ∧ w1.cell? ⟨b, 3, none⟩ = some u := ⟨box_ q h0, box_ q h1, box_ q h2, box_ q h3⟩
theorem box3 {W w1 : World} (q : Q W w1) {b : Nat} {x y z : Value} (h0 : W.cell? ⟨b, 0, none⟩ = some x) (h1 : W.cell? ⟨b, 1, none⟩ = some y) (h2 : W.cell? ⟨b, 2, none⟩ = some z) :
    w1.cell? ⟨b, 0, none⟩ = some x ∧ w1.cell? ⟨b, 1, none⟩ = some y ∧ w1.cell? ⟨b, 2, none⟩ = some z := ⟨box_ q h0, box_ q h1, box_ q h2⟩

end Go.Proofs.Ytbclamfpoigneaa
