/- A disk in a law's variable, its list elsewhere. -/
import Derived.Test.YtpjadjbniddmgaaDiskTot
import Derived.Test.YtpjadjbniddmgaaDiskIn
import Derived.Deep.DeepCutAuto
namespace Go.Proofs.Ytpjadjbniddmgaa
open Go.RowKit Dkm
set_option linter.unusedVariables false

structure DVA (W : World) (B : Nat) (A : Option Addr) (n c : Nat) (d : Dk) : Prop where
  dv : DV W B A n c d
  away : ∀ ad, A = some ad → ad.block ≠ B
theorem DVA.q {W W' : World} {B : Nat} {A : Option Addr} {n c : Nat} {d : Dk} (h : DVA W B A n c d) (hq : Q W W') : DVA W' B A n c d := ⟨h.dv.q hq, h.away⟩
theorem DVA.put {W W' : World} {B : Nat} {A A' : Option Addr} {n c n' c' : Nat} {d d' : Dk} (h : DVA W B A n c d) (hq : Q W W') (hd : Dsk W' A' n' c' d'.fs) (ha : A' = A ∨ ∀ ad, A' = some ad → W.heap.size ≤ ad.block) :
    DVA ((((W'.setCell ⟨B, 0, none⟩ (.slice A' n' c')).setCell ⟨B, 1, none⟩ (.int .i64 d'.room)).setCell ⟨B, 2, none⟩ (.int .i64 d'.fuse)).setCell ⟨B, 3, none⟩ (.bool d'.off)) B A' n' c' d' := by
  have hlt := h.dv.box.lt
  have haw : ∀ ad, A' = some ad → ad.block ≠ B := by
    intro ad e
    rcases ha with rfl | ha
    · exact h.away ad e
    · have := ha ad e; omega
  exact ⟨⟨(h.dv.box.q hq).put4 _ _ _ _, (((hd.away haw 0 _).away haw 1 _).away haw 2 _).away haw 3 _⟩, haw⟩

/-- behind 'd, _ = does(d, ..)': the variable has what the act made of the disk. -/
def Cu (w : World) (B : Nat) (r : Dk) (wx : World) : Prop := ∃ A n c, DVA wx B A n c r ∧ Q w wx
end Go.Proofs.Ytpjadjbniddmgaa
