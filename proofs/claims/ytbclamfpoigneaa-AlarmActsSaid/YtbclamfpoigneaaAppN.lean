/- 'append(own, more...)' as one step of a region that draws; how many, and what, named anew. -/
import Derived.Test.YtbclamfpoigneaaAppK
import Derived.Test.YtbclamfpoigneaaHeldL
namespace Go.Proofs.Ytbclamfpoigneaa
set_option maxRecDepth 100000
open Go.RowKit
set_option linter.unusedVariables false
theorem step_appKM {α : Type} (K : Kind α) {ops : Array Oper} {o : Oper} {a : Act} {w : World} {X : Act → World → Prop} {R : Exit → Act → World → Prop} {E : Prop} (hgd : o.guard = none) (s x : Operand) (t : TypeId) (ht : t = K.S)
    (ho : o.op = .call { callee := .builtin .append, args := #[s, x], argTypes := #[t, t] }) (base : Nat) (A : Option Addr) (n c : Nat) (l : List α) (hs : a.eval s = .slice A n c) (h : OwnK K w base A n c l) (A2 : Option Addr) (m c2 : Nat) (l2 : List α) (hx : a.eval x = .slice A2 m c2) (h2 : Lst K w A2 m l2) (hnil : A2 = none → m = 0 ∧ c2 = 0)
    (N : Nat) (hN : n + m = N) (l3 : List α) (hl : l ++ l2 = l3) (hb : N * K.bs ≤ 140737488355328) (hbase : base ≤ w.heap.size)
    (hk : ∀ A' c' w', OwnK K w' base A' N c' l3 → Below base w w' → w.grownBy w' (Value.slice A n c).ownBlock → X (a.put o.dst (.slice A' N c')) w') : if Region.wanted o (yielded ops a.tmps) = true then Oper.wp Try.prog o a w X R else E := by
  subst hN hl
  exact step_appKG K hgd s x t ht ho base A n c l hs h A2 m c2 l2 hx h2 hnil hb hbase fun A' c' w' h3 h4 _ => hk A' c' w' h3 (grown_below h h4 hbase) h4
theorem wpl_appKM {α : Type} (K : Kind α) {w : World} {ops : Array Oper} {rest : List Oper} {o : Oper} {a : Act} {R : Exit → Act → World → Prop} (hgd : o.guard = none) (s x : Operand) (t : TypeId) (ht : t = K.S)
    (ho : o.op = .call { callee := .builtin .append, args := #[s, x], argTypes := #[t, t] })
    (base : Nat) (A : Option Addr) (n c : Nat) (l : List α) (hs : a.eval s = .slice A n c) (h : OwnK K w base A n c l) (A2 : Option Addr) (m c2 : Nat) (l2 : List α) (hx : a.eval x = .slice A2 m c2) (h2 : Lst K w A2 m l2) (hnil : A2 = none → m = 0 ∧ c2 = 0)
    (N : Nat) (hN : n + m = N) (l3 : List α) (hl : l ++ l2 = l3) (hb : N * K.bs ≤ 140737488355328) (hbase : base ≤ w.heap.size)
    (hk : ∀ A' c' w', OwnK K w' base A' N c' l3 → Below base w w' → wpList Try.prog ops R rest (a.put o.dst (.slice A' N c')) w') : wpList Try.prog ops R (o :: rest) a w := by
  subst hN hl
  exact wpl_appK K hgd s x t ht ho base A n c l hs h A2 m c2 l2 hx h2 hnil hb hbase hk
theorem box_bl {B : Nat} {W w1 : World} (h : Below B W w1) {p : Addr} {v : Value} (hp : p.block < B) (hc : W.cell? p = some v) : w1.cell? p = some v := (h.cell hp).trans hc
theorem below_al {B : Nat} {W w : World} (h : Below B W w) (hB : B ≤ W.heap.size) (o : Obj) : Below B W (w.alloc o) := Below.alloc h (Nat.le_trans hB h.size) o
end Go.Proofs.Ytbclamfpoigneaa
