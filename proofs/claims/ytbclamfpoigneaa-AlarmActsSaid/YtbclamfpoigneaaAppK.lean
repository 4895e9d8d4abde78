/- 'append(own, more...)' for a kind of elements; only the own block has turned. -/
import Derived.Test.YtbclamfpoigneaaKind
import Derived.Test.YtbclamfpoigneaaApp
namespace Go.Proofs.Ytbclamfpoigneaa
set_option maxRecDepth 100000
open Go.RowKit
set_option linter.unusedVariables false
variable {α : Type}

theorem run_appKG (K : Kind α) (w : World) (base : Nat) (A : Option Addr) (n c : Nat) (l : List α) (h : OwnK K w base A n c l) (A2 : Option Addr) (m c2 : Nat) (l2 : List α) (h2 : Lst K w A2 m l2) (hnil : A2 = none → m = 0 ∧ c2 = 0)
    (hb : (n + m) * K.bs ≤ 140737488355328) (hbase : base ≤ w.heap.size) (ty : TypeId) :
    ∃ A' c' w', (Builtin.append_ #[K.S, K.S] ty #[.slice A n c, .slice A2 m c2]).run Try.prog w = .ok (.slice A' (n + m) c') w' ∧ OwnK K w' base A' (n + m) c' (l ++ l2) ∧ w.grownBy w' (Value.slice A n c).ownBlock ∧
      ((Value.slice A' (n + m) c').ownBlock = (Value.slice A n c).ownBlock ∨ (Value.slice A' (n + m) c').ownBlock = some w.heap.size) := by
  have hmax : n + m ≤ maxLen := by
    have : (n + m) * 1 ≤ (n + m) * K.bs := Nat.mul_le_mul_left _ K.bpos
    unfold maxLen; omega
  obtain ⟨A', c', w', h1, h3, h4, h5⟩ := run_appG (P := Try.prog) (w := w) base K.S ty K.T K.z K.k K.bs K.und K.info K.zc K.pos A n c (K.rows l) h A2 m c2 (K.rows l2) h2.1
    (fun j u hu => by obtain ⟨a, e, _, hc⟩ := h2.2 j u hu; exact ⟨a, e, hc⟩) (K.rows_one l2) hnil hmax hb hbase
  rw [← K.rows_app] at h3
  exact ⟨A', c', w', h1, h3, h4, h5⟩
theorem grown_below {K : Kind α} {w w' : World} {base : Nat} {A : Option Addr} {n c : Nat} {l : List α} (h : OwnK K w base A n c l) (hg : w.grownBy w' (Value.slice A n c).ownBlock) (hbase : base ≤ w.heap.size) : Below base w w' :=
  below_grown hg hbase fun k hk => by
    rcases h.parts with ⟨rfl, _⟩ | ⟨g, cur, rfl, hb, _⟩
    · cases hk
    · simp only [Value.ownBlock, Option.some.injEq] at hk; omega

theorem wpl_appKG (K : Kind α) {w : World} {ops : Array Oper} {rest : List Oper} {o : Oper} {a : Act} {R : Exit → Act → World → Prop} (hgd : o.guard = none) (s x : Operand) (t : TypeId) (ht : t = K.S)
    (ho : o.op = .call { callee := .builtin .append, args := #[s, x], argTypes := #[t, t] })
    (base : Nat) (A : Option Addr) (n c : Nat) (l : List α) (hs : a.eval s = .slice A n c) (h : OwnK K w base A n c l) (A2 : Option Addr) (m c2 : Nat) (l2 : List α) (hx : a.eval x = .slice A2 m c2) (h2 : Lst K w A2 m l2) (hnil : A2 = none → m = 0 ∧ c2 = 0)
    (hb : (n + m) * K.bs ≤ 140737488355328) (hbase : base ≤ w.heap.size)
    (hk : ∀ A' c' w', OwnK K w' base A' (n + m) c' (l ++ l2) → w.grownBy w' (Value.slice A n c).ownBlock →
      ((Value.slice A' (n + m) c').ownBlock = (Value.slice A n c).ownBlock ∨ (Value.slice A' (n + m) c').ownBlock = some w.heap.size) → wpList Try.prog ops R rest (a.put o.dst (.slice A' (n + m) c')) w') : wpList Try.prog ops R (o :: rest) a w := by
  subst ht
  refine wpList_plain hgd fun X hX => ?_
  obtain ⟨A', c', w', hr, h3, h4, h5⟩ := run_appKG K w base A n c l h A2 m c2 l2 h2 hnil hb hbase o.type
  unfold Oper.wp execOp
  simp only [ho, resolve, invoke, builtin, Sem.run_bind, Sem.run_pure, Result.andThen_ok, List.map_toArray, List.map_cons, List.map_nil, hs, hx, hr]
  exact hX _ _ (hk A' c' w' h3 h4 h5)
theorem step_appKG (K : Kind α) {ops : Array Oper} {o : Oper} {a : Act} {w : World} {X : Act → World → Prop} {R : Exit → Act → World → Prop} {E : Prop} (hgd : o.guard = none) (s x : Operand) (t : TypeId) (ht : t = K.S)
    (ho : o.op = .call { callee := .builtin .append, args := #[s, x], argTypes := #[t, t] }) (base : Nat) (A : Option Addr) (n c : Nat) (l : List α) (hs : a.eval s = .slice A n c) (h : OwnK K w base A n c l) (A2 : Option Addr) (m c2 : Nat) (l2 : List α) (hx : a.eval x = .slice A2 m c2) (h2 : Lst K w A2 m l2) (hnil : A2 = none → m = 0 ∧ c2 = 0)
    (hb : (n + m) * K.bs ≤ 140737488355328) (hbase : base ≤ w.heap.size)
    (hk : ∀ A' c' w', OwnK K w' base A' (n + m) c' (l ++ l2) → w.grownBy w' (Value.slice A n c).ownBlock →
      ((Value.slice A' (n + m) c').ownBlock = (Value.slice A n c).ownBlock ∨ (Value.slice A' (n + m) c').ownBlock = some w.heap.size) → X (a.put o.dst (.slice A' (n + m) c')) w') : if Region.wanted o (yielded ops a.tmps) = true then Oper.wp Try.prog o a w X R else E := by
  subst ht
  rw [if_pos (wanted_plain hgd)]
  obtain ⟨A', c', w', hr, h3, h4, h5⟩ := run_appKG K w base A n c l h A2 m c2 l2 h2 hnil hb hbase o.type
  unfold Oper.wp execOp
  simp only [ho, resolve, invoke, builtin, Sem.run_bind, Sem.run_pure, Result.andThen_ok, List.map_toArray, List.map_cons, List.map_nil, hs, hx, hr]
  exact hk A' c' w' h3 h4 h5

/-- two lists of the call's own, in blocks of their own. -/
def Apt (A B : Option Addr) : Prop := ∀ a b, A = some a → B = some b → a.block ≠ b.block
theorem OwnK.away {K : Kind α} {w w' : World} {base : Nat} {A B : Option Addr} {n c m d : Nat} {l : List α} (h : OwnK K w base B m d l) (hg : w.grownBy w' (Value.slice A n c).ownBlock) (hap : Apt A B) (hA : A = none → True) : OwnK K w' base B m d l := by
  refine ⟨h.1, ?_⟩
  rcases h.2 with ⟨e, h0⟩ | ⟨g, cap, cur, e, hg2, hh, r⟩
  · exact .inl ⟨e, h0⟩
  · refine .inr ⟨g, cap, cur, e, hg2, (hg.block g (Array.getElem?_eq_some_iff.1 hh).1 ?_).trans hh, r⟩
    intro e2
    injection e with e
    cases A with
    | none => cases e2
    | some a =>
      simp only [Value.ownBlock, Option.some.injEq] at e2
      exact hap a ⟨g, 0, none⟩ rfl e e2.symm
theorem Apt.app {K : Kind α} {w : World} {base : Nat} {A B A' : Option Addr} {n c m d n' c' : Nat} {l : List α} (h : OwnK K w base B m d l) (hap : Apt A B)
    (ht : (Value.slice A' n' c').ownBlock = (Value.slice A n c).ownBlock ∨ (Value.slice A' n' c').ownBlock = some w.heap.size) : Apt A' B := by
  intro a b ea eb
  subst ea eb
  have hb : b.block < w.heap.size := by
    rcases h.parts with ⟨e, _⟩ | ⟨g, cur, e, hb, hh, _⟩
    · cases e
    · injection e with e; subst e; exact (Array.getElem?_eq_some_iff.1 hh).1
  rcases ht with ht | ht
  · cases A with
    | none => simp [Value.ownBlock] at ht
    | some a0 =>
      simp only [Value.ownBlock, Option.some.injEq] at ht
      rw [ht]; exact hap a0 b rfl rfl
  · simp only [Value.ownBlock, Option.some.injEq] at ht
    omega
theorem Apt.symm {A B : Option Addr} (h : Apt A B) : Apt B A := fun a b ea eb e => h b a eb ea e.symm
end Go.Proofs.Ytbclamfpoigneaa
