/- 'append' to a slice that has no room left: a new row, that begins with what the slice held (any kind of elements). -/
import Derived.Test.YtbclamfpoigneaaKindRow
import Derived.Test.YtbclamfpoigneaaAppN
import Derived.Deep.AppendSrc
namespace Go.Proofs.Ytbclamfpoigneaa
set_option maxRecDepth 100000
open Go.RowKit
set_option linter.unusedVariables false
variable {α : Type}

theorem run_growK (K : Kind α) (w : World) (A : Option Addr) (n c : Nat) (l : List α) (h : Lst K w A n l) (hnil : A = none → n = 0) (A2 : Addr) (m c2 : Nat) (l2 : List α) (h2 : Lst K w (some A2) m l2) (hg : c < n + m)
    (hb : (n + m) * K.bs ≤ 140737488355328) (base : Nat) (hbase : base ≤ w.heap.size) (ty : TypeId) :
    ∃ A' c' w', (Builtin.append_ #[K.S, K.S] ty #[.slice A n c, .slice (some A2) m c2]).run Try.prog w = .ok (.slice A' (n + m) c') w' ∧ OwnK K w' base A' (n + m) c' (l ++ l2) ∧ Q w w' := by
  have hmax : n + m ≤ maxLen := by
    have : (n + m) * 1 ≤ (n + m) * K.bs := Nat.mul_le_mul_left _ K.bpos
    unfold maxLen; omega
  obtain ⟨t, hi, hz, hs, hy⟩ := info_parts K.info
  have hsrc := Src.ofSlice (P := Try.prog) w (size := t.size) K.und A2 m c2 (K.rows l2) (by rw [hs]; exact h2.1) (fun j u hu => by obtain ⟨a, e, _, hc⟩ := h2.2 j u hu; injection e with e; subst e; exact hc) (K.rows_one l2)
  have hold : (Builtin.firstCells t.size n (.slice A n c)).run Try.prog w.drew = .ok (K.rows l).toArray w.drew := by
    cases A with
    | none =>
      have h0 := hnil rfl
      subst h0
      have hl : l = [] := List.eq_nil_of_length_eq_zero h.len
      subst hl
      exact run_firstCells_none w.drew t.size 0 0 c
    | some ad =>
      rw [hs]
      exact run_firstCells_some (P := Try.prog) w.drew K.k n ad n c (K.rows l) h.1 (fun j u hu => by obtain ⟨a, e, _, hc⟩ := h.2 j u hu; injection e with e; subst e; simpa using hc)
  have hr := run_append_grow_src (P := Try.prog) w K.S K.S ty K.T t K.z K.und hi hz A n c (K.rows l) hold _ m _ hsrc hg (by unfold maxLen at hmax; omega) (by rw [hy]; exact growslice_fits hg hb)
  have hGm := grownCap_le_maxLen w (n + m) c K.T hmax
  have hGn := grownCap_ge w (n + m) c K.T
  generalize grownCap w (n + m) c K.T = G at hr hGm hGn
  have hx : (K.rows l ++ K.rows l2).length = (n + m) * K.k := by rw [List.length_append, h.1, h2.1, Nat.add_mul]
  have hsz : ((K.rows l ++ K.rows l2).toArray ++ Builtin.zeroCells K.z.cells (G - (n + m))).size = G * K.k := by
    rw [Array.size_append, zeros_size, K.zc, List.size_toArray, hx, ← Nat.add_mul]
    congr 1
    omega
  refine ⟨_, G, _, hr, ?_, (Q.refl w).drew.alloc _⟩
  have hrow : RowK K _ base w.heap.size G _ := World.ownsRow_lit (e := K.T) (size := K.k) w.drew _ G hbase hGm hsz
  refine hrow.own hGn ?_
  rw [K.rows_app, Array.toList_append]
  exact List.take_left' hx

theorem step_growK (K : Kind α) {ops : Array Oper} {o : Oper} {a : Act} {w : World} {X : Act → World → Prop} {R : Exit → Act → World → Prop} {E : Prop} (hgd : o.guard = none) (s x : Operand) (t : TypeId) (ht : t = K.S)
    (ho : o.op = .call { callee := .builtin .append, args := #[s, x], argTypes := #[t, t] }) (base : Nat) (A : Option Addr) (n c : Nat) (l : List α) (hs : a.eval s = .slice A n c) (h : Lst K w A n l) (hnil : A = none → n = 0) (A2 : Addr) (m c2 : Nat) (l2 : List α) (hx : a.eval x = .slice (some A2) m c2) (h2 : Lst K w (some A2) m l2) (hg : c < n + m)
    (N : Nat) (hN : n + m = N) (l3 : List α) (hl : l ++ l2 = l3) (hb : N * K.bs ≤ 140737488355328) (hbase : base ≤ w.heap.size)
    (hk : ∀ A' c' w', OwnK K w' base A' N c' l3 → Q w w' → X (a.put o.dst (.slice A' N c')) w') : if Region.wanted o (yielded ops a.tmps) = true then Oper.wp Try.prog o a w X R else E := by
  subst ht hN hl
  rw [if_pos (wanted_plain hgd)]
  obtain ⟨A', c', w', hr, h3, h4⟩ := run_growK K w A n c l h hnil A2 m c2 l2 h2 hg hb base hbase o.type
  unfold Oper.wp execOp
  simp only [ho, resolve, invoke, builtin, Sem.run_bind, Sem.run_pure, Result.andThen_ok, List.map_toArray, List.map_cons, List.map_nil, hs, hx, hr]
  exact hk A' c' w' h3 h4

/-- The same, for a plain region's list. -/
theorem wpl_growK (K : Kind α) {w : World} {ops : Array Oper} {rest : List Oper} {o : Oper} {a : Act} {R : Exit → Act → World → Prop} (hgd : o.guard = none) (s x : Operand) (t : TypeId) (ht : t = K.S)
    (ho : o.op = .call { callee := .builtin .append, args := #[s, x], argTypes := #[t, t] }) (base : Nat) (A : Option Addr) (n c : Nat) (l : List α) (hs : a.eval s = .slice A n c) (h : Lst K w A n l) (hnil : A = none → n = 0) (A2 : Addr) (m c2 : Nat) (l2 : List α) (hx : a.eval x = .slice (some A2) m c2) (h2 : Lst K w (some A2) m l2) (hg : c < n + m)
    (hb : (n + m) * K.bs ≤ 140737488355328) (hbase : base ≤ w.heap.size)
    (hk : ∀ A' c' w', OwnK K w' base A' (n + m) c' (l ++ l2) → Q w w' → wpList Try.prog ops R rest (a.put o.dst (.slice A' (n + m) c')) w') : wpList Try.prog ops R (o :: rest) a w := by
  subst ht
  refine wpList_plain hgd fun X hX => ?_
  obtain ⟨A', c', w', hr, h3, h4⟩ := run_growK K w A n c l h hnil A2 m c2 l2 h2 hg hb base hbase o.type
  unfold Oper.wp execOp
  simp only [ho, resolve, invoke, builtin, Sem.run_bind, Sem.run_pure, Result.andThen_ok, List.map_toArray, List.map_cons, List.map_nil, hs, hx, hr]
  exact hX _ _ (hk A' c' w' h3 h4)

/-- the beginning, and the end, of a list. -/
theorem Lst.headG {K : Kind α} {w : World} {A : Option Addr} {n : Nat} {l : List α} (h : Lst K w A n l) {k : Nat} (hk : k ≤ n) : Lst K w A k (l.take k) := by
  refine ⟨by rw [K.rows_len, List.length_take, h.len, Nat.min_eq_left hk], fun j u hu => h.2 j u ?_⟩
  rw [K.rows_take, List.getElem?_take] at hu
  split at hu
  · exact hu
  · cases hu
theorem Lst.tailG {K : Kind α} {w : World} {ad : Addr} {n : Nat} {l : List α} (h : Lst K w (some ad) n l) {k : Nat} (hk : k ≤ n) : Lst K w (some (ad.add (k * K.k))) (n - k) (l.drop k) := by
  refine ⟨by rw [K.rows_len, List.length_drop, h.len], fun j u hu => ?_⟩
  rw [K.rows_drop, List.getElem?_drop] at hu
  obtain ⟨a', e, hb, hc⟩ := h.2 _ u hu
  injection e with e
  subst e
  exact ⟨_, rfl, by rw [addr_block]; exact hb, by rw [addr_add]; exact hc⟩
end Go.Proofs.Ytbclamfpoigneaa
