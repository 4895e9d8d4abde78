/- What the document's Settle keeps. -/
import Derived.Test.YtenemdpjhoebpaaLockRefAsk
import Derived.Test.YtenemdpjhoebpaaLockSet
namespace Go.Proofs.Ytenemdpjhoebpaa
set_option maxRecDepth 100000
open Go.RowKit Prm Lm Sm
set_option linter.unusedVariables false
set_option linter.unusedSimpArgs false

/-- a list as it came in (below b0), or of the call's own (from b on). -/
structure Loc {α : Type} (K : Kind α) (b0 b : Nat) (w : World) (A : Option Addr) (n c : Nat) (l : List α) : Prop where
  inn : In_ K w A n c l
  at_ : (0 < n → ∀ ad, A = some ad → ad.block < b0) ∨ OwnK K w b A n c l
section
variable {α : Type} {K : Kind α} {b0 b n c : Nat} {w w2 : World} {A : Option Addr} {l : List α}
theorem Loc.q (h : Loc K b0 b w A n c l) (q : Q w w2) : Loc K b0 b w2 A n c l := ⟨h.inn.q q, h.at_.imp id fun o => o.q q⟩
theorem Loc.own (h : OwnK K w b A n c l) (hf : n * K.bs ≤ 140737488355328) : Loc K b0 b w A n c l := ⟨h.in_ hf, .inr h⟩
theorem Loc.first (h : In_ K w A n c l) : Loc K w.heap.size b w A n c l := ⟨h, .inl fun hn ad e => by
  have hl : 0 < l.length := by rw [h.len]; exact hn
  obtain ⟨ad', e', hb, _⟩ := h.lst.load hn hl
  rw [e] at e'; injection e' with e'; subst e'; exact hb⟩
theorem In_.low (h : In_ K w A n c l) (ho : 0 < n → ∀ ad, A = some ad → ad.block < b0) (hb : Below b0 w w2) : In_ K w2 A n c l := by
  refine ⟨⟨h.lst.1, fun j u hu => ?_⟩, h.nil, h.le, h.cap, h.few⟩
  obtain ⟨ad, e, hlt, hc⟩ := h.lst.2 j u hu
  have hn : 0 < n := by
    rcases Nat.eq_zero_or_pos n with h0 | h0
    · exfalso
      have := h.len
      subst h0
      rw [List.eq_nil_of_length_eq_zero this] at hu
      simp [Kind.rows] at hu
    · exact h0
  exact ⟨ad, e, Nat.lt_of_lt_of_le hlt hb.size, (hb.cell (p := ad.add j) (by rw [addr_block]; exact ho hn ad e)).trans hc⟩
theorem Loc.set (h : Loc K b0 b w A n c l) {p : Addr} (h1 : b0 ≤ p.block) (h2 : p.block < b) (v : Value) : Loc K b0 b (w.setCell p v) A n c l := by
  rcases h.at_ with ho | ho
  · exact ⟨h.inn.low ho ((Below.refl b0 w).setCell h1 v), .inl ho⟩
  · exact Loc.own (ho.setCell h2 v) h.inn.few
theorem Loc.grown {β : Type} {K2 : Kind β} (hT : K.T ≠ K2.T) (h : Loc K b0 b w A n c l) {C : Option Addr} {p q : Nat} {os : List β} (o : OwnK K2 w b C p q os) (hb : b0 ≤ b) (hbs : b ≤ w.heap.size) (gr : w.grownBy w2 (Value.slice C p q).ownBlock) : Loc K b0 b w2 A n c l := by
  rcases h.at_ with ho | ho
  · exact ⟨h.inn.low ho ((grown_below o gr hbs).mono hb), .inl ho⟩
  · exact Loc.own (ho.away gr (apt_kinds hT ho o).symm (fun _ => trivial)) h.inn.few
theorem Lst.takeK {k : Nat} (h : Lst K w A n l) (hk : k ≤ n) : Lst K w A k (l.take k) := by
  have hlen := h.len
  refine ⟨by rw [K.rows_len, List.length_take]; congr 1; omega, fun j u hu => ?_⟩
  rw [K.rows_take] at hu
  exact h.2 j u (by rw [List.getElem?_take] at hu; split at hu <;> simp_all)
theorem Lst.dropK {k : Nat} {ad : Addr} (h : Lst K w (some ad) n l) (hk : k ≤ n) : Lst K w (some (ad.add (k * K.k))) (n - k) (l.drop k) := by
  have hlen := h.len
  refine ⟨by rw [K.rows_len, List.length_drop]; congr 1; omega, fun j u hu => ?_⟩
  rw [K.rows_drop, List.getElem?_drop] at hu
  obtain ⟨ad', e, hb, hc⟩ := h.2 _ u hu
  injection e with e; subst e
  exact ⟨_, rfl, by rw [addr_block]; exact hb, by rw [addr_add]; exact hc⟩
end
/-- where the document's Settle stands. -/
structure Rs (w : World) (A : Option Addr) (n c : Nat) (B : Option Addr) (m d : Nat) (C : Option Addr) (p q : Nat) (l : Lo) (os : List Int) (wr : World) : Prop where
  b1 : Bx wr w.heap.size [.slice A n c, .slice B m d]
  b3 : Bx wr (w.heap.size + 1) [.slice none 0 0, .slice none 0 0]
  h1 : Loc holdK w.heap.size (w.heap.size + 1 + 1) wr A n c l.held
  h2 : Loc claimK w.heap.size (w.heap.size + 1 + 1) wr B m d l.queue
  o3 : OwnK numK wr (w.heap.size + 1 + 1) C p q os
  q : Q w wr
section
variable {w wr w2 w4 w5 : World} {n c m d n2 c2 m2 d2 p q p2 q2 : Nat} {A B C A2 B2 C2 : Option Addr} {l : Lo} {os os2 : List Int}
theorem Rs.step (h : Rs w A n c B m d C p q l os wr) (y : Q wr w2) : Rs w A n c B m d C p q l os w2 := ⟨h.b1.q y, h.b3.q y, h.h1.q y, h.h2.q y, h.o3.q y, h.q.trans y⟩
theorem Rs.lt (h : Rs w A n c B m d C p q l os wr) : w.heap.size + 1 + 1 ≤ wr.heap.size := h.b3.lt
theorem Rs.putC (h : Rs w A n c B m d C p q l os wr) (y : Q wr w5) {hs : List Cl} (o : OwnK claimK w5 wr.heap.size B2 m2 d2 hs) (hf : m2 * 56 ≤ 140737488355328) :
    Rs w A n c B2 m2 d2 C p q ⟨l.held, hs⟩ os (w5.setCell ⟨w.heap.size, 1, none⟩ (.slice B2 m2 d2)) := by
  have hl := h.lt
  have h5 := h.step y
  exact ⟨h5.b1.set (k := 1) (by simp) _, h5.b3.far (p := ⟨w.heap.size, 1, none⟩) (by show w.heap.size ≠ w.heap.size + 1; omega) _, h5.h1.set (p := ⟨w.heap.size, 1, none⟩) (Nat.le_refl _) (by show w.heap.size < w.heap.size + 1 + 1; omega) _,
    (Loc.own (o.lower hl) hf).set (p := ⟨w.heap.size, 1, none⟩) (Nat.le_refl _) (by show w.heap.size < w.heap.size + 1 + 1; omega) _, h5.o3.setCell (p := ⟨w.heap.size, 1, none⟩) (by show w.heap.size < w.heap.size + 1 + 1; omega) _, h5.q.setCell (p := ⟨w.heap.size, 1, none⟩) (Nat.le_refl _) _⟩
theorem Rs.putH (h : Rs w A n c B m d C p q l os wr) (y : Q wr w5) {hs : List Ho} (o : OwnK holdK w5 wr.heap.size A2 n2 c2 hs) (hf : n2 * 48 ≤ 140737488355328) :
    Rs w A2 n2 c2 B m d C p q ⟨hs, l.queue⟩ os (w5.setCell ⟨w.heap.size, 0, none⟩ (.slice A2 n2 c2)) := by
  have hl := h.lt
  have h5 := h.step y
  exact ⟨h5.b1.set (k := 0) (by simp) _, h5.b3.far (p := ⟨w.heap.size, 0, none⟩) (by show w.heap.size ≠ w.heap.size + 1; omega) _, (Loc.own (o.lower hl) hf).set (p := ⟨w.heap.size, 0, none⟩) (Nat.le_refl _) (by show w.heap.size < w.heap.size + 1 + 1; omega) _,
    h5.h2.set (p := ⟨w.heap.size, 0, none⟩) (Nat.le_refl _) (by show w.heap.size < w.heap.size + 1 + 1; omega) _, h5.o3.setCell (p := ⟨w.heap.size, 0, none⟩) (by show w.heap.size < w.heap.size + 1 + 1; omega) _, h5.q.setCell (p := ⟨w.heap.size, 0, none⟩) (Nat.le_refl _) _⟩
theorem Rs.tell (h : Rs w A n c B m d C p q l os wr) (y : Q wr w4) {hs : List Int} (o : OwnK numK w5 (w.heap.size + 1 + 1) C2 p2 q2 hs) (gr : w4.grownBy w5 (Value.slice C p q).ownBlock) : Rs w A n c B m d C2 p2 q2 l hs w5 := by
  have h4 := h.step y
  have hb := grown_below h4.o3 gr h4.lt
  exact ⟨h4.b1.below hb (by omega), h4.b3.below hb (by omega), h4.h1.grown tHN h4.o3 (by omega) h4.lt gr, h4.h2.grown tCN h4.o3 (by omega) h4.lt gr, o, h4.q.below.trans (hb.mono (by omega))⟩
end
/-- locks and numbers; the locks may lie where they came in. -/
def RetSr (w : World) (r : Lo × List Int) (e : Ending) (w' : World) : Prop :=
  ∃ A n c B m d C p q, e = .returned (.tuple #[locV A n c B m d, .slice C p q]) ∧ Lst holdK w' A n r.1.held ∧ Lst claimK w' B m r.1.queue ∧ Lst numK w' C p r.2 ∧ Q w w'
theorem Rs.fin {w wr : World} {n c m d p q : Nat} {A B C : Option Addr} {l : Lo} {os : List Int} (h : Rs w A n c B m d C p q l os wr) (x y : Value) : RetSr w (l, os) (.returned (.tuple #[locV A n c B m d, .slice C p q])) ((wr.setCell ⟨w.heap.size + 1, 0, none⟩ x).setCell ⟨w.heap.size + 1, 1, none⟩ y) := by
  have s1 : ∀ {α : Type} {K : Kind α} {A : Option Addr} {n c : Nat} {l : List α}, Loc K w.heap.size (w.heap.size + 1 + 1) wr A n c l → Lst K ((wr.setCell ⟨w.heap.size + 1, 0, none⟩ x).setCell ⟨w.heap.size + 1, 1, none⟩ y) A n l := fun h =>
    ((h.set (p := ⟨w.heap.size + 1, 0, none⟩) (by show w.heap.size ≤ w.heap.size + 1; omega) (by show w.heap.size + 1 < w.heap.size + 1 + 1; omega) x).set (p := ⟨w.heap.size + 1, 1, none⟩) (by show w.heap.size ≤ w.heap.size + 1; omega) (by show w.heap.size + 1 < w.heap.size + 1 + 1; omega) y).inn.lst
  exact ⟨A, n, c, B, m, d, C, p, q, rfl, s1 h.h1, s1 h.h2, (h.o3.set2 (b := w.heap.size + 1) (by omega) x y).lst, h.q.set2 (by omega) _ _⟩
def LoW (l : Lo) : Prop := WnsH l.held ∧ WnsC l.queue
theorem LoW.give {l : Lo} (h : LoW l) {i : Nat} (hi : i < l.queue.length) : LoW (give l i l.queue[i]) := by
  refine ⟨fun a ha => ?_, fun a ha => h.2 a (List.mem_of_mem_eraseIdx ha)⟩
  rcases List.mem_append.1 ha with ha | ha
  · exact h.1 a ha
  · simp at ha; subst ha; exact h.2 _ (List.getElem_mem hi)
def boolN : Value → Nat
  | .bool true => 1
  | _ => 0
end Go.Proofs.Ytenemdpjhoebpaa
