/- LockAsk, KindRow, Filt, LockErase, LockSet, LockRefSet, RingWs, RingWalk2, RingWalk1, Hdr, SearchI, Ring2: merged. -/
import Derived.Test.YtncnfblnelkmbaaA3
import Derived.Test.YtncnfblnelkmbaaA1
import Derived.Laws.IdiomCopy
import Derived.Lib.AppendZerosOnto
import Derived.Deep.RegionLaw
import Derived.ScopeJumps
import Derived.WalkMore
import Derived.Test.YtncnfblnelkmbaaA4
import Derived.Test.YtncnfblnelkmbaaA2
import Derived.Test.YtncnfblnelkmbaaShelf
/- Contract: lock.Ask. -/
namespace Go.Proofs.Ytncnfblnelkmbaa
set_option maxRecDepth 100000
open Go.RowKit Prm Lm Sm
set_option linter.unusedVariables false
set_option linter.unusedSimpArgs false

section
variable {w wr w2 w4 w5 : World} {g r n c m d n2 c2 m2 d2 : Nat} {A B A2 B2 : Option Addr} {l l2 : Lo}
/-- rows of unlike elements lie apart. -/
theorem apt_kinds {α β : Type} {K1 : Kind α} {K2 : Kind β} (hT : K1.T ≠ K2.T) {w : World} {b1 b2 : Nat} {l1 : List α} {l2 : List β} (h1 : OwnK K1 w b1 A n c l1) (h2 : OwnK K2 w b2 B m d l2) : Apt A B := by
  intro a b ea eb e
  subst ea eb
  rcases h1.parts with ⟨e1, _⟩ | ⟨g1, cur1, e1, _, hh1, _⟩
  · cases e1
  rcases h2.parts with ⟨e2, _⟩ | ⟨g2, cur2, e2, _, hh2, _⟩
  · cases e2
  injection e1 with e1
  injection e2 with e2
  subst e1 e2
  simp only at e
  subst e
  rw [hh1] at hh2
  injection hh2 with hh2
  injection hh2 with _ hT2
  exact hT hT2
theorem tHC : holdK.T ≠ claimK.T := by decide
end
/-- bounds on what is held and asked. -/
structure Few (A : Option Addr) (n c : Nat) (B : Option Addr) (m d : Nat) (l : Lo) : Prop where
  n : n ≤ 300000
  m : m ≤ 300000
  i : I64H l.held
  j : I64C l.queue

end Go.Proofs.Ytncnfblnelkmbaa

/- Whole rows of a kind of elements: copy, clear, and an append of zero values, at elements of any size. -/
namespace Go.Proofs.Ytncnfblnelkmbaa
set_option maxRecDepth 100000
open Go.RowKit
set_option linter.unusedVariables false

variable {α : Type}

/-- block g is a row of c elements, whose cells are xs. -/
def RowK (K : Kind α) (w : World) (base g c : Nat) (xs : List Value) : Prop := w.ownsRow base K.T K.k (.slice (some ⟨g, 0, none⟩) c c) c xs

section
variable {K : Kind α} {w w' : World} {base g n c : Nat} {l : List α} {xs : List Value}
theorem OwnK.row (h : OwnK K w base (some ⟨g, 0, none⟩) n c l) : ∃ xs, RowK K w base g c xs ∧ xs.take (n * K.k) = K.rows l := by
  rcases h.parts with ⟨e, _⟩ | ⟨g', cur, e, hb, hh, hc, hm, hs, ht⟩
  · cases e
  injection e with e
  injection e with e
  subst e
  exact ⟨cur.toList, ⟨by simpa using hs, .inr ⟨g, c, cur, rfl, hb, hh, Nat.le_refl _, hm, hs, List.take_of_length_le (Nat.le_of_eq ((Array.length_toList).trans hs))⟩⟩, ht⟩
theorem RowK.own (h : RowK K w base g c xs) (hn : n ≤ c) (hl : xs.take (n * K.k) = K.rows l) : OwnK K w base (some ⟨g, 0, none⟩) n c l := by
  have := owns_short h hn
  rw [hl] at this
  exact this
theorem RowK.len (h : RowK K w base g c xs) : xs.length = c * K.k := h.1
theorem RowK.cell (h : RowK K w base g c xs) (j : Nat) (hj : j < c * K.k) : w.cell? ⟨g, j, none⟩ = xs[j]? := World.ownsRow.cellAt h j hj
theorem RowK.some (h : RowK K w base g c xs) (j : Nat) (hj : j < c * K.k) : (w.cell? ⟨g, j, none⟩).isSome = true := by
  rw [h.cell j hj, List.getElem?_eq_getElem (by rw [h.len]; exact hj)]; rfl
theorem RowK.free (h : RowK K w base g c xs) (j : Nat) : w.frozen? ⟨g, j, none⟩ = false := World.ownsRow.frozenAt h _
theorem RowK.drew (h : RowK K w base g c xs) : RowK K w.drew base g c xs := h
theorem RowK.q (h : RowK K w base g c xs) (hq : Q w w') : RowK K w' base g c xs := by
  refine ⟨h.1, ?_⟩
  rcases h.2 with ⟨e, h0⟩ | ⟨g, cap, cur, e, hg, hh, r⟩
  · exact .inl ⟨e, h0⟩
  · have hlt : g < w.heap.size := (Array.getElem?_eq_some_iff.1 hh).1
    exact .inr ⟨g, cap, cur, e, hg, (hq.below.block g hlt).trans hh, r⟩
end

end Go.Proofs.Ytncnfblnelkmbaa

/- What a DeleteFunc makes of a list: plain mathematics. -/
namespace Go.Proofs.Ytncnfblnelkmbaa
set_option maxRecDepth 100000
open Go.RowKit Prm
set_option linter.unusedVariables false

section
variable {α : Type} {P : α → Bool} {l cur : List α} {a b k : Nat}
/-- what stays. -/
def stay (P : α → Bool) (l : List α) : List α := l.filter fun x => !P x
end
end Go.Proofs.Ytncnfblnelkmbaa

/- Contract: slices.Delete of one claim, at a list of the call's own. -/
namespace Go.Proofs.Ytncnfblnelkmbaa
set_option maxRecDepth 100000
open Go.RowKit Prm Lm
set_option linter.unusedVariables false
set_option linter.unusedSimpArgs false

section
variable {α : Type} {K : Kind α} {w : World} {base g n c : Nat} {l : List α}
end

end Go.Proofs.Ytncnfblnelkmbaa

/- What Settle keeps: its locks, and whom it has told. -/
namespace Go.Proofs.Ytncnfblnelkmbaa
set_option maxRecDepth 100000
open Go.RowKit Prm Lm Sm
set_option linter.unusedVariables false
set_option linter.unusedSimpArgs false

theorem tHN : holdK.T ≠ numK.T := by decide
theorem tCN : claimK.T ≠ numK.T := by decide
theorem Bx.kept {w w' : World} {b g : Nat} {vs : List Value} (h : Bx w b vs) (hg : w.grownBy w' (some g)) (hne : b ≠ g) : Bx w' b vs := fun j v hj => by
  have hb : b < w.heap.size := block_lt_of_cell (h j v hj).1
  have e := hg.block b hb (by intro e; injection e with e; exact hne e)
  exact ⟨(World.cell?_of_block (a := ⟨b, j, none⟩) e).trans (h j v hj).1, (World.frozen?_of_block (a := ⟨b, j, none⟩) e).trans (h j v hj).2⟩
theorem Bx.get5 {w : World} {b : Nat} {x y z u v : Value} (h : Bx w b [x, y, z, u, v]) : (w.cell? ⟨b, 0, none⟩ = some x ∧ w.cell? ⟨b, 1, none⟩ = some y ∧ w.cell? ⟨b, 2, none⟩ = some z ∧ w.cell? ⟨b, 3, none⟩ = some u ∧ w.cell? ⟨b, 4, none⟩ = some v) ∧ w.frozen? ⟨b, 0, none⟩ = false :=
  ⟨⟨(h 0 _ rfl).1, (h 1 _ rfl).1, (h 2 _ rfl).1, (h 3 _ rfl).1, (h 4 _ rfl).1⟩, (h 0 _ rfl).2⟩
theorem OwnK.under {α : Type} {K : Kind α} {w : World} {base n c : Nat} {A : Option Addr} {l : List α} (h : OwnK K w base A n c l) : ∀ a, A = some a → a.block < w.heap.size := by
  intro a e
  subst e
  rcases h.parts with ⟨e, _⟩ | ⟨g, cur, e, _, hh, _⟩
  · cases e
  · injection e with e; subst e; exact (Array.getElem?_eq_some_iff.1 hh).1
theorem Bx.grown {w w' : World} {b : Nat} {vs : List Value} (h : Bx w b vs) {A : Option Addr} {n c : Nat} (hg : w.grownBy w' (Value.slice A n c).ownBlock) (hA : ∀ a, A = some a → a.block < b) : Bx w' b vs := fun j v hj => by
  have hb : b < w.heap.size := block_lt_of_cell (h j v hj).1
  have e := hg.block b hb (by
    intro e
    cases A with
    | none => cases e
    | some a => simp only [Value.ownBlock, Option.some.injEq] at e; have := hA a rfl; omega)
  exact ⟨(World.cell?_of_block (a := ⟨b, j, none⟩) e).trans (h j v hj).1, (World.frozen?_of_block (a := ⟨b, j, none⟩) e).trans (h j v hj).2⟩
section
variable {w wr w2 w4 w5 : World} {g r n c m d n2 c2 m2 d2 p q p2 q2 : Nat} {A B C A2 B2 C2 : Option Addr} {l l2 : Lo} {os os2 : List Int}
end
def cellLen (w : World) (p : Addr) : Nat := match w.cell? p with
  | some (.slice _ n _) => n
  | _ => 0
theorem cellLen_is {w : World} {p : Addr} {A : Option Addr} {n c : Nat} (h : w.cell? p = some (.slice A n c)) : cellLen w p = n := by unfold cellLen; rw [h]
def LoI (l : Lo) : Prop := I64H l.held ∧ I64C l.queue
theorem LoI.give {l : Lo} (h : LoI l) {i : Nat} (hi : i < l.queue.length) : LoI (give l i l.queue[i]) := by
  refine ⟨fun a ha => ?_, fun a ha => h.2 a (List.mem_of_mem_eraseIdx ha)⟩
  rcases List.mem_append.1 ha with ha | ha
  · exact h.1 a ha
  · simp at ha; subst ha; exact h.2 _ (List.getElem_mem hi)
section
variable {P : Program} {a : Act} {w : World} {Q : Exit → Act → World → Prop}
end
end Go.Proofs.Ytncnfblnelkmbaa

/- What the document's Settle keeps. -/
namespace Go.Proofs.Ytncnfblnelkmbaa
set_option maxRecDepth 100000
open Go.RowKit Prm Lm Sm
set_option linter.unusedVariables false
set_option linter.unusedSimpArgs false

/-- a list as it came in (below b0), or of the call's own (from b on). -/
structure Loc {α : Type} (K : Kind α) (b0 b : Nat) (w : World) (A : Option Addr) (n c : Nat) (l : List α) : Prop where
  inn : In_ K w A n c l
  at_ : (0 < n → ∀ ad, A = some ad → ad.block < b0) ∨ OwnK K w b A n c l
section
variable {α : Type} {K : Kind α} {b0 b n c : Nat} {w w2 : World} {A : Option Addr} {l : List α}
theorem Loc.q (h : Loc K b0 b w A n c l) (q : Q w w2) : Loc K b0 b w2 A n c l := ⟨h.inn.q q, h.at_.imp id fun o => o.q q⟩
theorem Loc.own (h : OwnK K w b A n c l) (hf : n * K.bs ≤ 140737488355328) : Loc K b0 b w A n c l := ⟨h.in_ hf, .inr h⟩
theorem Loc.first (h : In_ K w A n c l) : Loc K w.heap.size b w A n c l := ⟨h, .inl fun hn ad e => by
  have hl : 0 < l.length := by rw [h.len]; exact hn
  obtain ⟨ad', e', hb, _⟩ := h.lst.load hn hl
  rw [e] at e'; injection e' with e'; subst e'; exact hb⟩
theorem In_.low (h : In_ K w A n c l) (ho : 0 < n → ∀ ad, A = some ad → ad.block < b0) (hb : Below b0 w w2) : In_ K w2 A n c l := by
  refine ⟨⟨h.lst.1, fun j u hu => ?_⟩, h.nil, h.le, h.cap, h.few⟩
  obtain ⟨ad, e, hlt, hc⟩ := h.lst.2 j u hu
  have hn : 0 < n := by
    rcases Nat.eq_zero_or_pos n with h0 | h0
    · exfalso
      have := h.len
      subst h0
      rw [List.eq_nil_of_length_eq_zero this] at hu
      simp [Kind.rows] at hu
    · exact h0
  exact ⟨ad, e, Nat.lt_of_lt_of_le hlt hb.size, (hb.cell (p := ad.add j) (by rw [addr_block]; exact ho hn ad e)).trans hc⟩
theorem Loc.set (h : Loc K b0 b w A n c l) {p : Addr} (h1 : b0 ≤ p.block) (h2 : p.block < b) (v : Value) : Loc K b0 b (w.setCell p v) A n c l := by
  rcases h.at_ with ho | ho
  · exact ⟨h.inn.low ho ((Below.refl b0 w).setCell h1 v), .inl ho⟩
  · exact Loc.own (ho.setCell h2 v) h.inn.few
theorem Loc.grown {β : Type} {K2 : Kind β} (hT : K.T ≠ K2.T) (h : Loc K b0 b w A n c l) {C : Option Addr} {p q : Nat} {os : List β} (o : OwnK K2 w b C p q os) (hb : b0 ≤ b) (hbs : b ≤ w.heap.size) (gr : w.grownBy w2 (Value.slice C p q).ownBlock) : Loc K b0 b w2 A n c l := by
  rcases h.at_ with ho | ho
  · exact ⟨h.inn.low ho ((grown_below o gr hbs).mono hb), .inl ho⟩
  · exact Loc.own (ho.away gr (apt_kinds hT ho o).symm (fun _ => trivial)) h.inn.few
theorem Lst.takeK {k : Nat} (h : Lst K w A n l) (hk : k ≤ n) : Lst K w A k (l.take k) := by
  have hlen := h.len
  refine ⟨by rw [K.rows_len, List.length_take]; congr 1; omega, fun j u hu => ?_⟩
  rw [K.rows_take] at hu
  exact h.2 j u (by rw [List.getElem?_take] at hu; split at hu <;> simp_all)
theorem Lst.dropK {k : Nat} {ad : Addr} (h : Lst K w (some ad) n l) (hk : k ≤ n) : Lst K w (some (ad.add (k * K.k))) (n - k) (l.drop k) := by
  have hlen := h.len
  refine ⟨by rw [K.rows_len, List.length_drop]; congr 1; omega, fun j u hu => ?_⟩
  rw [K.rows_drop, List.getElem?_drop] at hu
  obtain ⟨ad', e, hb, hc⟩ := h.2 _ u hu
  injection e with e; subst e
  exact ⟨_, rfl, by rw [addr_block]; exact hb, by rw [addr_add]; exact hc⟩
end
/-- where the document's Settle stands. -/
structure Rs (w : World) (A : Option Addr) (n c : Nat) (B : Option Addr) (m d : Nat) (C : Option Addr) (p q : Nat) (l : Lo) (os : List Int) (wr : World) : Prop where
  b1 : Bx wr w.heap.size [.slice A n c, .slice B m d]
  b3 : Bx wr (w.heap.size + 1) [.slice none 0 0, .slice none 0 0]
  h1 : Loc holdK w.heap.size (w.heap.size + 1 + 1) wr A n c l.held
  h2 : Loc claimK w.heap.size (w.heap.size + 1 + 1) wr B m d l.queue
  o3 : OwnK numK wr (w.heap.size + 1 + 1) C p q os
  q : Q w wr
section
variable {w wr w2 w4 w5 : World} {n c m d n2 c2 m2 d2 p q p2 q2 : Nat} {A B C A2 B2 C2 : Option Addr} {l : Lo} {os os2 : List Int}
theorem Rs.step (h : Rs w A n c B m d C p q l os wr) (y : Q wr w2) : Rs w A n c B m d C p q l os w2 := ⟨h.b1.q y, h.b3.q y, h.h1.q y, h.h2.q y, h.o3.q y, h.q.trans y⟩
theorem Rs.lt (h : Rs w A n c B m d C p q l os wr) : w.heap.size + 1 + 1 ≤ wr.heap.size := h.b3.lt
theorem Rs.putC (h : Rs w A n c B m d C p q l os wr) (y : Q wr w5) {hs : List Cl} (o : OwnK claimK w5 wr.heap.size B2 m2 d2 hs) (hf : m2 * 56 ≤ 140737488355328) :
    Rs w A n c B2 m2 d2 C p q ⟨l.held, hs⟩ os (w5.setCell ⟨w.heap.size, 1, none⟩ (.slice B2 m2 d2)) := by
  have hl := h.lt
  have h5 := h.step y
  exact ⟨h5.b1.set (k := 1) (by simp) _, h5.b3.far (p := ⟨w.heap.size, 1, none⟩) (by show w.heap.size ≠ w.heap.size + 1; omega) _, h5.h1.set (p := ⟨w.heap.size, 1, none⟩) (Nat.le_refl _) (by show w.heap.size < w.heap.size + 1 + 1; omega) _,
    (Loc.own (o.lower hl) hf).set (p := ⟨w.heap.size, 1, none⟩) (Nat.le_refl _) (by show w.heap.size < w.heap.size + 1 + 1; omega) _, h5.o3.setCell (p := ⟨w.heap.size, 1, none⟩) (by show w.heap.size < w.heap.size + 1 + 1; omega) _, h5.q.setCell (p := ⟨w.heap.size, 1, none⟩) (Nat.le_refl _) _⟩
theorem Rs.putH (h : Rs w A n c B m d C p q l os wr) (y : Q wr w5) {hs : List Ho} (o : OwnK holdK w5 wr.heap.size A2 n2 c2 hs) (hf : n2 * 48 ≤ 140737488355328) :
    Rs w A2 n2 c2 B m d C p q ⟨hs, l.queue⟩ os (w5.setCell ⟨w.heap.size, 0, none⟩ (.slice A2 n2 c2)) := by
  have hl := h.lt
  have h5 := h.step y
  exact ⟨h5.b1.set (k := 0) (by simp) _, h5.b3.far (p := ⟨w.heap.size, 0, none⟩) (by show w.heap.size ≠ w.heap.size + 1; omega) _, (Loc.own (o.lower hl) hf).set (p := ⟨w.heap.size, 0, none⟩) (Nat.le_refl _) (by show w.heap.size < w.heap.size + 1 + 1; omega) _,
    h5.h2.set (p := ⟨w.heap.size, 0, none⟩) (Nat.le_refl _) (by show w.heap.size < w.heap.size + 1 + 1; omega) _, h5.o3.setCell (p := ⟨w.heap.size, 0, none⟩) (by show w.heap.size < w.heap.size + 1 + 1; omega) _, h5.q.setCell (p := ⟨w.heap.size, 0, none⟩) (Nat.le_refl _) _⟩
theorem Rs.tell (h : Rs w A n c B m d C p q l os wr) (y : Q wr w4) {hs : List Int} (o : OwnK numK w5 (w.heap.size + 1 + 1) C2 p2 q2 hs) (gr : w4.grownBy w5 (Value.slice C p q).ownBlock) : Rs w A n c B m d C2 p2 q2 l hs w5 := by
  have h4 := h.step y
  have hb := grown_below h4.o3 gr h4.lt
  exact ⟨h4.b1.below hb (by omega), h4.b3.below hb (by omega), h4.h1.grown tHN h4.o3 (by omega) h4.lt gr, h4.h2.grown tCN h4.o3 (by omega) h4.lt gr, o, h4.q.below.trans (hb.mono (by omega))⟩
end
/-- the same, and they may be handed on. -/
def RetSi (w : World) (r : Lo × List Int) (e : Ending) (w' : World) : Prop :=
  ∃ A n c B m d C p q, e = .returned (.tuple #[locV A n c B m d, .slice C p q]) ∧ In_ holdK w' A n c r.1.held ∧ In_ claimK w' B m d r.1.queue ∧ Lst numK w' C p r.2 ∧ Q w w'
theorem Rs.fin {w wr : World} {n c m d p q : Nat} {A B C : Option Addr} {l : Lo} {os : List Int} (h : Rs w A n c B m d C p q l os wr) (x y : Value) : RetSi w (l, os) (.returned (.tuple #[locV A n c B m d, .slice C p q])) ((wr.setCell ⟨w.heap.size + 1, 0, none⟩ x).setCell ⟨w.heap.size + 1, 1, none⟩ y) := by
  have s1 : ∀ {α : Type} {K : Kind α} {A : Option Addr} {n c : Nat} {l : List α}, Loc K w.heap.size (w.heap.size + 1 + 1) wr A n c l → In_ K ((wr.setCell ⟨w.heap.size + 1, 0, none⟩ x).setCell ⟨w.heap.size + 1, 1, none⟩ y) A n c l := fun h =>
    ((h.set (p := ⟨w.heap.size + 1, 0, none⟩) (by show w.heap.size ≤ w.heap.size + 1; omega) (by show w.heap.size + 1 < w.heap.size + 1 + 1; omega) x).set (p := ⟨w.heap.size + 1, 1, none⟩) (by show w.heap.size ≤ w.heap.size + 1; omega) (by show w.heap.size + 1 < w.heap.size + 1 + 1; omega) y).inn
  exact ⟨A, n, c, B, m, d, C, p, q, rfl, s1 h.h1, s1 h.h2, (h.o3.set2 (b := w.heap.size + 1) (by omega) x y).lst, h.q.set2 (by omega) _ _⟩
def LoW (l : Lo) : Prop := WnsH l.held ∧ WnsC l.queue
theorem LoW.give {l : Lo} (h : LoW l) {i : Nat} (hi : i < l.queue.length) : LoW (give l i l.queue[i]) := by
  refine ⟨fun a ha => ?_, fun a ha => h.2 a (List.mem_of_mem_eraseIdx ha)⟩
  rcases List.mem_append.1 ha with ha | ha
  · exact h.1 a ha
  · simp at ha; subst ha; exact h.2 _ (List.getElem_mem hi)
def boolN : Value → Nat
  | .bool true => 1
  | _ => 0
end Go.Proofs.Ytncnfblnelkmbaa

/- The walk of package ring: its world. -/
namespace Go.Proofs.Ytncnfblnelkmbaa
set_option maxRecDepth 100000
open Go.RowKit Lm Sm Go.Maps
set_option linter.unusedVariables false
set_option linter.unusedSimpArgs false

theorem sort_rise {l r : List Int} (hr : r.Pairwise (· < ·)) (hn : l.Nodup) (hm : ∀ x, x ∈ l ↔ x ∈ r) : l.mergeSort (fun x y => decide (x ≤ y)) = r := by
  have hs : (l.mergeSort fun x y => decide (x ≤ y)).Pairwise (· ≤ ·) := by
    have := List.pairwise_mergeSort (le := fun x y : Int => decide (x ≤ y)) (by intro a b c; simp; omega) (by intro a b; simp; omega) l
    exact this.imp fun h => by simpa using h
  have hnd : (l.mergeSort fun x y => decide (x ≤ y)).Nodup := (List.mergeSort_perm _ _).nodup_iff.2 hn
  refine rise_eq ?_ hr fun x => by rw [List.mem_mergeSort, hm]
  have hand := hs.and hnd
  exact hand.imp fun ⟨h1, h2⟩ => by omega

theorem sans_at {o l : List Int} {k : Nat} (hk : k < l.length) : sans o (l.take (k + 1)) = (sans o (l.take k)).filter fun x => decide (x ≠ l[k]) := by
  have hm : ∀ x, x ∈ l.take (k + 1) ↔ x ∈ l.take k ∨ x = l[k] := fun x => by rw [List.take_succ_eq_append_getElem hk, List.mem_append, List.mem_singleton]
  unfold sans
  rw [List.filter_filter]
  congr 1
  funext x
  rw [Bool.eq_iff_iff]
  simp only [decide_eq_true_eq, Bool.and_eq_true, hm, not_or, ne_eq]
  exact and_comm
theorem keys_del {D : DataW Unit} {out : List Int} {o : Int} (h : KeysAre D out) (hD : IsMap (D.del (.int .i64 o))) : KeysAre (D.del (.int .i64 o)) (out.filter fun x => decide (x ≠ o)) := by
  refine ⟨hD, fun x => ?_⟩
  rw [List.mem_filter]
  by_cases e : x = o
  · subst e
    rw [has_del_same]; simp
  · rw [has_del_other (fun e' => e (by injection e')), ← h.2 x]; simp [e]
/-- as many as there are keys. -/
theorem own_tight {w : World} {b n : Nat} {D : DataW Unit} {out : List Int} (hown : w.ownsMap Try.prog 3 unitElem b n D) (hk : KeysAre D out) (hs : out.Pairwise (· < ·)) : w.ownsMap Try.prog 3 unitElem b out.length D := by
  have hnd : out.Nodup := hs.imp fun h => Int.ne_of_lt h
  have hp : out.Perm (intKeys D) := CollectedI.perm (left := fun _ => false) ⟨hnd, fun x => by rw [hk.2 x]; simp⟩ hown lawI Try.underlying3 (fun _ => rfl)
  obtain ⟨es, clock, h1, h2, h3, h4⟩ := hown
  refine ⟨es, clock, h1, h2, ?_, h4⟩
  have hl := hp.length_eq
  subst h4
  rw [hl]
  simp [intKeys, length_sorted]

/-- where a list lies: in neither of two blocks. -/
structure Fa (b g : Nat) (w : World) (A : Option Addr) (n : Nat) (l : List Int) : Prop where
  lst : Lst numK w A n l
  ne : ∀ ad, A = some ad → 0 < n → ad.block ≠ b ∧ ad.block ≠ g
section
variable {b g n : Nat} {w w2 : World} {A : Option Addr} {l : List Int}
theorem Fa.q (h : Fa b g w A n l) (q : Q w w2) : Fa b g w2 A n l := ⟨h.lst.q q, h.ne⟩
theorem Fa.pos (h : Fa b g w A n l) {j : Nat} {u : Value} (hu : (numK.rows l)[j]? = some u) : 0 < n := by
  have hl := h.lst.len
  rcases Nat.eq_zero_or_pos n with e | e
  · rw [e] at hl
    rw [List.eq_nil_of_length_eq_zero hl] at hu
    simp [Kind.rows] at hu
  · exact e
theorem Fa.turn (h : Fa b g w A n l) (gr : w.grownBy w2 (some b)) : Fa b g w2 A n l := by
  refine ⟨⟨h.lst.1, fun j u hu => ?_⟩, h.ne⟩
  obtain ⟨ad, e, hlt, hc⟩ := h.lst.2 j u hu
  exact ⟨ad, e, Nat.lt_of_lt_of_le hlt gr.size, (only_cell gr (p := ad.add j) (by rw [addr_block]; exact hlt) (by rw [addr_block]; exact (h.ne ad e (h.pos hu)).1)).trans hc⟩
theorem Fa.set (h : Fa b g w A n l) (o : Nat) (v : Value) : Fa b g (w.setCell ⟨g, o, none⟩ v) A n l := by
  refine ⟨⟨h.lst.1, fun j u hu => ?_⟩, h.ne⟩
  obtain ⟨ad, e, hlt, hc⟩ := h.lst.2 j u hu
  refine ⟨ad, e, by simpa [World.setCell] using hlt, ?_⟩
  rw [World.cell?_setCell_other _ _ _ _ (fun e2 => (h.ne ad e (h.pos hu)).2 (by rw [← addr_block ad j, ← e2]))]
  exact hc
theorem Fa.own {c B : Nat} (h : OwnK numK w B A n c l) (h1 : b < B) (h2 : g < B) : Fa b g w A n l := ⟨h.lst, fun ad e _ => by
  rcases h.parts with ⟨e0, _⟩ | ⟨k, cur, e0, hk, _⟩
  · rw [e0] at e; cases e
  · rw [e0] at e; injection e with e; subst e
    exact ⟨by show k ≠ b; omega, by show k ≠ g; omega⟩⟩
end
theorem Bx.only {w w2 : World} {b g : Nat} {vs : List Value} (h : Bx w b vs) (gr : w.grownBy w2 (some g)) (hne : b ≠ g) : Bx w2 b vs := fun j v hj => by
  have hb : b < w.heap.size := block_lt_of_cell (h j v hj).1
  have hbl := gr.block b hb (fun e => hne (by injection e))
  exact ⟨(World.cell?_of_block (a := ⟨b, j, none⟩) hbl).trans (h j v hj).1, (World.frozen?_of_block (a := ⟨b, j, none⟩) hbl).trans (h j v hj).2⟩
theorem OwnK.only {α : Type} {K : Kind α} {w w2 : World} {B n c g : Nat} {A : Option Addr} {l : List α} (h : OwnK K w B A n c l) (gr : w.grownBy w2 (some g)) (hg : g < B) : OwnK K w2 B A n c l :=
  World.ownsRow.kept h gr (by
    rcases h.parts with ⟨rfl, _⟩ | ⟨k, cur, rfl, hk, _⟩
    · exact .inl rfl
    · exact .inr (fun e => by simp only [Value.ownBlock, Option.some.injEq] at e; omega))
/-- the map and the two rows. -/
structure Ws (w : World) (x0 x1 : Value) (D : DataW Unit) (cnt : Nat) (wr : World) : Prop where
  own : wr.ownsMap Try.prog 3 unitElem w.heap.size cnt D
  bx : Bx wr (w.heap.size + 1 + 1) [x0, x1]
  q : Q w wr
section
variable {w wr w2 : World} {x0 x1 : Value} {D D2 : DataW Unit} {cnt cnt2 : Nat}
theorem Ws.step (h : Ws w x0 x1 D cnt wr) (q : Q wr w2) : Ws w x0 x1 D cnt w2 := ⟨h.own.kept q.grownBy (by simp), h.bx.q q, h.q.trans q⟩
theorem Ws.turn (h : Ws w x0 x1 D cnt wr) (gr : wr.grownBy w2 (some w.heap.size)) (o : w2.ownsMap Try.prog 3 unitElem w.heap.size cnt2 D2) : Ws w x0 x1 D2 cnt2 w2 :=
  ⟨o, h.bx.only gr (by omega), h.q.below.trans (only_below gr (Nat.le_refl _) h.q.size)⟩
theorem Ws.lt (h : Ws w x0 x1 D cnt wr) : w.heap.size + 1 + 1 + 1 ≤ wr.heap.size := h.bx.lt
theorem Ws.set0 (h : Ws w x0 x1 D cnt wr) (v : Value) : Ws w v x1 D cnt (wr.setCell ⟨w.heap.size + 1 + 1, 0, none⟩ v) :=
  ⟨h.own.setCell (by show w.heap.size ≠ w.heap.size + 1 + 1; omega) v, h.bx.set (k := 0) (by simp) v, h.q.setCell (p := ⟨w.heap.size + 1 + 1, 0, none⟩) (by show w.heap.size ≤ w.heap.size + 1 + 1; omega) v⟩
theorem Ws.set1 (h : Ws w x0 x1 D cnt wr) (v : Value) : Ws w x0 v D cnt (wr.setCell ⟨w.heap.size + 1 + 1, 1, none⟩ v) :=
  ⟨h.own.setCell (by show w.heap.size ≠ w.heap.size + 1 + 1; omega) v, h.bx.set (k := 1) (by simp) v, h.q.setCell (p := ⟨w.heap.size + 1 + 1, 1, none⟩) (by show w.heap.size ≤ w.heap.size + 1 + 1; omega) v⟩
end
/-- is the row that stands nonempty? -/
def rowF (g : Nat) (tv : Value) (w : World) : Nat :=
  match w.cell? ⟨g, (intOf tv).toNat, none⟩ with
  | some (.slice _ (_ + 1) _) => 1
  | _ => 0
theorem rowF_is {w : World} {g n c : Nat} {tv : Value} {A : Option Addr} (h : w.cell? ⟨g, (intOf tv).toNat, none⟩ = some (.slice A n c)) : rowF g tv w = if n = 0 then 0 else 1 := by
  unfold rowF
  rw [h]
  cases n <;> simp
/-- how long a slice is. -/
def sLn : Value → Nat
  | .slice _ n _ => n
  | _ => 0
section
variable {w wr w2 : World} {x0 x1 : Value} {D : DataW Unit} {cnt n c nd cd : Nat} {A Ad : Option Addr} {l Dn : List Int} {b g : Nat}
theorem Ws.grown (h : Ws w x0 x1 D cnt wr) (od : OwnK numK wr (w.heap.size + 1 + 1 + 1) Ad nd cd Dn) (gr : wr.grownBy w2 (Value.slice Ad nd cd).ownBlock) : Ws w x0 x1 D cnt w2 := by
  have hb := grown_below od gr h.lt
  refine ⟨h.own.kept gr ?_, h.bx.below hb (by omega), h.q.below.trans (hb.mono (by omega))⟩
  rcases od.parts with ⟨rfl, _⟩ | ⟨k, cur, rfl, hk, _⟩
  · intro e; cases e
  · intro e; simp only [Value.ownBlock, Option.some.injEq] at e; omega
theorem OwnK.blk {α : Type} {K : Kind α} {l : List α} {B : Nat} (h : OwnK K w B A n c l) {ad : Addr} (e : A = some ad) : B ≤ ad.block ∧ ad.block < w.heap.size := by
  rcases h.parts with ⟨rfl, _⟩ | ⟨k, cur, rfl, hk, _⟩
  · cases e
  · injection e with e; subst e
    exact h.block_lt
theorem Fa.grown (h : Fa b g wr A n l) (hl : ∀ ad, A = some ad → 0 < n → ∀ k, (Value.slice Ad nd cd).ownBlock = some k → k < ad.block) (gr : wr.grownBy w2 (Value.slice Ad nd cd).ownBlock) : Fa b g w2 A n l := by
  refine ⟨⟨h.lst.1, fun j u hu => ?_⟩, h.ne⟩
  obtain ⟨ad, e, hlt, hc⟩ := h.lst.2 j u hu
  refine ⟨ad, e, Nat.lt_of_lt_of_le hlt gr.size, (World.cell?_of_block (a := ad.add j) (gr.block _ (by rw [addr_block]; exact hlt) (fun e2 => ?_))).trans hc⟩
  have := hl ad e (h.pos hu) _ e2.symm
  rw [addr_block] at this
  omega
theorem OwnK.top {α : Type} {K : Kind α} {l : List α} {B : Nat} (h : OwnK K w B Ad nd cd l) : ∀ k, (Value.slice Ad nd cd).ownBlock = some k → k < w.heap.size := fun k hk => (World.ownsRow.lt h k hk).2
end
end Go.Proofs.Ytncnfblnelkmbaa

/- Contract: ring.walk with the closure of ring.Ring. -/
namespace Go.Proofs.Ytncnfblnelkmbaa
set_option maxRecDepth 100000
open Go.RowKit Lm Sm Go.Maps
set_option linter.unusedVariables false
set_option linter.unusedSimpArgs false

set_option maxHeartbeats 16000000 in
set_option maxRecDepth 100000 in
theorem walk_ring (one : Int) (nx : Int → List Int) (U out : List Int) (G H : Nat) (w : World) (hK : ∀ W x, Q w W → (x = one ∨ x ∈ U) → Calls Try.prog 31 #[.int .i64 x, .pointer (some ⟨G, 0, none⟩), .pointer (some ⟨H, 0, none⟩)] W fun e w' => RetL numK W (nx x).length (nx x) e w')
    (hU : ∀ x, (x = one ∨ x ∈ U) → ∀ y ∈ nx x, y ∈ U) (hl : U.length ≤ 4000) (hM : ∀ x, (nx x).length ≤ 4000) (hI : ∀ y ∈ U, -9223372036854775808 ≤ y ∧ y ≤ 9223372036854775807) (hr : out.Pairwise (· < ·)) (hm : ∀ x, x ∈ out ↔ Rc nx one x) :
    Calls Try.prog 28 #[.int .i64 one, .func (.func 31) #[] #[.pointer (some ⟨G, 0, none⟩), .pointer (some ⟨H, 0, none⟩)]] w fun e w' => RetL numK w out.length out e w' := by
  have HK := Lib.hid hK
  have HU := Lib.hid hU
  have HM := Lib.hid hM
  have HI := Lib.hid hI
  have HO := Lib.hid (fun D K (h : Wk nx U one [] D K) => sort_rise hr h.nodup fun x => (h.done x).trans (hm x).symm)
  have hmm := @run_makeMap Try.prog
  have WS := Lib.hid (show Ws w (.slice (some ⟨w.heap.size + 1, 0, none⟩) 1 1) (.slice none 0 0) (.map []) 0 (((w.alloc (.map #[] 0)).alloc (.cells #[.int .i64 one] 3)).alloc (.cells #[.slice (some ⟨w.heap.size + 1, 0, none⟩) 1 1, .slice none 0 0] 69)) from by
    refine ⟨((World.ownsMap_made w Try.prog 3 unitElem).alloc _).alloc _, ?_, ((Q.refl w).alloc _ |>.alloc _).alloc _⟩
    have := Bx.new ((w.alloc (.map #[] 0)).alloc (.cells #[.int .i64 one] 3)) [.slice (some ⟨w.heap.size + 1, 0, none⟩) 1 1, .slice none 0 0] 69
    simpa using this)
  have FS := Lib.hid (show Fa w.heap.size (w.heap.size + 1 + 1) (((w.alloc (.map #[] 0)).alloc (.cells #[.int .i64 one] 3)).alloc (.cells #[.slice (some ⟨w.heap.size + 1, 0, none⟩) 1 1, .slice none 0 0] 69)) (some ⟨w.heap.size + 1, 0, none⟩) 1 [one] from by
    refine ⟨?_, fun ad e _ => by injection e with e; subst e; exact ⟨by show w.heap.size + 1 ≠ _; omega, by show w.heap.size + 1 ≠ _; omega⟩⟩
    have := (lst_lit1 (w.alloc (.map #[] 0)) one).q ((Q.refl _).alloc (.cells #[.slice (some ⟨w.heap.size + 1, 0, none⟩) 1 1, .slice none 0 0] 69))
    simpa using this)
  clear hK hU hM hI hr hm
  go_enter Try.func28, Try.ntmps28
  go_upto_region 5 with (fail)
  clear hmm
  generalize (((w.alloc (.map #[] 0)).alloc (.cells #[.int .i64 one] 3)).alloc (.cells #[.slice (some ⟨w.heap.size + 1, 0, none⟩) 1 1, .slice none 0 0] 69)) = W0 at WS FS ⊢
  go_loopw [5, 8] (fun dv tv wr => ∃ (tn : Int) (x0 x1 : Value) (AR : Option Addr) (cR : Nat) (Rl : List Int) (Ad : Option Addr) (cd : Nat) (Dn K : List Int) (D : DataW Unit), (tn = 0 ∧ x0 = .slice AR Rl.length cR ∨ tn = 1 ∧ x1 = .slice AR Rl.length cR) ∧ tv = .int .i64 tn ∧ dv = .slice Ad Dn.length cd ∧ Ws w x0 x1 D K.length wr ∧ KeysAre D K ∧ Wk nx U one Rl Dn K ∧ Fa w.heap.size (w.heap.size + 1 + 1) wr AR Rl.length Rl ∧ OwnK numK wr (w.heap.size + 1 + 1 + 1) Ad Dn.length cd Dn) (fun dv tv wr => (U.length - sLn dv) * 2 + rowF (w.heap.size + 1 + 1) tv wr)
  case atStart => exact ⟨0, _, _, _, _, [one], none, 0, [], [], _, .inl ⟨rfl, rfl⟩, rfl, rfl, WS.out, keys_nil, Wk.start nx U one, FS.out, OwnK.nil_ _ _ _⟩
  case round =>
    clear WS FS
    obtain ⟨tn, x0, x1, AR, cR, Rl, Ad, cd, Dn, K, D, ht, rfl, rfl, ws, hk, wk, fr, od⟩ := hrel
    have WS := Lib.hid ws
    have HKs := Lib.hid hk
    have WK := Lib.hid wk
    have FR := Lib.hid fr
    have OD := Lib.hid od
    have hDn := wk.len
    have hKn := wk.lenK
    have hRn : Rl.length ≤ 4001 := by have := wk.rn; omega
    clear ws hk wk fr od
    obtain ⟨⟨b0, b1⟩, f0, f1⟩ := WS.out.bx.get2
    rcases ht with ⟨rfl, rfl⟩ | ⟨rfl, rfl⟩
    · by_cases hR0 : Rl.length = 0
      · have HE := Lib.hid (List.eq_nil_of_length_eq_zero hR0)
        have HS := Lib.hid (HO.out Dn K (HE.out ▸ WK.out))
        rw [hR0] at b0
        go_wp2_with fail
        refine (sort_any Ad Dn.length cd (w.heap.size + 1 + 1 + 1) Dn wr OD.out WS.out.lt (by omega)).mono ?_
        rintro e w1 ⟨rfl, o1, q1⟩
        have hln : Dn.length = out.length := by rw [← HS.out, List.length_mergeSort]
        rw [HS.out] at o1
        have O1 := Lib.hid (o1.lower (b2 := w.heap.size) (by omega))
        have Q1 := Lib.hid (show Q w w1 from WS.out.q.below.trans (q1.mono (by omega)))
        clear o1 q1
        go_wp2
        go_ret
        exact ⟨Ad, cd, by rw [← hln]; rfl, by rw [← hln]; exact O1.out, Q1.out⟩
      · have hRp : 0 < Rl.length := by omega
        obtain ⟨adR, haR, _, _⟩ := load_num FR.out.lst hRp hRp
        subst haR
        have hRi : (0 : Int) < (Rl.length : Int) := by omega
        have HB := Lib.hid (And.intro b0 b1)
        have hF0 := rowF_is (tv := .int .i64 0) b0
        go_wp2
        clear b0 b1 f0 f1
        go_loopw [30] (fun i wr2 => ∃ (k cnt2 : Nat) (D2 : DataW Unit) (K2 : List Int), k ≤ Rl.length ∧ i = .int .i64 k ∧ Ws w (.slice (some adR) Rl.length cR) x1 D2 cnt2 wr2 ∧ KeysAre D2 K2 ∧ nxt nx K (Rl.take k) = K2 ∧ Fa w.heap.size (w.heap.size + 1 + 1) wr2 (some adR) Rl.length Rl ∧ OwnK numK wr2 (w.heap.size + 1 + 1 + 1) Ad Dn.length cd Dn ∧ cnt2 ≤ 4000 + k * 4000) (fun i _ => Rl.length - (intOf i).toNat)
        case atStart => exact ⟨0, K.length, D, K, Nat.zero_le _, rfl, WS.out, HKs.out, rfl, FR.out, OD.out, by omega⟩
        case round =>
          clear HKs FR OD
          have WS0 := WS
          clear WS
          obtain ⟨k, cnt2, D2, K2, hk, rfl, ws, hks, he, fr, od, hcnt⟩ := hrel
          have WS := Lib.hid ws
          have HKs := Lib.hid hks
          have HE := Lib.hid he
          have FR := Lib.hid fr
          have OD := Lib.hid od
          clear ws hks he fr od
          by_cases hlt : k < Rl.length
          · have hki : (k : Int) < (Rl.length : Int) := by omega
            obtain ⟨ad, hae, hab, x2⟩ := load_num FR.out.lst hlt hlt
            injection hae with hae
            subst hae
            have hu : Rl[k] = one ∨ Rl[k] ∈ U := (WK.out.sub _ (List.getElem_mem hlt)).imp id fun h => WK.out.inU _ h
            have HT := Lib.hid (nxt_at (nx := nx) (o := K) hlt)
            generalize Rl[k] = u at x2 HT hu
            have KC := Lib.hid (HK.out wr u WS.out.q hu)
            have HUu := Lib.hid (HU.out u hu)
            have hMu := HM.out u
            generalize nx u = ns at KC HUu hMu HT
            clear hu
            go_wp2_with fail
            refine KC.out.mono ?_
            rintro e w3 ⟨A3, c3, rfl, o3, q3⟩
            have F3 := Lib.hid (show Fa w.heap.size (w.heap.size + 1 + 1) w3 A3 ns.length ns from Fa.own o3 (by have := WS.out.lt; omega) (by have := WS.out.lt; omega))
            have WS3 := Lib.hid (WS.out.step q3)
            have FR3 := Lib.hid (FR.out.q q3)
            have OD3 := Lib.hid (OD.out.q q3)
            clear o3 q3 x2 KC
            go_wp2
            go_loopw [38] (fun i wr3 => ∃ (j cnt3 : Nat) (D3 : DataW Unit) (K3 : List Int), j ≤ ns.length ∧ i = .int .i64 j ∧ Ws w (.slice (some adR) Rl.length cR) x1 D3 cnt3 wr3 ∧ KeysAre D3 K3 ∧ insL K2 (ns.take j) = K3 ∧ Fa w.heap.size (w.heap.size + 1 + 1) wr3 (some adR) Rl.length Rl ∧ OwnK numK wr3 (w.heap.size + 1 + 1 + 1) Ad Dn.length cd Dn ∧ Fa w.heap.size (w.heap.size + 1 + 1) wr3 A3 ns.length ns ∧ cnt3 ≤ cnt2 + j) (fun i _ => ns.length - (intOf i).toNat)
            case atStart => exact ⟨0, cnt2, D2, K2, Nat.zero_le _, rfl, WS3.out, HKs.out, rfl, FR3.out, OD3.out, F3.out, by omega⟩
            case round =>
              clear WS HKs FR OD WS3 FR3 OD3 F3
              obtain ⟨j, cnt3, D3, K3, hj, rfl, ws, hks, he3, fr, od, f3, hcnt3⟩ := hrel
              have WS := Lib.hid ws
              have HKs := Lib.hid hks
              have HE3 := Lib.hid he3
              have FR := Lib.hid fr
              have OD := Lib.hid od
              have F3 := Lib.hid f3
              clear ws hks he3 fr od f3
              by_cases hjl : j < ns.length
              · have hji : (j : Int) < (ns.length : Int) := by omega
                obtain ⟨ad3, hae3, hab3, x3⟩ := load_num F3.out.lst hjl hjl
                subst hae3
                have HV := Lib.hid (HI.out _ (HUu.out _ (List.getElem_mem hjl)))
                have HT3 := Lib.hid (insL_at (o := K2) hjl)
                generalize ns[j] = v at x3 HV HT3
                have HW := Lib.hid (i64_wf HV.out.1 HV.out.2)
                go_wp2_with (at_mapUpdate
                             refine wpList_mapUpdate_own _ rfl _ _ _ 59 rfl 3 60 lawI Try.underlying59 unitElem w.heap.size cnt3 D3 rfl WS.out.own (by unfold maxLen; omega) (.int .i64 v) (.agg #[]) (.int .i64 v) rfl rfl (keyOf_int_mk Try.underlying3 HW.out) (.agg []) [] unitElem_mk ?_
                             intro w5 m5 g5
                             have S5 := Lib.hid (And.intro m5 g5)
                             clear m5 g5)
                go_roundw
                case rel => exact ⟨j + 1, cnt3 + 1, _, Lm.ins v K3, by omega, by go_num, WS.out.turn S5.out.2 S5.out.1, keys_ins HKs.out v _, by rw [HT3.out, HE3.out], FR.out.turn S5.out.2, OD.out.only S5.out.2 (by omega), F3.out.turn S5.out.2, by omega⟩
                case measure => simp [intOf]; omega
              · have HT4 := Lib.hid (show insL K2 ns = K3 by have := HE3.out; rwa [show ns.take j = ns from List.take_of_length_le (by omega)] at this)
                go_wp2
                go_roundw
                case rel => exact ⟨k + 1, cnt3, D3, K3, by omega, by go_num, WS.out, HKs.out, by rw [HT.out, HE.out, HT4.out], FR.out, OD.out, by omega⟩
                case measure => simp [intOf]; omega
          · have HE2 := Lib.hid (show nxt nx K Rl = K2 by have := HE.out; rwa [show Rl.take k = Rl from List.take_of_length_le (by omega)] at this)
            go_wp2
            go_loopw [49] (fun i wr4 => ∃ (j : Nat) (D4 : DataW Unit) (K4 : List Int), j ≤ Dn.length ∧ i = .int .i64 j ∧ Ws w (.slice (some adR) Rl.length cR) x1 D4 cnt2 wr4 ∧ KeysAre D4 K4 ∧ sans K2 (Dn.take j) = K4 ∧ OwnK numK wr4 (w.heap.size + 1 + 1 + 1) Ad Dn.length cd Dn) (fun i _ => Dn.length - (intOf i).toNat)
            case atStart => exact ⟨0, D2, K2, Nat.zero_le _, rfl, WS.out, HKs.out, by simp [sans_nil], OD.out⟩
            case round =>
              clear WS HKs FR OD HE
              obtain ⟨j, D4, K4, hj, rfl, ws, hks, he4, od⟩ := hrel
              have WS := Lib.hid ws
              have HKs := Lib.hid hks
              have HE4 := Lib.hid he4
              have OD := Lib.hid od
              clear ws hks he4 od
              by_cases hjl : j < Dn.length
              · have hji : (j : Int) < (Dn.length : Int) := by omega
                obtain ⟨ad3, hae3, hab3, x3⟩ := load_num OD.out.lst hjl hjl
                subst hae3
                have HV := Lib.hid (HI.out _ (WK.out.inU _ (List.getElem_mem hjl)))
                have HT3 := Lib.hid (sans_at (o := K2) hjl)
                generalize Dn[j] = v at x3 HV HT3
                have HW := Lib.hid (i64_wf HV.out.1 HV.out.2)
                go_wp2_with (at_delete
                             refine wpList_delete_own _ rfl _ _ 59 3 rfl 60 lawI Try.underlying59 unitElem w.heap.size cnt2 D4 rfl WS.out.own (.int .i64 v) (.int .i64 v) rfl (keyOf_int_mk Try.underlying3 HW.out) ?_
                             intro w5 m5 g5
                             have S5 := Lib.hid (And.intro m5 g5.grown)
                             clear m5 g5)
                go_roundw
                case rel => exact ⟨j + 1, _, K4.filter (fun x => decide (x ≠ v)), by omega, by go_num, WS.out.turn S5.out.2 S5.out.1, keys_del HKs.out S5.out.1.isMap, by rw [HT3.out, HE4.out], OD.out.only S5.out.2 (by omega)⟩
                case measure => simp [intOf]; omega
              · have HS := Lib.hid (show sans (nxt nx K Rl) Dn = K4 by rw [HE2.out]; have := HE4.out; rwa [show Dn.take j = Dn from List.take_of_length_le (by omega)] at this)
                have WK2 := Lib.hid (HS.out ▸ WK.out.step HU.out)
                have hsl := WK2.out.len
                have hsk := WK2.out.lenK
                rw [List.length_append] at hsl
                clear HS HE4 HE2
                generalize K4 = S at *
                have OT := Lib.hid (own_tight WS.out.own HKs.out WK2.out.kr)
                go_wp2_with fail
                refine (keys_any _ _).mono ?_
                rintro e w5 ⟨rfl, rfl⟩
                go_wp2_with fail
                refine (sorted_any w.heap.size S.length D4 S wr OT.out HKs.out WK2.out.kr (by omega)).mono ?_
                rintro e w6 ⟨A6, c6, rfl, o6, q6⟩
                have hnil : A6 = none → S.length = 0 ∧ c6 = 0 := fun e => by
                  rcases o6.parts with ⟨_, h1, h2, _⟩ | ⟨gg, cur, h1, _⟩
                  · exact ⟨h1, h2⟩
                  · rw [e] at h1; cases h1
                have HN := Lib.hid hnil
                have HT6 := Lib.hid (show ∀ ad, A6 = some ad → 0 < S.length → ∀ kk, (Value.slice Ad Dn.length cd).ownBlock = some kk → kk < ad.block from fun ad e _ kk hkk => Nat.lt_of_lt_of_le (OD.out.top kk hkk) (o6.blk e).1)
                have WT := Lib.hid (show Ws w (.slice (some adR) Rl.length cR) x1 D4 S.length wr from ⟨OT.out, WS.out.bx, WS.out.q⟩)
                have F6 := Lib.hid (show Fa w.heap.size (w.heap.size + 1 + 1) w6 A6 S.length S from Fa.own o6 (by have := WS.out.lt; omega) (by have := WS.out.lt; omega))
                have WS6 := Lib.hid (WT.out.step q6)
                have OD6 := Lib.hid (OD.out.q q6)
                clear o6 q6 hnil WT OT
                obtain ⟨⟨b0, b1⟩, f0, f1⟩ := WS6.out.bx.get2
                have hg6 := WS6.out.lt
                go_upto_region 22 with (fail)
                have WS7 := Lib.hid (WS6.out.set1 (.slice A6 S.length c6))
                have F7 := Lib.hid (F6.out.set 1 (.slice A6 S.length c6))
                have OD7 := Lib.hid (OD6.out.setCell (p := ⟨w.heap.size + 1 + 1, 1, none⟩) (show w.heap.size + 1 + 1 < w.heap.size + 1 + 1 + 1 by omega) (.slice A6 S.length c6))
                clear b0 b1 f0 f1 WS6 F6 OD6 hg6
                generalize w6.setCell ⟨w.heap.size + 1 + 1, 1, none⟩ (.slice A6 S.length c6) = W7 at WS7 F7 OD7 ⊢
                obtain ⟨⟨b0, b1⟩, f0, f1⟩ := WS7.out.bx.get2
                go_wp2_with (at_builtin
                             refine wpl_appKG numK rfl (.tmp 62) (.tmp 66) 29 rfl rfl (w.heap.size + 1 + 1 + 1) Ad Dn.length cd Dn rfl OD7.out A6 S.length c6 S rfl F7.out.lst HN.out (by show (Dn.length + S.length) * 8 ≤ _; omega) WS7.out.lt ?_
                             intro A8 c8 w8 o8 g8 _
                             have O8 := Lib.hid o8
                             have WS8 := Lib.hid (WS7.out.grown OD7.out g8)
                             have F8 := Lib.hid (F7.out.grown HT6.out g8)
                             clear o8 g8)
                have hF1 := rowF_is (tv := .int .i64 1) WS8.out.bx.get2.1.2
                go_roundw
                case rel => exact ⟨1, (.slice (some adR) Rl.length cR), (.slice A6 S.length c6), A6, c6, S, A8, c8, Dn ++ S, S, D4, .inr ⟨rfl, rfl⟩, by go_num, by rw [List.length_append], WS8.out, HKs.out, WK2.out, F8.out, by rw [List.length_append]; exact O8.out⟩
                case measure =>
                  show (U.length - (Dn.length + S.length)) * 2 + rowF (w.heap.size + 1 + 1) (.int .i64 1) w8 < (U.length - Dn.length) * 2 + rowF (w.heap.size + 1 + 1) (.int .i64 0) _
                  rw [hF1, hF0, if_neg hR0]
                  split <;> omega

    · by_cases hR0 : Rl.length = 0
      · have HE := Lib.hid (List.eq_nil_of_length_eq_zero hR0)
        have HS := Lib.hid (HO.out Dn K (HE.out ▸ WK.out))
        rw [hR0] at b1
        go_wp2_with fail
        refine (sort_any Ad Dn.length cd (w.heap.size + 1 + 1 + 1) Dn wr OD.out WS.out.lt (by omega)).mono ?_
        rintro e w1 ⟨rfl, o1, q1⟩
        have hln : Dn.length = out.length := by rw [← HS.out, List.length_mergeSort]
        rw [HS.out] at o1
        have O1 := Lib.hid (o1.lower (b2 := w.heap.size) (by omega))
        have Q1 := Lib.hid (show Q w w1 from WS.out.q.below.trans (q1.mono (by omega)))
        clear o1 q1
        go_wp2
        go_ret
        exact ⟨Ad, cd, by rw [← hln]; rfl, by rw [← hln]; exact O1.out, Q1.out⟩
      · have hRp : 0 < Rl.length := by omega
        obtain ⟨adR, haR, _, _⟩ := load_num FR.out.lst hRp hRp
        subst haR
        have hRi : (0 : Int) < (Rl.length : Int) := by omega
        have HB := Lib.hid (And.intro b0 b1)
        have hF0 := rowF_is (tv := .int .i64 1) b1
        go_wp2
        clear b0 b1 f0 f1
        go_loopw [30] (fun i wr2 => ∃ (k cnt2 : Nat) (D2 : DataW Unit) (K2 : List Int), k ≤ Rl.length ∧ i = .int .i64 k ∧ Ws w x0 (.slice (some adR) Rl.length cR) D2 cnt2 wr2 ∧ KeysAre D2 K2 ∧ nxt nx K (Rl.take k) = K2 ∧ Fa w.heap.size (w.heap.size + 1 + 1) wr2 (some adR) Rl.length Rl ∧ OwnK numK wr2 (w.heap.size + 1 + 1 + 1) Ad Dn.length cd Dn ∧ cnt2 ≤ 4000 + k * 4000) (fun i _ => Rl.length - (intOf i).toNat)
        case atStart => exact ⟨0, K.length, D, K, Nat.zero_le _, rfl, WS.out, HKs.out, rfl, FR.out, OD.out, by omega⟩
        case round =>
          clear HKs FR OD
          have WS0 := WS
          clear WS
          obtain ⟨k, cnt2, D2, K2, hk, rfl, ws, hks, he, fr, od, hcnt⟩ := hrel
          have WS := Lib.hid ws
          have HKs := Lib.hid hks
          have HE := Lib.hid he
          have FR := Lib.hid fr
          have OD := Lib.hid od
          clear ws hks he fr od
          by_cases hlt : k < Rl.length
          · have hki : (k : Int) < (Rl.length : Int) := by omega
            obtain ⟨ad, hae, hab, x2⟩ := load_num FR.out.lst hlt hlt
            injection hae with hae
            subst hae
            have hu : Rl[k] = one ∨ Rl[k] ∈ U := (WK.out.sub _ (List.getElem_mem hlt)).imp id fun h => WK.out.inU _ h
            have HT := Lib.hid (nxt_at (nx := nx) (o := K) hlt)
            generalize Rl[k] = u at x2 HT hu
            have KC := Lib.hid (HK.out wr u WS.out.q hu)
            have HUu := Lib.hid (HU.out u hu)
            have hMu := HM.out u
            generalize nx u = ns at KC HUu hMu HT
            clear hu
            go_wp2_with fail
            refine KC.out.mono ?_
            rintro e w3 ⟨A3, c3, rfl, o3, q3⟩
            have F3 := Lib.hid (show Fa w.heap.size (w.heap.size + 1 + 1) w3 A3 ns.length ns from Fa.own o3 (by have := WS.out.lt; omega) (by have := WS.out.lt; omega))
            have WS3 := Lib.hid (WS.out.step q3)
            have FR3 := Lib.hid (FR.out.q q3)
            have OD3 := Lib.hid (OD.out.q q3)
            clear o3 q3 x2 KC
            go_wp2
            go_loopw [38] (fun i wr3 => ∃ (j cnt3 : Nat) (D3 : DataW Unit) (K3 : List Int), j ≤ ns.length ∧ i = .int .i64 j ∧ Ws w x0 (.slice (some adR) Rl.length cR) D3 cnt3 wr3 ∧ KeysAre D3 K3 ∧ insL K2 (ns.take j) = K3 ∧ Fa w.heap.size (w.heap.size + 1 + 1) wr3 (some adR) Rl.length Rl ∧ OwnK numK wr3 (w.heap.size + 1 + 1 + 1) Ad Dn.length cd Dn ∧ Fa w.heap.size (w.heap.size + 1 + 1) wr3 A3 ns.length ns ∧ cnt3 ≤ cnt2 + j) (fun i _ => ns.length - (intOf i).toNat)
            case atStart => exact ⟨0, cnt2, D2, K2, Nat.zero_le _, rfl, WS3.out, HKs.out, rfl, FR3.out, OD3.out, F3.out, by omega⟩
            case round =>
              clear WS HKs FR OD WS3 FR3 OD3 F3
              obtain ⟨j, cnt3, D3, K3, hj, rfl, ws, hks, he3, fr, od, f3, hcnt3⟩ := hrel
              have WS := Lib.hid ws
              have HKs := Lib.hid hks
              have HE3 := Lib.hid he3
              have FR := Lib.hid fr
              have OD := Lib.hid od
              have F3 := Lib.hid f3
              clear ws hks he3 fr od f3
              by_cases hjl : j < ns.length
              · have hji : (j : Int) < (ns.length : Int) := by omega
                obtain ⟨ad3, hae3, hab3, x3⟩ := load_num F3.out.lst hjl hjl
                subst hae3
                have HV := Lib.hid (HI.out _ (HUu.out _ (List.getElem_mem hjl)))
                have HT3 := Lib.hid (insL_at (o := K2) hjl)
                generalize ns[j] = v at x3 HV HT3
                have HW := Lib.hid (i64_wf HV.out.1 HV.out.2)
                go_wp2_with (at_mapUpdate
                             refine wpList_mapUpdate_own _ rfl _ _ _ 59 rfl 3 60 lawI Try.underlying59 unitElem w.heap.size cnt3 D3 rfl WS.out.own (by unfold maxLen; omega) (.int .i64 v) (.agg #[]) (.int .i64 v) rfl rfl (keyOf_int_mk Try.underlying3 HW.out) (.agg []) [] unitElem_mk ?_
                             intro w5 m5 g5
                             have S5 := Lib.hid (And.intro m5 g5)
                             clear m5 g5)
                go_roundw
                case rel => exact ⟨j + 1, cnt3 + 1, _, Lm.ins v K3, by omega, by go_num, WS.out.turn S5.out.2 S5.out.1, keys_ins HKs.out v _, by rw [HT3.out, HE3.out], FR.out.turn S5.out.2, OD.out.only S5.out.2 (by omega), F3.out.turn S5.out.2, by omega⟩
                case measure => simp [intOf]; omega
              · have HT4 := Lib.hid (show insL K2 ns = K3 by have := HE3.out; rwa [show ns.take j = ns from List.take_of_length_le (by omega)] at this)
                go_wp2
                go_roundw
                case rel => exact ⟨k + 1, cnt3, D3, K3, by omega, by go_num, WS.out, HKs.out, by rw [HT.out, HE.out, HT4.out], FR.out, OD.out, by omega⟩
                case measure => simp [intOf]; omega
          · have HE2 := Lib.hid (show nxt nx K Rl = K2 by have := HE.out; rwa [show Rl.take k = Rl from List.take_of_length_le (by omega)] at this)
            go_wp2
            go_loopw [49] (fun i wr4 => ∃ (j : Nat) (D4 : DataW Unit) (K4 : List Int), j ≤ Dn.length ∧ i = .int .i64 j ∧ Ws w x0 (.slice (some adR) Rl.length cR) D4 cnt2 wr4 ∧ KeysAre D4 K4 ∧ sans K2 (Dn.take j) = K4 ∧ OwnK numK wr4 (w.heap.size + 1 + 1 + 1) Ad Dn.length cd Dn) (fun i _ => Dn.length - (intOf i).toNat)
            case atStart => exact ⟨0, D2, K2, Nat.zero_le _, rfl, WS.out, HKs.out, by simp [sans_nil], OD.out⟩
            case round =>
              clear WS HKs FR OD HE
              obtain ⟨j, D4, K4, hj, rfl, ws, hks, he4, od⟩ := hrel
              have WS := Lib.hid ws
              have HKs := Lib.hid hks
              have HE4 := Lib.hid he4
              have OD := Lib.hid od
              clear ws hks he4 od
              by_cases hjl : j < Dn.length
              · have hji : (j : Int) < (Dn.length : Int) := by omega
                obtain ⟨ad3, hae3, hab3, x3⟩ := load_num OD.out.lst hjl hjl
                subst hae3
                have HV := Lib.hid (HI.out _ (WK.out.inU _ (List.getElem_mem hjl)))
                have HT3 := Lib.hid (sans_at (o := K2) hjl)
                generalize Dn[j] = v at x3 HV HT3
                have HW := Lib.hid (i64_wf HV.out.1 HV.out.2)
                go_wp2_with (at_delete
                             refine wpList_delete_own _ rfl _ _ 59 3 rfl 60 lawI Try.underlying59 unitElem w.heap.size cnt2 D4 rfl WS.out.own (.int .i64 v) (.int .i64 v) rfl (keyOf_int_mk Try.underlying3 HW.out) ?_
                             intro w5 m5 g5
                             have S5 := Lib.hid (And.intro m5 g5.grown)
                             clear m5 g5)
                go_roundw
                case rel => exact ⟨j + 1, _, K4.filter (fun x => decide (x ≠ v)), by omega, by go_num, WS.out.turn S5.out.2 S5.out.1, keys_del HKs.out S5.out.1.isMap, by rw [HT3.out, HE4.out], OD.out.only S5.out.2 (by omega)⟩
                case measure => simp [intOf]; omega
              · have HS := Lib.hid (show sans (nxt nx K Rl) Dn = K4 by rw [HE2.out]; have := HE4.out; rwa [show Dn.take j = Dn from List.take_of_length_le (by omega)] at this)
                have WK2 := Lib.hid (HS.out ▸ WK.out.step HU.out)
                have hsl := WK2.out.len
                have hsk := WK2.out.lenK
                rw [List.length_append] at hsl
                clear HS HE4 HE2
                generalize K4 = S at *
                have OT := Lib.hid (own_tight WS.out.own HKs.out WK2.out.kr)
                go_wp2_with fail
                refine (keys_any _ _).mono ?_
                rintro e w5 ⟨rfl, rfl⟩
                go_wp2_with fail
                refine (sorted_any w.heap.size S.length D4 S wr OT.out HKs.out WK2.out.kr (by omega)).mono ?_
                rintro e w6 ⟨A6, c6, rfl, o6, q6⟩
                have hnil : A6 = none → S.length = 0 ∧ c6 = 0 := fun e => by
                  rcases o6.parts with ⟨_, h1, h2, _⟩ | ⟨gg, cur, h1, _⟩
                  · exact ⟨h1, h2⟩
                  · rw [e] at h1; cases h1
                have HN := Lib.hid hnil
                have HT6 := Lib.hid (show ∀ ad, A6 = some ad → 0 < S.length → ∀ kk, (Value.slice Ad Dn.length cd).ownBlock = some kk → kk < ad.block from fun ad e _ kk hkk => Nat.lt_of_lt_of_le (OD.out.top kk hkk) (o6.blk e).1)
                have WT := Lib.hid (show Ws w x0 (.slice (some adR) Rl.length cR) D4 S.length wr from ⟨OT.out, WS.out.bx, WS.out.q⟩)
                have F6 := Lib.hid (show Fa w.heap.size (w.heap.size + 1 + 1) w6 A6 S.length S from Fa.own o6 (by have := WS.out.lt; omega) (by have := WS.out.lt; omega))
                have WS6 := Lib.hid (WT.out.step q6)
                have OD6 := Lib.hid (OD.out.q q6)
                clear o6 q6 hnil WT OT
                obtain ⟨⟨b0, b1⟩, f0, f1⟩ := WS6.out.bx.get2
                have hg6 := WS6.out.lt
                go_upto_region 22 with (fail)
                have WS7 := Lib.hid (WS6.out.set0 (.slice A6 S.length c6))
                have F7 := Lib.hid (F6.out.set 0 (.slice A6 S.length c6))
                have OD7 := Lib.hid (OD6.out.setCell (p := ⟨w.heap.size + 1 + 1, 0, none⟩) (show w.heap.size + 1 + 1 < w.heap.size + 1 + 1 + 1 by omega) (.slice A6 S.length c6))
                clear b0 b1 f0 f1 WS6 F6 OD6 hg6
                generalize w6.setCell ⟨w.heap.size + 1 + 1, 0, none⟩ (.slice A6 S.length c6) = W7 at WS7 F7 OD7 ⊢
                obtain ⟨⟨b0, b1⟩, f0, f1⟩ := WS7.out.bx.get2
                go_wp2_with (at_builtin
                             refine wpl_appKG numK rfl (.tmp 62) (.tmp 66) 29 rfl rfl (w.heap.size + 1 + 1 + 1) Ad Dn.length cd Dn rfl OD7.out A6 S.length c6 S rfl F7.out.lst HN.out (by show (Dn.length + S.length) * 8 ≤ _; omega) WS7.out.lt ?_
                             intro A8 c8 w8 o8 g8 _
                             have O8 := Lib.hid o8
                             have WS8 := Lib.hid (WS7.out.grown OD7.out g8)
                             have F8 := Lib.hid (F7.out.grown HT6.out g8)
                             clear o8 g8)
                have hF1 := rowF_is (tv := .int .i64 0) WS8.out.bx.get2.1.1
                go_roundw
                case rel => exact ⟨0, (.slice A6 S.length c6), (.slice (some adR) Rl.length cR), A6, c6, S, A8, c8, Dn ++ S, S, D4, .inl ⟨rfl, rfl⟩, by go_num, by rw [List.length_append], WS8.out, HKs.out, WK2.out, F8.out, by rw [List.length_append]; exact O8.out⟩
                case measure =>
                  show (U.length - (Dn.length + S.length)) * 2 + rowF (w.heap.size + 1 + 1) (.int .i64 0) w8 < (U.length - Dn.length) * 2 + rowF (w.heap.size + 1 + 1) (.int .i64 1) _
                  rw [hF1, hF0, if_neg hR0]
                  split <;> omega

end Go.Proofs.Ytncnfblnelkmbaa

/- Contract: ring.walk with the closure of ring.Reach. -/
namespace Go.Proofs.Ytncnfblnelkmbaa
set_option maxRecDepth 100000
open Go.RowKit Lm Sm Go.Maps
set_option linter.unusedVariables false
set_option linter.unusedSimpArgs false

set_option maxHeartbeats 16000000 in
set_option maxRecDepth 100000 in
theorem walk_reach (one : Int) (nx : Int → List Int) (U out : List Int) (G : Nat) (w : World) (hK : ∀ W x, Q w W → (x = one ∨ x ∈ U) → Calls Try.prog 29 #[.int .i64 x, .pointer (some ⟨G, 0, none⟩)] W fun e w' => RetL numK W (nx x).length (nx x) e w')
    (hU : ∀ x, (x = one ∨ x ∈ U) → ∀ y ∈ nx x, y ∈ U) (hl : U.length ≤ 4000) (hM : ∀ x, (nx x).length ≤ 4000) (hI : ∀ y ∈ U, -9223372036854775808 ≤ y ∧ y ≤ 9223372036854775807) (hr : out.Pairwise (· < ·)) (hm : ∀ x, x ∈ out ↔ Rc nx one x) :
    Calls Try.prog 28 #[.int .i64 one, .func (.func 29) #[] #[.pointer (some ⟨G, 0, none⟩)]] w fun e w' => RetL numK w out.length out e w' := by
  have HK := Lib.hid hK
  have HU := Lib.hid hU
  have HM := Lib.hid hM
  have HI := Lib.hid hI
  have HO := Lib.hid (fun D K (h : Wk nx U one [] D K) => sort_rise hr h.nodup fun x => (h.done x).trans (hm x).symm)
  have hmm := @run_makeMap Try.prog
  have WS := Lib.hid (show Ws w (.slice (some ⟨w.heap.size + 1, 0, none⟩) 1 1) (.slice none 0 0) (.map []) 0 (((w.alloc (.map #[] 0)).alloc (.cells #[.int .i64 one] 3)).alloc (.cells #[.slice (some ⟨w.heap.size + 1, 0, none⟩) 1 1, .slice none 0 0] 69)) from by
    refine ⟨((World.ownsMap_made w Try.prog 3 unitElem).alloc _).alloc _, ?_, ((Q.refl w).alloc _ |>.alloc _).alloc _⟩
    have := Bx.new ((w.alloc (.map #[] 0)).alloc (.cells #[.int .i64 one] 3)) [.slice (some ⟨w.heap.size + 1, 0, none⟩) 1 1, .slice none 0 0] 69
    simpa using this)
  have FS := Lib.hid (show Fa w.heap.size (w.heap.size + 1 + 1) (((w.alloc (.map #[] 0)).alloc (.cells #[.int .i64 one] 3)).alloc (.cells #[.slice (some ⟨w.heap.size + 1, 0, none⟩) 1 1, .slice none 0 0] 69)) (some ⟨w.heap.size + 1, 0, none⟩) 1 [one] from by
    refine ⟨?_, fun ad e _ => by injection e with e; subst e; exact ⟨by show w.heap.size + 1 ≠ _; omega, by show w.heap.size + 1 ≠ _; omega⟩⟩
    have := (lst_lit1 (w.alloc (.map #[] 0)) one).q ((Q.refl _).alloc (.cells #[.slice (some ⟨w.heap.size + 1, 0, none⟩) 1 1, .slice none 0 0] 69))
    simpa using this)
  clear hK hU hM hI hr hm
  go_enter Try.func28, Try.ntmps28
  go_upto_region 5 with (fail)
  clear hmm
  generalize (((w.alloc (.map #[] 0)).alloc (.cells #[.int .i64 one] 3)).alloc (.cells #[.slice (some ⟨w.heap.size + 1, 0, none⟩) 1 1, .slice none 0 0] 69)) = W0 at WS FS ⊢
  go_loopw [5, 8] (fun dv tv wr => ∃ (tn : Int) (x0 x1 : Value) (AR : Option Addr) (cR : Nat) (Rl : List Int) (Ad : Option Addr) (cd : Nat) (Dn K : List Int) (D : DataW Unit), (tn = 0 ∧ x0 = .slice AR Rl.length cR ∨ tn = 1 ∧ x1 = .slice AR Rl.length cR) ∧ tv = .int .i64 tn ∧ dv = .slice Ad Dn.length cd ∧ Ws w x0 x1 D K.length wr ∧ KeysAre D K ∧ Wk nx U one Rl Dn K ∧ Fa w.heap.size (w.heap.size + 1 + 1) wr AR Rl.length Rl ∧ OwnK numK wr (w.heap.size + 1 + 1 + 1) Ad Dn.length cd Dn) (fun dv tv wr => (U.length - sLn dv) * 2 + rowF (w.heap.size + 1 + 1) tv wr)
  case atStart => exact ⟨0, _, _, _, _, [one], none, 0, [], [], _, .inl ⟨rfl, rfl⟩, rfl, rfl, WS.out, keys_nil, Wk.start nx U one, FS.out, OwnK.nil_ _ _ _⟩
  case round =>
    clear WS FS
    obtain ⟨tn, x0, x1, AR, cR, Rl, Ad, cd, Dn, K, D, ht, rfl, rfl, ws, hk, wk, fr, od⟩ := hrel
    have WS := Lib.hid ws
    have HKs := Lib.hid hk
    have WK := Lib.hid wk
    have FR := Lib.hid fr
    have OD := Lib.hid od
    have hDn := wk.len
    have hKn := wk.lenK
    have hRn : Rl.length ≤ 4001 := by have := wk.rn; omega
    clear ws hk wk fr od
    obtain ⟨⟨b0, b1⟩, f0, f1⟩ := WS.out.bx.get2
    rcases ht with ⟨rfl, rfl⟩ | ⟨rfl, rfl⟩
    · by_cases hR0 : Rl.length = 0
      · have HE := Lib.hid (List.eq_nil_of_length_eq_zero hR0)
        have HS := Lib.hid (HO.out Dn K (HE.out ▸ WK.out))
        rw [hR0] at b0
        go_wp2_with fail
        refine (sort_any Ad Dn.length cd (w.heap.size + 1 + 1 + 1) Dn wr OD.out WS.out.lt (by omega)).mono ?_
        rintro e w1 ⟨rfl, o1, q1⟩
        have hln : Dn.length = out.length := by rw [← HS.out, List.length_mergeSort]
        rw [HS.out] at o1
        have O1 := Lib.hid (o1.lower (b2 := w.heap.size) (by omega))
        have Q1 := Lib.hid (show Q w w1 from WS.out.q.below.trans (q1.mono (by omega)))
        clear o1 q1
        go_wp2
        go_ret
        exact ⟨Ad, cd, by rw [← hln]; rfl, by rw [← hln]; exact O1.out, Q1.out⟩
      · have hRp : 0 < Rl.length := by omega
        obtain ⟨adR, haR, _, _⟩ := load_num FR.out.lst hRp hRp
        subst haR
        have hRi : (0 : Int) < (Rl.length : Int) := by omega
        have HB := Lib.hid (And.intro b0 b1)
        have hF0 := rowF_is (tv := .int .i64 0) b0
        go_wp2
        clear b0 b1 f0 f1
        go_loopw [30] (fun i wr2 => ∃ (k cnt2 : Nat) (D2 : DataW Unit) (K2 : List Int), k ≤ Rl.length ∧ i = .int .i64 k ∧ Ws w (.slice (some adR) Rl.length cR) x1 D2 cnt2 wr2 ∧ KeysAre D2 K2 ∧ nxt nx K (Rl.take k) = K2 ∧ Fa w.heap.size (w.heap.size + 1 + 1) wr2 (some adR) Rl.length Rl ∧ OwnK numK wr2 (w.heap.size + 1 + 1 + 1) Ad Dn.length cd Dn ∧ cnt2 ≤ 4000 + k * 4000) (fun i _ => Rl.length - (intOf i).toNat)
        case atStart => exact ⟨0, K.length, D, K, Nat.zero_le _, rfl, WS.out, HKs.out, rfl, FR.out, OD.out, by omega⟩
        case round =>
          clear HKs FR OD
          have WS0 := WS
          clear WS
          obtain ⟨k, cnt2, D2, K2, hk, rfl, ws, hks, he, fr, od, hcnt⟩ := hrel
          have WS := Lib.hid ws
          have HKs := Lib.hid hks
          have HE := Lib.hid he
          have FR := Lib.hid fr
          have OD := Lib.hid od
          clear ws hks he fr od
          by_cases hlt : k < Rl.length
          · have hki : (k : Int) < (Rl.length : Int) := by omega
            obtain ⟨ad, hae, hab, x2⟩ := load_num FR.out.lst hlt hlt
            injection hae with hae
            subst hae
            have hu : Rl[k] = one ∨ Rl[k] ∈ U := (WK.out.sub _ (List.getElem_mem hlt)).imp id fun h => WK.out.inU _ h
            have HT := Lib.hid (nxt_at (nx := nx) (o := K) hlt)
            generalize Rl[k] = u at x2 HT hu
            have KC := Lib.hid (HK.out wr u WS.out.q hu)
            have HUu := Lib.hid (HU.out u hu)
            have hMu := HM.out u
            generalize nx u = ns at KC HUu hMu HT
            clear hu
            go_wp2_with fail
            refine KC.out.mono ?_
            rintro e w3 ⟨A3, c3, rfl, o3, q3⟩
            have F3 := Lib.hid (show Fa w.heap.size (w.heap.size + 1 + 1) w3 A3 ns.length ns from Fa.own o3 (by have := WS.out.lt; omega) (by have := WS.out.lt; omega))
            have WS3 := Lib.hid (WS.out.step q3)
            have FR3 := Lib.hid (FR.out.q q3)
            have OD3 := Lib.hid (OD.out.q q3)
            clear o3 q3 x2 KC
            go_wp2
            go_loopw [38] (fun i wr3 => ∃ (j cnt3 : Nat) (D3 : DataW Unit) (K3 : List Int), j ≤ ns.length ∧ i = .int .i64 j ∧ Ws w (.slice (some adR) Rl.length cR) x1 D3 cnt3 wr3 ∧ KeysAre D3 K3 ∧ insL K2 (ns.take j) = K3 ∧ Fa w.heap.size (w.heap.size + 1 + 1) wr3 (some adR) Rl.length Rl ∧ OwnK numK wr3 (w.heap.size + 1 + 1 + 1) Ad Dn.length cd Dn ∧ Fa w.heap.size (w.heap.size + 1 + 1) wr3 A3 ns.length ns ∧ cnt3 ≤ cnt2 + j) (fun i _ => ns.length - (intOf i).toNat)
            case atStart => exact ⟨0, cnt2, D2, K2, Nat.zero_le _, rfl, WS3.out, HKs.out, rfl, FR3.out, OD3.out, F3.out, by omega⟩
            case round =>
              clear WS HKs FR OD WS3 FR3 OD3 F3
              obtain ⟨j, cnt3, D3, K3, hj, rfl, ws, hks, he3, fr, od, f3, hcnt3⟩ := hrel
              have WS := Lib.hid ws
              have HKs := Lib.hid hks
              have HE3 := Lib.hid he3
              have FR := Lib.hid fr
              have OD := Lib.hid od
              have F3 := Lib.hid f3
              clear ws hks he3 fr od f3
              by_cases hjl : j < ns.length
              · have hji : (j : Int) < (ns.length : Int) := by omega
                obtain ⟨ad3, hae3, hab3, x3⟩ := load_num F3.out.lst hjl hjl
                subst hae3
                have HV := Lib.hid (HI.out _ (HUu.out _ (List.getElem_mem hjl)))
                have HT3 := Lib.hid (insL_at (o := K2) hjl)
                generalize ns[j] = v at x3 HV HT3
                have HW := Lib.hid (i64_wf HV.out.1 HV.out.2)
                go_wp2_with (at_mapUpdate
                             refine wpList_mapUpdate_own _ rfl _ _ _ 59 rfl 3 60 lawI Try.underlying59 unitElem w.heap.size cnt3 D3 rfl WS.out.own (by unfold maxLen; omega) (.int .i64 v) (.agg #[]) (.int .i64 v) rfl rfl (keyOf_int_mk Try.underlying3 HW.out) (.agg []) [] unitElem_mk ?_
                             intro w5 m5 g5
                             have S5 := Lib.hid (And.intro m5 g5)
                             clear m5 g5)
                go_roundw
                case rel => exact ⟨j + 1, cnt3 + 1, _, Lm.ins v K3, by omega, by go_num, WS.out.turn S5.out.2 S5.out.1, keys_ins HKs.out v _, by rw [HT3.out, HE3.out], FR.out.turn S5.out.2, OD.out.only S5.out.2 (by omega), F3.out.turn S5.out.2, by omega⟩
                case measure => simp [intOf]; omega
              · have HT4 := Lib.hid (show insL K2 ns = K3 by have := HE3.out; rwa [show ns.take j = ns from List.take_of_length_le (by omega)] at this)
                go_wp2
                go_roundw
                case rel => exact ⟨k + 1, cnt3, D3, K3, by omega, by go_num, WS.out, HKs.out, by rw [HT.out, HE.out, HT4.out], FR.out, OD.out, by omega⟩
                case measure => simp [intOf]; omega
          · have HE2 := Lib.hid (show nxt nx K Rl = K2 by have := HE.out; rwa [show Rl.take k = Rl from List.take_of_length_le (by omega)] at this)
            go_wp2
            go_loopw [49] (fun i wr4 => ∃ (j : Nat) (D4 : DataW Unit) (K4 : List Int), j ≤ Dn.length ∧ i = .int .i64 j ∧ Ws w (.slice (some adR) Rl.length cR) x1 D4 cnt2 wr4 ∧ KeysAre D4 K4 ∧ sans K2 (Dn.take j) = K4 ∧ OwnK numK wr4 (w.heap.size + 1 + 1 + 1) Ad Dn.length cd Dn) (fun i _ => Dn.length - (intOf i).toNat)
            case atStart => exact ⟨0, D2, K2, Nat.zero_le _, rfl, WS.out, HKs.out, by simp [sans_nil], OD.out⟩
            case round =>
              clear WS HKs FR OD HE
              obtain ⟨j, D4, K4, hj, rfl, ws, hks, he4, od⟩ := hrel
              have WS := Lib.hid ws
              have HKs := Lib.hid hks
              have HE4 := Lib.hid he4
              have OD := Lib.hid od
              clear ws hks he4 od
              by_cases hjl : j < Dn.length
              · have hji : (j : Int) < (Dn.length : Int) := by omega
                obtain ⟨ad3, hae3, hab3, x3⟩ := load_num OD.out.lst hjl hjl
                subst hae3
                have HV := Lib.hid (HI.out _ (WK.out.inU _ (List.getElem_mem hjl)))
                have HT3 := Lib.hid (sans_at (o := K2) hjl)
                generalize Dn[j] = v at x3 HV HT3
                have HW := Lib.hid (i64_wf HV.out.1 HV.out.2)
                go_wp2_with (at_delete
                             refine wpList_delete_own _ rfl _ _ 59 3 rfl 60 lawI Try.underlying59 unitElem w.heap.size cnt2 D4 rfl WS.out.own (.int .i64 v) (.int .i64 v) rfl (keyOf_int_mk Try.underlying3 HW.out) ?_
                             intro w5 m5 g5
                             have S5 := Lib.hid (And.intro m5 g5.grown)
                             clear m5 g5)
                go_roundw
                case rel => exact ⟨j + 1, _, K4.filter (fun x => decide (x ≠ v)), by omega, by go_num, WS.out.turn S5.out.2 S5.out.1, keys_del HKs.out S5.out.1.isMap, by rw [HT3.out, HE4.out], OD.out.only S5.out.2 (by omega)⟩
                case measure => simp [intOf]; omega
              · have HS := Lib.hid (show sans (nxt nx K Rl) Dn = K4 by rw [HE2.out]; have := HE4.out; rwa [show Dn.take j = Dn from List.take_of_length_le (by omega)] at this)
                have WK2 := Lib.hid (HS.out ▸ WK.out.step HU.out)
                have hsl := WK2.out.len
                have hsk := WK2.out.lenK
                rw [List.length_append] at hsl
                clear HS HE4 HE2
                generalize K4 = S at *
                have OT := Lib.hid (own_tight WS.out.own HKs.out WK2.out.kr)
                go_wp2_with fail
                refine (keys_any _ _).mono ?_
                rintro e w5 ⟨rfl, rfl⟩
                go_wp2_with fail
                refine (sorted_any w.heap.size S.length D4 S wr OT.out HKs.out WK2.out.kr (by omega)).mono ?_
                rintro e w6 ⟨A6, c6, rfl, o6, q6⟩
                have hnil : A6 = none → S.length = 0 ∧ c6 = 0 := fun e => by
                  rcases o6.parts with ⟨_, h1, h2, _⟩ | ⟨gg, cur, h1, _⟩
                  · exact ⟨h1, h2⟩
                  · rw [e] at h1; cases h1
                have HN := Lib.hid hnil
                have HT6 := Lib.hid (show ∀ ad, A6 = some ad → 0 < S.length → ∀ kk, (Value.slice Ad Dn.length cd).ownBlock = some kk → kk < ad.block from fun ad e _ kk hkk => Nat.lt_of_lt_of_le (OD.out.top kk hkk) (o6.blk e).1)
                have WT := Lib.hid (show Ws w (.slice (some adR) Rl.length cR) x1 D4 S.length wr from ⟨OT.out, WS.out.bx, WS.out.q⟩)
                have F6 := Lib.hid (show Fa w.heap.size (w.heap.size + 1 + 1) w6 A6 S.length S from Fa.own o6 (by have := WS.out.lt; omega) (by have := WS.out.lt; omega))
                have WS6 := Lib.hid (WT.out.step q6)
                have OD6 := Lib.hid (OD.out.q q6)
                clear o6 q6 hnil WT OT
                obtain ⟨⟨b0, b1⟩, f0, f1⟩ := WS6.out.bx.get2
                have hg6 := WS6.out.lt
                go_upto_region 22 with (fail)
                have WS7 := Lib.hid (WS6.out.set1 (.slice A6 S.length c6))
                have F7 := Lib.hid (F6.out.set 1 (.slice A6 S.length c6))
                have OD7 := Lib.hid (OD6.out.setCell (p := ⟨w.heap.size + 1 + 1, 1, none⟩) (show w.heap.size + 1 + 1 < w.heap.size + 1 + 1 + 1 by omega) (.slice A6 S.length c6))
                clear b0 b1 f0 f1 WS6 F6 OD6 hg6
                generalize w6.setCell ⟨w.heap.size + 1 + 1, 1, none⟩ (.slice A6 S.length c6) = W7 at WS7 F7 OD7 ⊢
                obtain ⟨⟨b0, b1⟩, f0, f1⟩ := WS7.out.bx.get2
                go_wp2_with (at_builtin
                             refine wpl_appKG numK rfl (.tmp 62) (.tmp 66) 29 rfl rfl (w.heap.size + 1 + 1 + 1) Ad Dn.length cd Dn rfl OD7.out A6 S.length c6 S rfl F7.out.lst HN.out (by show (Dn.length + S.length) * 8 ≤ _; omega) WS7.out.lt ?_
                             intro A8 c8 w8 o8 g8 _
                             have O8 := Lib.hid o8
                             have WS8 := Lib.hid (WS7.out.grown OD7.out g8)
                             have F8 := Lib.hid (F7.out.grown HT6.out g8)
                             clear o8 g8)
                have hF1 := rowF_is (tv := .int .i64 1) WS8.out.bx.get2.1.2
                go_roundw
                case rel => exact ⟨1, (.slice (some adR) Rl.length cR), (.slice A6 S.length c6), A6, c6, S, A8, c8, Dn ++ S, S, D4, .inr ⟨rfl, rfl⟩, by go_num, by rw [List.length_append], WS8.out, HKs.out, WK2.out, F8.out, by rw [List.length_append]; exact O8.out⟩
                case measure =>
                  show (U.length - (Dn.length + S.length)) * 2 + rowF (w.heap.size + 1 + 1) (.int .i64 1) w8 < (U.length - Dn.length) * 2 + rowF (w.heap.size + 1 + 1) (.int .i64 0) _
                  rw [hF1, hF0, if_neg hR0]
                  split <;> omega

    · by_cases hR0 : Rl.length = 0
      · have HE := Lib.hid (List.eq_nil_of_length_eq_zero hR0)
        have HS := Lib.hid (HO.out Dn K (HE.out ▸ WK.out))
        rw [hR0] at b1
        go_wp2_with fail
        refine (sort_any Ad Dn.length cd (w.heap.size + 1 + 1 + 1) Dn wr OD.out WS.out.lt (by omega)).mono ?_
        rintro e w1 ⟨rfl, o1, q1⟩
        have hln : Dn.length = out.length := by rw [← HS.out, List.length_mergeSort]
        rw [HS.out] at o1
        have O1 := Lib.hid (o1.lower (b2 := w.heap.size) (by omega))
        have Q1 := Lib.hid (show Q w w1 from WS.out.q.below.trans (q1.mono (by omega)))
        clear o1 q1
        go_wp2
        go_ret
        exact ⟨Ad, cd, by rw [← hln]; rfl, by rw [← hln]; exact O1.out, Q1.out⟩
      · have hRp : 0 < Rl.length := by omega
        obtain ⟨adR, haR, _, _⟩ := load_num FR.out.lst hRp hRp
        subst haR
        have hRi : (0 : Int) < (Rl.length : Int) := by omega
        have HB := Lib.hid (And.intro b0 b1)
        have hF0 := rowF_is (tv := .int .i64 1) b1
        go_wp2
        clear b0 b1 f0 f1
        go_loopw [30] (fun i wr2 => ∃ (k cnt2 : Nat) (D2 : DataW Unit) (K2 : List Int), k ≤ Rl.length ∧ i = .int .i64 k ∧ Ws w x0 (.slice (some adR) Rl.length cR) D2 cnt2 wr2 ∧ KeysAre D2 K2 ∧ nxt nx K (Rl.take k) = K2 ∧ Fa w.heap.size (w.heap.size + 1 + 1) wr2 (some adR) Rl.length Rl ∧ OwnK numK wr2 (w.heap.size + 1 + 1 + 1) Ad Dn.length cd Dn ∧ cnt2 ≤ 4000 + k * 4000) (fun i _ => Rl.length - (intOf i).toNat)
        case atStart => exact ⟨0, K.length, D, K, Nat.zero_le _, rfl, WS.out, HKs.out, rfl, FR.out, OD.out, by omega⟩
        case round =>
          clear HKs FR OD
          have WS0 := WS
          clear WS
          obtain ⟨k, cnt2, D2, K2, hk, rfl, ws, hks, he, fr, od, hcnt⟩ := hrel
          have WS := Lib.hid ws
          have HKs := Lib.hid hks
          have HE := Lib.hid he
          have FR := Lib.hid fr
          have OD := Lib.hid od
          clear ws hks he fr od
          by_cases hlt : k < Rl.length
          · have hki : (k : Int) < (Rl.length : Int) := by omega
            obtain ⟨ad, hae, hab, x2⟩ := load_num FR.out.lst hlt hlt
            injection hae with hae
            subst hae
            have hu : Rl[k] = one ∨ Rl[k] ∈ U := (WK.out.sub _ (List.getElem_mem hlt)).imp id fun h => WK.out.inU _ h
            have HT := Lib.hid (nxt_at (nx := nx) (o := K) hlt)
            generalize Rl[k] = u at x2 HT hu
            have KC := Lib.hid (HK.out wr u WS.out.q hu)
            have HUu := Lib.hid (HU.out u hu)
            have hMu := HM.out u
            generalize nx u = ns at KC HUu hMu HT
            clear hu
            go_wp2_with fail
            refine KC.out.mono ?_
            rintro e w3 ⟨A3, c3, rfl, o3, q3⟩
            have F3 := Lib.hid (show Fa w.heap.size (w.heap.size + 1 + 1) w3 A3 ns.length ns from Fa.own o3 (by have := WS.out.lt; omega) (by have := WS.out.lt; omega))
            have WS3 := Lib.hid (WS.out.step q3)
            have FR3 := Lib.hid (FR.out.q q3)
            have OD3 := Lib.hid (OD.out.q q3)
            clear o3 q3 x2 KC
            go_wp2
            go_loopw [38] (fun i wr3 => ∃ (j cnt3 : Nat) (D3 : DataW Unit) (K3 : List Int), j ≤ ns.length ∧ i = .int .i64 j ∧ Ws w x0 (.slice (some adR) Rl.length cR) D3 cnt3 wr3 ∧ KeysAre D3 K3 ∧ insL K2 (ns.take j) = K3 ∧ Fa w.heap.size (w.heap.size + 1 + 1) wr3 (some adR) Rl.length Rl ∧ OwnK numK wr3 (w.heap.size + 1 + 1 + 1) Ad Dn.length cd Dn ∧ Fa w.heap.size (w.heap.size + 1 + 1) wr3 A3 ns.length ns ∧ cnt3 ≤ cnt2 + j) (fun i _ => ns.length - (intOf i).toNat)
            case atStart => exact ⟨0, cnt2, D2, K2, Nat.zero_le _, rfl, WS3.out, HKs.out, rfl, FR3.out, OD3.out, F3.out, by omega⟩
            case round =>
              clear WS HKs FR OD WS3 FR3 OD3 F3
              obtain ⟨j, cnt3, D3, K3, hj, rfl, ws, hks, he3, fr, od, f3, hcnt3⟩ := hrel
              have WS := Lib.hid ws
              have HKs := Lib.hid hks
              have HE3 := Lib.hid he3
              have FR := Lib.hid fr
              have OD := Lib.hid od
              have F3 := Lib.hid f3
              clear ws hks he3 fr od f3
              by_cases hjl : j < ns.length
              · have hji : (j : Int) < (ns.length : Int) := by omega
                obtain ⟨ad3, hae3, hab3, x3⟩ := load_num F3.out.lst hjl hjl
                subst hae3
                have HV := Lib.hid (HI.out _ (HUu.out _ (List.getElem_mem hjl)))
                have HT3 := Lib.hid (insL_at (o := K2) hjl)
                generalize ns[j] = v at x3 HV HT3
                have HW := Lib.hid (i64_wf HV.out.1 HV.out.2)
                go_wp2_with (at_mapUpdate
                             refine wpList_mapUpdate_own _ rfl _ _ _ 59 rfl 3 60 lawI Try.underlying59 unitElem w.heap.size cnt3 D3 rfl WS.out.own (by unfold maxLen; omega) (.int .i64 v) (.agg #[]) (.int .i64 v) rfl rfl (keyOf_int_mk Try.underlying3 HW.out) (.agg []) [] unitElem_mk ?_
                             intro w5 m5 g5
                             have S5 := Lib.hid (And.intro m5 g5)
                             clear m5 g5)
                go_roundw
                case rel => exact ⟨j + 1, cnt3 + 1, _, Lm.ins v K3, by omega, by go_num, WS.out.turn S5.out.2 S5.out.1, keys_ins HKs.out v _, by rw [HT3.out, HE3.out], FR.out.turn S5.out.2, OD.out.only S5.out.2 (by omega), F3.out.turn S5.out.2, by omega⟩
                case measure => simp [intOf]; omega
              · have HT4 := Lib.hid (show insL K2 ns = K3 by have := HE3.out; rwa [show ns.take j = ns from List.take_of_length_le (by omega)] at this)
                go_wp2
                go_roundw
                case rel => exact ⟨k + 1, cnt3, D3, K3, by omega, by go_num, WS.out, HKs.out, by rw [HT.out, HE.out, HT4.out], FR.out, OD.out, by omega⟩
                case measure => simp [intOf]; omega
          · have HE2 := Lib.hid (show nxt nx K Rl = K2 by have := HE.out; rwa [show Rl.take k = Rl from List.take_of_length_le (by omega)] at this)
            go_wp2
            go_loopw [49] (fun i wr4 => ∃ (j : Nat) (D4 : DataW Unit) (K4 : List Int), j ≤ Dn.length ∧ i = .int .i64 j ∧ Ws w x0 (.slice (some adR) Rl.length cR) D4 cnt2 wr4 ∧ KeysAre D4 K4 ∧ sans K2 (Dn.take j) = K4 ∧ OwnK numK wr4 (w.heap.size + 1 + 1 + 1) Ad Dn.length cd Dn) (fun i _ => Dn.length - (intOf i).toNat)
            case atStart => exact ⟨0, D2, K2, Nat.zero_le _, rfl, WS.out, HKs.out, by simp [sans_nil], OD.out⟩
            case round =>
              clear WS HKs FR OD HE
              obtain ⟨j, D4, K4, hj, rfl, ws, hks, he4, od⟩ := hrel
              have WS := Lib.hid ws
              have HKs := Lib.hid hks
              have HE4 := Lib.hid he4
              have OD := Lib.hid od
              clear ws hks he4 od
              by_cases hjl : j < Dn.length
              · have hji : (j : Int) < (Dn.length : Int) := by omega
                obtain ⟨ad3, hae3, hab3, x3⟩ := load_num OD.out.lst hjl hjl
                subst hae3
                have HV := Lib.hid (HI.out _ (WK.out.inU _ (List.getElem_mem hjl)))
                have HT3 := Lib.hid (sans_at (o := K2) hjl)
                generalize Dn[j] = v at x3 HV HT3
                have HW := Lib.hid (i64_wf HV.out.1 HV.out.2)
                go_wp2_with (at_delete
                             refine wpList_delete_own _ rfl _ _ 59 3 rfl 60 lawI Try.underlying59 unitElem w.heap.size cnt2 D4 rfl WS.out.own (.int .i64 v) (.int .i64 v) rfl (keyOf_int_mk Try.underlying3 HW.out) ?_
                             intro w5 m5 g5
                             have S5 := Lib.hid (And.intro m5 g5.grown)
                             clear m5 g5)
                go_roundw
                case rel => exact ⟨j + 1, _, K4.filter (fun x => decide (x ≠ v)), by omega, by go_num, WS.out.turn S5.out.2 S5.out.1, keys_del HKs.out S5.out.1.isMap, by rw [HT3.out, HE4.out], OD.out.only S5.out.2 (by omega)⟩
                case measure => simp [intOf]; omega
              · have HS := Lib.hid (show sans (nxt nx K Rl) Dn = K4 by rw [HE2.out]; have := HE4.out; rwa [show Dn.take j = Dn from List.take_of_length_le (by omega)] at this)
                have WK2 := Lib.hid (HS.out ▸ WK.out.step HU.out)
                have hsl := WK2.out.len
                have hsk := WK2.out.lenK
                rw [List.length_append] at hsl
                clear HS HE4 HE2
                generalize K4 = S at *
                have OT := Lib.hid (own_tight WS.out.own HKs.out WK2.out.kr)
                go_wp2_with fail
                refine (keys_any _ _).mono ?_
                rintro e w5 ⟨rfl, rfl⟩
                go_wp2_with fail
                refine (sorted_any w.heap.size S.length D4 S wr OT.out HKs.out WK2.out.kr (by omega)).mono ?_
                rintro e w6 ⟨A6, c6, rfl, o6, q6⟩
                have hnil : A6 = none → S.length = 0 ∧ c6 = 0 := fun e => by
                  rcases o6.parts with ⟨_, h1, h2, _⟩ | ⟨gg, cur, h1, _⟩
                  · exact ⟨h1, h2⟩
                  · rw [e] at h1; cases h1
                have HN := Lib.hid hnil
                have HT6 := Lib.hid (show ∀ ad, A6 = some ad → 0 < S.length → ∀ kk, (Value.slice Ad Dn.length cd).ownBlock = some kk → kk < ad.block from fun ad e _ kk hkk => Nat.lt_of_lt_of_le (OD.out.top kk hkk) (o6.blk e).1)
                have WT := Lib.hid (show Ws w x0 (.slice (some adR) Rl.length cR) D4 S.length wr from ⟨OT.out, WS.out.bx, WS.out.q⟩)
                have F6 := Lib.hid (show Fa w.heap.size (w.heap.size + 1 + 1) w6 A6 S.length S from Fa.own o6 (by have := WS.out.lt; omega) (by have := WS.out.lt; omega))
                have WS6 := Lib.hid (WT.out.step q6)
                have OD6 := Lib.hid (OD.out.q q6)
                clear o6 q6 hnil WT OT
                obtain ⟨⟨b0, b1⟩, f0, f1⟩ := WS6.out.bx.get2
                have hg6 := WS6.out.lt
                go_upto_region 22 with (fail)
                have WS7 := Lib.hid (WS6.out.set0 (.slice A6 S.length c6))
                have F7 := Lib.hid (F6.out.set 0 (.slice A6 S.length c6))
                have OD7 := Lib.hid (OD6.out.setCell (p := ⟨w.heap.size + 1 + 1, 0, none⟩) (show w.heap.size + 1 + 1 < w.heap.size + 1 + 1 + 1 by omega) (.slice A6 S.length c6))
                clear b0 b1 f0 f1 WS6 F6 OD6 hg6
                generalize w6.setCell ⟨w.heap.size + 1 + 1, 0, none⟩ (.slice A6 S.length c6) = W7 at WS7 F7 OD7 ⊢
                obtain ⟨⟨b0, b1⟩, f0, f1⟩ := WS7.out.bx.get2
                go_wp2_with (at_builtin
                             refine wpl_appKG numK rfl (.tmp 62) (.tmp 66) 29 rfl rfl (w.heap.size + 1 + 1 + 1) Ad Dn.length cd Dn rfl OD7.out A6 S.length c6 S rfl F7.out.lst HN.out (by show (Dn.length + S.length) * 8 ≤ _; omega) WS7.out.lt ?_
                             intro A8 c8 w8 o8 g8 _
                             have O8 := Lib.hid o8
                             have WS8 := Lib.hid (WS7.out.grown OD7.out g8)
                             have F8 := Lib.hid (F7.out.grown HT6.out g8)
                             clear o8 g8)
                have hF1 := rowF_is (tv := .int .i64 0) WS8.out.bx.get2.1.1
                go_roundw
                case rel => exact ⟨0, (.slice A6 S.length c6), (.slice (some adR) Rl.length cR), A6, c6, S, A8, c8, Dn ++ S, S, D4, .inl ⟨rfl, rfl⟩, by go_num, by rw [List.length_append], WS8.out, HKs.out, WK2.out, F8.out, by rw [List.length_append]; exact O8.out⟩
                case measure =>
                  show (U.length - (Dn.length + S.length)) * 2 + rowF (w.heap.size + 1 + 1) (.int .i64 0) w8 < (U.length - Dn.length) * 2 + rowF (w.heap.size + 1 + 1) (.int .i64 1) _
                  rw [hF1, hF0, if_neg hR0]
                  split <;> omega

end Go.Proofs.Ytncnfblnelkmbaa

/- Rows of rows of numbers: the heads of slices as a kind of elements; make([][]int, n). -/
namespace Go.Proofs.Ytncnfblnelkmbaa
set_option maxRecDepth 100000
open Go.RowKit Lm
set_option linter.unusedVariables false
set_option linter.unusedSimpArgs false

abbrev Hdr := Option Addr × Nat × Nat
def hdrK : Kind Hdr where
  T := 29
  S := 52
  k := 1
  bs := 24
  z := .slice none 0 0
  row := fun r => [.slice r.1 r.2.1 r.2.2]
  pos := by omega
  bpos := by omega
  len := fun _ => rfl
  one := fun _ u hu => by simp at hu; rcases hu with rfl; rfl
  und := Try.underlying52
  info := by kernel_rfl
  zc := rfl
theorem hdr_zero : ∀ n : Nat, hdrK.rows (List.replicate n ((none, 0, 0) : Hdr)) = List.replicate n (.slice none 0 0)
  | 0 => rfl
  | n + 1 => by
    rw [List.replicate_succ, Kind.rows, hdr_zero n]
    rfl
theorem wpl_makeH {w : World} {ops : Array Oper} {rest : List Oper} {o : Oper} {a : Act} {R : Exit → Act → World → Prop} (hgd : o.guard = none) (l c : Operand) (hop : o.op = Op.makeSlice hdrK.S l c)
    (base n : Nat) (hl : a.eval l = .int .i64 (n : Int)) (hc : a.eval c = .int .i64 (n : Int)) (hn : n ≤ 1000000) (hb : base ≤ w.heap.size)
    (hk : ∀ w', OwnK hdrK w' base (some ⟨w.heap.size, 0, none⟩) n n (List.replicate n (none, 0, 0)) → Q w w' → wpList Try.prog ops R rest (a.put o.dst (.slice (some ⟨w.heap.size, 0, none⟩) n n)) w') : wpList Try.prog ops R (o :: rest) a w := by
  obtain ⟨i, hi, hz, hs, hy⟩ := info_parts hdrK.info
  refine wpList_make_full w hgd l c hdrK.S hop base hdrK.T i hdrK.z hdrK.k hdrK.und hi hz hs .i64 .i64 _ _ n hl hc rfl rfl ?_ (by unfold maxLen; omega) hb fun w' h1 h2 => hk w' ?_ (below_grown h2 (Nat.le_refl _) (fun k hk => by cases hk))
  · rw [hy]; show 24 * n ≤ _; omega
  · unfold OwnK
    rw [hdr_zero]
    have e : (madeCells hdrK.z.cells (n * hdrK.k)).toList = List.replicate n (.slice none 0 0) := by
      rw [show n * hdrK.k = n from Nat.mul_one n]
      exact toList_madeCells_one _ _
    rw [e] at h1
    exact h1
section
variable {w : World} {base g n c k : Nat} {hs : List Hdr}
theorem hdr_cell (h : OwnK hdrK w base (some ⟨g, 0, none⟩) n c hs) (hk : k < hs.length) : w.cell? ⟨g, k, none⟩ = some (.slice hs[k].1 hs[k].2.1 hs[k].2.2) ∧ w.frozen? ⟨g, k, none⟩ = false := by
  have h1 := h.cells hk 0 _ rfl
  rw [show k * hdrK.k + 0 = k from Nat.mul_one k] at h1
  exact ⟨h1, h.free k⟩
theorem hdr_put (h : OwnK hdrK w base (some ⟨g, 0, none⟩) n c hs) (hk : k < hs.length) (x : Hdr) : OwnK hdrK (w.setCell ⟨g, k, none⟩ (.slice x.1 x.2.1 x.2.2)) base (some ⟨g, 0, none⟩) n c (hs.set k x) := by
  have h1 := h.put hk x
  rw [show k * hdrK.k = k from Nat.mul_one k] at h1
  exact h1
theorem load_hdr {A : Option Addr} (h : Lst hdrK w A n hs) (hk : k < n) (hl : k < hs.length) : ∃ ad, A = some ad ∧ ad.block < w.heap.size ∧ w.cell? (ad.add k) = some (.slice hs[k].1 hs[k].2.1 hs[k].2.2) := by
  obtain ⟨ad, e, hb, hc⟩ := h.load hk hl
  refine ⟨ad, e, hb, ?_⟩
  have := hc 0 _ rfl
  rwa [show k * hdrK.k = k from Nat.mul_one k] at this
theorem OwnK.spot {α : Type} {K : Kind α} {A : Option Addr} {l : List α} (h : OwnK K w base A n c l) : ∀ ad, A = some ad → ad.spot = none := fun ad e => by
  rcases h.parts with ⟨e0, _⟩ | ⟨k, cur, e0, hk, _⟩
  · rw [e0] at e; cases e
  · rw [e0] at e; injection e with e; subst e; rfl
end
/-- what the closure of ring.Ring holds. -/
structure Bk (G H : Nat) (A1 : Option Addr) (n1 c1 : Nat) (ga : Addr) (all : List Int) (hs : List Hdr) (f : Int → List Int) (W : World) : Prop where
  g1 : Bx W G [.slice A1 n1 c1]
  g2 : Bx W H [.slice (some ga) n1 n1]
  la : Lst numK W A1 n1 all
  lh : Lst hdrK W (some ga) n1 hs
  el : ∀ i (h : i < hs.length) (h2 : i < all.length), Lst numK W hs[i].1 hs[i].2.1 (f all[i]) ∧ ∀ ad, hs[i].1 = some ad → ad.spot = none
theorem Bk.q {G H : Nat} {A1 : Option Addr} {n1 c1 : Nat} {ga : Addr} {all : List Int} {hs : List Hdr} {f : Int → List Int} {W W2 : World} (h : Bk G H A1 n1 c1 ga all hs f W) (q : Q W W2) : Bk G H A1 n1 c1 ga all hs f W2 :=
  ⟨h.g1.q q, h.g2.q q, h.la.q q, h.lh.q q, fun i h1 h2 => ⟨(h.el i h1 h2).1.q q, (h.el i h1 h2).2⟩⟩
end Go.Proofs.Ytncnfblnelkmbaa

/- Contract: slices.BinarySearch at integers, in a row that rises. -/
namespace Go.Proofs.Ytncnfblnelkmbaa
set_option maxRecDepth 100000
open Go.RowKit
set_option linter.unusedVariables false
set_option linter.unusedSimpArgs false

theorem bsearch_any (x : Int) (A : Option Addr) (n c : Nat) (l : List Int) (w : World) (h : Lst numK w A n l) (hA : ∀ ad, A = some ad → ad.spot = none) (hs : l.Pairwise (· < ·)) (hn : n ≤ 1000000) :
    Calls Try.prog 32 #[.slice A n c, .int .i64 x] w fun e w' => ∃ i : Int, e = .returned (.tuple #[.int .i64 i, .bool (decide (x ∈ l))]) ∧ Q w w' := by
  have hl := h.len
  match n, l, h, hl with
  | 0, [], h, _ =>
    refine (Try.slices_BinarySearch_int_empty A c x w).mono fun e w' hx => ?_
    obtain ⟨he, rfl⟩ := hx
    exact ⟨0, by rw [he]; simp, Q.refl _⟩
  | n + 1, l, h, hl =>
    obtain ⟨⟨b, o, p⟩, rfl, _, _⟩ := load_num h (Nat.succ_pos n) (by omega)
    have hp : p = none := hA _ rfl
    subst hp
    refine (Try.slices_BinarySearch_int b o (n + 1) c l x w (by omega) (by omega) (fun j hj => ?_) ?_).mono fun e w' hx => ?_
    · obtain ⟨ad, e, _, hc⟩ := load_num h (k := j) (by omega) hj
      injection e with e
      subst e
      have e0 : l.getD j 0 = l[j] := by simp [List.getD, hj]
      rw [e0]
      have e1 : (⟨b, o, none⟩ : Addr).add j = ⟨b, o + j, none⟩ := by unfold Addr.add; split <;> simp_all
      rw [← e1]
      exact hc
    · exact List.Pairwise.sublist (List.take_sublist _ _) (hs.imp fun h => Int.le_of_lt h)
    · obtain ⟨he, q, rfl⟩ := hx
      rw [List.take_of_length_le (by omega)] at he
      have e2 : l.contains x = decide (x ∈ l) := by simp
      rw [e2] at he
      exact ⟨_, he, (Q.refl w).drewN q⟩
end Go.Proofs.Ytncnfblnelkmbaa

/- Contracts: ring.Reach, and the closures of ring.Reach and ring.Ring. -/
namespace Go.Proofs.Ytncnfblnelkmbaa
set_option maxRecDepth 100000
open Go.RowKit Lm Sm
set_option linter.unusedVariables false
set_option linter.unusedSimpArgs false

theorem reach1_any (A B : Option Addr) (n c m d : Nat) (l : Lo) (x : Int) (G : Nat) (w : World) (hb : Bx w G [.slice A n c, .slice B m d]) (hA : Lst holdK w A n l.held) (hB : In_ claimK w B m d l.queue) (hi : I64H l.held) (hj : I64C l.queue) (hn : n + m ≤ 4000) :
    Calls Try.prog 29 #[.int .i64 x, .pointer (some ⟨G, 0, none⟩)] w fun e w' => RetL numK w (aft l x).length (aft l x) e w' := by
  have K := Lib.hid (lafter_any A B n c m d l x w hA hB hi hj hn)
  generalize aft l x = r at K ⊢
  obtain ⟨⟨b0, b1⟩, _⟩ := hb.get2
  clear hA hB hi hj hb
  go_enter Try.func29, Try.ntmps29
  go_wp2_with fail
  refine K.out.mono ?_
  rintro e w1 ⟨A1, c1, rfl, o1, q1⟩
  have O1 := Lib.hid o1
  have Q1 := Lib.hid q1
  clear o1 q1
  go_wp2
  go_ret
  exact ⟨A1, c1, rfl, O1.out, Q1.out⟩
theorem node_i64 {l : Lo} (hi : I64H l.held) (hj : I64C l.queue) : ∀ y ∈ nodes l, -9223372036854775808 ≤ y ∧ y ≤ 9223372036854775807 := fun y hy => by
  rcases node_is hy with ⟨a, ha, e⟩ | ⟨a, ha, e⟩
  · rw [← e]; exact hi a ha
  · rw [← e]; exact hj a ha
theorem nodes_few {n m : Nat} {l : Lo} (h1 : l.held.length = n) (h2 : l.queue.length = m) (hn : n + m ≤ 4000) : (nodes l).length ≤ 4000 := by
  have := nodes_len l
  omega
theorem lreach_any (A B : Option Addr) (n c m d : Nat) (l : Lo) (txn : Int) (w : World) (hA : Lst holdK w A n l.held) (hB : In_ claimK w B m d l.queue) (hi : I64H l.held) (hj : I64C l.queue) (hn : n + m ≤ 4000) :
    Calls Try.prog 13 #[locV A n c B m d, .int .i64 txn] w fun e w' => RetL numK w (reach l txn).length (reach l txn) e w' := by
  have R0 := Lib.hid (Bx.new w [.slice A n c, .slice B m d] 25)
  have Q0 := Lib.hid ((Q.refl w).alloc (.cells #[.slice A n c, .slice B m d] 25))
  have hnd := nodes_few hA.len hB.len hn
  have K := Lib.hid (fun W0 (r0 : Bx W0 w.heap.size [.slice A n c, .slice B m d]) (q0 : Q w W0) => walk_reach txn (aft l) (nodes l) (reach l txn) w.heap.size W0 (fun W x q _ => reach1_any A B n c m d l x w.heap.size W (r0.q q) (hA.q (q0.trans q)) (hB.q (q0.trans q)) hi hj hn)
    (fun x _ y hy => aft_node hy) hnd (fun x => Nat.le_trans (aft_len l x) hnd) (node_i64 hi hj) (reach_rise l txn) (fun x => mem_reach.trans rc_reach.symm))
  generalize reach l txn = r at K ⊢
  clear hA hB hi hj
  go_enter Try.func13, Try.ntmps13
  go_upto_region 1 with (fail)
  have R0 : Hid (Bx (w.alloc (.cells #[.slice A n c, .slice B m d] 25)) w.heap.size [.slice A n c, .slice B m d]) := R0
  generalize w.alloc (.cells #[.slice A n c, .slice B m d] 25) = W0 at R0 Q0 ⊢
  go_wp2_with fail
  refine (K.out _ R0.out Q0.out).mono ?_
  rintro e w1 ⟨A1, c1, rfl, o1, q1⟩
  have O1 := Lib.hid (o1.lower Q0.out.size)
  have Q1 := Lib.hid (Q0.out.trans q1)
  clear o1 q1
  go_wp2
  go_ret
  exact ⟨A1, c1, rfl, O1.out, Q1.out⟩

theorem filt1_yes {P : Int → Bool} {l : List Int} {k : Nat} (hk : k < l.length) (h : P l[k] = true) : (l.take (k + 1)).filter P = (l.take k).filter P ++ [l[k]] := by
  rw [List.take_succ_eq_append_getElem hk, List.filter_append]; simp [h]
theorem filt1_no {P : Int → Bool} {l : List Int} {k : Nat} (hk : k < l.length) (h : P l[k] = false) : (l.take (k + 1)).filter P = (l.take k).filter P := by
  rw [List.take_succ_eq_append_getElem hk, List.filter_append]; simp [h]
set_option maxHeartbeats 4000000 in
theorem ring1_any (G H : Nat) (A1 : Option Addr) (n1 c1 : Nat) (ga : Addr) (all : List Int) (hs : List Hdr) (f : Int → List Int) (x : Int) (w : World) (hb : Bk G H A1 n1 c1 ga all hs f w) (hn : n1 ≤ 4000) (hr : ∀ y, (f y).Pairwise (· < ·)) (hl : ∀ y, (f y).length ≤ 4000) :
    Calls Try.prog 31 #[.int .i64 x, .pointer (some ⟨G, 0, none⟩), .pointer (some ⟨H, 0, none⟩)] w fun e w' => RetL numK w (all.filter fun y => decide (x ∈ f y)).length (all.filter fun y => decide (x ∈ f y)) e w' := by
  have HB := Lib.hid hb
  have HR := Lib.hid hr
  have HL := Lib.hid hl
  have hal := hb.la.len
  have hhl := hb.lh.len
  have c0 := (hb.g1 0 _ rfl).1
  generalize hP : (fun y => decide (x ∈ f y)) = P
  have HP := Lib.hid (fun y => show decide (x ∈ f y) = P y from congrFun hP y)
  clear hP hb hr hl
  go_enter Try.func31, Try.ntmps31
  go_wp2
  clear c0
  go_loopw [5, 12] (fun o i wr => ∃ (k : Nat) (C : Option Addr) (q : Nat) (os : List Int), k ≤ n1 ∧ i = .int .i64 k ∧ o = .slice C os.length q ∧ OwnK numK wr w.heap.size C os.length q os ∧ (all.take k).filter P = os ∧ Q w wr) (fun _ i _ => n1 - (intOf i).toNat)
  case atStart => exact ⟨0, none, 0, [], Nat.zero_le _, rfl, rfl, OwnK.nil_ _ _ _, rfl, Q.refl _⟩
  case round =>
    obtain ⟨k, C, q, os, hk, rfl, rfl, o1, he, q1⟩ := hrel
    have HO := Lib.hid o1
    have HE := Lib.hid he
    have HQ := Lib.hid q1
    have hos : os.length ≤ 4000 := by
      have h1 := List.length_filter_le P (all.take k)
      rw [he, List.length_take] at h1
      omega
    clear o1 he q1
    by_cases hlt : k < n1
    · have hki : (k : Int) < (n1 : Int) := by omega
      have HBq := Lib.hid (HB.out.q HQ.out)
      obtain ⟨ad, hae, hab, x0⟩ := load_num HBq.out.la hlt (by omega)
      subst hae
      obtain ⟨ad2, hae2, hab2, y0⟩ := load_hdr HBq.out.lh hlt (by omega)
      injection hae2 with hae2
      subst hae2
      have g0 := (HBq.out.g2 0 _ rfl).1
      have HEl := Lib.hid (HBq.out.el k (by omega) (by omega))
      have hkl : k < all.length := by omega
      have HY := Lib.hid (fun h => filt1_yes (P := P) hkl h)
      have HN := Lib.hid (fun h => filt1_no (P := P) hkl h)
      generalize all[k] = u at x0 HEl HY HN
      generalize hs[k] = hd at y0 HEl
      obtain ⟨Ah, nh, ch⟩ := hd
      simp only at y0 HEl
      have hnl : nh ≤ 4000 := by rw [← HEl.out.1.len]; exact HL.out u
      have KB := Lib.hid (fun W q => bsearch_any x Ah nh ch (f u) W (HEl.out.1.q q) HEl.out.2 (HR.out u) (by omega))
      have hPu0 := HP.out u
      cases hPu : P u
      case true =>
        have HG := Lib.hid (HY.out hPu)
        rw [hPu0, hPu] at KB
        clear HY HN hPu hPu0
        go_wp2_with fail
        refine (KB.out _ (Q.refl wr)).mono ?_
        rintro e w5 ⟨ix, rfl, q5⟩
        have HQ5 := Lib.hid (HQ.out.trans q5)
        have HO5 := Lib.hid (HO.out.q q5)
        clear q5 x0 y0 g0
        go_wp2_with (at_builtin
                     refine wpl_appK numK rfl _ _ 29 rfl rfl w.heap.size C os.length q os rfl (HO5.out.alloc _) (some ⟨w5.heap.size, 0, none⟩) 1 1 [u] rfl (lst_lit1 w5 u) (fun e => by cases e) (by show (os.length + 1) * 8 ≤ _; omega) (HQ5.out.alloc _).size ?_
                     intro A6 c6 w6 o6 b6
                     have O6 := Lib.hid o6
                     have Q6 := Lib.hid (show Q w w6 from (HQ5.out.alloc (.cells #[.int .i64 u] 3)).below.trans b6)
                     clear o6 b6)
        go_roundw
        case rel => exact ⟨k + 1, A6, c6, os ++ [u], by omega, by go_num, by rw [List.length_append]; rfl, by rw [List.length_append]; exact O6.out, by rw [HG.out, HE.out], Q6.out⟩
        case measure => simp [intOf]; omega
      case false =>
        have HG := Lib.hid (HN.out hPu)
        rw [hPu0, hPu] at KB
        clear HY HN hPu hPu0
        go_wp2_with fail
        refine (KB.out _ (Q.refl wr)).mono ?_
        rintro e w5 ⟨ix, rfl, q5⟩
        have HQ5 := Lib.hid (HQ.out.trans q5)
        have HO5 := Lib.hid (HO.out.q q5)
        clear q5 x0 y0 g0
        go_wp2
        go_roundw
        case rel => exact ⟨k + 1, C, q, os, by omega, by go_num, rfl, HO5.out, by rw [HG.out, HE.out], HQ5.out⟩
        case measure => simp [intOf]; omega
    · have HF := Lib.hid (show all.filter P = os by have := HE.out; rwa [List.take_of_length_le (by omega)] at this)
      go_wp2
      go_ret
      exact ⟨C, q, by rw [HF.out]; rfl, by rw [HF.out]; exact HO.out, HQ.out⟩
end Go.Proofs.Ytncnfblnelkmbaa
