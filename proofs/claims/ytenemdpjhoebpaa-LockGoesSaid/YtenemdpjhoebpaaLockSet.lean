/- What Settle keeps: its locks, and whom it has told. -/
import Derived.Test.YtenemdpjhoebpaaLockAsk
import Derived.Test.YtenemdpjhoebpaaLockErase
import Derived.ScopeJumps
import Derived.WalkMore
namespace Go.Proofs.Ytenemdpjhoebpaa
set_option maxRecDepth 100000
open Go.RowKit Prm Lm Sm
set_option linter.unusedVariables false
set_option linter.unusedSimpArgs false

theorem tHN : holdK.T ≠ numK.T := by decide
theorem tCN : claimK.T ≠ numK.T := by decide
theorem Bx.kept {w w' : World} {b g : Nat} {vs : List Value} (h : Bx w b vs) (hg : w.grownBy w' (some g)) (hne : b ≠ g) : Bx w' b vs := fun j v hj => by
  have hb : b < w.heap.size := block_lt_of_cell (h j v hj).1
  have e := hg.block b hb (by intro e; injection e with e; exact hne e)
  exact ⟨(World.cell?_of_block (a := ⟨b, j, none⟩) e).trans (h j v hj).1, (World.frozen?_of_block (a := ⟨b, j, none⟩) e).trans (h j v hj).2⟩
theorem Bx.get5 {w : World} {b : Nat} {x y z u v : Value} (h : Bx w b [x, y, z, u, v]) : (w.cell? ⟨b, 0, none⟩ = some x ∧ w.cell? ⟨b, 1, none⟩ = some y ∧ w.cell? ⟨b, 2, none⟩ = some z ∧ w.cell? ⟨b, 3, none⟩ = some u ∧ w.cell? ⟨b, 4, none⟩ = some v) ∧ w.frozen? ⟨b, 0, none⟩ = false :=
  ⟨⟨(h 0 _ rfl).1, (h 1 _ rfl).1, (h 2 _ rfl).1, (h 3 _ rfl).1, (h 4 _ rfl).1⟩, (h 0 _ rfl).2⟩
theorem OwnK.under {α : Type} {K : Kind α} {w : World} {base n c : Nat} {A : Option Addr} {l : List α} (h : OwnK K w base A n c l) : ∀ a, A = some a → a.block < w.heap.size := by
  intro a e
  subst e
  rcases h.parts with ⟨e, _⟩ | ⟨g, cur, e, _, hh, _⟩
  · cases e
  · injection e with e; subst e; exact (Array.getElem?_eq_some_iff.1 hh).1
theorem Bx.grown {w w' : World} {b : Nat} {vs : List Value} (h : Bx w b vs) {A : Option Addr} {n c : Nat} (hg : w.grownBy w' (Value.slice A n c).ownBlock) (hA : ∀ a, A = some a → a.block < b) : Bx w' b vs := fun j v hj => by
  have hb : b < w.heap.size := block_lt_of_cell (h j v hj).1
  have e := hg.block b hb (by
    intro e
    cases A with
    | none => cases e
    | some a => simp only [Value.ownBlock, Option.some.injEq] at e; have := hA a rfl; omega)
  exact ⟨(World.cell?_of_block (a := ⟨b, j, none⟩) e).trans (h j v hj).1, (World.frozen?_of_block (a := ⟨b, j, none⟩) e).trans (h j v hj).2⟩
/-- .. and the numbers that were told. -/
structure Ls (w : World) (g r : Nat) (A : Option Addr) (n c : Nat) (B : Option Addr) (m d : Nat) (C : Option Addr) (p q : Nat) (l : Lo) (os : List Int) (wr : World) : Prop where
  la : La w g r A n c B m d l wr
  o3 : OwnK numK wr (r + 1) C p q os
section
variable {w wr w2 w4 w5 : World} {g r n c m d n2 c2 m2 d2 p q p2 q2 : Nat} {A B C A2 B2 C2 : Option Addr} {l l2 : Lo} {os os2 : List Int}
theorem Ls.step (h : Ls w g r A n c B m d C p q l os wr) (y : Q wr w2) : Ls w g r A n c B m d C p q l os w2 := ⟨h.la.step y, h.o3.q y⟩
theorem Ls.pushH (h : Ls w g r A n c B m d C p q l os wr) (y : Q wr w4) {hs : List Ho} (o : OwnK holdK w5 (r + 1) A2 n2 c2 hs) (gr : w4.grownBy w5 (Value.slice A n c).ownBlock) :
    Ls w g r A2 n2 c2 B m d C p q ⟨hs, l.queue⟩ os (w5.setCell ⟨g, 0, none⟩ (.slice A2 n2 c2)) := by
  have hr := h.la.hr
  exact ⟨h.la.pushH y o gr, ((h.o3.q y).away gr (apt_kinds tHN (h.la.o1.q y) (h.o3.q y)) (fun _ => trivial)).setCell (p := ⟨g, 0, none⟩) (by show g < r + 1; omega) _⟩
theorem Ls.pushC (h : Ls w g r A n c B m d C p q l os wr) (y : Q wr w4) {hs : List Cl} (o : OwnK claimK w5 (r + 1) B2 m2 d2 hs) (gr : w4.grownBy w5 (Value.slice B m d).ownBlock) :
    Ls w g r A n c B2 m2 d2 C p q ⟨l.held, hs⟩ os (w5.setCell ⟨g, 1, none⟩ (.slice B2 m2 d2)) := by
  have hr := h.la.hr
  exact ⟨h.la.pushC y o gr, ((h.o3.q y).away gr (apt_kinds tCN (h.la.o2.q y) (h.o3.q y)) (fun _ => trivial)).setCell (p := ⟨g, 1, none⟩) (by show g < r + 1; omega) _⟩
theorem Ls.tell (h : Ls w g r A n c B m d C p q l os wr) (y : Q wr w4) {hs : List Int} (o : OwnK numK w5 (r + 1) C2 p2 q2 hs) (gr : w4.grownBy w5 (Value.slice C p q).ownBlock) :
    Ls w g r A n c B m d C2 p2 q2 l hs w5 := by
  have h4 := h.step y
  have hr := h.la.hr
  have hrl := h4.la.b3.lt
  have hb : Below (r + 1) w4 w5 := grown_below h4.o3 gr (by omega)
  exact ⟨⟨h4.la.b1.below hb (by omega), h4.la.b3.below hb (by omega), h4.la.o1.away gr (apt_kinds tHN h4.la.o1 h4.o3).symm (fun _ => trivial), h4.la.o2.away gr (apt_kinds tCN h4.la.o2 h4.o3).symm (fun _ => trivial),
    h4.la.q.below.trans (hb.mono (by have := h.la.hg; omega)), h.la.hg, h.la.hr⟩, o⟩
end
/-- locks of the call's own and numbers. -/
def RetS10 (w : World) (r : Lo × List Int) (e : Ending) (w' : World) : Prop :=
  ∃ A n c B m d C p q, e = .returned (.tuple #[locV A n c B m d, .slice C p q]) ∧ OwnK holdK w' w.heap.size A n c r.1.held ∧ OwnK claimK w' w.heap.size B m d r.1.queue ∧ OwnK numK w' w.heap.size C p q r.2 ∧ Q w w'
theorem Ls.fin {w wr : World} {g r n c m d p q : Nat} {A B C : Option Addr} {l : Lo} {os : List Int} (h : Ls w g r A n c B m d C p q l os wr) (x y : Value) : RetS10 w (l, os) (.returned (.tuple #[locV A n c B m d, .slice C p q])) ((wr.setCell ⟨r, 0, none⟩ x).setCell ⟨r, 1, none⟩ y) := by
  have hr := h.la.hr
  have hgl := h.la.hg
  exact ⟨A, n, c, B, m, d, C, p, q, rfl, (h.la.o1.set2 (b := r) (by omega) _ _).lower (by omega), (h.la.o2.set2 (b := r) (by omega) _ _).lower (by omega), (h.o3.set2 (b := r) (by omega) _ _).lower (by omega), h.la.q.set2 (by omega) _ _⟩
def cellLen (w : World) (p : Addr) : Nat := match w.cell? p with
  | some (.slice _ n _) => n
  | _ => 0
theorem cellLen_is {w : World} {p : Addr} {A : Option Addr} {n c : Nat} (h : w.cell? p = some (.slice A n c)) : cellLen w p = n := by unfold cellLen; rw [h]
def LoI (l : Lo) : Prop := I64H l.held ∧ I64C l.queue
theorem lblocked_set (A : Option Addr) (gb n c m d : Nat) (l : Lo) (h : Cl) (j : Nat) (w : World) (hA : Lst holdK w A n l.held) (hB : In_ claimK w (some ⟨gb, 0, none⟩) m d l.queue) (hi : LoI l) (hn : n ≤ 400000) (hm : m ≤ 400000) :
    Calls Try.prog 34 #[.agg #[.slice A n c, .slice (some ⟨gb, 0, none⟩) m d], .int .i64 h.txn, .agg #[.int .i64 h.w.mode, .string h.w.lo, .string h.w.hi], .int .i64 (j : Int)] w fun e w' => e = .returned (.bool (blkd l h.txn h.w j)) ∧ Q w w' := by
  have := lblocked_any A (some ⟨gb, 0, none⟩) n c m d l h.txn h.w (j : Int) w hA hB hi.1 hi.2 hn hm
  rw [Int.toNat_natCast] at this
  exact this
theorem LoI.give {l : Lo} (h : LoI l) {i : Nat} (hi : i < l.queue.length) : LoI (give l i l.queue[i]) := by
  refine ⟨fun a ha => ?_, fun a ha => h.2 a (List.mem_of_mem_eraseIdx ha)⟩
  rcases List.mem_append.1 ha with ha | ha
  · exact h.1 a ha
  · simp at ha; subst ha; exact h.2 _ (List.getElem_mem hi)
section
variable {P : Program} {a : Act} {w : World} {Q : Exit → Act → World → Prop}
/-- a scope whose run comes to the label, again and again. -/
theorem wp_scope_again {c X : Code} (l : Nat) (J : Act → World → Prop) (μ : Act → World → Nat) (hf : findLabel c l = some (.seq .skip X))
    (pass : ∀ a w, J a w → X.wp P (Exit.jump l (fun a' w' => J a' w' ∧ μ a' w' < μ a w) Q) a w)
    (first : (∀ a w, J a w → X.wp P (Exit.jump l J Q) a w) → c.wp P (Exit.jump l J Q) a w) : (Code.scope c).wp P Q a w :=
  wp_scope_jumps l J μ hf (first fun a w h => wp_mono (pass a w h) fun e a w q => by
    cases e with
    | goto l' => exact ⟨q.1, q.2.1⟩
    | _ => exact q) fun a w h => wp_seq (wp_skip (pass a w h))
end
end Go.Proofs.Ytenemdpjhoebpaa
