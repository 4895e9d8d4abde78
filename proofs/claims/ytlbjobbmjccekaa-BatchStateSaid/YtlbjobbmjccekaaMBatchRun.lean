/- Batches one after another: plain mathematics; and the box that holds the state so far. -/
import Derived.Test.YtlbjobbmjccekaaA5
import Derived.Test.YtlbjobbmjccekaaA6
import Derived.Test.YtlbjobbmjccekaaA7
namespace Go.Proofs.Ytlbjobbmjccekaa
set_option maxRecDepth 100000
open Go.ChangeShapes Go.WideShapes Go.RowKit Prm
set_option linter.unusedVariables false
set_option linter.unusedSimpArgs false

namespace Bm
/-- the state behind the first j batches. -/
def st (bl : List Bt) (j : Nat) : Sta := (bl.take j).foldl (fun s b => (doo s b).1) ⟨[], []⟩
theorem st_succ (bl : List Bt) {j : Nat} (h : j < bl.length) : st bl (j + 1) = (doo (st bl j) bl[j]).1 := by
  unfold st; rw [List.take_succ_eq_append_getElem h, List.foldl_append]; rfl
theorem st_zero (bl : List Bt) : st bl 0 = ⟨[], []⟩ := rfl
theorem st_len (bl : List Bt) : ∀ j, j ≤ bl.length → (st bl j).data.length ≤ 24 * j ∧ (st bl j).toks.length ≤ j
  | 0, _ => by rw [st_zero]; simp
  | j + 1, h => by
    rw [st_succ bl h]
    have h1 := st_len bl j (by omega)
    have h2 := doo_len (st bl j) bl[j]
    omega
theorem st_good (bl : List Bt) : ∀ j, j ≤ bl.length → good (st bl j)
  | 0, _ => good_nil
  | j + 1, h => by rw [st_succ bl h]; exact good_doo _ (st_good bl j (by omega))
/-- keys that are short. -/
def short (l : List Pr) : Prop := ∀ p ∈ l, p.key.size ≤ 32
theorem short_put {l : List Pr} {p : Pr} (h : short l) (hp : p.key.size ≤ 32) : short (put l p) := fun q hq => by
  rcases mem_put hq with rfl | hq
  · exact hp
  · exact h q hq
theorem short_act {l : List Pr} {x : Wr} (h : short l) (hx : x.key.size ≤ 32) : short (act l x) := by
  unfold act
  split
  · exact fun q hq => h q (List.mem_filter.1 hq).1
  · exact short_put h hx
theorem short_apply (ws : List Wr) : ∀ {l : List Pr}, short l → (∀ x ∈ ws, x.key.size ≤ 32) → short (apply l ws) := by
  induction ws with
  | nil => intro l h _; exact h
  | cons x ws ih => intro l h hw; exact ih (l := act l x) (short_act h (hw x (by simp))) fun y hy => hw y (by simp [hy])
theorem short_doo {s : Sta} (b : Bt) (h : short s.data ∧ short s.toks) : short (doo s b).1.data ∧ short (doo s b).1.toks := by
  unfold doo
  split
  · exact h
  · rename_i h1
    have hm : may b = true := by simpa using h1
    split
    · exact h
    · exact ⟨short_apply _ h.1 fun x hx => (wrong_not ((may_ok hm).2 x hx)).2.1, short_put h.2 (by have := (may_tok hm).2; simp only; omega)⟩
theorem st_short (bl : List Bt) : ∀ j, j ≤ bl.length → short (st bl j).data ∧ short (st bl j).toks
  | 0, _ => ⟨fun p hp => (by cases hp), fun p hp => (by cases hp)⟩
  | j + 1, h => by rw [st_succ bl h]; exact short_doo _ (st_short bl j (by omega))
theorem short_pairs {s : Sta} (h : short s.data ∧ short s.toks) : KeysIn (pairs s) := fun p hp => by
  have key : ∀ (m : UInt8) (l : List Pr), short l → ∀ p ∈ marked m l, p.key.size ≤ 33 := fun m l hl p hp => by
    obtain ⟨q, hq, rfl⟩ := List.mem_map.1 hp
    have := hl q hq
    show ([m] ++ q.key.data.toList).toArray.size ≤ 33
    rw [List.size_toArray, List.length_append, Rn.size_data]
    simp only [List.length_singleton]
    omega
  unfold maxLen
  unfold pairs at hp
  rcases List.mem_append.1 hp with hp | hp
  · have := key _ _ h.1 p hp; omega
  · have := key _ _ h.2 p hp; omega
theorem short_low {l : List Pr} (h : short l) : ∀ p ∈ l, p.key.size ≤ 4611686018427387904 := fun p hp => by have := h p hp; omega
end Bm

/-- the state s lies in the box g, its lists in rows of the call's own above g. -/
structure Sb7 (w : World) (g : Nat) (P R : Option Addr) (pc rc : Nat) (s : Bm.Sta) (wi : World) : Prop where
  bx : Bx wi g [.slice P s.data.length pc, .slice R s.toks.length rc]
  o1 : OwnK pairK wi (g + 1) P s.data.length pc s.data
  o2 : OwnK pairK wi (g + 1) R s.toks.length rc s.toks
  q : Q w wi
  hg : w.heap.size ≤ g
section
variable {w wi wj : World} {g : Nat} {P R P' R' : Option Addr} {pc rc pc' rc' : Nat} {s s' : Bm.Sta}
theorem Sb7.step (h : Sb7 w g P R pc rc s wi) (q : Q wi wj) : Sb7 w g P R pc rc s wj := ⟨h.bx.q q, h.o1.q q, h.o2.q q, h.q.trans q, h.hg⟩
theorem Sb7.set (h : Sb7 w g P R pc rc s wi) (q : Q wi wj) (o1 : OwnK pairK wj (g + 1) P' s'.data.length pc' s'.data) (o2 : OwnK pairK wj (g + 1) R' s'.toks.length rc' s'.toks) :
    Sb7 w g P' R' pc' rc' s' ((wj.setCell ⟨g, 0, none⟩ (.slice P' s'.data.length pc')).setCell ⟨g, 1, none⟩ (.slice R' s'.toks.length rc')) :=
  ⟨(h.bx.q q).set2 _ _, o1.set2 (b := g) (by omega) _ _, o2.set2 (b := g) (by omega) _ _, (h.q.trans q).set2 h.hg _ _, h.hg⟩
theorem Sb7.new (w w1 : World) (q : Q w w1) : Sb7 w w1.heap.size none none 0 0 ⟨[], []⟩ (w1.alloc (.cells #[.slice none 0 0, .slice none 0 0] 40)) :=
  ⟨Bx.new w1 [.slice none 0 0, .slice none 0 0] 40, OwnK.nil_ _ _ _, OwnK.nil_ _ _ _, q.alloc _, q.size⟩
end
end Go.Proofs.Ytlbjobbmjccekaa
