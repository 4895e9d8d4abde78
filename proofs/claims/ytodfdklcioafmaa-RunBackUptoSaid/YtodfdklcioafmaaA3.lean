/- MergeMath, OwnRows, Kind, Pair, KindRow: merged. -/
import Derived.Test.YtodfdklcioafmaaA2
import Derived.Test.YtodfdklcioafmaaA1
import Derived.Laws.IdiomCopy
import Derived.Laws.OwnMore
import Derived.OwnWalk
import Derived.Deep.Upon
import Derived.Lib.LazyBuf
import Derived.Maps.AppendAt
import Derived.Laws.AppendOwnNone
import Derived.Lib.AppendZerosOnto
import Derived.Deep.RegionLaw
/- The mathematics of a merge: the last write of each key, in the order of keys. -/
namespace Go.Proofs.Ytodfdklcioafmaa
set_option maxRecDepth 100000
open Prm
set_option linter.unusedVariables false
set_option linter.unusedSimpArgs false
namespace Mg

/-- the last write of a key. -/
def lastw (k : ByteArray) (l : List Wr) : Option Wr := l.foldl (fun r w => if w.key = k then some w else r) none
theorem lastw_snoc (k : ByteArray) (l : List Wr) (w : Wr) : lastw k (l ++ [w]) = if w.key = k then some w else lastw k l := by
  unfold lastw; rw [List.foldl_append]; rfl
theorem lastw_nil (k : ByteArray) : lastw k [] = none := rfl
theorem foldl_last (k : ByteArray) : ∀ (l : List Wr) (r : Option Wr), l.foldl (fun r w => if w.key = k then some w else r) r = (lastw k l).or r
  | [], r => by simp [lastw]
  | w :: l, r => by
    rw [List.foldl_cons, foldl_last k l]
    have e : lastw k (w :: l) = (lastw k l).or (if w.key = k then some w else none) := by
      unfold lastw
      rw [List.foldl_cons, foldl_last k l]; rfl
    rw [e]
    cases lastw k l <;> by_cases h : w.key = k <;> simp [h]
theorem lastw_cons (k : ByteArray) (w : Wr) (l : List Wr) : lastw k (w :: l) = (lastw k l).or (if w.key = k then some w else none) := by
  unfold lastw
  rw [List.foldl_cons, foldl_last k l]; rfl
theorem lastw_key {k : ByteArray} : ∀ {l : List Wr} {w : Wr}, lastw k l = some w → w.key = k
  | [], w, h => by simp [lastw] at h
  | a :: l, w, h => by
    rw [lastw_cons] at h
    cases hl : lastw k l with
    | some b => rw [hl] at h; simp at h; subst h; exact lastw_key hl
    | none => rw [hl] at h; by_cases he : a.key = k <;> simp [he] at h; subst h; exact he
theorem lastw_none {k : ByteArray} : ∀ {l : List Wr}, lastw k l = none ↔ ∀ w ∈ l, w.key ≠ k
  | [] => by simp [lastw]
  | a :: l => by
    rw [lastw_cons]
    cases hl : lastw k l with
    | some b =>
      simp only [Option.some_or, reduceCtorEq, List.mem_cons, forall_eq_or_imp, false_iff, not_and]
      intro _ h
      have := (lastw_none (k := k) (l := l)).2 h
      rw [hl] at this; cases this
    | none =>
      have := (lastw_none (k := k) (l := l)).1 hl
      by_cases he : a.key = k
      · simp [he]
      · simp [he]; exact this
theorem lastw_mem {k : ByteArray} : ∀ {l : List Wr} {w : Wr}, lastw k l = some w → w ∈ l
  | [], w, h => by simp [lastw] at h
  | a :: l, w, h => by
    rw [lastw_cons] at h
    cases hl : lastw k l with
    | some b => rw [hl] at h; simp at h; subst h; exact List.mem_cons_of_mem _ (lastw_mem hl)
    | none => rw [hl] at h; by_cases he : a.key = k <;> simp [he] at h; subst h; simp
theorem lastw_some {k : ByteArray} {l : List Wr} {w : Wr} (hw : w ∈ l) (hk : w.key = k) : ∃ x, lastw k l = some x := by
  cases h : lastw k l with
  | some x => exact ⟨x, rfl⟩
  | none => exact absurd hk (lastw_none.1 h w hw)

/-- keys rise. -/
def Rise (l : List Wr) : Prop := l.Pairwise fun a b => lt a.key b.key = true
/-- the rising row of the last write of each key. -/
def Is (ws l : List Wr) : Prop := Rise l ∧ ∀ w, w ∈ l ↔ lastw w.key ws = some w
theorem rise_nodup {l : List Wr} (h : Rise l) : l.Nodup := h.imp fun hab e => by subst e; rw [lt_irrefl] at hab; cases hab
/-- there is one such row. -/
theorem is_unique {ws l m : List Wr} (h : Is ws l) (k : Is ws m) : l = m := by
  have hp : l.Perm m := (List.perm_ext_iff_of_nodup (rise_nodup h.1) (rise_nodup k.1)).2 fun w => (h.2 w).trans (k.2 w).symm
  exact List.Perm.eq_of_pairwise (fun a b _ _ h1 h2 => by have := lt_asymm h1; rw [h2] at this; cases this) h.1 k.1 hp

/-- a write in its place. -/
def insW (w : Wr) : List Wr → List Wr
  | [] => [w]
  | a :: l => if lt a.key w.key then a :: insW w l else w :: a :: l
theorem mem_insW {w x : Wr} : ∀ {l : List Wr}, x ∈ insW w l ↔ x = w ∨ x ∈ l
  | [] => by simp [insW]
  | a :: l => by
    unfold insW
    split
    · rw [List.mem_cons, mem_insW (l := l), List.mem_cons]
      constructor
      · rintro (h | h | h)
        · exact .inr (.inl h)
        · exact .inl h
        · exact .inr (.inr h)
      · rintro (h | h | h)
        · exact .inr (.inl h)
        · exact .inl h
        · exact .inr (.inr h)
    · simp
theorem rise_insW {w : Wr} : ∀ {l : List Wr}, Rise l → (∀ a ∈ l, a.key ≠ w.key) → Rise (insW w l)
  | [], _, _ => by simp [insW, Rise]
  | a :: l, h, hne => by
    obtain ⟨h1, h2⟩ := List.pairwise_cons.1 h
    unfold insW
    split
    · rename_i hlt
      refine List.pairwise_cons.2 ⟨fun x hx => ?_, rise_insW h2 fun b hb => hne b (List.mem_cons_of_mem _ hb)⟩
      rcases mem_insW.1 hx with rfl | hx
      · exact hlt
      · exact h1 x hx
    · rename_i hlt
      have hw : lt w.key a.key = true := lt_tri (hne a (by simp)) (by simpa using hlt)
      refine List.pairwise_cons.2 ⟨fun x hx => ?_, h⟩
      rcases List.mem_cons.1 hx with rfl | hx
      · exact hw
      · exact lt_trans hw (h1 x hx)
/-- behind how many it stands. -/
theorem insW_at {w : Wr} : ∀ {l : List Wr} {i : Nat} (hi : i ≤ l.length), (∀ j, ∀ h : j < l.length, j < i → lt l[j].key w.key = true) → (∀ h : i < l.length, lt l[i].key w.key = false) → insW w l = l.take i ++ w :: l.drop i
  | [], i, hi, _, _ => by have : i = 0 := by simpa using hi
                          subst this; rfl
  | a :: l, 0, _, _, h2 => by
    have := h2 (by simp)
    simp only [List.getElem_cons_zero] at this
    unfold insW; rw [this]; simp
  | a :: l, i + 1, hi, h1, h2 => by
    have h0 := h1 0 (by simp) (by omega)
    simp only [List.getElem_cons_zero] at h0
    unfold insW
    rw [if_pos h0, insW_at (l := l) (i := i) (by simpa using hi) (fun j h hj => by have := h1 (j + 1) (by simpa using h) (by omega); simpa using this) (fun h => by have := h2 (by simpa using h); simpa using this)]
    rfl

/-- no later write of the row has that key. -/
def isLast (l : List Wr) (i : Nat) (k : ByteArray) : Bool := (l.drop (i + 1)).all fun w => decide (w.key ≠ k)
/-- what the document's Merge has behind i writes. -/
def upTo (l : List Wr) : Nat → List Wr
  | 0 => []
  | i + 1 => match l[i]? with
    | some w => if isLast l i w.key then insW w (upTo l i) else upTo l i
    | none => upTo l i
theorem lastw_at {l : List Wr} {i : Nat} (hi : i < l.length) : lastw l[i].key l = some l[i] ↔ ∃ j, ∃ hj : j < l.length, l[j] = l[i] ∧ isLast l j l[i].key = true := by
  induction l generalizing i with
  | nil => simp at hi
  | cons a l ih =>
    have hall : ∀ (k : ByteArray), isLast (a :: l) 0 k = true ↔ lastw k l = none := by
      intro k
      rw [lastw_none]
      unfold isLast
      simp [List.all_eq_true]
    have hsh : ∀ j k, isLast (a :: l) (j + 1) k = isLast l j k := fun j k => by unfold isLast; simp
    generalize hx : (a :: l)[i] = x
    rw [lastw_cons]
    cases hl : lastw x.key l with
    | some b =>
      simp only [Option.some_or, Option.some.injEq]
      constructor
      · intro e
        subst e
        obtain ⟨j, hj, e2⟩ := List.getElem_of_mem (lastw_mem hl)
        obtain ⟨m, hm, e3, e4⟩ := (ih hj).1 (by rw [e2]; exact hl)
        rw [e2] at e3 e4
        exact ⟨m + 1, by simpa using hm, by simpa using e3, by rw [hsh]; exact e4⟩
      · rintro ⟨j, hj, e1, e2⟩
        cases j with
        | zero =>
          have := (hall x.key).1 e2
          rw [hl] at this; cases this
        | succ j =>
          rw [hsh] at e2
          have hj' : j < l.length := by simpa using hj
          have e1' : l[j] = x := by simpa using e1
          have := (ih hj').2 ⟨j, hj', rfl, by rw [e1']; exact e2⟩
          rw [e1', hl] at this
          exact Option.some.inj this
    | none =>
      simp only [Option.none_or]
      constructor
      · intro e
        by_cases he : a.key = x.key
        · rw [if_pos he] at e
          exact ⟨0, by simp, by simpa using Option.some.inj e, (hall _).2 hl⟩
        · rw [if_neg he] at e; cases e
      · rintro ⟨j, hj, e1, e2⟩
        cases j with
        | zero => simp only [List.getElem_cons_zero] at e1; rw [e1]; simp
        | succ j =>
          have hj' : j < l.length := by simpa using hj
          have e1' : l[j] = x := by simpa using e1
          exact absurd (by rw [e1']) (lastw_none.1 hl l[j] (List.getElem_mem hj'))
theorem isLast_at {l : List Wr} {i j : Nat} {k : ByteArray} (h : isLast l i k = true) (hij : i < j) (hj : j < l.length) : l[j].key ≠ k := by
  unfold isLast at h
  rw [List.all_eq_true] at h
  have := h l[j] (by rw [List.mem_drop_iff_getElem]; exact ⟨j - (i + 1), by omega, by congr 1; omega⟩)
  simpa using this
theorem upTo_spec (l : List Wr) : ∀ (i : Nat), i ≤ l.length → Rise (upTo l i) ∧ ∀ w, w ∈ upTo l i ↔ ∃ j, ∃ hj : j < l.length, j < i ∧ l[j] = w ∧ isLast l j w.key = true
  | 0, _ => ⟨List.Pairwise.nil, fun w => by simp [upTo]⟩
  | i + 1, hi => by
    obtain ⟨h1, h2⟩ := upTo_spec l i (by omega)
    have hil : i < l.length := by omega
    unfold upTo
    rw [List.getElem?_eq_getElem hil]
    simp only
    split
    · rename_i hlast
      refine ⟨rise_insW h1 fun a ha e => ?_, fun w => ?_⟩
      · obtain ⟨j, hj, hji, rfl, hjl⟩ := (h2 a).1 ha
        exact isLast_at hjl hji hil e.symm
      · rw [mem_insW, h2]
        constructor
        · rintro (rfl | ⟨j, hj, hji, e, hjl⟩)
          · exact ⟨i, hil, by omega, rfl, hlast⟩
          · exact ⟨j, hj, by omega, e, hjl⟩
        · rintro ⟨j, hj, hji, e, hjl⟩
          by_cases hjeq : j = i
          · subst hjeq; exact .inl e.symm
          · exact .inr ⟨j, hj, by omega, e, hjl⟩
    · rename_i hlast
      refine ⟨h1, fun w => ?_⟩
      rw [h2]
      constructor
      · rintro ⟨j, hj, hji, e, hjl⟩
        exact ⟨j, hj, by omega, e, hjl⟩
      · rintro ⟨j, hj, hji, e, hjl⟩
        by_cases hjeq : j = i
        · subst hjeq; subst e; exact absurd hjl hlast
        · exact ⟨j, hj, by omega, e, hjl⟩
/-- the merge of a row of writes. -/
def mrg (l : List Wr) : List Wr := upTo l l.length
theorem mrg_is (l : List Wr) : Is l (mrg l) := by
  obtain ⟨h1, h2⟩ := upTo_spec l l.length (Nat.le_refl _)
  refine ⟨h1, fun w => ?_⟩
  unfold mrg
  rw [h2]
  constructor
  · rintro ⟨j, hj, _, rfl, hl⟩
    exact (lastw_at hj).2 ⟨j, hj, rfl, hl⟩
  · intro h
    obtain ⟨i, hi, e⟩ := List.getElem_of_mem (lastw_mem h)
    obtain ⟨j, hj, e1, e2⟩ := (lastw_at hi).1 (by rw [e]; exact h)
    rw [e] at e1 e2
    exact ⟨j, hj, hj, e1, e2⟩
theorem upTo_len (l : List Wr) : ∀ i, (upTo l i).length ≤ i
  | 0 => Nat.le_refl _
  | i + 1 => by
    have h := upTo_len l i
    have hins : ∀ (w : Wr) (m : List Wr), (insW w m).length = m.length + 1 := by
      intro w m
      induction m with
      | nil => rfl
      | cons a m ih => unfold insW; split <;> simp [ih]
    unfold upTo
    split
    · split
      · rw [hins]; omega
      · omega
    · omega
theorem mrg_len (l : List Wr) : (mrg l).length ≤ l.length := upTo_len l _

/-! ### What a merge makes of nothing -/
theorem fold_rise (key : ByteArray) : ∀ (l : List Wr) (r : ByteArray × Bool), Rise l → l.foldl (lastW key) r = match l.find? (fun w => decide (w.key = key)) with | some w => (if w.del then ⟨#[]⟩ else w.val, !w.del) | none => r
  | [], r, _ => rfl
  | a :: l, r, h => by
    obtain ⟨h1, h2⟩ := List.pairwise_cons.1 h
    rw [List.foldl_cons, fold_rise key l _ h2]
    by_cases he : a.key = key
    · rw [List.find?_cons_of_pos (by simpa using he)]
      have hn : l.find? (fun w => decide (w.key = key)) = none := by
        rw [List.find?_eq_none]
        intro x hx hk
        have := h1 x hx
        simp only [decide_eq_true_eq] at hk
        rw [hk, he, lt_irrefl] at this; cases this
      rw [hn]
      simp [lastW, he]
    · rw [List.find?_cons_of_neg (by simpa using he)]
      have : lastW key r a = r := by simp [lastW, he]
      rw [this]
theorem fold_last (key : ByteArray) : ∀ (l : List Wr) (r : ByteArray × Bool), l.foldl (lastW key) r = match lastw key l with | some w => (if w.del then ⟨#[]⟩ else w.val, !w.del) | none => r
  | [], r => rfl
  | a :: l, r => by
    rw [List.foldl_cons, fold_last key l, lastw_cons]
    cases lastw key l with
    | some b => rfl
    | none => by_cases he : a.key = key <;> simp [lastW, he]
theorem fold_mrg (key : ByteArray) (l : List Wr) (r : ByteArray × Bool) : (mrg l).foldl (lastW key) r = l.foldl (lastW key) r := by
  obtain ⟨h1, h2⟩ := mrg_is l
  rw [fold_rise key _ _ h1, fold_last key]
  cases hl : lastw key l with
  | some w =>
    have hk := lastw_key hl
    have hm : w ∈ mrg l := (h2 w).2 (by rw [hk]; exact hl)
    have hf : (mrg l).find? (fun w => decide (w.key = key)) = some w := by
      cases hc : (mrg l).find? (fun w => decide (w.key = key)) with
      | none => rw [List.find?_eq_none] at hc; exact absurd (by simpa using hk) (hc w hm)
      | some x =>
        have hx := List.mem_of_find?_eq_some hc
        have hxk : x.key = key := by have := List.find?_some hc; simpa using this
        have := (h2 x).1 hx
        rw [hxk, hl] at this
        exact this.symm
    rw [hf]
  | none =>
    have hf : (mrg l).find? (fun w => decide (w.key = key)) = none := by
      rw [List.find?_eq_none]
      intro x hx hk
      simp only [decide_eq_true_eq] at hk
      have := (h2 x).1 hx
      rw [hk, hl] at this; cases this
    rw [hf]
/-- right rows in which each key is found alike are the same. -/
theorem right_ext : ∀ {l m : List Pr}, Sorted l → Sorted m → (∀ k, find k l = find k m) → l = m
  | [], [], _, _, _ => rfl
  | [], q :: m, _, _, h => by
    have := h q.key
    rw [find_cons, hasK_same] at this
    simp [find] at this
  | p :: l, [], _, _, h => by
    have := h p.key
    rw [find_cons, hasK_same] at this
    simp [find] at this
  | p :: l, q :: m, hl, hm, h => by
    obtain ⟨l1, l2⟩ := List.pairwise_cons.1 hl
    obtain ⟨m1, m2⟩ := List.pairwise_cons.1 hm
    have hlo : ∀ {k : ByteArray} {a : Pr} {r : List Pr}, (∀ b ∈ r, lt a.key b.key = true) → lt k a.key = true → find k (a :: r) = (⟨#[]⟩, false) := by
      intro k a r hr hk
      refine find_none fun b hb => hasK_other fun e => ?_
      rcases List.mem_cons.1 hb with rfl | hb
      · rw [e, lt_irrefl] at hk; cases hk
      · have := lt_trans hk (hr b hb); rw [e, lt_irrefl] at this; cases this
    have hkey : p.key = q.key := by
      by_cases e : p.key = q.key
      · exact e
      · exfalso
        cases hc : lt p.key q.key with
        | true =>
          have h1 := h p.key
          rw [find_cons, hasK_same, hlo m1 hc] at h1
          simp at h1
        | false =>
          have hc2 := lt_tri e hc
          have h1 := h q.key
          rw [hlo l1 hc2, find_cons, hasK_same] at h1
          simp at h1
    have hval : p.val = q.val := by
      have h1 := h p.key
      rw [find_cons, hasK_same, hkey, find_cons, hasK_same] at h1
      simpa using h1
    have hpq : p = q := by cases p; cases q; simp_all
    subst hpq
    congr 1
    refine right_ext l2 m2 fun k => ?_
    by_cases e : hasK k p = true
    · have hk : p.key = k := by simpa [hasK] using e
      have hn : ∀ {r : List Pr}, (∀ b ∈ r, lt p.key b.key = true) → find k r = (⟨#[]⟩, false) := by
        intro r hr
        refine find_none fun b hb => hasK_other fun e2 => ?_
        have := hr b hb; rw [e2, hk, lt_irrefl] at this; cases this
      rw [hn l1, hn m1]
    · have h1 := h k
      rw [find_cons, find_cons, if_neg e, if_neg e] at h1
      exact h1
theorem apply_mrg (l : List Wr) : apply [] (mrg l) = apply [] l := by
  have hs : ∀ x, Sorted (apply [] x) := fun x => (right_iff _).1 (right_apply x (l := []) rfl)
  refine right_ext (hs _) (hs _) fun k => ?_
  rw [find_apply, find_apply, fold_mrg]
theorem apply_app (l : List Pr) (a b : List Wr) : apply l (a ++ b) = apply (apply l a) b := by unfold apply; rw [List.foldl_append]
end Mg
end Go.Proofs.Ytodfdklcioafmaa

/- Rows of the call's own, whatever their elements: many cells written at once, a row cut short. -/
namespace Go.Proofs.Ytodfdklcioafmaa
set_option maxRecDepth 100000
open Go.RowKit
set_option linter.unusedVariables false

theorem owns_setCells {e : TypeId} {sz base g n c : Nat} : ∀ (vs : List Value) (o : Nat) (w : World) (xs : List Value), w.ownsRow base e sz (.slice (some ⟨g, 0, none⟩) n c) n xs → o + vs.length ≤ xs.length →
    (w.setCells g o vs).ownsRow base e sz (.slice (some ⟨g, 0, none⟩) n c) n (xs.take o ++ vs ++ xs.drop (o + vs.length))
  | [], o, w, xs, h, hl => by simpa [World.setCells] using h
  | v :: r, o, w, xs, h, hl => by
    simp only [List.length_cons] at hl
    have h1 := (World.ownsRow.stored h o v).1
    have h2 := owns_setCells r (o + 1) (w.setCell ⟨g, o, none⟩ v) (xs.set o v) h1 (by simp; omega)
    have e : (xs.set o v).take (o + 1) ++ r ++ (xs.set o v).drop (o + 1 + r.length) = xs.take o ++ (v :: r) ++ xs.drop (o + (v :: r).length) := by
      have ho : o < xs.length := by omega
      rw [List.take_succ_eq_append_getElem (by simpa using ho), List.take_set_of_le (Nat.le_refl _), List.getElem_set_self, List.drop_set_of_lt (by omega), List.length_cons]
      simp [Nat.add_assoc, Nat.add_comm 1]
    rw [e] at h2
    exact h2
theorem owns_short {e : TypeId} {sz base g n c m : Nat} {w : World} {xs : List Value} (h : w.ownsRow base e sz (.slice (some ⟨g, 0, none⟩) n c) n xs) (hm : m ≤ n) :
    w.ownsRow base e sz (.slice (some ⟨g, 0, none⟩) m c) m (xs.take (m * sz)) := by
  have hmn : m * sz ≤ n * sz := Nat.mul_le_mul_right _ hm
  rcases h.2 with ⟨e0, h0⟩ | ⟨g', cap, cur, e0, hg, hh, hc, hmx, hs, ht⟩
  · cases e0
  · injection e0 with e1 e2 e3
    refine ⟨by rw [List.length_take, h.1]; omega, .inr ⟨g', cap, cur, by rw [e1, e3], hg, hh, by omega, hmx, hs, ?_⟩⟩
    rw [← ht, List.take_take, Nat.min_eq_left hmn]

/-- nothing that was there has turned but block g. -/
theorem only_refl (a : World) (g : Nat) : a.grownBy a (some g) := ⟨rfl, rfl, rfl, Nat.le_refl _, fun _ _ _ => rfl⟩
theorem only_drew {a w : World} {g : Nat} (h : a.grownBy w (some g)) : a.grownBy w.drew (some g) := ⟨h.os, h.tape, h.output, h.size, h.block⟩
theorem only_set {a w : World} {g : Nat} (h : a.grownBy w (some g)) (o : Nat) (u : Value) : a.grownBy (w.setCell ⟨g, o, none⟩ u) (some g) :=
  ⟨h.os, h.tape, h.output, by simpa [World.setCell] using h.size, fun i hi hne => (Below.heap_setCell w ⟨g, o, none⟩ u i (by rintro rfl; exact hne rfl)).trans (h.block i hi hne)⟩
theorem only_sets {a : World} {g : Nat} : ∀ (vs : List Value) (o : Nat) (w : World), a.grownBy w (some g) → a.grownBy (w.setCells g o vs) (some g)
  | [], o, w, h => h
  | v :: r, o, w, h => only_sets r (o + 1) _ (only_set h o v)
theorem only_q {a b : World} {g : Nat} (h : Q a b) : a.grownBy b (some g) := ⟨h.below.os, h.below.tape, h.below.output, h.below.size, fun i hi _ => h.below.block i hi⟩
theorem only_new {a w : World} {g : Nat} (h : a.grownBy w (some g)) {p : Addr} (hp : a.heap.size ≤ p.block) (u : Value) : a.grownBy (w.setCell p u) (some g) :=
  ⟨h.os, h.tape, h.output, by simpa [World.setCell] using h.size, fun i hi hne => (Below.heap_setCell w p u i (by omega)).trans (h.block i hi hne)⟩
theorem only_below {a w : World} {g B : Nat} (h : a.grownBy w (some g)) (hb : B ≤ g) (hB : B ≤ a.heap.size) : Below B a w :=
  ⟨h.os, h.tape, h.output, h.size, fun i hi => h.block i (by omega) (by intro e; injection e; omega)⟩
theorem only_cell {a w : World} {g : Nat} (h : a.grownBy w (some g)) {p : Addr} (hp : p.block < a.heap.size) (hne : p.block ≠ g) : w.cell? p = a.cell? p := World.cell?_of_block (h.block p.block hp (fun e => hne (by injection e)))
end Go.Proofs.Ytodfdklcioafmaa

/- Kinds of elements that lie flat in memory: lists of them as they come in ('Lst', 'In_'), lists of the call's own ('OwnK'), append to these. -/
namespace Go.Proofs.Ytodfdklcioafmaa
set_option maxRecDepth 100000
open Go.RowKit
set_option linter.unusedVariables false

structure Kind (α : Type) where
  T : TypeId
  S : TypeId
  k : Nat
  bs : Nat
  z : Value
  row : α → List Value
  pos : 0 < k
  bpos : 0 < bs
  len : ∀ a, (row a).length = k
  one : ∀ a, ∀ u ∈ row a, u.oneCell' = true
  und : Try.prog.underlying S = some (.slice T)
  info : (Try.prog.info? T).map (fun i => (i.zero, i.size, i.bytes)) = some (some z, k, bs)
  zc : z.cells.size = k

variable {α : Type}

def Kind.rows (K : Kind α) : List α → List Value
  | [] => []
  | a :: l => K.row a ++ K.rows l

theorem Kind.rows_len (K : Kind α) (l : List α) : (K.rows l).length = l.length * K.k := by
  induction l with
  | nil => simp [Kind.rows]
  | cons a l ih => simp only [Kind.rows, List.length_append, ih, List.length_cons, K.len, Nat.add_mul]; omega
theorem Kind.rows_app (K : Kind α) (l m : List α) : K.rows (l ++ m) = K.rows l ++ K.rows m := by
  induction l with
  | nil => rfl
  | cons a l ih => simp [Kind.rows, ih]
theorem Kind.rows_at (K : Kind α) (l : List α) (k : Nat) (h : k < l.length) (j : Nat) (hj : j < K.k) : (K.rows l)[k * K.k + j]? = (K.row l[k])[j]? := by
  induction l generalizing k with
  | nil => simp at h
  | cons a l ih =>
    cases k with
    | zero =>
      simp only [Kind.rows, Nat.zero_mul, Nat.zero_add, List.getElem_cons_zero]
      exact List.getElem?_append_left (by rw [K.len]; exact hj)
    | succ k =>
      simp only [Kind.rows, List.getElem_cons_succ]
      rw [List.getElem?_append_right (by rw [K.len, Nat.add_mul]; omega), ← ih k (by simpa using h)]
      congr 1
      rw [K.len, Nat.add_mul]; omega
theorem Kind.rows_one (K : Kind α) (l : List α) : ∀ u ∈ K.rows l, u.oneCell' = true := by
  induction l with
  | nil => simp [Kind.rows]
  | cons a l ih =>
    intro u hu
    rcases List.mem_append.1 hu with h | h
    · exact K.one a u h
    · exact ih u h
theorem Kind.rows_drop (K : Kind α) (l : List α) : ∀ (m : Nat), K.rows (l.drop m) = (K.rows l).drop (m * K.k) := by
  induction l with
  | nil => intro m; simp [Kind.rows]
  | cons f l ih =>
    intro m
    cases m with
    | zero => simp
    | succ m =>
      rw [List.drop_succ_cons, ih m, Kind.rows, show (m + 1) * K.k = (K.row f).length + m * K.k by rw [K.len, Nat.add_mul]; omega, List.drop_length_add_append]
theorem Kind.rows_take (K : Kind α) (l : List α) : ∀ (m : Nat), K.rows (l.take m) = (K.rows l).take (m * K.k) := by
  induction l with
  | nil => intro m; simp [Kind.rows]
  | cons f l ih =>
    intro m
    cases m with
    | zero => simp [Kind.rows]
    | succ m =>
      rw [List.take_succ_cons, Kind.rows, ih m, Kind.rows, show (m + 1) * K.k = (K.row f).length + m * K.k by rw [K.len, Nat.add_mul]; omega, List.take_length_add_append]
theorem Kind.rows_set (K : Kind α) (l : List α) (k : Nat) (h : k < l.length) (a : α) : (K.rows l).take (k * K.k) ++ K.row a ++ (K.rows l).drop (k * K.k + (K.row a).length) = K.rows (l.set k a) := by
  have e : l.set k a = l.take k ++ (a :: l.drop (k + 1)) := by
    rw [List.set_eq_take_append_cons_drop, if_pos h]
  rw [e, K.rows_app, Kind.rows, K.rows_take, K.rows_drop, K.len, Nat.add_mul]
  simp

/-- The slice '.slice A n _' reads as l. -/
def Lst (K : Kind α) (w : World) (A : Option Addr) (n : Nat) (l : List α) : Prop := Holds w w.heap.size K.k A n (K.rows l)
theorem Lst.q {K : Kind α} {w w' : World} {A : Option Addr} {n : Nat} {l : List α} (h : Lst K w A n l) (hq : Q w w') : Lst K w' A n l := Holds.q h hq
theorem Lst.len {K : Kind α} {w : World} {A : Option Addr} {n : Nat} {l : List α} (h : Lst K w A n l) : l.length = n := by
  have := h.1; rw [K.rows_len] at this
  exact Nat.eq_of_mul_eq_mul_right K.pos this
theorem Lst.nil {K : Kind α} (w : World) (A : Option Addr) : Lst K w A 0 [] := Holds.none_ _ _ _ _

/-- What a load of the element in place k reads. -/
theorem Lst.load {K : Kind α} {w : World} {A : Option Addr} {n : Nat} {l : List α} (h : Lst K w A n l) {k : Nat} (hk : k < n) (hl : k < l.length) :
    ∃ ad, A = some ad ∧ ad.block < w.heap.size ∧ ∀ j v, (K.row l[k])[j]? = some v → w.cell? ((ad.add (k * K.k)).add j) = some v := by
  have h0 : ∀ j v, (K.row l[k])[j]? = some v → ∃ ad, A = some ad ∧ ad.block < w.heap.size ∧ w.cell? (ad.add (k * K.k + j)) = some v := fun j v hj =>
    h.2 (k * K.k + j) _ (by rw [K.rows_at l k hl j (by rw [← K.len l[k]]; exact (List.getElem?_eq_some_iff.1 hj).1)]; exact hj)
  obtain ⟨ad, rfl, hb, _⟩ := h0 0 _ (List.getElem?_eq_getElem (by rw [K.len]; exact K.pos))
  refine ⟨ad, rfl, hb, fun j v hj => ?_⟩
  obtain ⟨_, e, _, hc⟩ := h0 j v hj
  injection e with e
  subst e
  rw [addr_add]; exact hc

/-- a list of the call's own. -/
def OwnK (K : Kind α) (w : World) (base : Nat) (A : Option Addr) (n c : Nat) (l : List α) : Prop := w.ownsRow base K.T K.k (.slice A n c) n (K.rows l)

/-- a list as it comes in. -/
structure In_ (K : Kind α) (w : World) (A : Option Addr) (n c : Nat) (l : List α) : Prop where
  lst : Lst K w A n l
  nil : A = none → n = 0 ∧ c = 0
  le : n ≤ c
  cap : c ≤ maxLen
  few : n * K.bs ≤ 140737488355328
theorem In_.len {K : Kind α} {w : World} {A : Option Addr} {n c : Nat} {l : List α} (h : In_ K w A n c l) : l.length = n := h.lst.len
theorem In_.q {K : Kind α} {w w' : World} {A : Option Addr} {n c : Nat} {l : List α} (h : In_ K w A n c l) (hq : Q w w') : In_ K w' A n c l := ⟨h.lst.q hq, h.nil, h.le, h.cap, h.few⟩
theorem In_.max {K : Kind α} {w : World} {A : Option Addr} {n c : Nat} {l : List α} (h : In_ K w A n c l) : n ≤ maxLen := Nat.le_trans h.le h.cap
theorem In_.none_ (K : Kind α) (w : World) : In_ K w none 0 0 [] := ⟨Lst.nil w _, fun _ => ⟨rfl, rfl⟩, Nat.le_refl _, Nat.zero_le _, by simp⟩

section
variable {K : Kind α} {w w' : World} {base : Nat} {A : Option Addr} {n c : Nat} {l : List α}
theorem OwnK.len (h : OwnK K w base A n c l) : l.length = n := by
  have := h.1; rw [K.rows_len] at this
  exact Nat.eq_of_mul_eq_mul_right K.pos this
theorem OwnK.parts (h : OwnK K w base A n c l) :
    (A = none ∧ n = 0 ∧ c = 0 ∧ l = []) ∨ ∃ g cur, A = some ⟨g, 0, none⟩ ∧ base ≤ g ∧ w.heap[g]? = some (.cells cur K.T (0, 0)) ∧ n ≤ c ∧ c ≤ maxLen ∧ cur.size = c * K.k ∧ cur.toList.take (n * K.k) = K.rows l := by
  rcases h.2 with ⟨e, h0⟩ | ⟨g, cap, cur, e, hb, hh, hc, hm, hs, ht⟩
  · injection e with e1 e2 e3
    exact .inl ⟨e1, e2, e3, List.eq_nil_of_length_eq_zero (by rw [h.len]; exact e2)⟩
  · injection e with e1 e2 e3
    subst e1 e3
    exact .inr ⟨g, cur, rfl, hb, hh, hc, hm, hs, ht⟩
theorem OwnK.lst (h : OwnK K w base A n c l) : Lst K w A n l := by
  refine ⟨h.1, fun j u hu => ?_⟩
  rcases h.parts with ⟨rfl, rfl, rfl, rfl⟩ | ⟨g, cur, rfl, hb, hh, hc, hm, hs, ht⟩
  · simp [Kind.rows] at hu
  · have hj : j < n * K.k := by
      have := (List.getElem?_eq_some_iff.1 hu).1; rw [h.1] at this; exact this
    refine ⟨_, rfl, ?_, ?_⟩
    · rcases Nat.lt_or_ge g w.heap.size with hlt | hge
      · exact hlt
      · rw [Array.getElem?_eq_none hge] at hh; cases hh
    · rw [Addr.add_mid, Nat.zero_add, World.ownsRow.cellAt h j hj]; exact hu
theorem OwnK.in_ (h : OwnK K w base A n c l) (hn : n * K.bs ≤ 140737488355328) : In_ K w A n c l := by
  refine ⟨h.lst, ?_, ?_, ?_, hn⟩ <;> rcases h.parts with ⟨rfl, rfl, rfl, rfl⟩ | ⟨g, cur, rfl, hb, hh, hc, hm, hs, ht⟩
  · intro _; exact ⟨rfl, rfl⟩
  · intro e; cases e
  · exact Nat.le_refl _
  · exact hc
  · exact Nat.zero_le _
  · exact hm
theorem OwnK.le (h : OwnK K w base A n c l) : n ≤ c := by
  rcases h.parts with ⟨rfl, rfl, rfl, rfl⟩ | ⟨g, cur, rfl, hb, hh, hc, hm, hs, ht⟩
  · exact Nat.le_refl _
  · exact hc
theorem OwnK.cap (h : OwnK K w base A n c l) : c ≤ maxLen := by
  rcases h.parts with ⟨rfl, rfl, rfl, rfl⟩ | ⟨g, cur, rfl, hb, hh, hc, hm, hs, ht⟩
  · exact Nat.zero_le _
  · exact hm
theorem OwnK.keep {B : Nat} (h : OwnK K w base A n c l) (hb : Below B w w') (hB : w.heap.size ≤ B) : OwnK K w' base A n c l := by
  refine ⟨h.1, ?_⟩
  rcases h.2 with ⟨e, h0⟩ | ⟨g, cap, cur, e, hg, hh, r⟩
  · exact .inl ⟨e, h0⟩
  · have hlt : g < w.heap.size := by
      rcases Nat.lt_or_ge g w.heap.size with hlt | hge
      · exact hlt
      · rw [Array.getElem?_eq_none hge] at hh; cases hh
    exact .inr ⟨g, cap, cur, e, hg, (hb.block g (by omega)).trans hh, r⟩
theorem OwnK.q (h : OwnK K w base A n c l) (hq : Q w w') : OwnK K w' base A n c l := h.keep hq.below (Nat.le_refl _)
theorem OwnK.setCell (h : OwnK K w base A n c l) {p : Addr} (hp : p.block < base) (u : Value) : OwnK K (w.setCell p u) base A n c l := by
  refine ⟨h.1, ?_⟩
  rcases h.2 with ⟨e, h0⟩ | ⟨g, cap, cur, e, hg, hh, r⟩
  · exact .inl ⟨e, h0⟩
  · exact .inr ⟨g, cap, cur, e, hg, (heap_setCell_other w p g u (by omega)).trans hh, r⟩
theorem OwnK.alloc (h : OwnK K w base A n c l) (o : Obj) : OwnK K (w.alloc o) base A n c l := h.q ((Q.refl _).alloc o)
theorem OwnK.drew (h : OwnK K w base A n c l) : OwnK K w.drew base A n c l := h
theorem OwnK.lower {b2 : Nat} (h : OwnK K w base A n c l) (hb : b2 ≤ base) : OwnK K w b2 A n c l := by
  refine ⟨h.1, ?_⟩
  rcases h.2 with ⟨e, h0⟩ | ⟨g, cap, cur, e, hg, hh, r⟩
  · exact .inl ⟨e, h0⟩
  · exact .inr ⟨g, cap, cur, e, by omega, hh, r⟩
theorem OwnK.nil_ (K : Kind α) (w : World) (base : Nat) : OwnK K w base none 0 0 [] := World.ownsRow_nil _ _ _ _
theorem OwnK.lit0 (K : Kind α) (w : World) (base : Nat) (hb : base ≤ w.heap.size) : OwnK K (w.alloc (.cells #[] K.T)) base (some ⟨w.heap.size, 0, none⟩) 0 0 [] :=
  World.ownsRow_lit w #[] 0 hb (Nat.zero_le _) (by simp)
theorem OwnK.lit1 (K : Kind α) (w : World) (base : Nat) (hb : base ≤ w.heap.size) (a : α) : OwnK K (w.alloc (.cells (K.row a).toArray K.T)) base (some ⟨w.heap.size, 0, none⟩) 1 1 [a] := by
  have := World.ownsRow_lit (e := K.T) (size := K.k) w (K.row a).toArray 1 hb (by unfold maxLen; omega) (by simp [K.len])
  unfold OwnK
  rw [show K.rows [a] = (K.row a).toArray.toList by simp [Kind.rows]]
  exact this
theorem OwnK.block_lt {g : Nat} (h : OwnK K w base (some ⟨g, 0, none⟩) n c l) : base ≤ g ∧ g < w.heap.size := by
  rcases h.parts with ⟨e, _⟩ | ⟨g', cur, e, hb, hh, _⟩
  · cases e
  · injection e with e
    injection e with e
    subst e
    refine ⟨hb, ?_⟩
    rcases Nat.lt_or_ge g w.heap.size with hlt | hge
    · exact hlt
    · rw [Array.getElem?_eq_none hge] at hh; cases hh
/-- the cells of the element in place k. -/
theorem OwnK.cells {g : Nat} (h : OwnK K w base (some ⟨g, 0, none⟩) n c l) {k : Nat} (hk : k < l.length) : ∀ j v, (K.row l[k])[j]? = some v → w.cell? ⟨g, k * K.k + j, none⟩ = some v := fun j v hj => by
  have hjk : j < K.k := by rw [← K.len l[k]]; exact (List.getElem?_eq_some_iff.1 hj).1
  have hn := h.len
  have : k * K.k + j < n * K.k := by
    have : (k + 1) * K.k ≤ n * K.k := Nat.mul_le_mul_right _ (by omega)
    rw [Nat.add_mul] at this; omega
  rw [World.ownsRow.cellAt h _ this, K.rows_at l k hk j hjk]
  exact hj
theorem OwnK.free {g : Nat} (h : OwnK K w base (some ⟨g, 0, none⟩) n c l) (j : Nat) : w.frozen? ⟨g, j, none⟩ = false := World.ownsRow.frozenAt h _
theorem OwnK.spare {g : Nat} (h : OwnK K w base (some ⟨g, 0, none⟩) n c l) (j : Nat) (hj : j < c * K.k) : (w.cell? ⟨g, j, none⟩).isSome = true := by
  rcases h.parts with ⟨e, _⟩ | ⟨g', cur, e, hb, hh, hc, hm, hs, ht⟩
  · cases e
  injection e with e
  injection e with e
  subst e
  rw [cell_of_row _ _ j _ K.T (0, 0) hh, Array.getElem?_eq_getElem (by omega)]
  rfl
/-- an element written in place. -/
theorem OwnK.put {g : Nat} (h : OwnK K w base (some ⟨g, 0, none⟩) n c l) {k : Nat} (hk : k < l.length) (a : α) :
    OwnK K (w.setCells g (k * K.k) (K.row a)) base (some ⟨g, 0, none⟩) n c (l.set k a) := by
  have hl : k * K.k + (K.row a).length ≤ (K.rows l).length := by
    rw [K.len, K.rows_len]
    have : (k + 1) * K.k ≤ l.length * K.k := Nat.mul_le_mul_right _ (by omega)
    rw [Nat.add_mul] at this; omega
  have := owns_setCells (e := K.T) (sz := K.k) (K.row a) (k * K.k) w (K.rows l) h hl
  rw [K.rows_set l k hk a] at this
  exact this
theorem OwnK.below_set {g : Nat} (h : OwnK K w base (some ⟨g, 0, none⟩) n c l) {a0 : World} (ha : Below base a0 w) : ∀ (vs : List Value) (o : Nat), Below base a0 (w.setCells g o vs) := by
  have hg := h.block_lt.1
  clear h
  intro vs
  induction vs generalizing w with
  | nil => intro o; exact ha
  | cons v r ih => intro o; exact ih (ha.setCell (p := ⟨g, o, none⟩) hg v) (o + 1)
end

/-- 'append(own, more...)', the source nil or not. -/
theorem run_appK (K : Kind α) (w : World) (base : Nat) (A : Option Addr) (n c : Nat) (l : List α) (h : OwnK K w base A n c l) (A2 : Option Addr) (m c2 : Nat) (l2 : List α) (h2 : Lst K w A2 m l2) (hnil : A2 = none → m = 0 ∧ c2 = 0)
    (hb : (n + m) * K.bs ≤ 140737488355328) (hbase : base ≤ w.heap.size) (ty : TypeId) :
    ∃ A' c' w', (Builtin.append_ #[K.S, K.S] ty #[.slice A n c, .slice A2 m c2]).run Try.prog w = .ok (.slice A' (n + m) c') w' ∧ OwnK K w' base A' (n + m) c' (l ++ l2) ∧ Below base w w' := by
  obtain ⟨i, hi, hz, hs, hy⟩ := info_parts K.info
  have hmax : n + m ≤ maxLen := by
    have : (n + m) * 1 ≤ (n + m) * K.bs := Nat.mul_le_mul_left _ K.bpos
    unfold maxLen; omega
  cases A2 with
  | none =>
    obtain ⟨rfl, rfl⟩ := hnil rfl
    have e2 : l2 = [] := List.eq_nil_of_length_eq_zero h2.len
    subst e2
    refine ⟨A, c, w, run_append_owned_none (P := Try.prog) (w := w) base _ ty K.T i K.k K.und hi _ n (K.rows l) h, by simpa using h, Below.refl _ _⟩
  | some ad =>
    obtain ⟨v', w', hr, ho, hg, hn, hat⟩ := run_append_own_at (P := Try.prog) w base K.S ty K.T i _ K.k K.bs K.und hi hz hs hy K.zc K.pos (.slice A n c) n (K.rows l) h ad m c2 (K.rows l2) h2.1
      (fun j u hu => by obtain ⟨a', e, _, hc⟩ := h2.2 j u hu; injection e with e; subst e; exact hc) (K.rows_one l2) hmax hb hbase
    rw [← K.rows_app] at ho
    have hbl : Below base w w' := (Below.refl _ _).grown hg hbase (fun k hk => by
      rcases h.parts with ⟨rfl, _⟩ | ⟨g, cur, rfl, hb, _⟩
      · cases hk
      · simp only [Value.ownBlock, Option.some.injEq] at hk; omega)
    rcases ho.2 with ⟨e, h0⟩ | ⟨g, cap, cur, e, _⟩
    · have h00 : Value.slice none 0 0 = .slice none (n + m) 0 := by rw [h0]
      rw [h00] at e
      subst e
      exact ⟨none, 0, w', hr, ho, hbl⟩
    · subst e
      exact ⟨_, cap, w', hr, ho, hbl⟩

/-- The same, for a plain region's list. -/
theorem wpl_appK (K : Kind α) {w : World} {ops : Array Oper} {rest : List Oper} {o : Oper} {a : Act} {R : Exit → Act → World → Prop} (hgd : o.guard = none) (s x : Operand) (t : TypeId) (ht : t = K.S)
    (ho : o.op = .call { callee := .builtin .append, args := #[s, x], argTypes := #[t, t] })
    (base : Nat) (A : Option Addr) (n c : Nat) (l : List α) (hs : a.eval s = .slice A n c) (h : OwnK K w base A n c l) (A2 : Option Addr) (m c2 : Nat) (l2 : List α) (hx : a.eval x = .slice A2 m c2) (h2 : Lst K w A2 m l2) (hnil : A2 = none → m = 0 ∧ c2 = 0)
    (hb : (n + m) * K.bs ≤ 140737488355328) (hbase : base ≤ w.heap.size)
    (hk : ∀ A' c' w', OwnK K w' base A' (n + m) c' (l ++ l2) → Below base w w' → wpList Try.prog ops R rest (a.put o.dst (.slice A' (n + m) c')) w') : wpList Try.prog ops R (o :: rest) a w := by
  subst ht
  refine wpList_plain hgd fun X hX => ?_
  obtain ⟨A', c', w', hr, h3, h4⟩ := run_appK K w base A n c l h A2 m c2 l2 h2 hnil hb hbase o.type
  unfold Oper.wp execOp
  simp only [ho, resolve, invoke, builtin, Sem.run_bind, Sem.run_pure, Result.andThen_ok, List.map_toArray, List.map_cons, List.map_nil, hs, hx, hr]
  exact hX _ _ (hk A' c' w' h3 h4)

/-- a call's own list, told by its ending. -/
def RetL (K : Kind α) (w : World) (n : Nat) (l : List α) (e : Ending) (w' : World) : Prop :=
  ∃ A' c', e = .returned (.slice A' n c') ∧ OwnK K w' w.heap.size A' n c' l ∧ Q w w'
def RetB (K : Kind α) (w : World) (base n : Nat) (l : List α) (e : Ending) (w' : World) : Prop :=
  ∃ A' c', e = .returned (.slice A' n c') ∧ OwnK K w' base A' n c' l ∧ Below base w w'

theorem eql_nilK (t : TypeId) (e : TypeId) (ht : Try.prog.underlying t = some (.slice e)) (W : World) (A : Option Addr) (n c : Nat) : (binOp .eql t (.slice A n c) (.slice none 0 0)).run Try.prog W = .ok (.bool A.isNone) W := by
  have h : ∀ d, (Op.equalIn (d + 1) t (.slice A n c) (.slice none 0 0)).run Try.prog W = .ok A.isNone W := by
    intro d
    cases A <;> simp [Op.equalIn, run_underlying ht]
  have h2 : (Op.equal t (.slice A n c) (.slice none 0 0)).run Try.prog W = .ok A.isNone W := h 9999
  simp [binOp, h2]
end Go.Proofs.Ytodfdklcioafmaa

/- Pairs and writes in memory; contracts: the closures that find pairs, slices.IndexFunc, slices.Clone, table.Find, Between, Right, and the document's Less. -/
namespace Go.Proofs.Ytodfdklcioafmaa
set_option maxRecDepth 100000
open Go.RowKit Prm
set_option linter.unusedVariables false

abbrev Prm.Pr.v (p : Pr) : Value := .agg #[.string p.key, .string p.val]
abbrev Prm.Wr.v (w : Wr) : Value := .agg #[.string w.key, .string w.val, .bool w.del]
def pairK : Kind Pr where
  T := 62
  S := 31
  k := 2
  bs := 32
  z := .agg #[.string ⟨#[]⟩, .string ⟨#[]⟩]
  row := fun p => [.string p.key, .string p.val]
  pos := by omega
  bpos := by omega
  len := fun _ => rfl
  one := fun _ u hu => by simp at hu; rcases hu with rfl | rfl <;> rfl
  und := Try.underlying31
  info := by kernel_rfl
  zc := rfl
def writeK : Kind Wr where
  T := 59
  S := 39
  k := 3
  bs := 40
  z := .agg #[.string ⟨#[]⟩, .string ⟨#[]⟩, .bool false]
  row := fun p => [.string p.key, .string p.val, .bool p.del]
  pos := by omega
  bpos := by omega
  len := fun _ => rfl
  one := fun _ u hu => by simp at hu; rcases hu with rfl | rfl | rfl <;> rfl
  und := Try.underlying39
  info := by kernel_rfl
  zc := rfl

theorem load_pair {w : World} {A : Option Addr} {n : Nat} {l : List Pr} (h : Lst pairK w A n l) {k : Nat} (hk : k < n) (hl : k < l.length) :
    ∃ ad, A = some ad ∧ ad.block < w.heap.size ∧ w.cell? (ad.add (k * 2)) = some (.string l[k].key) ∧ w.cell? ⟨(ad.add (k * 2)).block, (ad.add (k * 2)).off + 1, none⟩ = some (.string l[k].val) := by
  obtain ⟨ad, e, hb, hc⟩ := h.load hk hl
  exact ⟨ad, e, hb, hc 0 _ rfl, hc 1 _ rfl⟩
theorem load_write {w : World} {A : Option Addr} {n : Nat} {l : List Wr} (h : Lst writeK w A n l) {k : Nat} (hk : k < n) (hl : k < l.length) :
    ∃ ad, A = some ad ∧ ad.block < w.heap.size ∧ w.cell? (ad.add (k * 3)) = some (.string l[k].key) ∧ w.cell? ⟨(ad.add (k * 3)).block, (ad.add (k * 3)).off + 1, none⟩ = some (.string l[k].val) ∧
      w.cell? ⟨(ad.add (k * 3)).block, (ad.add (k * 3)).off + 2, none⟩ = some (.bool l[k].del) := by
  obtain ⟨ad, e, hb, hc⟩ := h.load hk hl
  exact ⟨ad, e, hb, hc 0 _ rfl, hc 1 _ rfl, hc 2 _ rfl⟩

/-- the walk's words for '>' and '>=' on texts. -/
theorem gtr_lt (a b : ByteArray) : (!(Op.bytesLess a.toList b.toList || a.toList == b.toList)) = lt b a := by
  rw [lt_data, same_str]
  by_cases h : a = b
  · subst h; simp [lt_irrefl]
  · cases k : lt a b with
    | true => simp [lt_asymm k]
    | false => simp [h, lt_tri h k]
theorem leq_lt (a b : ByteArray) : (Op.bytesLess a.toList b.toList || a.toList == b.toList) = !lt b a := by
  have := gtr_lt a b
  cases h : (Op.bytesLess a.toList b.toList || a.toList == b.toList) <;> rw [h] at this <;> simp at this <;> simp [this]

theorem has1 (p : Pr) (key : ByteArray) (B : Nat) (w : World) (hB : B < w.heap.size) (hc : w.cell? ⟨B, 0, none⟩ = some (.string key)) :
    Calls Try.prog 120 #[p.v, .pointer (some ⟨B, 0, none⟩)] w fun e w' => e = .returned (.bool (hasK key p)) ∧ Q w w' := by
  obtain ⟨a, b⟩ := p
  go_enter Try.func120, Try.ntmps120
  go_wp2
  go_ret
  exact ⟨ret_bool (same_str a key), (Q.refl _).alloc _⟩
theorem above1 (p : Pr) (key : ByteArray) (B : Nat) (w : World) (hB : B < w.heap.size) (hc : w.cell? ⟨B, 0, none⟩ = some (.string key)) :
    Calls Try.prog 121 #[p.v, .pointer (some ⟨B, 0, none⟩)] w fun e w' => e = .returned (.bool (aboveK key p)) ∧ Q w w' := by
  obtain ⟨a, b⟩ := p
  go_enter Try.func121, Try.ntmps121
  go_wp2
  go_ret
  exact ⟨ret_bool (by have := gtr_lt a key; rw [Bool.not_or] at this; exact this), (Q.refl _).alloc _⟩
theorem thas_any (key : ByteArray) (w : World) :
    Calls Try.prog 116 #[.string key] w fun e w' => e = .returned (.func (.func 120) #[] #[.pointer (some ⟨w.heap.size, 0, none⟩)]) ∧ w' = w.alloc (.cells #[.string key] 9) := by
  go_enter Try.func116, Try.ntmps116
  go_wp2
  go_ret
  exact ⟨rfl, rfl⟩
theorem above_any (key : ByteArray) (w : World) :
    Calls Try.prog 117 #[.string key] w fun e w' => e = .returned (.func (.func 121) #[] #[.pointer (some ⟨w.heap.size, 0, none⟩)]) ∧ w' = w.alloc (.cells #[.string key] 9) := by
  go_enter Try.func117, Try.ntmps117
  go_wp2
  go_ret
  exact ⟨rfl, rfl⟩

/-- a closure over one text that tells pairs. -/
def Tells (F : FuncId) (key : ByteArray) (P : Pr → Bool) : Prop := ∀ (p : Pr) (B : Nat) (w : World), B < w.heap.size → w.cell? ⟨B, 0, none⟩ = some (.string key) →
  Calls Try.prog F #[p.v, .pointer (some ⟨B, 0, none⟩)] w fun e w' => e = .returned (.bool (P p)) ∧ Q w w'

set_option maxHeartbeats 1000000 in
theorem pindexFunc (F : FuncId) (P : Pr → Bool) (key : ByteArray) (hF : Tells F key P) (hFF : F = 120 ∨ F = 121) (B : Nat) (A : Option Addr) (n c : Nat) (l : List Pr) (w : World) (hB : B < w.heap.size) (hc : w.cell? ⟨B, 0, none⟩ = some (.string key)) (hf : Lst pairK w A n l) (hn : n ≤ maxLen) :
    Calls Try.prog 104 #[.slice A n c, .func (.func F) #[] #[.pointer (some ⟨B, 0, none⟩)]] w fun e w' => e = .returned (.int .i64 (idx P l 0)) ∧ Q w w' := by
  rcases hFF with rfl | rfl
  all_goals
    unfold maxLen at hn
    have HC := Lib.hid hc
    have HF := Lib.hid hf
    have HT := Lib.hid hF
    clear hc hf hF
    go_enter Try.func104, Try.ntmps104
    go_wp2
    go_loopw [8] (fun i wr => ∃ k : Nat, k ≤ n ∧ i = .int .i64 k ∧ Q w wr ∧ idx P l 0 = idx P (l.drop k) k) (fun i _ => n - (intOf i).toNat)
    case atStart => exact ⟨0, Nat.zero_le _, rfl, Q.refl _, rfl⟩
    case round =>
      obtain ⟨k, hk, rfl, hq, hp⟩ := hrel
      have HP := Lib.hid hp
      clear hp
      by_cases hlt : k < n
      · have hlen := HF.out.len
        have hkl : k < l.length := by omega
        obtain ⟨ad, rfl, hb, c0, c1⟩ := load_pair (HF.out.q hq) hlt hkl
        clear hlen
        have hcell : Hid (wr.cell? ⟨B, 0, none⟩ = some (.string key)) := Lib.hid ((hq.below.cell (p := ⟨B, 0, none⟩) hB).trans HC.out)
        go_wp2_with fail
        refine (HT.out l[k] B _ (Nat.lt_of_lt_of_le hB hq.size) hcell.out).mono ?_
        rintro e w1 ⟨rfl, q1⟩
        by_cases hh : P l[k] = true
        · go_wp2
          go_ret
          exact ⟨ret_int (by rw [HP.out, idx_drop _ _ hkl, if_pos hh]), hq.trans q1⟩
        · have hd : P l[k] = false := by simpa using hh
          go_wp2
          go_roundw
          case rel => exact ⟨k + 1, by omega, by go_num, hq.trans q1, by rw [HP.out, idx_drop _ _ hkl, if_neg hh]⟩
          case measure => simp [intOf]; omega
      · have hlen := HF.out.len
        have HL := Lib.hid hlen
        clear hlen
        go_wp2
        go_ret
        exact ⟨ret_int (by rw [HP.out, idx_end _ _ (by have := HL.out; omega)]), hq⟩

set_option maxHeartbeats 1000000 in
theorem clonePairs (A : Option Addr) (n c : Nat) (l : List Pr) (w : World) (hd : In_ pairK w A n c l) :
    Calls Try.prog 76 #[.slice A n c] w fun e w' => RetL pairK w n l e w' := by
  have HD := Lib.hid hd
  clear hd
  cases A with
  | none =>
    obtain ⟨h1, h2⟩ := HD.out.nil rfl
    subst h1 h2
    have hl : l = [] := List.eq_nil_of_length_eq_zero HD.out.len
    subst hl
    have hnil := fun W : World => eql_nilK 31 62 Try.underlying31 W none 0 0
    go_enter Try.func76, Try.ntmps76
    go_wp2
    go_ret
    exact ⟨none, 0, rfl, OwnK.nil_ _ _ _, Q.refl _⟩
  | some ad =>
    have hnil := fun W : World => eql_nilK 31 62 Try.underlying31 W (some ad) n c
    go_enter Try.func76, Try.ntmps76
    go_wp2_with (at_builtin
                 refine wpl_appK pairK rfl (.tmp 5) (.tmp 6) 31 rfl rfl w.heap.size (some ⟨w.heap.size, 0, none⟩) 0 0 [] rfl (OwnK.lit0 pairK w _ (Nat.le_refl _)) (some ad) n c l rfl (HD.out.lst.q ((Q.refl _).alloc _)) (fun e => by cases e) (by have := HD.out.few; simpa using this) (by simp) ?_
                 intro A1 c1 w1 ho1 hb1)
    go_ret
    refine ⟨A1, c1, by simp, by simpa using ho1, ((Q.refl _).alloc _).below.trans hb1⟩

theorem empty_no {s : ByteArray} (h : ¬ s = ⟨#[]⟩) : s.toList ≠ [] ∧ s.toList.isEmpty = false ∧ (s.toList == []) = false := by
  have h1 : s.toList ≠ [] := by
    intro e
    have e1 : s.data.toList = [] := by simpa [ByteArray.toList_eq] using e
    exact h (ByteArray.ext (by simpa using e1))
  exact ⟨h1, by simpa using h1, by simpa using h1⟩
end Go.Proofs.Ytodfdklcioafmaa

/- Whole rows of a kind of elements: copy, clear, and an append of zero values, at elements of any size. -/
namespace Go.Proofs.Ytodfdklcioafmaa
set_option maxRecDepth 100000
open Go.RowKit
set_option linter.unusedVariables false

variable {α : Type}

/-- block g is a row of c elements, whose cells are xs. -/
def RowK (K : Kind α) (w : World) (base g c : Nat) (xs : List Value) : Prop := w.ownsRow base K.T K.k (.slice (some ⟨g, 0, none⟩) c c) c xs

section
variable {K : Kind α} {w w' : World} {base g n c : Nat} {l : List α} {xs : List Value}
theorem OwnK.row (h : OwnK K w base (some ⟨g, 0, none⟩) n c l) : ∃ xs, RowK K w base g c xs ∧ xs.take (n * K.k) = K.rows l := by
  rcases h.parts with ⟨e, _⟩ | ⟨g', cur, e, hb, hh, hc, hm, hs, ht⟩
  · cases e
  injection e with e
  injection e with e
  subst e
  exact ⟨cur.toList, ⟨by simpa using hs, .inr ⟨g, c, cur, rfl, hb, hh, Nat.le_refl _, hm, hs, List.take_of_length_le (Nat.le_of_eq ((Array.length_toList).trans hs))⟩⟩, ht⟩
theorem RowK.own (h : RowK K w base g c xs) (hn : n ≤ c) (hl : xs.take (n * K.k) = K.rows l) : OwnK K w base (some ⟨g, 0, none⟩) n c l := by
  have := owns_short h hn
  rw [hl] at this
  exact this
theorem RowK.len (h : RowK K w base g c xs) : xs.length = c * K.k := h.1
theorem RowK.cell (h : RowK K w base g c xs) (j : Nat) (hj : j < c * K.k) : w.cell? ⟨g, j, none⟩ = xs[j]? := World.ownsRow.cellAt h j hj
theorem RowK.some (h : RowK K w base g c xs) (j : Nat) (hj : j < c * K.k) : (w.cell? ⟨g, j, none⟩).isSome = true := by
  rw [h.cell j hj, List.getElem?_eq_getElem (by rw [h.len]; exact hj)]; rfl
theorem RowK.free (h : RowK K w base g c xs) (j : Nat) : w.frozen? ⟨g, j, none⟩ = false := World.ownsRow.frozenAt h _
theorem RowK.drew (h : RowK K w base g c xs) : RowK K w.drew base g c xs := h
theorem RowK.q (h : RowK K w base g c xs) (hq : Q w w') : RowK K w' base g c xs := by
  refine ⟨h.1, ?_⟩
  rcases h.2 with ⟨e, h0⟩ | ⟨g, cap, cur, e, hg, hh, r⟩
  · exact .inl ⟨e, h0⟩
  · have hlt : g < w.heap.size := (Array.getElem?_eq_some_iff.1 hh).1
    exact .inr ⟨g, cap, cur, e, hg, (hq.below.block g hlt).trans hh, r⟩
theorem RowK.ge (h : RowK K w base g c xs) : base ≤ g ∧ g < w.heap.size := by
  rcases h.2 with ⟨e, h0⟩ | ⟨g', cap, cur, e, hg, hh, r⟩
  · cases e
  · injection e with e
    injection e with e
    injection e with e
    subst e
    exact ⟨hg, (Array.getElem?_eq_some_iff.1 hh).1⟩
theorem RowK.sets (h : RowK K w base g c xs) (o : Nat) (cs : List Value) (hl : o + cs.length ≤ c * K.k) : RowK K (w.setCells g o cs) base g c (xs.take o ++ cs ++ xs.drop (o + cs.length)) :=
  owns_setCells cs o w xs h (by rw [h.len]; exact hl)
end

theorem run_copyK (K : Kind α) (w : World) (sT ty : TypeId) (b o dLen dCap : Nat) (a : Addr) (sLen sCap : Nat) (cs : List Value) (hn : cs.length = Nat.min sLen dLen * K.k)
    (hsrc : ∀ j v, cs[j]? = some v → w.cell? (a.add j) = some v) (hc : ∀ j, j < cs.length → (w.cell? ⟨b, o + j, none⟩).isSome = true) (hf : ∀ j, j < cs.length → w.frozen? ⟨b, o + j, none⟩ = false) (h1 : ∀ v ∈ cs, v.oneCell' = true) :
    (Builtin.copy_ #[K.S, sT] ty #[.slice (some ⟨b, o, none⟩) dLen dCap, .slice (some a) sLen sCap]).run Try.prog w = .ok (goInt (Nat.min sLen dLen)) (w.setCells b o cs) := by
  obtain ⟨i, hi, hz, hs, hy⟩ := info_parts K.info
  have hst := run_storeCells_cells (P := Try.prog) b o cs 0 w (by simpa using hc) (by simpa using hf) h1
  have hfc := run_firstCells_some (P := Try.prog) (w := w) K.k (Nat.min sLen dLen) a sLen sCap cs hn hsrc
  simp only [Nat.add_zero] at hst
  simp [Builtin.copy_, run_underlying K.und, Builtin.lenOf, sizeOf, typeInfo, hi, hs, hfc, hst]

/-- copy into a row, from elsewhere or from the row itself; only block g turns. -/
theorem copy_row (K : Kind α) {w : World} {base g c : Nat} {xs : List Value} (h : RowK K w base g c xs) (sT ty : TypeId) (o dLen dCap : Nat) (a : Addr) (sLen sCap : Nat) (cs : List Value) (hn : cs.length = Nat.min sLen dLen * K.k)
    (hsrc : ∀ j v, cs[j]? = some v → w.cell? (a.add j) = some v) (hl : o + cs.length ≤ c * K.k) (h1 : ∀ v ∈ cs, v.oneCell' = true) :
    ∃ w', (Builtin.copy_ #[K.S, sT] ty #[.slice (some ⟨g, o, none⟩) dLen dCap, .slice (some a) sLen sCap]).run Try.prog w = .ok (goInt (Nat.min sLen dLen)) w' ∧ RowK K w' base g c (xs.take o ++ cs ++ xs.drop (o + cs.length)) ∧ w.grownBy w' (some g) :=
  ⟨_, run_copyK K w sT ty g o dLen dCap a sLen sCap cs hn hsrc (fun j hj => h.some _ (by omega)) (fun j hj => h.free _) h1, h.sets o cs hl, only_sets cs o w (only_refl w g)⟩

theorem wpl_copyK (K : Kind α) {w : World} {ops : Array Oper} {rest : List Oper} {o : Oper} {a : Act} {R : Exit → Act → World → Prop} (hgd : o.guard = none) (d s : Operand) (t sT : TypeId) (ht : t = K.S)
    (ho : o.op = .call { callee := .builtin .copy, args := #[d, s], argTypes := #[t, sT] }) (base g c off : Nat) (xs : List Value) (dLen dCap : Nat) (ad : Addr) (sLen sCap : Nat) (hd : a.eval d = .slice (some ⟨g, off, none⟩) dLen dCap) (hs : a.eval s = .slice (some ad) sLen sCap)
    (h : RowK K w base g c xs) (cs : List Value) (hn : cs.length = Nat.min sLen dLen * K.k) (hsrc : ∀ j v, cs[j]? = some v → w.cell? (ad.add j) = some v) (hl : off + cs.length ≤ c * K.k) (h1 : ∀ v ∈ cs, v.oneCell' = true)
    (hk : ∀ w', RowK K w' base g c (xs.take off ++ cs ++ xs.drop (off + cs.length)) → w.grownBy w' (some g) → wpList Try.prog ops R rest (a.put o.dst (goInt (Nat.min sLen dLen))) w') : wpList Try.prog ops R (o :: rest) a w := by
  subst ht
  refine wpList_plain hgd fun X hX => ?_
  obtain ⟨w', hr, h3, h4⟩ := copy_row K h sT o.type off dLen dCap ad sLen sCap cs hn hsrc hl h1
  unfold Oper.wp execOp
  simp only [ho, resolve, invoke, builtin, Sem.run_bind, Sem.run_pure, Result.andThen_ok, List.map_toArray, List.map_cons, List.map_nil, hd, hs, hr]
  exact hX _ _ (hk w' h3 h4)

theorem step_copyK (K : Kind α) {ops : Array Oper} {o : Oper} {a : Act} {w : World} {X : Act → World → Prop} {R : Exit → Act → World → Prop} {E : Prop} (hgd : o.guard = none) (d s : Operand) (t sT : TypeId) (ht : t = K.S)
    (ho : o.op = .call { callee := .builtin .copy, args := #[d, s], argTypes := #[t, sT] }) (base g c off : Nat) (xs : List Value) (dLen dCap : Nat) (ad : Addr) (sLen sCap : Nat) (hd : a.eval d = .slice (some ⟨g, off, none⟩) dLen dCap) (hs : a.eval s = .slice (some ad) sLen sCap)
    (h : RowK K w base g c xs) (cs : List Value) (hn : cs.length = Nat.min sLen dLen * K.k) (hsrc : ∀ j v, cs[j]? = some v → w.cell? (ad.add j) = some v) (hl : off + cs.length ≤ c * K.k) (h1 : ∀ v ∈ cs, v.oneCell' = true)
    (hk : ∀ w', RowK K w' base g c (xs.take off ++ cs ++ xs.drop (off + cs.length)) → w.grownBy w' (some g) → X (a.put o.dst (goInt (Nat.min sLen dLen))) w') :
    if Region.wanted o (yielded ops a.tmps) = true then Oper.wp Try.prog o a w X R else E := by
  subst ht
  have hw : Region.wanted o (yielded ops a.tmps) = true := by simp [Region.wanted, hgd]
  rw [if_pos hw]
  obtain ⟨w', hr, h3, h4⟩ := copy_row K h sT o.type off dLen dCap ad sLen sCap cs hn hsrc hl h1
  unfold Oper.wp execOp
  simp only [ho, resolve, invoke, builtin, Sem.run_bind, Sem.run_pure, Result.andThen_ok, List.map_toArray, List.map_cons, List.map_nil, hd, hs, hr]
  exact hk w' h3 h4

theorem zeros_size (z : Array Value) (n : Nat) : (Builtin.zeroCells z n).size = n * z.size := by simp [Builtin.zeroCells]

/-- 'append(s[:i], make(.., m)...)' where s has no room for m more: a new row, that begins with what s[:i] held. -/
theorem zeros_row (K : Kind α) (w : World) (base : Nat) (tn : TypeId) (htn : Try.prog.underlying tn = some (.int .i64)) (ty : TypeId) (ad : Addr) (i c m : Nat) (olds : List Value) (hlen : olds.length = i * K.k) (hold : ∀ j v, olds[j]? = some v → w.cell? (ad.add j) = some v)
    (hm : 0 < m) (hc : c < i + m) (hb : (i + m) * K.bs ≤ 140737488355328) (hbase : base ≤ w.heap.size) :
    ∃ G w' xs, (Builtin.append_ #[K.S, tn] ty #[.slice (some ad) i c, .int .i64 (m : Int)]).run Try.prog w = .ok (.slice (some ⟨w.heap.size, 0, none⟩) (i + m) G) w' ∧ RowK K w' base w.heap.size G xs ∧ xs.take (i * K.k) = olds ∧ i + m ≤ G ∧ Q w w' ∧ G ≤ maxLen ∧ w'.heap.size = w.heap.size + 1 := by
  obtain ⟨t, hi, hz, hs, hy⟩ := info_parts K.info
  have hmax : i + m ≤ maxLen := by
    have : (i + m) * 1 ≤ (i + m) * K.bs := Nat.mul_le_mul_left _ K.bpos
    unfold maxLen; omega
  have hGm := grownCap_le_maxLen w (i + m) c K.T hmax
  have hGn := grownCap_ge w (i + m) c K.T
  have hmb : m * t.bytes ≤ 281474976710656 := by
    rw [hy]
    have : m * K.bs ≤ (i + m) * K.bs := Nat.mul_le_mul_right _ (by omega)
    omega
  have h := Lib.run_append_grow_zeros (P := Try.prog) w K.S tn ty K.T t K.z .i64 .i64 K.und htn hi hz (some ad) i c olds
    (by rw [hs]; exact run_firstCells_some (P := Try.prog) (w := w.drew) K.k i ad i c olds hlen hold) m hm (by rw [hs]; exact K.pos) hc (by unfold maxLen at hmax; omega) hmb (by rw [hy]; exact growslice_fits hc hb)
  generalize grownCap w (i + m) c K.T = G at h hGm hGn
  have hsz : (olds.toArray ++ Builtin.zeroCells K.z.cells m ++ Builtin.zeroCells K.z.cells (G - (i + m))).size = G * K.k := by
    simp only [Array.size_append, zeros_size, K.zc, List.size_toArray, hlen]
    rw [← Nat.add_mul, ← Nat.add_mul]
    congr 1
    omega
  refine ⟨G, _, (olds.toArray ++ Builtin.zeroCells K.z.cells m ++ Builtin.zeroCells K.z.cells (G - (i + m))).toList, h, ?_, ?_, hGn, (Q.refl w).drew.alloc _, hGm, by simp⟩
  · exact World.ownsRow_lit (e := K.T) (size := K.k) w.drew _ G hbase hGm hsz
  · simp only [Array.toList_append, List.append_assoc]
    exact List.take_left' hlen

theorem wpl_zerosK (K : Kind α) {w : World} {ops : Array Oper} {rest : List Oper} {o : Oper} {a : Act} {R : Exit → Act → World → Prop} (hgd : o.guard = none) (s x : Operand) (t tn : TypeId) (ht : t = K.S) (htn : Try.prog.underlying tn = some (.int .i64))
    (ho : o.op = .call { callee := .builtin .append, args := #[s, x], argTypes := #[t, tn] }) (base : Nat) (ad : Addr) (i c m N : Nat) (hN : i + m = N) (y : Int) (hy : y = (m : Int)) (hs : a.eval s = .slice (some ad) i c) (hx : a.eval x = .int .i64 y)
    (olds : List Value) (hlen : olds.length = i * K.k) (hold : ∀ j v, olds[j]? = some v → w.cell? (ad.add j) = some v)
    (hm : 0 < m) (hc : c < i + m) (hb : (i + m) * K.bs ≤ 140737488355328) (hbase : base ≤ w.heap.size)
    (hk : ∀ G w' xs, RowK K w' base w.heap.size G xs → xs.take (i * K.k) = olds → N ≤ G → Q w w' → G ≤ maxLen → w'.heap.size = w.heap.size + 1 → wpList Try.prog ops R rest (a.put o.dst (.slice (some ⟨w.heap.size, 0, none⟩) N G)) w') : wpList Try.prog ops R (o :: rest) a w := by
  subst ht hy hN
  refine wpList_plain hgd fun X hX => ?_
  obtain ⟨G, w', xs, hr, h1, h2, h3, h4, h5, h6⟩ := zeros_row K w base tn htn o.type ad i c m olds hlen hold hm hc hb hbase
  unfold Oper.wp execOp
  simp only [ho, resolve, invoke, builtin, Sem.run_bind, Sem.run_pure, Result.andThen_ok, List.map_toArray, List.map_cons, List.map_nil, hs, hx, hr]
  exact hX _ _ (hk G w' xs h1 h2 h3 h4 h5 h6)

theorem zeros_one (z : Value) (hz : ∀ u ∈ z.cells, u.oneCell' = true) (hp : 0 < z.cells.size) (n : Nat) : ∀ u ∈ (Builtin.zeroCells z.cells n).toList, u.oneCell' = true := by
  intro u hu
  simp only [Builtin.zeroCells, Array.toList_map, List.mem_map] at hu
  obtain ⟨i, _, rfl⟩ := hu
  have h : i % z.cells.size < z.cells.size := Nat.mod_lt _ hp
  rw [getElem!_pos z.cells _ h]
  exact hz _ (Array.getElem_mem h)

/-- clear of a part of a row. -/
theorem run_clearK (K : Kind α) {w : World} {base g c : Nat} {xs : List Value} (h : RowK K w base g c xs) (h1 : ∀ u ∈ K.z.cells, u.oneCell' = true) (hzv : ∀ W, (zeroValue K.T).run Try.prog W = .ok K.z W) (ty : TypeId) (o n cp : Nat) (hn : 0 < n) (hl : o + n * K.k ≤ c * K.k) :
    ∃ zs : List Value, zs.length = n * K.k ∧ (∀ cp, (Builtin.clear_ #[K.S] ty #[.slice (some ⟨g, o, none⟩) n cp]).run Try.prog w = .ok (.tuple #[]) (w.setCells g o zs)) := by
  have hzl : (Builtin.zeroCells K.z.cells n).toList.length = n * K.k := by simp [zeros_size, K.zc]
  refine ⟨(Builtin.zeroCells K.z.cells n).toList, hzl, fun cp => ?_⟩
  have hst := run_storeCells_cells (P := Try.prog) g o (Builtin.zeroCells K.z.cells n).toList 0 w (fun j hj => h.some _ (by omega)) (fun j hj => h.free _) (zeros_one K.z h1 (by rw [K.zc]; exact K.pos) n)
  simp only [Nat.add_zero] at hst
  obtain ⟨m, rfl⟩ : ∃ m, n = m + 1 := ⟨n - 1, by omega⟩
  simp [Builtin.clear_, run_underlying K.und, hzv, hst]
end Go.Proofs.Ytodfdklcioafmaa
