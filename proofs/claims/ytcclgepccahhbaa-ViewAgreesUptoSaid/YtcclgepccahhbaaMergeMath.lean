/- The mathematics of a merge: the last write of each key, in the order of keys. -/
import Derived.Test.YtcclgepccahhbaaTableMath
namespace Go.Proofs.Ytcclgepccahhbaa
set_option maxRecDepth 100000
open Prm
set_option linter.unusedVariables false
set_option linter.unusedSimpArgs false
namespace Mg

/-- the last write of a key. -/
def lastw (k : ByteArray) (l : List Wr) : Option Wr := l.foldl (fun r w => if w.key = k then some w else r) none
theorem lastw_snoc (k : ByteArray) (l : List Wr) (w : Wr) : lastw k (l ++ [w]) = if w.key = k then some w else lastw k l := by
  unfold lastw; rw [List.foldl_append]; rfl
theorem lastw_nil (k : ByteArray) : lastw k [] = none := rfl
theorem foldl_last (k : ByteArray) : ∀ (l : List Wr) (r : Option Wr), l.foldl (fun r w => if w.key = k then some w else r) r = (lastw k l).or r
  | [], r => by simp [lastw]
  | w :: l, r => by
    rw [List.foldl_cons, foldl_last k l]
    have e : lastw k (w :: l) = (lastw k l).or (if w.key = k then some w else none) := by
      unfold lastw
      rw [List.foldl_cons, foldl_last k l]; rfl
    rw [e]
    cases lastw k l <;> by_cases h : w.key = k <;> simp [h]
theorem lastw_cons (k : ByteArray) (w : Wr) (l : List Wr) : lastw k (w :: l) = (lastw k l).or (if w.key = k then some w else none) := by
  unfold lastw
  rw [List.foldl_cons, foldl_last k l]; rfl
theorem lastw_key {k : ByteArray} : ∀ {l : List Wr} {w : Wr}, lastw k l = some w → w.key = k
  | [], w, h => by simp [lastw] at h
  | a :: l, w, h => by
    rw [lastw_cons] at h
    cases hl : lastw k l with
    | some b => rw [hl] at h; simp at h; subst h; exact lastw_key hl
    | none => rw [hl] at h; by_cases he : a.key = k <;> simp [he] at h; subst h; exact he
theorem lastw_none {k : ByteArray} : ∀ {l : List Wr}, lastw k l = none ↔ ∀ w ∈ l, w.key ≠ k
  | [] => by simp [lastw]
  | a :: l => by
    rw [lastw_cons]
    cases hl : lastw k l with
    | some b =>
      simp only [Option.some_or, reduceCtorEq, List.mem_cons, forall_eq_or_imp, false_iff, not_and]
      intro _ h
      have := (lastw_none (k := k) (l := l)).2 h
      rw [hl] at this; cases this
    | none =>
      have := (lastw_none (k := k) (l := l)).1 hl
      by_cases he : a.key = k
      · simp [he]
      · simp [he]; exact this
theorem lastw_mem {k : ByteArray} : ∀ {l : List Wr} {w : Wr}, lastw k l = some w → w ∈ l
  | [], w, h => by simp [lastw] at h
  | a :: l, w, h => by
    rw [lastw_cons] at h
    cases hl : lastw k l with
    | some b => rw [hl] at h; simp at h; subst h; exact List.mem_cons_of_mem _ (lastw_mem hl)
    | none => rw [hl] at h; by_cases he : a.key = k <;> simp [he] at h; subst h; simp
theorem lastw_some {k : ByteArray} {l : List Wr} {w : Wr} (hw : w ∈ l) (hk : w.key = k) : ∃ x, lastw k l = some x := by
  cases h : lastw k l with
  | some x => exact ⟨x, rfl⟩
  | none => exact absurd hk (lastw_none.1 h w hw)

/-- keys rise. -/
def Rise (l : List Wr) : Prop := l.Pairwise fun a b => lt a.key b.key = true
/-- the rising row of the last write of each key. -/
def Is (ws l : List Wr) : Prop := Rise l ∧ ∀ w, w ∈ l ↔ lastw w.key ws = some w
theorem rise_nodup {l : List Wr} (h : Rise l) : l.Nodup := h.imp fun hab e => by subst e; rw [lt_irrefl] at hab; cases hab
/-- there is one such row. -/
theorem is_unique {ws l m : List Wr} (h : Is ws l) (k : Is ws m) : l = m := by
  have hp : l.Perm m := (List.perm_ext_iff_of_nodup (rise_nodup h.1) (rise_nodup k.1)).2 fun w => (h.2 w).trans (k.2 w).symm
  exact List.Perm.eq_of_pairwise (fun a b _ _ h1 h2 => by have := lt_asymm h1; rw [h2] at this; cases this) h.1 k.1 hp

/-- a write in its place. -/
def insW (w : Wr) : List Wr → List Wr
  | [] => [w]
  | a :: l => if lt a.key w.key then a :: insW w l else w :: a :: l
theorem mem_insW {w x : Wr} : ∀ {l : List Wr}, x ∈ insW w l ↔ x = w ∨ x ∈ l
  | [] => by simp [insW]
  | a :: l => by
    unfold insW
    split
    · rw [List.mem_cons, mem_insW (l := l), List.mem_cons]
      constructor
      · rintro (h | h | h)
        · exact .inr (.inl h)
        · exact .inl h
        · exact .inr (.inr h)
      · rintro (h | h | h)
        · exact .inr (.inl h)
        · exact .inl h
        · exact .inr (.inr h)
    · simp
theorem rise_insW {w : Wr} : ∀ {l : List Wr}, Rise l → (∀ a ∈ l, a.key ≠ w.key) → Rise (insW w l)
  | [], _, _ => by simp [insW, Rise]
  | a :: l, h, hne => by
    obtain ⟨h1, h2⟩ := List.pairwise_cons.1 h
    unfold insW
    split
    · rename_i hlt
      refine List.pairwise_cons.2 ⟨fun x hx => ?_, rise_insW h2 fun b hb => hne b (List.mem_cons_of_mem _ hb)⟩
      rcases mem_insW.1 hx with rfl | hx
      · exact hlt
      · exact h1 x hx
    · rename_i hlt
      have hw : lt w.key a.key = true := lt_tri (hne a (by simp)) (by simpa using hlt)
      refine List.pairwise_cons.2 ⟨fun x hx => ?_, h⟩
      rcases List.mem_cons.1 hx with rfl | hx
      · exact hw
      · exact lt_trans hw (h1 x hx)
/-- behind how many it stands. -/
theorem insW_at {w : Wr} : ∀ {l : List Wr} {i : Nat} (hi : i ≤ l.length), (∀ j, ∀ h : j < l.length, j < i → lt l[j].key w.key = true) → (∀ h : i < l.length, lt l[i].key w.key = false) → insW w l = l.take i ++ w :: l.drop i
  | [], i, hi, _, _ => by have : i = 0 := by simpa using hi
                          subst this; rfl
  | a :: l, 0, _, _, h2 => by
    have := h2 (by simp)
    simp only [List.getElem_cons_zero] at this
    unfold insW; rw [this]; simp
  | a :: l, i + 1, hi, h1, h2 => by
    have h0 := h1 0 (by simp) (by omega)
    simp only [List.getElem_cons_zero] at h0
    unfold insW
    rw [if_pos h0, insW_at (l := l) (i := i) (by simpa using hi) (fun j h hj => by have := h1 (j + 1) (by simpa using h) (by omega); simpa using this) (fun h => by have := h2 (by simpa using h); simpa using this)]
    rfl

/-- no later write of the row has that key. -/
def isLast (l : List Wr) (i : Nat) (k : ByteArray) : Bool := (l.drop (i + 1)).all fun w => decide (w.key ≠ k)
/-- what the document's Merge has behind i writes. -/
def upTo (l : List Wr) : Nat → List Wr
  | 0 => []
  | i + 1 => match l[i]? with
    | some w => if isLast l i w.key then insW w (upTo l i) else upTo l i
    | none => upTo l i
theorem lastw_at {l : List Wr} {i : Nat} (hi : i < l.length) : lastw l[i].key l = some l[i] ↔ ∃ j, ∃ hj : j < l.length, l[j] = l[i] ∧ isLast l j l[i].key = true := by
  induction l generalizing i with
  | nil => simp at hi
  | cons a l ih =>
    have hall : ∀ (k : ByteArray), isLast (a :: l) 0 k = true ↔ lastw k l = none := by
      intro k
      rw [lastw_none]
      unfold isLast
      simp [List.all_eq_true]
    have hsh : ∀ j k, isLast (a :: l) (j + 1) k = isLast l j k := fun j k => by unfold isLast; simp
    generalize hx : (a :: l)[i] = x
    rw [lastw_cons]
    cases hl : lastw x.key l with
    | some b =>
      simp only [Option.some_or, Option.some.injEq]
      constructor
      · intro e
        subst e
        obtain ⟨j, hj, e2⟩ := List.getElem_of_mem (lastw_mem hl)
        obtain ⟨m, hm, e3, e4⟩ := (ih hj).1 (by rw [e2]; exact hl)
        rw [e2] at e3 e4
        exact ⟨m + 1, by simpa using hm, by simpa using e3, by rw [hsh]; exact e4⟩
      · rintro ⟨j, hj, e1, e2⟩
        cases j with
        | zero =>
          have := (hall x.key).1 e2
          rw [hl] at this; cases this
        | succ j =>
          rw [hsh] at e2
          have hj' : j < l.length := by simpa using hj
          have e1' : l[j] = x := by simpa using e1
          have := (ih hj').2 ⟨j, hj', rfl, by rw [e1']; exact e2⟩
          rw [e1', hl] at this
          exact Option.some.inj this
    | none =>
      simp only [Option.none_or]
      constructor
      · intro e
        by_cases he : a.key = x.key
        · rw [if_pos he] at e
          exact ⟨0, by simp, by simpa using Option.some.inj e, (hall _).2 hl⟩
        · rw [if_neg he] at e; cases e
      · rintro ⟨j, hj, e1, e2⟩
        cases j with
        | zero => simp only [List.getElem_cons_zero] at e1; rw [e1]; simp
        | succ j =>
          have hj' : j < l.length := by simpa using hj
          have e1' : l[j] = x := by simpa using e1
          exact absurd (by rw [e1']) (lastw_none.1 hl l[j] (List.getElem_mem hj'))
theorem isLast_at {l : List Wr} {i j : Nat} {k : ByteArray} (h : isLast l i k = true) (hij : i < j) (hj : j < l.length) : l[j].key ≠ k := by
  unfold isLast at h
  rw [List.all_eq_true] at h
  have := h l[j] (by rw [List.mem_drop_iff_getElem]; exact ⟨j - (i + 1), by omega, by congr 1; omega⟩)
  simpa using this
theorem upTo_spec (l : List Wr) : ∀ (i : Nat), i ≤ l.length → Rise (upTo l i) ∧ ∀ w, w ∈ upTo l i ↔ ∃ j, ∃ hj : j < l.length, j < i ∧ l[j] = w ∧ isLast l j w.key = true
  | 0, _ => ⟨List.Pairwise.nil, fun w => by simp [upTo]⟩
  | i + 1, hi => by
    obtain ⟨h1, h2⟩ := upTo_spec l i (by omega)
    have hil : i < l.length := by omega
    unfold upTo
    rw [List.getElem?_eq_getElem hil]
    simp only
    split
    · rename_i hlast
      refine ⟨rise_insW h1 fun a ha e => ?_, fun w => ?_⟩
      · obtain ⟨j, hj, hji, rfl, hjl⟩ := (h2 a).1 ha
        exact isLast_at hjl hji hil e.symm
      · rw [mem_insW, h2]
        constructor
        · rintro (rfl | ⟨j, hj, hji, e, hjl⟩)
          · exact ⟨i, hil, by omega, rfl, hlast⟩
          · exact ⟨j, hj, by omega, e, hjl⟩
        · rintro ⟨j, hj, hji, e, hjl⟩
          by_cases hjeq : j = i
          · subst hjeq; exact .inl e.symm
          · exact .inr ⟨j, hj, by omega, e, hjl⟩
    · rename_i hlast
      refine ⟨h1, fun w => ?_⟩
      rw [h2]
      constructor
      · rintro ⟨j, hj, hji, e, hjl⟩
        exact ⟨j, hj, by omega, e, hjl⟩
      · rintro ⟨j, hj, hji, e, hjl⟩
        by_cases hjeq : j = i
        · subst hjeq; subst e; exact absurd hjl hlast
        · exact ⟨j, hj, by omega, e, hjl⟩
/-- the merge of a row of writes. -/
def mrg (l : List Wr) : List Wr := upTo l l.length
theorem mrg_is (l : List Wr) : Is l (mrg l) := by
  obtain ⟨h1, h2⟩ := upTo_spec l l.length (Nat.le_refl _)
  refine ⟨h1, fun w => ?_⟩
  unfold mrg
  rw [h2]
  constructor
  · rintro ⟨j, hj, _, rfl, hl⟩
    exact (lastw_at hj).2 ⟨j, hj, rfl, hl⟩
  · intro h
    obtain ⟨i, hi, e⟩ := List.getElem_of_mem (lastw_mem h)
    obtain ⟨j, hj, e1, e2⟩ := (lastw_at hi).1 (by rw [e]; exact h)
    rw [e] at e1 e2
    exact ⟨j, hj, hj, e1, e2⟩
theorem upTo_len (l : List Wr) : ∀ i, (upTo l i).length ≤ i
  | 0 => Nat.le_refl _
  | i + 1 => by
    have h := upTo_len l i
    have hins : ∀ (w : Wr) (m : List Wr), (insW w m).length = m.length + 1 := by
      intro w m
      induction m with
      | nil => rfl
      | cons a m ih => unfold insW; split <;> simp [ih]
    unfold upTo
    split
    · split
      · rw [hins]; omega
      · omega
    · omega
theorem mrg_len (l : List Wr) : (mrg l).length ≤ l.length := upTo_len l _

/-! ### What a merge makes of nothing -/
theorem fold_rise (key : ByteArray) : ∀ (l : List Wr) (r : ByteArray × Bool), Rise l → l.foldl (lastW key) r = match l.find? (fun w => decide (w.key = key)) with | some w => (if w.del then ⟨#[]⟩ else w.val, !w.del) | none => r
  | [], r, _ => rfl
  | a :: l, r, h => by
    obtain ⟨h1, h2⟩ := List.pairwise_cons.1 h
    rw [List.foldl_cons, fold_rise key l _ h2]
    by_cases he : a.key = key
    · rw [List.find?_cons_of_pos (by simpa using he)]
      have hn : l.find? (fun w => decide (w.key = key)) = none := by
        rw [List.find?_eq_none]
        intro x hx hk
        have := h1 x hx
        simp only [decide_eq_true_eq] at hk
        rw [hk, he, lt_irrefl] at this; cases this
      rw [hn]
      simp [lastW, he]
    · rw [List.find?_cons_of_neg (by simpa using he)]
      have : lastW key r a = r := by simp [lastW, he]
      rw [this]
theorem fold_last (key : ByteArray) : ∀ (l : List Wr) (r : ByteArray × Bool), l.foldl (lastW key) r = match lastw key l with | some w => (if w.del then ⟨#[]⟩ else w.val, !w.del) | none => r
  | [], r => rfl
  | a :: l, r => by
    rw [List.foldl_cons, fold_last key l, lastw_cons]
    cases lastw key l with
    | some b => rfl
    | none => by_cases he : a.key = key <;> simp [lastW, he]
theorem fold_mrg (key : ByteArray) (l : List Wr) (r : ByteArray × Bool) : (mrg l).foldl (lastW key) r = l.foldl (lastW key) r := by
  obtain ⟨h1, h2⟩ := mrg_is l
  rw [fold_rise key _ _ h1, fold_last key]
  cases hl : lastw key l with
  | some w =>
    have hk := lastw_key hl
    have hm : w ∈ mrg l := (h2 w).2 (by rw [hk]; exact hl)
    have hf : (mrg l).find? (fun w => decide (w.key = key)) = some w := by
      cases hc : (mrg l).find? (fun w => decide (w.key = key)) with
      | none => rw [List.find?_eq_none] at hc; exact absurd (by simpa using hk) (hc w hm)
      | some x =>
        have hx := List.mem_of_find?_eq_some hc
        have hxk : x.key = key := by have := List.find?_some hc; simpa using this
        have := (h2 x).1 hx
        rw [hxk, hl] at this
        exact this.symm
    rw [hf]
  | none =>
    have hf : (mrg l).find? (fun w => decide (w.key = key)) = none := by
      rw [List.find?_eq_none]
      intro x hx hk
      simp only [decide_eq_true_eq] at hk
      have := (h2 x).1 hx
      rw [hk, hl] at this; cases this
    rw [hf]
/-- right rows in which each key is found alike are the same. -/
theorem right_ext : ∀ {l m : List Pr}, Sorted l → Sorted m → (∀ k, find k l = find k m) → l = m
  | [], [], _, _, _ => rfl
  | [], q :: m, _, _, h => by
    have := h q.key
    rw [find_cons, hasK_same] at this
    simp [find] at this
  | p :: l, [], _, _, h => by
    have := h p.key
    rw [find_cons, hasK_same] at this
    simp [find] at this
  | p :: l, q :: m, hl, hm, h => by
    obtain ⟨l1, l2⟩ := List.pairwise_cons.1 hl
    obtain ⟨m1, m2⟩ := List.pairwise_cons.1 hm
    have hlo : ∀ {k : ByteArray} {a : Pr} {r : List Pr}, (∀ b ∈ r, lt a.key b.key = true) → lt k a.key = true → find k (a :: r) = (⟨#[]⟩, false) := by
      intro k a r hr hk
      refine find_none fun b hb => hasK_other fun e => ?_
      rcases List.mem_cons.1 hb with rfl | hb
      · rw [e, lt_irrefl] at hk; cases hk
      · have := lt_trans hk (hr b hb); rw [e, lt_irrefl] at this; cases this
    have hkey : p.key = q.key := by
      by_cases e : p.key = q.key
      · exact e
      · exfalso
        cases hc : lt p.key q.key with
        | true =>
          have h1 := h p.key
          rw [find_cons, hasK_same, hlo m1 hc] at h1
          simp at h1
        | false =>
          have hc2 := lt_tri e hc
          have h1 := h q.key
          rw [hlo l1 hc2, find_cons, hasK_same] at h1
          simp at h1
    have hval : p.val = q.val := by
      have h1 := h p.key
      rw [find_cons, hasK_same, hkey, find_cons, hasK_same] at h1
      simpa using h1
    have hpq : p = q := by cases p; cases q; simp_all
    subst hpq
    congr 1
    refine right_ext l2 m2 fun k => ?_
    by_cases e : hasK k p = true
    · have hk : p.key = k := by simpa [hasK] using e
      have hn : ∀ {r : List Pr}, (∀ b ∈ r, lt p.key b.key = true) → find k r = (⟨#[]⟩, false) := by
        intro r hr
        refine find_none fun b hb => hasK_other fun e2 => ?_
        have := hr b hb; rw [e2, hk, lt_irrefl] at this; cases this
      rw [hn l1, hn m1]
    · have h1 := h k
      rw [find_cons, find_cons, if_neg e, if_neg e] at h1
      exact h1
theorem apply_mrg (l : List Wr) : apply [] (mrg l) = apply [] l := by
  have hs : ∀ x, Sorted (apply [] x) := fun x => (right_iff _).1 (right_apply x (l := []) rfl)
  refine right_ext (hs _) (hs _) fun k => ?_
  rw [find_apply, find_apply, fold_mrg]
theorem apply_app (l : List Pr) (a b : List Wr) : apply l (a ++ b) = apply (apply l a) b := by unfold apply; rw [List.foldl_append]
end Mg
end Go.Proofs.Ytcclgepccahhbaa
