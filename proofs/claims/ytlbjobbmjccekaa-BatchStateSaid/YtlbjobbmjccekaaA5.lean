/- MergeMath, RunFold, BatchIn, Builder, BatchBytes, BatchShown, BatchMayRef, BatchBytesRef: merged. -/
import Derived.Test.YtlbjobbmjccekaaA3
import Derived.Test.YtlbjobbmjccekaaA2
import Derived.Laws.StructEq
import Derived.Test.YtlbjobbmjccekaaA4
import Derived.Test.YtlbjobbmjccekaaA1
import Derived.Test.YtlbjobbmjccekaaShelf
import Derived.Lib.Builder
import Derived.Lib.AppendStr
import Derived.OwnWalk
import Derived.BigQuiet
import Derived.Deep.RegionHeld3
/- The mathematics of a merge: the last write of each key, in the order of keys. -/
namespace Go.Proofs.Ytlbjobbmjccekaa
set_option maxRecDepth 100000
open Prm
set_option linter.unusedVariables false
set_option linter.unusedSimpArgs false
namespace Mg

/-- the last write of a key. -/
def lastw (k : ByteArray) (l : List Wr) : Option Wr := l.foldl (fun r w => if w.key = k then some w else r) none
theorem lastw_snoc (k : ByteArray) (l : List Wr) (w : Wr) : lastw k (l ++ [w]) = if w.key = k then some w else lastw k l := by
  unfold lastw; rw [List.foldl_append]; rfl
theorem lastw_nil (k : ByteArray) : lastw k [] = none := rfl
theorem foldl_last (k : ByteArray) : ∀ (l : List Wr) (r : Option Wr), l.foldl (fun r w => if w.key = k then some w else r) r = (lastw k l).or r
  | [], r => by simp [lastw]
  | w :: l, r => by
    rw [List.foldl_cons, foldl_last k l]
    have e : lastw k (w :: l) = (lastw k l).or (if w.key = k then some w else none) := by
      unfold lastw
      rw [List.foldl_cons, foldl_last k l]; rfl
    rw [e]
    cases lastw k l <;> by_cases h : w.key = k <;> simp [h]
theorem lastw_cons (k : ByteArray) (w : Wr) (l : List Wr) : lastw k (w :: l) = (lastw k l).or (if w.key = k then some w else none) := by
  unfold lastw
  rw [List.foldl_cons, foldl_last k l]; rfl
theorem lastw_key {k : ByteArray} : ∀ {l : List Wr} {w : Wr}, lastw k l = some w → w.key = k
  | [], w, h => by simp [lastw] at h
  | a :: l, w, h => by
    rw [lastw_cons] at h
    cases hl : lastw k l with
    | some b => rw [hl] at h; simp at h; subst h; exact lastw_key hl
    | none => rw [hl] at h; by_cases he : a.key = k <;> simp [he] at h; subst h; exact he
theorem lastw_none {k : ByteArray} : ∀ {l : List Wr}, lastw k l = none ↔ ∀ w ∈ l, w.key ≠ k
  | [] => by simp [lastw]
  | a :: l => by
    rw [lastw_cons]
    cases hl : lastw k l with
    | some b =>
      simp only [Option.some_or, reduceCtorEq, List.mem_cons, forall_eq_or_imp, false_iff, not_and]
      intro _ h
      have := (lastw_none (k := k) (l := l)).2 h
      rw [hl] at this; cases this
    | none =>
      have := (lastw_none (k := k) (l := l)).1 hl
      by_cases he : a.key = k
      · simp [he]
      · simp [he]; exact this
theorem lastw_mem {k : ByteArray} : ∀ {l : List Wr} {w : Wr}, lastw k l = some w → w ∈ l
  | [], w, h => by simp [lastw] at h
  | a :: l, w, h => by
    rw [lastw_cons] at h
    cases hl : lastw k l with
    | some b => rw [hl] at h; simp at h; subst h; exact List.mem_cons_of_mem _ (lastw_mem hl)
    | none => rw [hl] at h; by_cases he : a.key = k <;> simp [he] at h; subst h; simp
theorem lastw_some {k : ByteArray} {l : List Wr} {w : Wr} (hw : w ∈ l) (hk : w.key = k) : ∃ x, lastw k l = some x := by
  cases h : lastw k l with
  | some x => exact ⟨x, rfl⟩
  | none => exact absurd hk (lastw_none.1 h w hw)

/-- keys rise. -/
def Rise (l : List Wr) : Prop := l.Pairwise fun a b => lt a.key b.key = true
/-- the rising row of the last write of each key. -/
def Is (ws l : List Wr) : Prop := Rise l ∧ ∀ w, w ∈ l ↔ lastw w.key ws = some w
theorem rise_nodup {l : List Wr} (h : Rise l) : l.Nodup := h.imp fun hab e => by subst e; rw [lt_irrefl] at hab; cases hab
/-- there is one such row. -/
theorem is_unique {ws l m : List Wr} (h : Is ws l) (k : Is ws m) : l = m := by
  have hp : l.Perm m := (List.perm_ext_iff_of_nodup (rise_nodup h.1) (rise_nodup k.1)).2 fun w => (h.2 w).trans (k.2 w).symm
  exact List.Perm.eq_of_pairwise (fun a b _ _ h1 h2 => by have := lt_asymm h1; rw [h2] at this; cases this) h.1 k.1 hp

/-- a write in its place. -/
def insW (w : Wr) : List Wr → List Wr
  | [] => [w]
  | a :: l => if lt a.key w.key then a :: insW w l else w :: a :: l
theorem mem_insW {w x : Wr} : ∀ {l : List Wr}, x ∈ insW w l ↔ x = w ∨ x ∈ l
  | [] => by simp [insW]
  | a :: l => by
    unfold insW
    split
    · rw [List.mem_cons, mem_insW (l := l), List.mem_cons]
      constructor
      · rintro (h | h | h)
        · exact .inr (.inl h)
        · exact .inl h
        · exact .inr (.inr h)
      · rintro (h | h | h)
        · exact .inr (.inl h)
        · exact .inl h
        · exact .inr (.inr h)
    · simp
theorem rise_insW {w : Wr} : ∀ {l : List Wr}, Rise l → (∀ a ∈ l, a.key ≠ w.key) → Rise (insW w l)
  | [], _, _ => by simp [insW, Rise]
  | a :: l, h, hne => by
    obtain ⟨h1, h2⟩ := List.pairwise_cons.1 h
    unfold insW
    split
    · rename_i hlt
      refine List.pairwise_cons.2 ⟨fun x hx => ?_, rise_insW h2 fun b hb => hne b (List.mem_cons_of_mem _ hb)⟩
      rcases mem_insW.1 hx with rfl | hx
      · exact hlt
      · exact h1 x hx
    · rename_i hlt
      have hw : lt w.key a.key = true := lt_tri (hne a (by simp)) (by simpa using hlt)
      refine List.pairwise_cons.2 ⟨fun x hx => ?_, h⟩
      rcases List.mem_cons.1 hx with rfl | hx
      · exact hw
      · exact lt_trans hw (h1 x hx)
/-- behind how many it stands. -/
theorem insW_at {w : Wr} : ∀ {l : List Wr} {i : Nat} (hi : i ≤ l.length), (∀ j, ∀ h : j < l.length, j < i → lt l[j].key w.key = true) → (∀ h : i < l.length, lt l[i].key w.key = false) → insW w l = l.take i ++ w :: l.drop i
  | [], i, hi, _, _ => by have : i = 0 := by simpa using hi
                          subst this; rfl
  | a :: l, 0, _, _, h2 => by
    have := h2 (by simp)
    simp only [List.getElem_cons_zero] at this
    unfold insW; rw [this]; simp
  | a :: l, i + 1, hi, h1, h2 => by
    have h0 := h1 0 (by simp) (by omega)
    simp only [List.getElem_cons_zero] at h0
    unfold insW
    rw [if_pos h0, insW_at (l := l) (i := i) (by simpa using hi) (fun j h hj => by have := h1 (j + 1) (by simpa using h) (by omega); simpa using this) (fun h => by have := h2 (by simpa using h); simpa using this)]
    rfl

/-- no later write of the row has that key. -/
def isLast (l : List Wr) (i : Nat) (k : ByteArray) : Bool := (l.drop (i + 1)).all fun w => decide (w.key ≠ k)
/-- what the document's Merge has behind i writes. -/
def upTo (l : List Wr) : Nat → List Wr
  | 0 => []
  | i + 1 => match l[i]? with
    | some w => if isLast l i w.key then insW w (upTo l i) else upTo l i
    | none => upTo l i
theorem lastw_at {l : List Wr} {i : Nat} (hi : i < l.length) : lastw l[i].key l = some l[i] ↔ ∃ j, ∃ hj : j < l.length, l[j] = l[i] ∧ isLast l j l[i].key = true := by
  induction l generalizing i with
  | nil => simp at hi
  | cons a l ih =>
    have hall : ∀ (k : ByteArray), isLast (a :: l) 0 k = true ↔ lastw k l = none := by
      intro k
      rw [lastw_none]
      unfold isLast
      simp [List.all_eq_true]
    have hsh : ∀ j k, isLast (a :: l) (j + 1) k = isLast l j k := fun j k => by unfold isLast; simp
    generalize hx : (a :: l)[i] = x
    rw [lastw_cons]
    cases hl : lastw x.key l with
    | some b =>
      simp only [Option.some_or, Option.some.injEq]
      constructor
      · intro e
        subst e
        obtain ⟨j, hj, e2⟩ := List.getElem_of_mem (lastw_mem hl)
        obtain ⟨m, hm, e3, e4⟩ := (ih hj).1 (by rw [e2]; exact hl)
        rw [e2] at e3 e4
        exact ⟨m + 1, by simpa using hm, by simpa using e3, by rw [hsh]; exact e4⟩
      · rintro ⟨j, hj, e1, e2⟩
        cases j with
        | zero =>
          have := (hall x.key).1 e2
          rw [hl] at this; cases this
        | succ j =>
          rw [hsh] at e2
          have hj' : j < l.length := by simpa using hj
          have e1' : l[j] = x := by simpa using e1
          have := (ih hj').2 ⟨j, hj', rfl, by rw [e1']; exact e2⟩
          rw [e1', hl] at this
          exact Option.some.inj this
    | none =>
      simp only [Option.none_or]
      constructor
      · intro e
        by_cases he : a.key = x.key
        · rw [if_pos he] at e
          exact ⟨0, by simp, by simpa using Option.some.inj e, (hall _).2 hl⟩
        · rw [if_neg he] at e; cases e
      · rintro ⟨j, hj, e1, e2⟩
        cases j with
        | zero => simp only [List.getElem_cons_zero] at e1; rw [e1]; simp
        | succ j =>
          have hj' : j < l.length := by simpa using hj
          have e1' : l[j] = x := by simpa using e1
          exact absurd (by rw [e1']) (lastw_none.1 hl l[j] (List.getElem_mem hj'))
theorem isLast_at {l : List Wr} {i j : Nat} {k : ByteArray} (h : isLast l i k = true) (hij : i < j) (hj : j < l.length) : l[j].key ≠ k := by
  unfold isLast at h
  rw [List.all_eq_true] at h
  have := h l[j] (by rw [List.mem_drop_iff_getElem]; exact ⟨j - (i + 1), by omega, by congr 1; omega⟩)
  simpa using this
theorem upTo_spec (l : List Wr) : ∀ (i : Nat), i ≤ l.length → Rise (upTo l i) ∧ ∀ w, w ∈ upTo l i ↔ ∃ j, ∃ hj : j < l.length, j < i ∧ l[j] = w ∧ isLast l j w.key = true
  | 0, _ => ⟨List.Pairwise.nil, fun w => by simp [upTo]⟩
  | i + 1, hi => by
    obtain ⟨h1, h2⟩ := upTo_spec l i (by omega)
    have hil : i < l.length := by omega
    unfold upTo
    rw [List.getElem?_eq_getElem hil]
    simp only
    split
    · rename_i hlast
      refine ⟨rise_insW h1 fun a ha e => ?_, fun w => ?_⟩
      · obtain ⟨j, hj, hji, rfl, hjl⟩ := (h2 a).1 ha
        exact isLast_at hjl hji hil e.symm
      · rw [mem_insW, h2]
        constructor
        · rintro (rfl | ⟨j, hj, hji, e, hjl⟩)
          · exact ⟨i, hil, by omega, rfl, hlast⟩
          · exact ⟨j, hj, by omega, e, hjl⟩
        · rintro ⟨j, hj, hji, e, hjl⟩
          by_cases hjeq : j = i
          · subst hjeq; exact .inl e.symm
          · exact .inr ⟨j, hj, by omega, e, hjl⟩
    · rename_i hlast
      refine ⟨h1, fun w => ?_⟩
      rw [h2]
      constructor
      · rintro ⟨j, hj, hji, e, hjl⟩
        exact ⟨j, hj, by omega, e, hjl⟩
      · rintro ⟨j, hj, hji, e, hjl⟩
        by_cases hjeq : j = i
        · subst hjeq; subst e; exact absurd hjl hlast
        · exact ⟨j, hj, by omega, e, hjl⟩
/-- the merge of a row of writes. -/
def mrg (l : List Wr) : List Wr := upTo l l.length
theorem mrg_is (l : List Wr) : Is l (mrg l) := by
  obtain ⟨h1, h2⟩ := upTo_spec l l.length (Nat.le_refl _)
  refine ⟨h1, fun w => ?_⟩
  unfold mrg
  rw [h2]
  constructor
  · rintro ⟨j, hj, _, rfl, hl⟩
    exact (lastw_at hj).2 ⟨j, hj, rfl, hl⟩
  · intro h
    obtain ⟨i, hi, e⟩ := List.getElem_of_mem (lastw_mem h)
    obtain ⟨j, hj, e1, e2⟩ := (lastw_at hi).1 (by rw [e]; exact h)
    rw [e] at e1 e2
    exact ⟨j, hj, hj, e1, e2⟩
theorem upTo_len (l : List Wr) : ∀ i, (upTo l i).length ≤ i
  | 0 => Nat.le_refl _
  | i + 1 => by
    have h := upTo_len l i
    have hins : ∀ (w : Wr) (m : List Wr), (insW w m).length = m.length + 1 := by
      intro w m
      induction m with
      | nil => rfl
      | cons a m ih => unfold insW; split <;> simp [ih]
    unfold upTo
    split
    · split
      · rw [hins]; omega
      · omega
    · omega
theorem mrg_len (l : List Wr) : (mrg l).length ≤ l.length := upTo_len l _

/-! ### What a merge makes of nothing -/
theorem fold_rise (key : ByteArray) : ∀ (l : List Wr) (r : ByteArray × Bool), Rise l → l.foldl (lastW key) r = match l.find? (fun w => decide (w.key = key)) with | some w => (if w.del then ⟨#[]⟩ else w.val, !w.del) | none => r
  | [], r, _ => rfl
  | a :: l, r, h => by
    obtain ⟨h1, h2⟩ := List.pairwise_cons.1 h
    rw [List.foldl_cons, fold_rise key l _ h2]
    by_cases he : a.key = key
    · rw [List.find?_cons_of_pos (by simpa using he)]
      have hn : l.find? (fun w => decide (w.key = key)) = none := by
        rw [List.find?_eq_none]
        intro x hx hk
        have := h1 x hx
        simp only [decide_eq_true_eq] at hk
        rw [hk, he, lt_irrefl] at this; cases this
      rw [hn]
      simp [lastW, he]
    · rw [List.find?_cons_of_neg (by simpa using he)]
      have : lastW key r a = r := by simp [lastW, he]
      rw [this]
theorem fold_last (key : ByteArray) : ∀ (l : List Wr) (r : ByteArray × Bool), l.foldl (lastW key) r = match lastw key l with | some w => (if w.del then ⟨#[]⟩ else w.val, !w.del) | none => r
  | [], r => rfl
  | a :: l, r => by
    rw [List.foldl_cons, fold_last key l, lastw_cons]
    cases lastw key l with
    | some b => rfl
    | none => by_cases he : a.key = key <;> simp [lastW, he]
theorem fold_mrg (key : ByteArray) (l : List Wr) (r : ByteArray × Bool) : (mrg l).foldl (lastW key) r = l.foldl (lastW key) r := by
  obtain ⟨h1, h2⟩ := mrg_is l
  rw [fold_rise key _ _ h1, fold_last key]
  cases hl : lastw key l with
  | some w =>
    have hk := lastw_key hl
    have hm : w ∈ mrg l := (h2 w).2 (by rw [hk]; exact hl)
    have hf : (mrg l).find? (fun w => decide (w.key = key)) = some w := by
      cases hc : (mrg l).find? (fun w => decide (w.key = key)) with
      | none => rw [List.find?_eq_none] at hc; exact absurd (by simpa using hk) (hc w hm)
      | some x =>
        have hx := List.mem_of_find?_eq_some hc
        have hxk : x.key = key := by have := List.find?_some hc; simpa using this
        have := (h2 x).1 hx
        rw [hxk, hl] at this
        exact this.symm
    rw [hf]
  | none =>
    have hf : (mrg l).find? (fun w => decide (w.key = key)) = none := by
      rw [List.find?_eq_none]
      intro x hx hk
      simp only [decide_eq_true_eq] at hk
      have := (h2 x).1 hx
      rw [hk, hl] at this; cases this
    rw [hf]
/-- right rows in which each key is found alike are the same. -/
theorem right_ext : ∀ {l m : List Pr}, Sorted l → Sorted m → (∀ k, find k l = find k m) → l = m
  | [], [], _, _, _ => rfl
  | [], q :: m, _, _, h => by
    have := h q.key
    rw [find_cons, hasK_same] at this
    simp [find] at this
  | p :: l, [], _, _, h => by
    have := h p.key
    rw [find_cons, hasK_same] at this
    simp [find] at this
  | p :: l, q :: m, hl, hm, h => by
    obtain ⟨l1, l2⟩ := List.pairwise_cons.1 hl
    obtain ⟨m1, m2⟩ := List.pairwise_cons.1 hm
    have hlo : ∀ {k : ByteArray} {a : Pr} {r : List Pr}, (∀ b ∈ r, lt a.key b.key = true) → lt k a.key = true → find k (a :: r) = (⟨#[]⟩, false) := by
      intro k a r hr hk
      refine find_none fun b hb => hasK_other fun e => ?_
      rcases List.mem_cons.1 hb with rfl | hb
      · rw [e, lt_irrefl] at hk; cases hk
      · have := lt_trans hk (hr b hb); rw [e, lt_irrefl] at this; cases this
    have hkey : p.key = q.key := by
      by_cases e : p.key = q.key
      · exact e
      · exfalso
        cases hc : lt p.key q.key with
        | true =>
          have h1 := h p.key
          rw [find_cons, hasK_same, hlo m1 hc] at h1
          simp at h1
        | false =>
          have hc2 := lt_tri e hc
          have h1 := h q.key
          rw [hlo l1 hc2, find_cons, hasK_same] at h1
          simp at h1
    have hval : p.val = q.val := by
      have h1 := h p.key
      rw [find_cons, hasK_same, hkey, find_cons, hasK_same] at h1
      simpa using h1
    have hpq : p = q := by cases p; cases q; simp_all
    subst hpq
    congr 1
    refine right_ext l2 m2 fun k => ?_
    by_cases e : hasK k p = true
    · have hk : p.key = k := by simpa [hasK] using e
      have hn : ∀ {r : List Pr}, (∀ b ∈ r, lt p.key b.key = true) → find k r = (⟨#[]⟩, false) := by
        intro r hr
        refine find_none fun b hb => hasK_other fun e2 => ?_
        have := hr b hb; rw [e2, hk, lt_irrefl] at this; cases this
      rw [hn l1, hn m1]
    · have h1 := h k
      rw [find_cons, find_cons, if_neg e, if_neg e] at h1
      exact h1
theorem apply_mrg (l : List Wr) : apply [] (mrg l) = apply [] l := by
  have hs : ∀ x, Sorted (apply [] x) := fun x => (right_iff _).1 (right_apply x (l := []) rfl)
  refine right_ext (hs _) (hs _) fun k => ?_
  rw [find_apply, find_apply, fold_mrg]
theorem apply_app (l : List Pr) (a b : List Wr) : apply l (a ++ b) = apply (apply l a) b := by unfold apply; rw [List.foldl_append]
end Mg
end Go.Proofs.Ytlbjobbmjccekaa

/- Contracts: what writes make of nothing; the document's answer for writes' rows. -/
namespace Go.Proofs.Ytlbjobbmjccekaa
set_option maxRecDepth 100000
open Go.RowKit Prm
set_option linter.unusedVariables false
set_option linter.unusedSimpArgs false

theorem neq_write (W : World) (f g : Wr) : (binOp .neq 63 f.v g.v).run Try.prog W = .ok (.bool (!decide (f = g))) W := by
  have u := Try.underlying9
  have ub := Try.underlying4
  have hS : Try.prog.underlying 63 = some (.struct (Try.prog.fieldsOf 63)) := by kernel_rfl
  have hp : Try.prog.stoodInHeld 63 = false := by kernel_rfl
  have a3 := Try.isAgg9
  have z3 := Try.sizeOf9
  have a4 := Try.isAgg4
  have z4 := Try.sizeOf4
  obtain ⟨a, b, c⟩ := f
  obtain ⟨a', b', c'⟩ := g
  rw [run_neq_struct, show (10000 : Nat) = 9999 + 1 from rfl, run_equalIn_agg W 9999 _ _ _ hS hp]
  simp only [Program.fieldsOf, Try.underlying63]
  go_simp
  simp only [str_inj]
  by_cases h1 : a = a' <;> by_cases h2 : b = b' <;> cases c <;> cases c' <;> simp [h1, h2]

set_option maxHeartbeats 1000000 in
theorem refWrites_any (A B : Option Addr) (n c m d : Nat) (l l2 : List Wr) (w : World) (h1 : Lst writeK w A n l) (h2 : Lst writeK w B m l2) (hn : n ≤ maxLen) (hm : m ≤ maxLen) :
    Calls Try.prog 43 #[.slice A n c, .slice B m d] w fun e w' => e = .returned (.bool (decide (l = l2))) ∧ Q w w' := by
  unfold maxLen at hn hm
  have H1 := Lib.hid h1
  have H2 := Lib.hid h2
  have L1 := Lib.hid h1.len
  have L2 := Lib.hid h2.len
  clear h1 h2
  by_cases hnm : n = m
  · subst hnm
    go_enter Try.func43, Try.ntmps43
    go_wp2
    go_loopw [5] (fun i wr => ∃ k : Nat, k ≤ n ∧ i = .int .i64 k ∧ Q w wr ∧ l.take k = l2.take k) (fun i _ => n - (intOf i).toNat)
    case atStart => exact ⟨0, Nat.zero_le _, rfl, Q.refl _, by simp⟩
    case round =>
      obtain ⟨k, hk, rfl, hq, ht⟩ := hrel
      have HT := Lib.hid ht
      clear ht
      by_cases hlt : k < n
      · have k1 : k < l.length := by have := L1.out; omega
        have k2 : k < l2.length := by have := L2.out; omega
        obtain ⟨ad, rfl, hb, c0, c1, c2⟩ := load_write (H1.out.q hq) hlt k1
        obtain ⟨ae, rfl, he, d0, d1, d2⟩ := load_write (H2.out.q hq) hlt k2
        have hne := fun W => neq_write W l[k] l2[k]
        have hkn : (k : Int) < (n : Int) := by omega
        by_cases heq : l[k] = l2[k]
        · have hd : decide (l[k] = l2[k]) = true := by simpa using heq
          have HE := Lib.hid heq
          clear heq
          go_wp2
          go_quiet (fail)
          go_wp2
          go_roundw
          case rel => exact ⟨k + 1, by omega, by go_num, hq.drewN _, by rw [List.take_succ_eq_append_getElem k1, List.take_succ_eq_append_getElem k2, HT.out, HE.out]⟩
          case measure => simp [intOf]; omega
        · have hd : decide (l[k] = l2[k]) = false := by simpa using heq
          have HE := Lib.hid heq
          clear heq
          go_wp2
          go_quiet (fail)
          go_wp2
          go_ret
          exact ⟨ret_bool (by symm; simp only [decide_eq_false_iff_not]; rintro rfl; exact HE.out rfl), hq.drewN _⟩
      · go_wp2
        go_ret
        exact ⟨ret_bool (by symm; simp only [decide_eq_true_eq]; have h1 := HT.out; rwa [List.take_of_length_le (by have := L1.out; omega), List.take_of_length_le (by have := L2.out; omega)] at h1), hq⟩
  · have n1 : ((n : Int) != (m : Int)) = true := by simp; omega
    have n2 : (n != m) = true := by simp; omega
    have n3 : (n == m) = false := by simp; omega
    have n4 : ((n : Int) == (m : Int)) = false := by simp; omega
    have n5 : ¬ (n : Int) = m := by omega
    have HN := Lib.hid hnm
    go_enter Try.func43, Try.ntmps43
    go_wp2
    go_ret
    exact ⟨ret_bool (by symm; simp only [decide_eq_false_iff_not]; rintro rfl; exact HN.out (L1.out.symm.trans L2.out)), Q.refl _⟩

end Go.Proofs.Ytlbjobbmjccekaa

/- What comes in: states, batches, lists of batches; the document's SameBatch. -/
namespace Go.Proofs.Ytlbjobbmjccekaa
set_option maxRecDepth 100000
open Go.ChangeShapes Go.WideShapes Go.RowKit Prm
set_option linter.unusedVariables false
set_option linter.unusedSimpArgs false

theorem open_state {w : World} {cs : List Value} (h : Rd w 40 cs) : ∃ A n c l B m d t, cs = [.slice A n c, .slice B m d] ∧ In_ pairK w A n c l ∧ n * 32 ≤ 140737488351232 ∧ (∀ p ∈ l, PrIn p) ∧ In_ pairK w B m d t ∧ m * 32 ≤ 140737488351232 ∧ ∀ p ∈ t, PrIn p := by
  obtain ⟨hl, hf⟩ := h.struct Try.underlying40
  rw [show Try.prog.cellsOf 40 = 2 by kernel_rfl] at hl
  match cs, hl with
  | [a, b], _ =>
    obtain ⟨A, n, c, l, e0, i0, b0, p0⟩ := open_pairs (h.field Try.underlying40 0 (ty := 38) 0 1 rfl (by kernel_rfl))
    obtain ⟨B, m, d, t, e1, i1, b1, p1⟩ := open_pairs (h.field Try.underlying40 1 (ty := 38) 1 1 rfl (by kernel_rfl))
    simp at e0 e1
    subst e0 e1
    exact ⟨A, n, c, l, B, m, d, t, rfl, i0, b0, p0, i1, b1, p1⟩
theorem open_batch {w : World} {cs : List Value} (h : Rd w 24 cs) : ∃ k tok C p q ws, cs = [.int .i64 k, .string tok, .slice C p q] ∧ tok.size ≤ 140737488351232 ∧ In_ writeK w C p q ws ∧ p * 40 ≤ 140737488351232 ∧ (∀ x ∈ ws, WrIn x) ∧ -9223372036854775808 ≤ k ∧ k ≤ 9223372036854775807 := by
  obtain ⟨hl, hf⟩ := h.struct Try.underlying24
  rw [show Try.prog.cellsOf 24 = 3 by kernel_rfl] at hl
  match cs, hl with
  | [a, b, x], _ =>
    obtain ⟨k, e0, r0⟩ := (h.field Try.underlying24 0 (ty := 3) 0 1 rfl (by kernel_rfl)).int Try.underlying3
    obtain ⟨tok, e1, r1⟩ := (h.field Try.underlying24 1 (ty := 9) 1 1 rfl (by kernel_rfl)).string Try.underlying9
    obtain ⟨C, p, q, ws, e2, i2, b2, p2⟩ := open_writes (h.field Try.underlying24 2 (ty := 22) 2 1 rfl (by kernel_rfl))
    simp at e0 e1 e2
    subst e0 e1 e2
    exact ⟨k, tok, C, p, q, ws, rfl, r1, i2, b2, p2, (wf_i64 r0).1, (wf_i64 r0).2⟩

/-- a batch as it lies in a list. -/
structure BRaw where
  k : Int
  tok : ByteArray
  C : Option Addr
  p : Nat
  q : Nat
def rawK : Kind BRaw where
  T := 24
  S := 57
  k := 3
  bs := 48
  z := .agg #[.int .i64 0, .string ⟨#[]⟩, .slice none 0 0]
  row := fun p => [.int .i64 p.k, .string p.tok, .slice p.C p.p p.q]
  pos := by omega
  bpos := by omega
  len := fun _ => rfl
  one := fun _ u hu => by simp at hu; rcases hu with rfl | rfl | rfl <;> rfl
  und := Try.underlying57
  info := by kernel_rfl
  zc := rfl
theorem load_raw {w : World} {A : Option Addr} {n : Nat} {l : List BRaw} (h : Lst rawK w A n l) {k : Nat} (hk : k < n) (hl : k < l.length) :
    ∃ ad, A = some ad ∧ ad.block < w.heap.size ∧ w.cell? (ad.add (k * 3)) = some (.int .i64 l[k].k) ∧ w.cell? ⟨(ad.add (k * 3)).block, (ad.add (k * 3)).off + 1, none⟩ = some (.string l[k].tok) ∧
      w.cell? ⟨(ad.add (k * 3)).block, (ad.add (k * 3)).off + 2, none⟩ = some (.slice l[k].C l[k].p l[k].q) := by
  obtain ⟨ad, e, hb, hc⟩ := h.load hk hl
  exact ⟨ad, e, hb, hc 0 _ rfl, hc 1 _ rfl, hc 2 _ rfl⟩
/-- the raw batch r of a list stands for the batch b. -/
def Stands (w : World) (r : BRaw) (b : Bm.Bt) : Prop := r.k = b.kind ∧ r.tok = b.tok ∧ In_ writeK w r.C r.p r.q b.ws
theorem open_batches {w : World} {cs : List Value} (h : Rd w 57 cs) : ∃ A n c l, cs = [.slice A n c] ∧ In_ rawK w A n c l ∧ ∃ bl : List Bm.Bt, bl.length = n ∧ ∀ i, ∀ h1 : i < l.length, ∀ h2 : i < bl.length, Stands w l[i] bl[i] := by
  obtain ⟨A, n, c, l, rfl, hi, _, hP⟩ := open_kind rawK (fun r => ∃ b, Stands w r b) (fun cs hc => by
    obtain ⟨k, tok, C, p, q, ws, rfl, _, h1, _⟩ := open_batch hc
    exact ⟨⟨k, tok, C, p, q⟩, rfl, ⟨k, tok, ws⟩, rfl, rfl, h1⟩) (by kernel_rfl) (by kernel_rfl) h
  refine ⟨A, n, c, l, rfl, hi, ?_⟩
  have hl := hi.len
  obtain ⟨bl, hbl, hb⟩ := choose_list (R := fun i (b : Bm.Bt) => ∃ h : i < l.length, Stands w l[i] b) n (fun i hin => by
    obtain ⟨b, hb⟩ := hP l[i] (List.getElem_mem (by omega))
    exact ⟨b, by omega, hb⟩)
  exact ⟨bl, hbl, fun i h1 h2 => (hb i h2).2⟩

theorem Bm.fin_len (x : Bm.Bt × Bm.Hs) : (Bm.fin x).1.ws.length ≤ 24 := by
  obtain ⟨b, y, o⟩ := x
  unfold Bm.fin
  by_cases h : o = true ∧ y = [] ∧ Bm.may b = true
  · rw [if_pos h]; exact Bm.may_len h.2.2
  · rw [if_neg h]; simp
theorem Bm.take_len (s : List UInt8) : (Bm.take s).1.ws.length ≤ 24 := by
  unfold Bm.take
  generalize Bm.tkB (s, true) = x
  exact Bm.fin_len x

set_option maxHeartbeats 2000000 in
theorem sameBatch_any (k k2 : Int) (tok tok2 : ByteArray) (A B : Option Addr) (n c m d : Nat) (ws ws2 : List Wr) (w : World) (h1 : Lst writeK w A n ws) (h2 : Lst writeK w B m ws2) (hn : n ≤ maxLen) (hm : m ≤ maxLen) :
    Calls Try.prog 16 #[batV k tok A n c, batV k2 tok2 B m d] w fun e w' => e = .returned (.bool (decide ((⟨k, tok, ws⟩ : Bm.Bt) = ⟨k2, tok2, ws2⟩))) ∧ Q w w' := by
  have KW := Lib.hid (fun W q => refWrites_any A B n c m d ws ws2 W (h1.q q) (h2.q q) hn hm)
  have hE : decide ((⟨k, tok, ws⟩ : Bm.Bt) = ⟨k2, tok2, ws2⟩) = (decide (ws = ws2) && (k == k2) && (tok.toList == tok2.toList)) := by
    rw [same_str]
    by_cases e1 : k = k2 <;> by_cases e2 : tok = tok2 <;> by_cases e3 : ws = ws2 <;> simp [e1, e2, e3]
  have HE := Lib.hid hE
  clear h1 h2 hE
  generalize decide ((⟨k, tok, ws⟩ : Bm.Bt) = ⟨k2, tok2, ws2⟩) = R at HE ⊢
  generalize decide (ws = ws2) = r1 at KW HE
  generalize hr2 : (k == k2) = r2 at HE
  generalize hr3 : (tok.toList == tok2.toList) = r3 at HE
  go_enter Try.func16, Try.ntmps16
  go_upto_region 1 with (fail)
  have X : Hid (Bx ((w.alloc (.cells #[.int .i64 k, .string tok, .slice A n c] 24)).alloc (.cells #[.int .i64 k2, .string tok2, .slice B m d] 24)) w.heap.size [.int .i64 k, .string tok, .slice A n c] ∧
      Bx ((w.alloc (.cells #[.int .i64 k, .string tok, .slice A n c] 24)).alloc (.cells #[.int .i64 k2, .string tok2, .slice B m d] 24)) (w.heap.size + 1) [.int .i64 k2, .string tok2, .slice B m d] ∧
      Q w ((w.alloc (.cells #[.int .i64 k, .string tok, .slice A n c] 24)).alloc (.cells #[.int .i64 k2, .string tok2, .slice B m d] 24))) := by
    refine Lib.hid ⟨(Bx.new w [.int .i64 k, .string tok, .slice A n c] 24).alloc _, ?_, ((Q.refl w).alloc _).alloc _⟩
    have := Bx.new (w.alloc (.cells #[.int .i64 k, .string tok, .slice A n c] 24)) [.int .i64 k2, .string tok2, .slice B m d] 24
    simpa using this
  generalize ((w.alloc (.cells #[.int .i64 k, .string tok, .slice A n c] 24)).alloc (.cells #[.int .i64 k2, .string tok2, .slice B m d] 24)) = w2 at X ⊢
  obtain ⟨c0, c1, c2⟩ := X.out.1.get3.1
  obtain ⟨d0, d1, d2⟩ := X.out.2.1.get3.1
  go_wp2_with fail
  refine (KW.out _ X.out.2.2).mono ?_
  rintro e w3 ⟨rfl, y3⟩
  have Y := Lib.hid (X.out.2.2.trans y3)
  have X1 := Lib.hid (X.out.1.q y3)
  have X2 := Lib.hid (X.out.2.1.q y3)
  clear y3 c0 c1 c2 d0 d1 d2 X
  obtain ⟨c0, c1, c2⟩ := X1.out.get3.1
  obtain ⟨d0, d1, d2⟩ := X2.out.get3.1
  cases r1 <;> cases r2 <;> cases r3
  all_goals
    go_wp2
    go_ret
    exact ⟨ret_bool (by rw [HE.out]; first | rfl | simp_all), Y.out⟩
end Go.Proofs.Ytlbjobbmjccekaa

/- Contracts: strings.Builder's copyCheck, WriteString, String, at a builder that the call has made. -/
namespace Go.Proofs.Ytlbjobbmjccekaa
set_option maxRecDepth 100000
open Go.RowKit
set_option linter.unusedVariables false

theorem bld_size : (Try.prog.info? 70).map (fun i => i.size) = some 2 := by kernel_rfl
theorem bld_lies : liesAt Try.prog Try.prog.depth 70 (2 / Try.prog.cellsOf 70) 0 70 1 = true := by kernel_rfl
theorem byte_info : (Try.prog.info? 5).map (fun i => (i.zero, i.size, i.bytes)) = some (some (.int .u8 0), 1, 1) := by kernel_rfl

set_option maxHeartbeats 1000000 in
set_option maxRecDepth 100000 in
theorem check_used (b : Nat) (w : World) (h0 : w.cell? ⟨b, 0, none⟩ = some (.pointer (some ⟨b, 0, none⟩))) :
    Calls Try.prog 62 #[.pointer (some ⟨b, 0, none⟩)] w fun e w' => e = .returned (.tuple #[]) ∧ w' = w := by
  obtain ⟨j, hj, _⟩ := Option.map_eq_some_iff.1 bld_size
  go_enter Try.func62, Try.ntmps62
  go_wp2
  rw [Lib.run_neq_ptr_same w _ Try.underlying67 hj]
  go_wp2
  go_end0
  exact ⟨rfl, rfl⟩

set_option maxHeartbeats 1000000 in
set_option maxRecDepth 100000 in
theorem check_fresh (b : Nat) (w : World) (h0 : w.cell? ⟨b, 0, none⟩ = some (.pointer none)) (hsh : w.shape? b = some (70, 2)) (hfz : w.frozen? ⟨b, 0, none⟩ = false) :
    Calls Try.prog 62 #[.pointer (some ⟨b, 0, none⟩)] w fun e w' => e = .returned (.tuple #[]) ∧ w' = w.setCell ⟨b, 0, none⟩ (.pointer (some ⟨b, 0, none⟩)) := by
  obtain ⟨j, hj, hjs⟩ := Option.map_eq_some_iff.1 bld_size
  go_enter Try.func62, Try.ntmps62
  go_wp2
  rw [Lib.run_to_unsafe w ⟨b, 0, none⟩ Try.underlying67 Try.underlying121 hj (by rw [hjs]; decide) hsh (Nat.zero_lt_succ 1)]
  simp only [Result.andThen]
  rw [Oper.upon_value]
  go_wp2
  rw [run_callFunc_extern Try.func77 (by kernel_rfl) (by kernel_rfl) (by kernel_rfl) (e := Extern.AbiNoEscape.same) (by kernel_rfl)]
  rw [Lib.run_noEscape]
  simp only [Result.andThen]
  rw [Oper.upon_value]
  go_wp2
  rw [Lib.run_from_unsafe w ⟨b, 0, none⟩ Try.underlying121 Try.underlying67 hj hsh bld_lies]
  simp only [Result.andThen]
  rw [Oper.upon_value]
  go_wp2
  go_end0
  exact ⟨rfl, rfl⟩

abbrev BldAt (B b : Nat) (p : Value) (l : List UInt8) (w : World) : Prop := Lib.BuilderAt 70 5 B b p (Lib.byteCells l) w
/-- a builder in block b that holds these bytes. -/
def Bld (B b : Nat) (l : List UInt8) (w : World) : Prop := Lib.IsBuilder 70 5 B b (Lib.byteCells l) w

theorem check_any (B b : Nat) (l : List UInt8) (w : World) (h : Bld B b l w) :
    Calls Try.prog 62 #[.pointer (some ⟨b, 0, none⟩)] w fun e w' => e = .returned (.tuple #[]) ∧ BldAt B b (.pointer (some ⟨b, 0, none⟩)) l w' ∧ Below B w w' ∧ ∀ X, X ≠ b → w'.heap[X]? = w.heap[X]? := by
  rcases h with h | h
  · refine (check_fresh b w h.cell0 h.shape h.frozen0).mono ?_
    rintro e w' ⟨rfl, rfl⟩
    exact ⟨rfl, h.used _, (Below.refl B w).setCell (p := ⟨b, 0, none⟩) h.1 _, fun X hX => heap_setCell_other w ⟨b, 0, none⟩ X _ hX⟩
  · refine (check_used b w h.cell0).mono ?_
    rintro e w' ⟨rfl, rfl⟩
    exact ⟨rfl, h, Below.refl B _, fun _ _ => rfl⟩
/-- all rows but those of bytes, and the builder itself, are as they were. -/
def KeepB (b : Nat) (w w' : World) : Prop := ∀ X cs T fr, w.heap[X]? = some (.cells cs T fr) → T ≠ 5 → X ≠ b → w'.heap[X]? = some (.cells cs T fr)

theorem str_cells (s : ByteArray) : Lib.strCells s = Lib.byteCells s.data.toList := rfl
theorem byteCells_app (l m : List UInt8) : Lib.byteCells l ++ Lib.byteCells m = Lib.byteCells (l ++ m) := by simp [Lib.byteCells]
theorem byteCells_len (l : List UInt8) : (Lib.byteCells l).length = l.length := by simp [Lib.byteCells]

set_option maxHeartbeats 2000000 in
set_option maxRecDepth 100000 in
theorem write_any (B b : Nat) (l : List UInt8) (s : ByteArray) (w : World) (h : Bld B b l w) (hlen : l.length + s.size ≤ 140737488355328) (hBw : B ≤ w.heap.size) :
    Calls Try.prog 32 #[.pointer (some ⟨b, 0, none⟩), .string s] w fun e w' => e = .returned (.tuple #[.int .i64 s.size, .nilIface]) ∧ Bld B b (l ++ s.data.toList) w' ∧ Below B w w' ∧ KeepB b w w' := by
  obtain ⟨i0, hi, hz0, hz1, hz2⟩ := info_parts byte_info
  have hne : (70 : TypeId) ≠ 5 := by decide
  have hbl := byteCells_len l
  have HBL := Lib.hid hbl
  clear hbl
  go_enter Try.func32, Try.ntmps32
  go_wp2_with fail
  refine (check_any B b l _ h).mono ?_
  rintro e w1 ⟨rfl, ⟨hB, v, hbk, hown, hnv⟩, hb1, hk1⟩
  have HK1 := Lib.hid hk1
  clear hk1
  have c0 : w1.cell? ⟨b, 0, none⟩ = some (.pointer (some ⟨b, 0, none⟩)) := by rw [Lib.cell_of_heap hbk]; rfl
  have c1 : w1.cell? ⟨b, 1, none⟩ = some v := by rw [Lib.cell_of_heap hbk]; rfl
  go_wp2_with (at_builtin; refine Lib.wpList_append_own_string _ rfl _ _ 68 9 rfl B 5 i0 Try.underlying68 Try.underlying9 hi hz0 hz1 hz2 _ _ _ rfl hown s rfl ?c3 ?c4 ?c5 ?_)
  case c3 => unfold maxLen; have := HBL.out; omega
  case c4 => have := HBL.out; omega
  case c5 => have := hb1.size; omega
  intro v' w2 hown' hgrow _
  have hlt : b < w1.heap.size := by
    rcases Nat.lt_or_ge b w1.heap.size with h' | h'
    · exact h'
    · simp [Array.getElem?_eq_none h'] at hbk
  have hb2 : w2.heap[b]? = some (.cells #[.pointer (some ⟨b, 0, none⟩), v] 70 (0, 0)) := by
    rw [hgrow.block b hlt (fun e => hnv e.symm)]
    exact hbk
  have d0 : w2.cell? ⟨b, 0, none⟩ = some (.pointer (some ⟨b, 0, none⟩)) := by rw [Lib.cell_of_heap hb2]; rfl
  have d1 : w2.cell? ⟨b, 1, none⟩ = some v := by rw [Lib.cell_of_heap hb2]; rfl
  have f1 : w2.frozen? ⟨b, 1, none⟩ = false := Lib.frozen_of_heap hb2 1
  obtain ⟨ao, n', cap, rfl⟩ : ∃ ao n' cap, v' = .slice ao n' cap := by
    rcases hown'.2 with ⟨hv, _⟩ | ⟨g, cap, cur, hv, _⟩
    · exact ⟨_, _, _, hv⟩
    · exact ⟨_, _, _, hv⟩
  go_wp2
  go_ret2
  refine ⟨rfl, .inr ?_, ?_, fun X cs T fr hX hT hXb => ?_⟩
  · have := Lib.BuilderAt.put (T := 70) (e := 5) hB hb2 (bs' := Lib.byteCells l ++ Lib.strCells s) (by simpa [Lib.strCells_length] using hown') hne
    rw [str_cells, byteCells_app] at this
    exact this
  · exact (hb1.grown hgrow (by have := hb1.size; omega) (fun k hk => (hown.lt k hk).1)).setCell (p := ⟨b, 1, none⟩) hB _
  · rw [heap_setCell_other w2 ⟨b, 1, none⟩ X _ hXb]
    have hX1 : w1.heap[X]? = some (.cells cs T fr) := (HK1.out X hXb).trans hX
    have hlt1 : X < w1.heap.size := by
      rcases Nat.lt_or_ge X w1.heap.size with h' | h'
      · exact h'
      · rw [Array.getElem?_eq_none h'] at hX1; cases hX1
    rw [hgrow.block X hlt1 (fun e => Lib.ownBlock_ne hown hX1 hT e.symm)]
    exact hX1

theorem string_any (B b : Nat) (l : List UInt8) (w : World) (h : Bld B b l w) (hBw : B ≤ w.heap.size) :
    Calls Try.prog 36 #[.pointer (some ⟨b, 0, none⟩)] w fun e w' => e = .returned (.string ⟨l.toArray⟩) ∧ Below B w w' := Try.Builder_String_any B b l w h hBw
theorem owns_q {w w' : World} {base : Nat} {T : TypeId} {k : Nat} {v : Value} {n : Nat} {xs : List Value} (h : w.ownsRow base T k v n xs) (q : Q w w') : w'.ownsRow base T k v n xs := by
  refine ⟨h.1, ?_⟩
  rcases h.2 with ⟨e, h0⟩ | ⟨g, cap, cur, e, hg, hh, r⟩
  · exact .inl ⟨e, h0⟩
  · have hlt : g < w.heap.size := by
      rcases Nat.lt_or_ge g w.heap.size with hlt | hge
      · exact hlt
      · rw [Array.getElem?_eq_none hge] at hh; cases hh
    exact .inr ⟨g, cap, cur, e, hg, (q.below.block g hlt).trans hh, r⟩
theorem Bld.q {B b : Nat} {l : List UInt8} {w w' : World} (h : Bld B b l w) (q : Q w w') : Bld B b l w' := by
  have key : ∀ p, BldAt B b p l w → BldAt B b p l w' := by
    rintro p ⟨hB, v, hbk, hown, hnv⟩
    have hlt : b < w.heap.size := by
      rcases Nat.lt_or_ge b w.heap.size with h' | h'
      · exact h'
      · simp [Array.getElem?_eq_none h'] at hbk
    exact ⟨hB, v, (q.below.block b hlt).trans hbk, owns_q hown q, hnv⟩
  rcases h with h | h
  · exact .inl (key _ h)
  · exact .inr (key _ h)
theorem Bld.lt {B b : Nat} {l : List UInt8} {w : World} (h : Bld B b l w) : b < w.heap.size := by
  rcases h with h | h
  · exact h.lt
  · exact h.lt
theorem Bld.fresh (w : World) : Bld w.heap.size w.heap.size [] (w.alloc (.cells #[.pointer none, .slice none 0 0] 70)) := Lib.fresh_isBuilder _ _ w
end Go.Proofs.Ytlbjobbmjccekaa

/- The contracts of batch.deed and batch.Bytes; the example. -/
namespace Go.Proofs.Ytlbjobbmjccekaa
set_option maxRecDepth 100000
open Go.RowKit Prm
set_option linter.unusedVariables false
set_option linter.unusedSimpArgs false

theorem bdeed_any (x : Wr) (w : World) : Calls Try.prog 35 #[x.v] w fun e w' => e = .returned (.int .u64 (Bm.del x : Nat)) ∧ Q w w' := by
  obtain ⟨a, b, d⟩ := x
  cases d
  all_goals
    go_enter Try.func35, Try.ntmps35
    go_wp2
    go_ret
    exact ⟨rfl, (Q.refl _).alloc _⟩

theorem Bm.ptx_eq (s : ByteArray) : Dm.num s.size ++ s.data.toList = Rn.ptx s := by unfold Rn.ptx; rw [Rn.size_data]
theorem dt_app (a b : ByteArray) : (a ++ b).data.toList = a.data.toList ++ b.data.toList := by simp
theorem dt_size (a : ByteArray) {l : List UInt8} (h : a.data.toList = l) : a.size = l.length := by rw [← h]; rfl
theorem dt_mk (a : ByteArray) {l : List UInt8} (h : a.data.toList = l) : a = ⟨l.toArray⟩ := by rw [← h]
theorem heap_lt {w : World} {b : Nat} {o : Obj} (h : w.heap[b]? = some o) : b < w.heap.size := (Array.getElem?_eq_some_iff.1 h).1

set_option maxHeartbeats 4000000 in
theorem bbytes_any (k : Int) (tok : ByteArray) (A : Option Addr) (n c : Nat) (l : List Wr) (w : World) (hf : Lst writeK w A n l) (hn : n ≤ maxLen) :
    Calls Try.prog 12 #[batV k tok A n c] w fun e w' => e = .returned (.tuple #[.string ⟨(Bm.bytesM ⟨k, tok, l⟩).1.toArray⟩, .int .i64 (Bm.bytesM ⟨k, tok, l⟩).2]) ∧ Q w w' := by
  have KM := Lib.hid (fun W q => may_any k tok A n c l W (hf.q q) hn)
  have HF := Lib.hid hf
  have hlen := hf.len
  cases hm : Bm.may ⟨k, tok, l⟩ with
  | false =>
    rw [hm] at KM
    have HR := Lib.hid (show Bm.bytesM ⟨k, tok, l⟩ = ([], 1) by unfold Bm.bytesM; rw [hm]; rfl)
    clear hf hm hlen
    go_enter Try.func12, Try.ntmps12
    go_wp2_with fail
    refine (KM.out _ ((Q.refl _).alloc _)).mono ?_
    rintro e w1 ⟨rfl, q1⟩
    have Q1 := Lib.hid (((Q.refl w).alloc _).trans q1)
    clear q1
    go_wp2_with fail
    go_ret2
    exact ⟨by rw [HR.out]; rfl, Q1.out⟩
  | true =>
    rw [hm] at KM
    have HR := Lib.hid (show Bm.bytesM ⟨k, tok, l⟩ = (Bm.head ⟨k, tok, l⟩ ++ Bm.flat l, 0) by unfold Bm.bytesM; rw [hm]; rfl)
    have HOk := Lib.hid (Bm.may_ok hm).2
    have hk := Bm.may_kind hm
    have ht := Bm.may_tok hm
    have hn24 := Bm.may_len hm
    have hhl := Bm.head_len hm
    simp only at hk ht hn24
    rw [hlen] at hn24
    have HTot := Lib.hid (show ∀ j, j ≤ n → (Bm.head ⟨k, tok, l⟩ ++ Bm.flat (l.take j)).length ≤ 5000 from fun j hj => by
      have h1 := Bm.flat_len (l.take j) fun p hp => HOk.out p (List.mem_of_mem_take hp)
      rw [List.length_take, Nat.min_eq_left (by omega)] at h1
      rw [List.length_append]
      omega)
    have K1 := Lib.hid (fun W => num_any k W (by omega) (by omega))
    have K2 := Lib.hid (fun W => text_any tok W (by omega))
    have K3 := Lib.hid (fun W => num_any (n : Int) W (by omega) (by omega))
    have HH : Bm.head ⟨k, tok, l⟩ = Dm.num k.toNat ++ (Dm.num tok.size ++ tok.data.toList) ++ Dm.num ((n : Int)).toNat := by
      unfold Bm.head; simp only [Int.toNat_natCast]; rw [Bm.ptx_eq, hlen]
    obtain ⟨S1, hS1⟩ : ∃ S : ByteArray, S = ⟨(Dm.num k.toNat).toArray⟩ := ⟨_, rfl⟩
    obtain ⟨S2, hS2⟩ : ∃ S : ByteArray, S = ⟨(Dm.num tok.size ++ tok.data.toList).toArray⟩ := ⟨_, rfl⟩
    obtain ⟨S3, hS3⟩ : ∃ S : ByteArray, S = ⟨(Dm.num ((n : Int)).toNat).toArray⟩ := ⟨_, rfl⟩
    rw [← hS1] at K1
    rw [← hS2] at K2
    rw [← hS3] at K3
    have HHd := Lib.hid (show Bm.head ⟨k, tok, l⟩ = S1.data.toList ++ S2.data.toList ++ S3.data.toList by rw [HH, hS1, hS2, hS3])
    have HSz := Lib.hid (show S1.size + S2.size + S3.size ≤ 79 by
      have := HHd.out
      rw [this, List.length_append, List.length_append] at hhl
      simp at hhl ⊢; omega)
    have e1 : (0 : Int) ≤ k := by omega
    have e2 : k ≤ 2 := by omega
    have e3 : (n : Int) ≤ 24 := by omega
    have HL := Lib.hid hlen
    clear hf hm hlen HH hS1 hS2 hS3 hhl hk ht hn24
    go_enter Try.func12, Try.ntmps12
    go_wp2_with fail
    refine (KM.out _ ((Q.refl _).alloc _)).mono ?_
    rintro e w1 ⟨rfl, q1⟩
    have X1 := Lib.hid ((Bx.new w [.int .i64 k, .string tok, .slice A n c] 24).q q1)
    have Q1 := Lib.hid (((Q.refl w).alloc _).trans q1)
    have hs1 : w.heap.size < w1.heap.size := by have := q1.size; simp at this; omega
    have B1 := Lib.hid (Bld.fresh w1)
    obtain ⟨⟨x0, x1, x2⟩, _⟩ := X1.out.get3
    clear q1
    go_wp2_with fail
    refine (K1.out _).mono ?_
    rintro e w2 ⟨rfl, q2⟩
    have Q2 := Lib.hid q2
    clear q2
    go_wp2_with fail
    refine (write_any w1.heap.size w1.heap.size [] S1 _ (B1.out.q Q2.out) (by have := HSz.out; simp; omega) (by have := Q2.out.size; simp at this; omega)).mono ?_
    rintro e w3 ⟨rfl, b3, be3, _⟩
    have B3 := Lib.hid b3
    have Q3 := Lib.hid (show Below w1.heap.size w1 w3 from (((Q.refl w1).alloc _).trans Q2.out).below.trans be3)
    clear b3 be3 Q2 B1 x0 x1 x2
    obtain ⟨⟨x0, x1, x2⟩, _⟩ := (X1.out.below Q3.out hs1).get3
    go_wp2_with fail
    refine (K2.out _).mono ?_
    rintro e w4 ⟨rfl, q4⟩
    have Q4 := Lib.hid q4
    clear q4
    go_wp2_with fail
    refine (write_any w1.heap.size w1.heap.size ([] ++ S1.data.toList) S2 _ (B3.out.q Q4.out) (by have := HSz.out; simp; omega) (by have h1 := Q3.out.size; have := Q4.out.size; omega)).mono ?_
    rintro e w5 ⟨rfl, b5, be5, _⟩
    have B5 := Lib.hid b5
    have Q5 := Lib.hid (show Below w1.heap.size w1 w5 from (Q3.out.trans (Q4.out.below.mono Q3.out.size)).trans be5)
    clear b5 be5 Q4 B3 Q3 x0 x1 x2
    obtain ⟨⟨x0, x1, x2⟩, _⟩ := (X1.out.below Q5.out hs1).get3
    go_wp2_with fail
    refine (K3.out _).mono ?_
    rintro e w6 ⟨rfl, q6⟩
    have Q6 := Lib.hid q6
    clear q6
    go_wp2_with fail
    refine (write_any w1.heap.size w1.heap.size ([] ++ S1.data.toList ++ S2.data.toList) S3 _ (B5.out.q Q6.out) (by have := HSz.out; simp; omega) (by have h1 := Q5.out.size; have := Q6.out.size; omega)).mono ?_
    rintro e w7 ⟨rfl, b7, be7, _⟩
    have B7 := Lib.hid (show Bld w1.heap.size w1.heap.size (Bm.head ⟨k, tok, l⟩ ++ Bm.flat (l.take 0)) w7 by rw [HHd.out]; simpa [Bm.flat] using b7)
    have Q7 := Lib.hid (show Below w1.heap.size w1 w7 from (Q5.out.trans (Q6.out.below.mono Q5.out.size)).trans be7)
    clear b7 be7 Q6 B5 Q5 x0 x1 x2
    obtain ⟨⟨x0, x1, x2⟩, _⟩ := (X1.out.below Q7.out hs1).get3
    clear HHd
    generalize Bm.head ⟨k, tok, l⟩ = hd at B7 HTot HR
    go_wp2
    go_loopw [28] (fun i wr => ∃ j : Nat, j ≤ n ∧ i = .int .i64 j ∧ Bld w1.heap.size w1.heap.size (hd ++ Bm.flat (l.take j)) wr ∧ Below w1.heap.size w1 wr) (fun i _ => n - (intOf i).toNat)
    case atStart => exact ⟨0, Nat.zero_le _, rfl, B7.out, Q7.out⟩
    case round =>
      obtain ⟨j, hj, rfl, b4, be4⟩ := hrel
      have B4 := Lib.hid b4
      have Q4 := Lib.hid (show Q w1 wr from be4)
      clear b4 be4 B7 Q7 x0 x1 x2
      by_cases hlt : j < n
      · have hjl : j < l.length := by have := HL.out; omega
        have hok := HOk.out l[j] (List.getElem_mem hjl)
        have hwn := Bm.wrong_not hok
        have h1l := Bm.one_len l[j] hok
        have ht0 := HTot.out j (by omega)
        have HS := Lib.hid (Bm.flat_snoc l hjl)
        obtain ⟨ad, rfl, hab, y0, y1, y2⟩ := load_write (HF.out.q (Q1.out.trans Q4.out)) hlt hjl
        have hjn : (j : Int) < (n : Int) := by omega
        generalize l[j] = x at y0 y1 y2 hok hwn HS h1l
        generalize hacc : hd ++ Bm.flat (l.take j) = acc at B4 ht0
        have HAcc := Lib.hid hacc
        clear hacc
        have KD := Lib.hid (fun W => bdeed_any x W)
        have hd1 : Bm.del x ≤ 1 := by unfold Bm.del; split <;> omega
        have KT0 := Lib.hid (fun W => num_any (Bm.del x : Nat) W (by omega) (by omega))
        have KT1 := Lib.hid (fun W => text_any x.key W (by omega))
        have KT2 := Lib.hid (fun W => text_any x.val W (by omega))
        have ho : Bm.one x = Dm.num ((Bm.del x : Nat) : Int).toNat ++ (Dm.num x.key.size ++ x.key.data.toList) ++ (Dm.num x.val.size ++ x.val.data.toList) := by
          unfold Bm.one; simp only [Int.toNat_natCast]; rw [Bm.ptx_eq, Bm.ptx_eq]
        obtain ⟨T0, hT0⟩ : ∃ S : ByteArray, S = ⟨(Dm.num ((Bm.del x : Nat) : Int).toNat).toArray⟩ := ⟨_, rfl⟩
        obtain ⟨T1, hT1⟩ : ∃ S : ByteArray, S = ⟨(Dm.num x.key.size ++ x.key.data.toList).toArray⟩ := ⟨_, rfl⟩
        obtain ⟨T2, hT2⟩ : ∃ S : ByteArray, S = ⟨(Dm.num x.val.size ++ x.val.data.toList).toArray⟩ := ⟨_, rfl⟩
        rw [← hT0] at KT0
        rw [← hT1] at KT1
        rw [← hT2] at KT2
        have HO := Lib.hid (show Bm.one x = T0.data.toList ++ T1.data.toList ++ T2.data.toList by rw [ho, hT0, hT1, hT2])
        have HZ := Lib.hid (show T0.size + T1.size + T2.size ≤ 159 by
          have := HO.out
          rw [this, List.length_append, List.length_append] at h1l
          simp at h1l ⊢; omega)
        have HT0 := Lib.hid ht0
        generalize Bm.del x = dx at KD KT0 hd1
        have hd0 : (0 : Int) ≤ (dx : Int) := by omega
        have hd2 : (dx : Int) ≤ 1 := by omega
        clear hok hwn h1l ht0 ho hT0 hT1 hT2
        go_wp2_with fail
        refine (KD.out _).mono ?_
        rintro e w3 ⟨rfl, q3⟩
        have Q5 := Lib.hid (((Q.refl wr).alloc (.cells #[.string x.key, .string x.val, .bool x.del] 63)).trans q3)
        have Y1 := Lib.hid (show w3.heap[wr.heap.size]? = some (.cells #[.string x.key, .string x.val, .bool x.del] 63 (0, 0)) from (q3.below.block _ (by simp)).trans (heap_alloc_new wr _))
        clear q3
        go_wp2_with fail
        refine (KT0.out _).mono ?_
        rintro e w4 ⟨rfl, q4⟩
        have Y2 := Lib.hid (show w4.heap[wr.heap.size]? = some (.cells #[.string x.key, .string x.val, .bool x.del] 63 (0, 0)) from (q4.below.block _ (heap_lt Y1.out)).trans Y1.out)
        have Q6 := Lib.hid (Q5.out.trans q4)
        clear q4 Q5 Y1
        go_wp2_with fail
        refine (write_any w1.heap.size w1.heap.size acc T0 _ (B4.out.q Q6.out) (by have := HT0.out; have := HZ.out; omega) (by have := Q4.out.size; have := Q6.out.size; omega)).mono ?_
        rintro e w5 ⟨rfl, b5, be5, k5⟩
        have B5 := Lib.hid b5
        have Q7 := Lib.hid (show Q w1 w5 from (Q4.out.trans Q6.out).below.trans be5)
        have Y3 := Lib.hid (k5 _ _ _ _ Y2.out (by decide) (by have := Q4.out.size; have := B4.out.lt; omega))
        have z0 : w5.cell? ⟨wr.heap.size, 0, none⟩ = some (.string x.key) := by rw [Lib.cell_of_heap Y3.out]; rfl
        clear b5 be5 k5 Y2 Q6
        go_wp2_with fail
        refine (KT1.out _).mono ?_
        rintro e w6 ⟨rfl, q6⟩
        have Y4 := Lib.hid (show w6.heap[wr.heap.size]? = some (.cells #[.string x.key, .string x.val, .bool x.del] 63 (0, 0)) from (q6.below.block _ (heap_lt Y3.out)).trans Y3.out)
        have Q8 := Lib.hid q6
        clear q6 Y3 z0
        go_wp2_with fail
        refine (write_any w1.heap.size w1.heap.size (acc ++ T0.data.toList) T1 _ (B5.out.q Q8.out) (by rw [List.length_append, Rn.size_data]; have := HT0.out; have := HZ.out; omega) (by have := Q7.out.size; have := Q8.out.size; omega)).mono ?_
        rintro e w7 ⟨rfl, b7, be7, k7⟩
        have B7 := Lib.hid b7
        have Q9 := Lib.hid (show Q w1 w7 from (Q7.out.trans Q8.out).below.trans be7)
        have Y5 := Lib.hid (k7 _ _ _ _ Y4.out (by decide) (by have := Q4.out.size; have := B4.out.lt; omega))
        have z1 : w7.cell? ⟨wr.heap.size, 1, none⟩ = some (.string x.val) := by rw [Lib.cell_of_heap Y5.out]; rfl
        clear b7 be7 k7 Y4 Q8 B5 Q7
        go_wp2_with fail
        refine (KT2.out _).mono ?_
        rintro e w8 ⟨rfl, q8⟩
        have Q10 := Lib.hid q8
        clear q8 Y5 z1
        go_wp2_with fail
        refine (write_any w1.heap.size w1.heap.size (acc ++ T0.data.toList ++ T1.data.toList) T2 _ (B7.out.q Q10.out) (by rw [List.length_append, List.length_append, Rn.size_data, Rn.size_data]; have := HT0.out; have := HZ.out; omega) (by have := Q9.out.size; have := Q10.out.size; omega)).mono ?_
        rintro e w9 ⟨rfl, b9, be9, _⟩
        have B9 := Lib.hid b9
        have Q11 := Lib.hid (show Below w1.heap.size w1 w9 from (Q9.out.trans Q10.out).below.trans be9)
        clear b9 be9 Q10 B7 Q9
        go_wp2
        go_roundw
        case rel => exact ⟨j + 1, by omega, by go_num, by rw [HS.out, ← List.append_assoc, HAcc.out, HO.out]; simpa using B9.out, Q11.out⟩
        case measure => simp [intOf]; omega
      · have hjn : j = n := by omega
        have HB := Lib.hid (show hd ++ Bm.flat (l.take j) = hd ++ Bm.flat l by rw [hjn, List.take_of_length_le (by have := HL.out; omega)])
        rw [HB.out] at B4
        clear hjn
        go_wp2_with fail
        refine (string_any w1.heap.size w1.heap.size (hd ++ Bm.flat l) _ B4.out Q4.out.size).mono ?_
        rintro e w5 ⟨rfl, be5⟩
        have Q5 := Lib.hid (show Q w1 w5 from Q4.out.below.trans be5)
        clear be5
        go_wp2_with fail
        go_ret2
        exact ⟨by rw [HR.out]; rfl, Q1.out.trans Q5.out⟩
end Go.Proofs.Ytlbjobbmjccekaa

/- The example of chapter 7, at the head of each law. -/
namespace Go.Proofs.Ytlbjobbmjccekaa
set_option maxRecDepth 100000
open Go.RowKit Prm
set_option linter.unusedVariables false
set_option linter.unusedSimpArgs false

def exWr : Wr := ⟨⟨#[97]⟩, ⟨#[49]⟩, false⟩
theorem bex_may : Bm.may ⟨1, ⟨#[116]⟩, [exWr]⟩ = true := by decide
theorem bex_bytes : Bm.bytesM ⟨1, ⟨#[116]⟩, [exWr]⟩ = ([49, 59, 49, 59, 116, 49, 59, 48, 59, 49, 59, 97, 49, 59, 49], 0) := by
  have e1 : Dm.num 1 = [49, 59] := by unfold Dm.num; rw [show Dm.dg 1 = [49] by rw [Dm.dg]; rfl]; rfl
  have e0 : Dm.num 0 = [48, 59] := by unfold Dm.num; rw [show Dm.dg 0 = [48] by rw [Dm.dg]; rfl]; rfl
  unfold Bm.bytesM
  rw [bex_may]
  show (Dm.num 1 ++ (Dm.num 1 ++ [116]) ++ Dm.num 1 ++ (Dm.num 0 ++ (Dm.num 1 ++ [97]) ++ (Dm.num 1 ++ [49]) ++ []), (0 : Int)) = _
  rw [e1, e0]; rfl
theorem bbytes_ex (w : World) : Calls Try.prog 12 #[batV 1 ⟨#[116]⟩ (some ⟨w.heap.size, 0, none⟩) 1 1] (w.alloc (.cells #[.string ⟨#[97]⟩, .string ⟨#[49]⟩, .bool false] 63)) fun e w' => e = .returned (.tuple #[.string ⟨#[49, 59, 49, 59, 116, 49, 59, 48, 59, 49, 59, 97, 49, 59, 49]⟩, .int .i64 0]) ∧ Q (w.alloc (.cells #[.string ⟨#[97]⟩, .string ⟨#[49]⟩, .bool false] 63)) w' := by
  have h := bbytes_any 1 ⟨#[116]⟩ (some ⟨w.heap.size, 0, none⟩) 1 1 [exWr] _ (lit_write w exWr).lst (by unfold maxLen; omega)
  rw [bex_bytes] at h
  exact h

set_option maxHeartbeats 2000000 in
theorem bshown_any (w : World) : Calls Try.prog 11 #[] w fun e w' => e = .returned (.bool true) ∧ Q w w' := by
  go_enter Try.func11, Try.ntmps11
  go_wp2_with fail
  refine (bbytes_ex _).mono ?_
  rintro e w1 ⟨rfl, q1⟩
  have Q1 := Lib.hid (((Q.refl w).alloc _).trans q1)
  clear q1
  go_wp2
  go_ret
  exact ⟨by first | rfl | simp, Q1.out⟩
end Go.Proofs.Ytlbjobbmjccekaa

/- The contract of the document's May. -/
namespace Go.Proofs.Ytlbjobbmjccekaa
set_option maxRecDepth 100000
open Go.RowKit Prm
set_option linter.unusedVariables false
set_option linter.unusedSimpArgs false

namespace Bm
theorem keys_at {l : List Wr} {i : Nat} (h : i < (keys l).length) : (keys l)[i].key = (l[i]'(by simpa [keys] using h)).key := by simp [keys]
theorem keys_len (l : List Wr) : (keys l).length = l.length := by simp [keys]
theorem rise_all {l : List Wr} (h : ∀ i, ∀ h : i + 1 < l.length, lt (l[i]'(by omega)).key l[i + 1].key = true) : rise l = true :=
  right_all fun i hi => by rw [keys_at, keys_at]; exact h i (by rw [keys_len] at hi; exact hi)
theorem rise_no {l : List Wr} {i : Nat} (h : i + 1 < l.length) (hh : lt (l[i]'(by omega)).key l[i + 1].key = false) : rise l = false :=
  right_not (l := keys l) (i := i) (by rw [keys_len]; exact h) (by rw [keys_at, keys_at]; exact hh)
theorem may_rest {k : Int} {tok : ByteArray} {l : List Wr} (h : ¬(tok.size < 1 ∨ 16 < tok.size)) (hk : k = 1 ∨ k = 2) (hl : l.length ≤ 24) (h2 : k = 2 → l.length = 0) : may ⟨k, tok, l⟩ = (rise l && !l.any wrong) := by
  rcases hk with rfl | rfl
  · rw [may_1 h rfl]; simp only; rw [decide_eq_true hl]; simp
  · have := List.eq_nil_of_length_eq_zero (h2 rfl)
    subst this
    rw [may_2 h rfl]; rfl
theorem may_out {k : Int} {tok : ByteArray} {l : List Wr} (h : 24 < l.length) : may ⟨k, tok, l⟩ = false := by
  cases e : may ⟨k, tok, l⟩ with
  | false => rfl
  | true => have := may_len e; simp only at this; omega
theorem may_two {tok : ByteArray} {l : List Wr} (h : 0 < l.length) : may ⟨2, tok, l⟩ = false := by
  by_cases ht : tok.size < 1 ∨ 16 < tok.size
  · exact may_t1 ht
  · rw [may_2 ht rfl]; simp only; simp; intro e; rw [e] at h; simp at h
end Bm

set_option maxHeartbeats 4000000 in
theorem refMay_any (k : Int) (tok : ByteArray) (A : Option Addr) (n c : Nat) (l : List Wr) (w : World) (hf : Lst writeK w A n l) (hn : n ≤ maxLen) :
    Calls Try.prog 18 #[batV k tok A n c] w fun e w' => e = .returned (.bool (Bm.may ⟨k, tok, l⟩)) ∧ Q w w' := by
  have hl := hf.len
  unfold maxLen at hn
  by_cases h1 : k < 1
  · have HR := Lib.hid (Bm.may_3 (b := ⟨k, tok, l⟩) (by simp only; omega) (by simp only; omega))
    clear hf hl
    go_enter Try.func18, Try.ntmps18
    go_wp2
    go_ret
    exact ⟨ret_bool HR.out.symm, (Q.refl _).alloc _⟩
  by_cases h2 : (2 : Int) < k
  · have HR := Lib.hid (Bm.may_3 (b := ⟨k, tok, l⟩) (by simp only; omega) (by simp only; omega))
    clear hf hl
    go_enter Try.func18, Try.ntmps18
    go_wp2
    go_ret
    exact ⟨ret_bool HR.out.symm, (Q.refl _).alloc _⟩
  by_cases h3 : (tok.size : Int) < 1
  · have HR := Lib.hid (Bm.may_t1 (b := ⟨k, tok, l⟩) (.inl (by simp only; omega)))
    clear hf hl
    go_enter Try.func18, Try.ntmps18
    go_wp2
    go_ret
    exact ⟨ret_bool HR.out.symm, (Q.refl _).alloc _⟩
  by_cases h4 : (16 : Int) < (tok.size : Int)
  · have HR := Lib.hid (Bm.may_t1 (b := ⟨k, tok, l⟩) (.inr (by simp only; omega)))
    clear hf hl
    go_enter Try.func18, Try.ntmps18
    go_wp2
    go_ret
    exact ⟨ret_bool HR.out.symm, (Q.refl _).alloc _⟩
  by_cases h5 : (24 : Int) < (n : Int)
  · have HR := Lib.hid (Bm.may_out (k := k) (tok := tok) (l := l) (by omega))
    clear hf hl
    go_enter Try.func18, Try.ntmps18
    go_wp2
    go_ret
    exact ⟨ret_bool HR.out.symm, (Q.refl _).alloc _⟩
  have hz : (k == 2) = true ∧ ¬((0 : Int) < (n : Int)) ∨ (k == 2) = false ∨ (k = 2 ∧ (0 : Int) < (n : Int)) := by
    by_cases e : k = 2
    · by_cases e2 : (0 : Int) < (n : Int)
      · exact .inr (.inr ⟨e, e2⟩)
      · exact .inl ⟨by simpa using e, e2⟩
    · exact .inr (.inl (by simpa using e))
  have hk2 : k = 2 → (k == 2) = true := fun e => by simpa using e
  rcases hz with hz | hz | hz
  rotate_left 2
  · obtain ⟨rfl, h6⟩ := hz
    have HR := Lib.hid (Bm.may_two (tok := tok) (l := l) (by omega))
    clear hf hl hk2
    go_enter Try.func18, Try.ntmps18
    go_wp2
    go_ret
    exact ⟨ret_bool HR.out.symm, (Q.refl _).alloc _⟩
  · obtain ⟨hz, hz0⟩ := hz
    have e : n = 0 := by omega
    subst e
    have HM := Lib.hid (show Bm.may ⟨k, tok, l⟩ = true by
      have e := List.eq_nil_of_length_eq_zero hl
      subst e
      rw [Bm.may_rest (by omega) (by omega) (by simp) (fun _ => rfl)]; rfl)
    clear hf hl hk2 h5 hz0
    go_enter Try.func18, Try.ntmps18
    go_wp2
    have X0 := Lib.hid (Bx.new w [.int .i64 k, .string tok, .slice A 0 c] 24)
    go_loopw [3] (fun i wr => i = .int .i64 0 ∧ Q (w.alloc (.cells #[.int .i64 k, .string tok, .slice A 0 c] 24)) wr) (fun _ _ => 0)
    case atStart => exact ⟨rfl, Q.refl _⟩
    case round =>
      obtain ⟨rfl, q⟩ := hrel
      obtain ⟨x0, x1, x2⟩ := (X0.out.q q).get3.1
      have HQ0 := Lib.hid (((Q.refl w).alloc _).trans q)
      clear q
      go_wp2
      go_ret
      exact ⟨ret_bool HM.out.symm, HQ0.out⟩
  · have hM : Bm.may ⟨k, tok, l⟩ = (Bm.rise l && !l.any Bm.wrong) := Bm.may_rest (by omega) (by omega) (by omega) (fun e => by rw [hk2 e] at hz; cases hz)
    have HM := Lib.hid hM
    have HF := Lib.hid hf
    have HL := Lib.hid hl
    clear hM hf hl hk2

    go_enter Try.func18, Try.ntmps18
    go_wp2
    have X0 := Lib.hid (Bx.new w [.int .i64 k, .string tok, .slice A n c] 24)
    go_loopw [3] (fun i wr => ∃ j : Nat, j ≤ n ∧ i = .int .i64 j ∧ Q (w.alloc (.cells #[.int .i64 k, .string tok, .slice A n c] 24)) wr ∧ (∀ i, ∀ h : i < l.length, i < j → Bm.wrong l[i] = false) ∧ ∀ i, ∀ h : i + 1 < l.length, i + 1 < j → lt (l[i]'(by omega)).key l[i + 1].key = true) (fun i _ => n - (intOf i).toNat)
    case atStart => exact ⟨0, Nat.zero_le _, rfl, Q.refl _, fun _ _ h => by omega, fun _ _ h => by omega⟩
    case round =>
      obtain ⟨j, hj, rfl, q, hw, hr⟩ := hrel
      have HW := Lib.hid hw
      have HS := Lib.hid hr
      have HQ := Lib.hid q
      have HQ0 := Lib.hid (((Q.refl w).alloc _).trans q)
      have x0 := (X0.out.q q).get3.1
      obtain ⟨x0, x1, x2⟩ := x0
      have hsz : w.heap.size < wr.heap.size := by have := q.size; simp at this; omega
      clear hw hr q
      by_cases hlt : j < n
      · have hjl : j < l.length := by have := HL.out; omega
        have hjn : (j : Int) < (n : Int) := by omega
        obtain ⟨ad, hA, hab, y0, y1, y2⟩ := load_write (HF.out.q HQ0.out) hlt hjl
        have HX := Lib.hid (show ∃ x, x = l[j] from ⟨_, rfl⟩)
        have HNo := Lib.hid (fun (h : Bm.wrong l[j] = true) => show Bm.may ⟨k, tok, l⟩ = false from by rw [HM.out, List.any_eq_true.2 ⟨_, List.getElem_mem hjl, h⟩]; simp)
        have HW2 := Lib.hid (fun (h : Bm.wrong l[j] = false) (i : Nat) (hi : i < l.length) (hij : i < j + 1) => show Bm.wrong l[i] = false from by
          by_cases e : i < j
          · exact HW.out i hi e
          · have e : i = j := by omega
            subst e
            exact h)
        have HS2 := Lib.hid (fun (h : ∀ h0 : 0 < j, lt (l[j - 1]'(by omega)).key l[j].key = true) (i : Nat) (hi : i + 1 < l.length) (hij : i + 1 < j + 1) => show lt (l[i]'(by omega)).key l[i + 1].key = true from by
          by_cases e : i + 1 < j
          · exact HS.out i hi e
          · have e : j = i + 1 := by omega
            subst e
            exact h (by omega))
        have HNo2 := Lib.hid (fun (h0 : 0 < j) (h : lt (l[j - 1]'(by omega)).key l[j].key = false) => show Bm.may ⟨k, tok, l⟩ = false from by
          obtain ⟨m, rfl⟩ : ∃ m, j = m + 1 := ⟨j - 1, by omega⟩
          rw [HM.out, Bm.rise_no hjl h]; simp)
        have KL := Lib.hid (fun (h0 : 0 < j) W (ha : (l[j - 1]'(by omega)).key.size ≤ 32) (hb : l[j].key.size ≤ 32) => less_any (l[j - 1]'(by omega)).key l[j].key W (by unfold maxLen; omega) (by unfold maxLen; omega))
        have HPr := Lib.hid (fun (h0 : 0 < j) => show (l[j - 1]'(by omega)).key.size ≤ 32 from (Bm.wrong_not (HW.out (j - 1) (by omega) (by omega))).2.1)
        have YP := Lib.hid (fun (h0 : 0 < j) => load_write (k := j - 1) (HF.out.q HQ0.out) (by omega) (by omega))
        subst hA
        clear HX
        by_cases h0 : 0 < j
        · obtain ⟨ad', e, hab', z0, z1, z2⟩ := YP.out h0
          injection e with e
          subst e
          have HNo2 := Lib.hid (HNo2.out h0)
          have KL := Lib.hid (KL.out h0)
          have HPr := Lib.hid (HPr.out h0)
          have HS2 := Lib.hid (fun (h : lt (l[j - 1]'(by omega)).key l[j].key = true) => HS2.out (fun _ => h))
          generalize hp : (l[j - 1]'(by omega)).key = p at z0 HNo2 KL HPr HS2
          generalize hx : l[j] = x at y0 y1 y2 HNo HW2 HNo2 KL HS2
          clear hp hx z1 z2 YP
          have h0' : (0 : Int) < (j : Int) := by omega
          obtain ⟨m, hm⟩ : ∃ m, j - 1 = m := ⟨_, rfl⟩
          rw [hm] at z0
          have e0 : IntKind.i64.wrap ((j : Int) - 1) = (m : Int) := by rw [IntKind.wrap_i64]; omega
          have e3 : (m : Int) < (n : Int) := by omega
          have hab2 : (ad.add (m * 3)).block < wr.heap.size := by rw [addr_block]; exact hab
          have z9 := fun (o : Obj) => box_ ((Q.refl wr).alloc o) z0
          clear hm
          obtain ⟨a, b, d⟩ := x
          dsimp only at *
          by_cases c1 : (a.size : Int) < 1
          · have HE := Lib.hid (HNo.out (Bm.wrong_t (.inl (by simp only; omega))))
            go_wp2
            go_ret
            exact ⟨ret_bool HE.out.symm, HQ0.out.alloc _⟩
          by_cases c2 : (32 : Int) < (a.size : Int)
          · have HE := Lib.hid (HNo.out (Bm.wrong_t (.inr (.inl (by simp only; omega)))))
            go_wp2
            go_ret
            exact ⟨ret_bool HE.out.symm, HQ0.out.alloc _⟩
          by_cases c3 : (64 : Int) < (b.size : Int)
          · have HE := Lib.hid (HNo.out (Bm.wrong_t (.inr (.inr (by simp only; split <;> omega)))))
            go_wp2
            go_ret
            exact ⟨ret_bool HE.out.symm, HQ0.out.alloc _⟩
          cases d
          · skip
            have HOk := Lib.hid (HW2.out (Bm.wrong_f (by simp only [Bool.false_eq_true, if_false]; omega)))
            have HA := Lib.hid (KL.out)
            have KL2 := Lib.hid (fun W => KL.out W HPr.out (by omega))
            by_cases hh : lt p a = true
            · have HS3 := Lib.hid (HS2.out hh)
              rw [hh] at KL2
              clear hh
              go_wp2
              go_quiet ((go_at_call 47; exact Calls.quiet_of (KL2.out _)))
              all_goals
                go_wp2
                go_roundw
                case rel => exact ⟨j + 1, by omega, by go_num, (HQ.out.alloc _).drewN _, HOk.out, HS3.out⟩
                case measure => simp [intOf]; omega
            · have hh' : lt p a = false := by simpa using hh
              have HE := Lib.hid (HNo2.out hh')
              rw [hh'] at KL2
              clear hh hh'
              go_wp2
              go_quiet ((go_at_call 47; exact Calls.quiet_of (KL2.out _)))
              all_goals
                go_wp2
                go_ret
                exact ⟨ret_bool HE.out.symm, (HQ0.out.alloc _).drewN _⟩
          · by_cases c4 : b = ⟨#[]⟩
            · subst c4
              have HOk := Lib.hid (HW2.out (Bm.wrong_f (by simp only [if_true]; have : (⟨#[]⟩ : ByteArray).size = 0 := rfl; omega)))
              have HA := Lib.hid (KL.out)
              have KL2 := Lib.hid (fun W => KL.out W HPr.out (by omega))
              by_cases hh : lt p a = true
              · have HS3 := Lib.hid (HS2.out hh)
                rw [hh] at KL2
                clear hh
                go_wp2
                go_quiet ((go_at_call 47; exact Calls.quiet_of (KL2.out _)))
                all_goals
                  go_wp2
                  go_roundw
                  case rel => exact ⟨j + 1, by omega, by go_num, (HQ.out.alloc _).drewN _, HOk.out, HS3.out⟩
                  case measure => simp [intOf]; omega
              · have hh' : lt p a = false := by simpa using hh
                have HE := Lib.hid (HNo2.out hh')
                rw [hh'] at KL2
                clear hh hh'
                go_wp2
                go_quiet ((go_at_call 47; exact Calls.quiet_of (KL2.out _)))
                all_goals
                  go_wp2
                  go_ret
                  exact ⟨ret_bool HE.out.symm, (HQ0.out.alloc _).drewN _⟩
            · obtain ⟨c5, c6, c7⟩ := empty_no c4
              have HE := Lib.hid (HNo.out (Bm.wrong_t (.inr (.inr (by simp only [if_true]; have : b.size ≠ 0 := fun e => c4 (show b = ByteArray.empty by simpa using e); omega)))))
              clear c4
              go_wp2
              go_ret
              exact ⟨ret_bool HE.out.symm, HQ0.out.alloc _⟩
        · have e0 : ¬((0 : Int) < (j : Int)) := by omega
          have HS2 := Lib.hid (HS2.out (fun h => absurd h (by omega)))
          generalize hx : l[j] = x at y0 y1 y2 HNo HW2
          clear hx YP HPr KL HNo2
          obtain ⟨a, b, d⟩ := x
          dsimp only at *
          by_cases c1 : (a.size : Int) < 1
          · have HE := Lib.hid (HNo.out (Bm.wrong_t (.inl (by simp only; omega))))
            go_wp2
            go_ret
            exact ⟨ret_bool HE.out.symm, HQ0.out.alloc _⟩
          by_cases c2 : (32 : Int) < (a.size : Int)
          · have HE := Lib.hid (HNo.out (Bm.wrong_t (.inr (.inl (by simp only; omega)))))
            go_wp2
            go_ret
            exact ⟨ret_bool HE.out.symm, HQ0.out.alloc _⟩
          by_cases c3 : (64 : Int) < (b.size : Int)
          · have HE := Lib.hid (HNo.out (Bm.wrong_t (.inr (.inr (by simp only; split <;> omega)))))
            go_wp2
            go_ret
            exact ⟨ret_bool HE.out.symm, HQ0.out.alloc _⟩
          cases d
          · skip
            have HOk := Lib.hid (HW2.out (Bm.wrong_f (by simp only [Bool.false_eq_true, if_false]; omega)))
            go_wp2
            go_roundw
            case rel => exact ⟨j + 1, by omega, by go_num, HQ.out.alloc _, HOk.out, HS2.out⟩
            case measure => simp [intOf]; omega
          · by_cases c4 : b = ⟨#[]⟩
            · subst c4
              have HOk := Lib.hid (HW2.out (Bm.wrong_f (by simp only [if_true]; have : (⟨#[]⟩ : ByteArray).size = 0 := rfl; omega)))
              go_wp2
              go_roundw
              case rel => exact ⟨j + 1, by omega, by go_num, HQ.out.alloc _, HOk.out, HS2.out⟩
              case measure => simp [intOf]; omega
            · obtain ⟨c5, c6, c7⟩ := empty_no c4
              have HE := Lib.hid (HNo.out (Bm.wrong_t (.inr (.inr (by simp only [if_true]; have : b.size ≠ 0 := fun e => c4 (show b = ByteArray.empty by simpa using e); omega)))))
              clear c4
              go_wp2
              go_ret
              exact ⟨ret_bool HE.out.symm, HQ0.out.alloc _⟩
      · have hjn : ¬((j : Int) < (n : Int)) := by omega
        have HE := Lib.hid (show Bm.may ⟨k, tok, l⟩ = true by
          rw [HM.out, Bm.rise_all (fun i hi => HS.out i hi (by have := HL.out; omega))]
          have : l.any Bm.wrong = false := by
            rw [List.any_eq_false]; intro a ha
            obtain ⟨i, hi, rfl⟩ := List.getElem_of_mem ha
            rw [HW.out i hi (by have := HL.out; omega)]; simp
          rw [this]; rfl)
        go_wp2
        go_ret
        exact ⟨ret_bool HE.out.symm, HQ0.out⟩
end Go.Proofs.Ytlbjobbmjccekaa

/- The contract of the document's Bytes of a batch. -/
namespace Go.Proofs.Ytlbjobbmjccekaa
set_option maxRecDepth 100000
open Go.RowKit Prm
set_option linter.unusedVariables false
set_option linter.unusedSimpArgs false

theorem Bm.num1 : Dm.num 1 = [49, 59] := by unfold Dm.num; rw [show Dm.dg 1 = [49] by rw [Dm.dg]; rfl]; rfl
theorem Bm.num0 : Dm.num 0 = [48, 59] := by unfold Dm.num; rw [show Dm.dg 0 = [48] by rw [Dm.dg]; rfl]; rfl

set_option maxHeartbeats 4000000 in
theorem refBytesB_any (k : Int) (tok : ByteArray) (A : Option Addr) (n c : Nat) (l : List Wr) (w : World) (hf : Lst writeK w A n l) (hn : n ≤ maxLen) :
    Calls Try.prog 13 #[batV k tok A n c] w fun e w' => e = .returned (.tuple #[.string ⟨(Bm.bytesM ⟨k, tok, l⟩).1.toArray⟩, .int .i64 (Bm.bytesM ⟨k, tok, l⟩).2]) ∧ Q w w' := by
  have KM := Lib.hid (fun W q => refMay_any k tok A n c l W (hf.q q) hn)
  have HF := Lib.hid hf
  have hlen := hf.len
  cases hm : Bm.may ⟨k, tok, l⟩ with
  | false =>
    rw [hm] at KM
    have HR := Lib.hid (show Bm.bytesM ⟨k, tok, l⟩ = ([], 1) by unfold Bm.bytesM; rw [hm]; rfl)
    clear hf hm hlen
    go_enter Try.func13, Try.ntmps13
    go_wp2_with fail
    refine (KM.out _ ((Q.refl _).alloc _)).mono ?_
    rintro e w1 ⟨rfl, q1⟩
    have Q1 := Lib.hid (((Q.refl w).alloc _).trans q1)
    clear q1
    go_wp2_with fail
    go_ret2
    exact ⟨by rw [HR.out]; rfl, Q1.out⟩
  | true =>
    rw [hm] at KM
    have HR := Lib.hid (show Bm.bytesM ⟨k, tok, l⟩ = (Bm.head ⟨k, tok, l⟩ ++ Bm.flat l, 0) by unfold Bm.bytesM; rw [hm]; rfl)
    have HOk := Lib.hid (Bm.may_ok hm).2
    have hk := Bm.may_kind hm
    have ht := Bm.may_tok hm
    have hn24 := Bm.may_len hm
    have hhl := Bm.head_len hm
    simp only at hk ht hn24
    rw [hlen] at hn24
    have HTot := Lib.hid (show ∀ j, j ≤ n → (Bm.head ⟨k, tok, l⟩ ++ Bm.flat (l.take j)).length ≤ 5000 from fun j hj => by
      have h1 := Bm.flat_len (l.take j) fun p hp => HOk.out p (List.mem_of_mem_take hp)
      rw [List.length_take, Nat.min_eq_left (by omega)] at h1
      rw [List.length_append]
      omega)
    have K1 := Lib.hid (fun W => refNum_any k W (by omega) (by omega))
    have K2 := Lib.hid (fun W => refText_any tok W (by omega))
    have K3 := Lib.hid (fun W => refNum_any (n : Int) W (by omega) (by omega))
    have HH : Bm.head ⟨k, tok, l⟩ = Dm.num k.toNat ++ (Dm.num tok.size ++ tok.data.toList) ++ Dm.num ((n : Int)).toNat := by
      unfold Bm.head; simp only [Int.toNat_natCast]; rw [Bm.ptx_eq, hlen]
    obtain ⟨S1, hS1⟩ : ∃ S : ByteArray, S = ⟨(Dm.num k.toNat).toArray⟩ := ⟨_, rfl⟩
    obtain ⟨S2, hS2⟩ : ∃ S : ByteArray, S = ⟨(Dm.num tok.size ++ tok.data.toList).toArray⟩ := ⟨_, rfl⟩
    obtain ⟨S3, hS3⟩ : ∃ S : ByteArray, S = ⟨(Dm.num ((n : Int)).toNat).toArray⟩ := ⟨_, rfl⟩
    rw [← hS1] at K1
    rw [← hS2] at K2
    rw [← hS3] at K3
    have HHd := Lib.hid (show Bm.head ⟨k, tok, l⟩ = S1.data.toList ++ S2.data.toList ++ S3.data.toList by rw [HH, hS1, hS2, hS3])
    have hsz : S1.size + S2.size + S3.size ≤ 79 := by
      have := HHd.out
      rw [this, List.length_append, List.length_append] at hhl
      simp at hhl ⊢; omega
    have e1 : (0 : Int) ≤ k := by omega
    have e2 : k ≤ 2 := by omega
    have e3 : (n : Int) ≤ 24 := by omega
    have HL := Lib.hid hlen
    clear hf hm hlen HH hS1 hS2 hS3 hhl hk ht hn24
    go_enter Try.func13, Try.ntmps13
    go_wp2_with fail
    refine (KM.out _ ((Q.refl _).alloc _)).mono ?_
    rintro e w1 ⟨rfl, q1⟩
    have X1 := Lib.hid ((Bx.new w [.int .i64 k, .string tok, .slice A n c] 24).q q1)
    have Q1 := Lib.hid (((Q.refl w).alloc _).trans q1)
    have hs1 : w.heap.size < w1.heap.size := by have := q1.size; simp at this; omega
    obtain ⟨⟨x0, x1, x2⟩, _⟩ := X1.out.get3
    clear q1
    have c1 : ¬(9223372036854775807 < S1.size + S2.size) := by omega
    have c2 : ¬(9223372036854775807 < S1.size + S2.size + S3.size) := by omega
    have u1 : IntKind.u64.wrap k = k := by rw [IntKind.wrap_u64]; omega
    have u3 : IntKind.u64.wrap (n : Int) = (n : Int) := by rw [IntKind.wrap_u64]; omega
    go_wp2
    go_region_held3 (fun w' => w'.cell? ⟨w.heap.size, 0, none⟩ = some (.int .i64 k) ∧ w'.cell? ⟨w.heap.size, 1, none⟩ = some (.string tok) ∧ w'.cell? ⟨w.heap.size, 2, none⟩ = some (.slice A n c))
      (first
        | go_keep
        | (go_split_ands
           (repeat' apply And.intro) <;> exact box_ ‹Q _ _› (by assumption)))
      (first
        | (go_at_call 37
           (with_reducible refine (K1.out _).mono ?_)
           rintro e w2 ⟨rfl, y1⟩)
        | (go_at_call 38
           (with_reducible refine (K2.out _).mono ?_)
           rintro e w3 ⟨rfl, y2⟩)
        | (go_at_call 37
           (with_reducible refine (K3.out _).mono ?_)
           rintro e w4 ⟨rfl, y3⟩))
    have Y := Lib.hid (((((Q.refl w1).drew.trans y1).trans y2).trans y3))
    clear y1 y2 y3 x0 x1 x2 u1 u3
    have hS12 : (S1 ++ S2 ++ S3).data.toList = Bm.head ⟨k, tok, l⟩ ++ Bm.flat (l.take 0) := by rw [dt_app, dt_app, HHd.out]; simp [Bm.flat]
    have HS0 := Lib.hid hS12
    clear hS12 HHd
    generalize Bm.head ⟨k, tok, l⟩ = hd at HS0 HTot HR
    go_wp2
    go_loopw [5, 6] (fun s i wr => ∃ (j : Nat) (acc : ByteArray), j ≤ n ∧ i = .int .i64 j ∧ s = .string acc ∧ acc.data.toList = hd ++ Bm.flat (l.take j) ∧ Q w1 wr) (fun _ i _ => n - (intOf i).toNat)
    case atStart => exact ⟨0, _, Nat.zero_le _, rfl, rfl, HS0.out, Y.out⟩
    case round =>
      obtain ⟨j, acc, hj, rfl, rfl, hacc, q4⟩ := hrel
      have Q4 := Lib.hid q4
      obtain ⟨⟨x0, x1, x2⟩, _⟩ := (X1.out.q q4).get3
      have ht0 := HTot.out j hj
      rw [← dt_size acc hacc] at ht0
      have HAcc := Lib.hid hacc
      clear hacc q4 HS0 Y
      by_cases hlt : j < n
      · have hjl : j < l.length := by have := HL.out; omega
        have hok := HOk.out l[j] (List.getElem_mem hjl)
        have hwn := Bm.wrong_not hok
        have h1l := Bm.one_len l[j] hok
        have HS := Lib.hid (show hd ++ Bm.flat (l.take (j + 1)) = hd ++ Bm.flat (l.take j) ++ Bm.one l[j] by rw [Bm.flat_snoc l hjl, List.append_assoc])
        obtain ⟨ad, rfl, hab, z0, z1, z2⟩ := load_write (HF.out.q (Q1.out.trans Q4.out)) hlt hjl
        have hjn : (j : Int) < (n : Int) := by omega
        generalize l[j] = x at z0 z1 z2 hok hwn HS h1l
        obtain ⟨a, b, d⟩ := x
        simp only at z0 z1 z2 hwn
        have KT1 := Lib.hid (fun W => refText_any a W (by omega))
        have KT2 := Lib.hid (fun W => refText_any b W (by omega))
        have hl1 := Bm.ptx_len a (by omega)
        have hl2 := Bm.ptx_len b (by omega)
        obtain ⟨T1, hT1⟩ : ∃ S : ByteArray, S = ⟨(Dm.num a.size ++ a.data.toList).toArray⟩ := ⟨_, rfl⟩
        obtain ⟨T2, hT2⟩ : ∃ S : ByteArray, S = ⟨(Dm.num b.size ++ b.data.toList).toArray⟩ := ⟨_, rfl⟩
        rw [← hT1] at KT1
        rw [← hT2] at KT2
        have hz1 : T1.size ≤ 60 := by rw [dt_size T1 (l := Rn.ptx a) (by rw [hT1, Bm.ptx_eq])]; omega
        have hz2 : T2.size ≤ 90 := by rw [dt_size T2 (l := Rn.ptx b) (by rw [hT2, Bm.ptx_eq])]; omega
        clear hok hwn h1l hl1 hl2
        cases d
        · have HO := Lib.hid (show (⟨#[48, 59]⟩ : ByteArray).data.toList ++ T1.data.toList ++ T2.data.toList = Bm.one ⟨a, b, false⟩ by
            unfold Bm.one Bm.del; rw [hT1, hT2]; simp only [Bool.false_eq_true, if_false, if_true]; rw [Bm.num0, ← Bm.ptx_eq, ← Bm.ptx_eq])
          clear hT1 hT2
          have hlit : (⟨#[48, 59]⟩ : ByteArray).size = 2 := rfl
          have c3 : ¬(9223372036854775807 < acc.size + 2) := by omega
          have c4 : ¬(9223372036854775807 < acc.size + 2 + T1.size) := by omega
          have c5 : ¬(9223372036854775807 < acc.size + 2 + T1.size + T2.size) := by omega
          go_wp2
          go_region_held3 (fun w' => w'.cell? ⟨w.heap.size, 2, none⟩ = some (.slice (some ad) n c) ∧ w'.cell? (ad.add (j * 3)) = some (.string a) ∧ w'.cell? ⟨(ad.add (j * 3)).block, (ad.add (j * 3)).off + 1, none⟩ = some (.string b))
            (first
              | go_keep
              | (go_split_ands
                 (repeat' apply And.intro) <;> exact box_ ‹Q _ _› (by assumption)))
            (first
              | (go_at_call 38
                 (with_reducible refine (KT1.out _).mono ?_)
                 rintro e w5 ⟨rfl, y3⟩)
              | (go_at_call 38
                 (with_reducible refine (KT2.out _).mono ?_)
                 rintro e w6 ⟨rfl, y4⟩))
          have Q6 := Lib.hid (((Q4.out.drew.trans y3).trans y4))
          clear y3 y4
          go_wp2
          go_roundw
          case rel => exact ⟨j + 1, _, by omega, by go_num, rfl, by rw [dt_app, dt_app, dt_app, HAcc.out, HS.out, ← HO.out]; simp, Q6.out⟩
          case measure => simp [intOf]; omega
        · have HO := Lib.hid (show (⟨#[49, 59]⟩ : ByteArray).data.toList ++ T1.data.toList ++ T2.data.toList = Bm.one ⟨a, b, true⟩ by
            unfold Bm.one Bm.del; rw [hT1, hT2]; simp only [Bool.false_eq_true, if_false, if_true]; rw [Bm.num1, ← Bm.ptx_eq, ← Bm.ptx_eq])
          clear hT1 hT2
          have hlit : (⟨#[49, 59]⟩ : ByteArray).size = 2 := rfl
          have c3 : ¬(9223372036854775807 < acc.size + 2) := by omega
          have c4 : ¬(9223372036854775807 < acc.size + 2 + T1.size) := by omega
          have c5 : ¬(9223372036854775807 < acc.size + 2 + T1.size + T2.size) := by omega
          go_wp2
          go_region_held3 (fun w' => w'.cell? ⟨w.heap.size, 2, none⟩ = some (.slice (some ad) n c) ∧ w'.cell? (ad.add (j * 3)) = some (.string a) ∧ w'.cell? ⟨(ad.add (j * 3)).block, (ad.add (j * 3)).off + 1, none⟩ = some (.string b))
            (first
              | go_keep
              | (go_split_ands
                 (repeat' apply And.intro) <;> exact box_ ‹Q _ _› (by assumption)))
            (first
              | (go_at_call 38
                 (with_reducible refine (KT1.out _).mono ?_)
                 rintro e w5 ⟨rfl, y3⟩)
              | (go_at_call 38
                 (with_reducible refine (KT2.out _).mono ?_)
                 rintro e w6 ⟨rfl, y4⟩))
          have Q6 := Lib.hid (((Q4.out.drew.trans y3).trans y4))
          clear y3 y4
          go_wp2
          go_roundw
          case rel => exact ⟨j + 1, _, by omega, by go_num, rfl, by rw [dt_app, dt_app, dt_app, HAcc.out, HS.out, ← HO.out]; simp, Q6.out⟩
          case measure => simp [intOf]; omega
      · have hjn : j = n := by omega
        have HB := Lib.hid (show hd ++ Bm.flat (l.take j) = hd ++ Bm.flat l by rw [hjn, List.take_of_length_le (by have := HL.out; omega)])
        have HE := Lib.hid (show acc = ⟨(hd ++ Bm.flat l).toArray⟩ from dt_mk acc (HAcc.out.trans HB.out))
        have hjn2 : ¬((j : Int) < (n : Int)) := by omega
        clear hjn
        go_wp2
        go_ret2
        exact ⟨by rw [HR.out, HE.out]; rfl, Q1.out.trans Q4.out⟩
end Go.Proofs.Ytlbjobbmjccekaa
