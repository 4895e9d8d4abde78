/- What a transaction has written over what there is: plain mathematics, as the document tells it. -/
import Derived.Test.YtcclgepccahhbaaTableMath
import Derived.Test.YtcclgepccahhbaaSpanMath
namespace Go.Proofs.Ytcclgepccahhbaa.Vm
set_option maxRecDepth 100000
open Prm
set_option linter.unusedVariables false
set_option linter.unusedSimpArgs false

def hasW (k : ByteArray) (w : Wr) : Bool := decide (w.key = k)
def insW (x : Wr) : List Wr → List Wr
  | [] => [x]
  | q :: l => if lt x.key q.key then x :: q :: l else q :: insW x l
def setW (x : Wr) : List Wr → List Wr
  | [] => []
  | q :: l => if hasW x.key q then x :: l else q :: setW x l
def has (k : ByteArray) (l : List Wr) : Bool := l.any (hasW k)
def putW (l : List Wr) (x : Wr) : List Wr := if has x.key l then setW x l else insW x l
def told (w : Wr) : ByteArray × Bool := if w.del then (⟨#[]⟩, false) else (w.val, true)
def get : List Wr → List Pr → ByteArray → ByteArray × Bool
  | [], base, key => find key base
  | w :: l, base, key => if hasW key w then told w else get l base key
def rises (l : List Wr) : Prop := l.Pairwise fun a b => lt a.key b.key = true
def size : List Wr → Nat
  | [] => 0
  | w :: l => w.key.size + w.val.size + size l

theorem hasW_same (x : Wr) : hasW x.key x = true := by simp [hasW]
theorem hasW_other {x : Wr} {o : ByteArray} (h : x.key ≠ o) : hasW o x = false := by simp [hasW, h]
theorem hasW_key {k : ByteArray} {q : Wr} (h : hasW k q = true) : q.key = k := by simpa [hasW] using h
theorem has_cons (k : ByteArray) (q : Wr) (l : List Wr) : has k (q :: l) = (hasW k q || has k l) := rfl

/-! ### What was set is got -/
theorem get_ins_other {o : ByteArray} {x : Wr} (h : x.key ≠ o) (base : List Pr) : ∀ l, get (insW x l) base o = get l base o
  | [] => by simp [insW, get, hasW_other h]
  | q :: l => by
    simp only [insW]
    split
    · simp only [get, hasW_other h]; simp
    · simp only [get, get_ins_other h base l]
theorem get_set_other {o : ByteArray} {x : Wr} (h : x.key ≠ o) (base : List Pr) : ∀ l, get (setW x l) base o = get l base o
  | [] => rfl
  | q :: l => by
    simp only [setW]
    by_cases hq : hasW x.key q = true
    · rw [if_pos hq]
      simp only [get, hasW_other h, hasW_other (x := q) (o := o) (by rw [hasW_key hq]; exact h)]
      simp
    · rw [if_neg hq]
      simp only [get, get_set_other h base l]
theorem get_put_other {o : ByteArray} {x : Wr} (h : x.key ≠ o) (base : List Pr) (l : List Wr) : get (putW l x) base o = get l base o := by
  unfold putW; split
  · exact get_set_other h base l
  · exact get_ins_other h base l
theorem get_ins_same (x : Wr) (base : List Pr) : ∀ l, has x.key l = false → get (insW x l) base x.key = told x
  | [], _ => by simp [insW, get, hasW_same]
  | q :: l, h => by
    rw [has_cons, Bool.or_eq_false_iff] at h
    simp only [insW]
    split
    · simp [get, hasW_same]
    · simp only [get, h.1, get_ins_same x base l h.2]; simp
theorem get_set_same (x : Wr) (base : List Pr) : ∀ l, has x.key l = true → get (setW x l) base x.key = told x
  | [], h => by simp [has] at h
  | q :: l, h => by
    rw [has_cons] at h
    simp only [setW]
    by_cases hq : hasW x.key q = true
    · rw [if_pos hq]; simp [get, hasW_same]
    · have hq : hasW x.key q = false := by simpa using hq
      rw [hq, Bool.false_or] at h
      rw [if_neg (by rw [hq]; decide)]
      simp only [get, hq, get_set_same x base l h]; simp
theorem get_put_same (x : Wr) (base : List Pr) (l : List Wr) : get (putW l x) base x.key = told x := by
  unfold putW
  cases h : has x.key l with
  | true => exact get_set_same x base l h
  | false => exact get_ins_same x base l h

/-! ### Two sets of a key -/
theorem has_set {x : Wr} : ∀ l, has x.key l = true → has x.key (setW x l) = true
  | [], h => by simp [has] at h
  | q :: l, h => by
    rw [has_cons] at h
    simp only [setW]
    by_cases hq : hasW x.key q = true
    · rw [if_pos hq, has_cons, hasW_same]; rfl
    · have hq : hasW x.key q = false := by simpa using hq
      rw [hq, Bool.false_or] at h
      rw [if_neg (by rw [hq]; decide), has_cons, has_set l h, Bool.or_true]
theorem has_ins {x : Wr} : ∀ l, has x.key (insW x l) = true
  | [] => by simp [insW, has, hasW_same]
  | q :: l => by
    simp only [insW]
    split
    · rw [has_cons, hasW_same]; rfl
    · rw [has_cons, has_ins l, Bool.or_true]
theorem has_put (x : Wr) (l : List Wr) : has x.key (putW l x) = true := by
  unfold putW
  cases h : has x.key l with
  | true => exact has_set l h
  | false => exact has_ins l
theorem set_set {a b : Wr} (hk : a.key = b.key) : ∀ l, setW b (setW a l) = setW b l
  | [] => rfl
  | q :: l => by
    simp only [setW]
    by_cases hq : hasW a.key q = true
    · have hb : hasW b.key q = true := by rw [← hk]; exact hq
      rw [if_pos hq, if_pos hb]
      simp only [setW]
      rw [if_pos (by rw [← hk]; exact hasW_same a)]
    · have hb : ¬ hasW b.key q = true := by rw [← hk]; exact hq
      rw [if_neg hq, if_neg hb]
      simp only [setW]
      rw [if_neg hb, set_set hk l]
theorem set_ins {a b : Wr} (hk : a.key = b.key) : ∀ l, has a.key l = false → setW b (insW a l) = insW b l
  | [], _ => by simp [insW, setW, ← hk, hasW_same]
  | q :: l, h => by
    rw [has_cons, Bool.or_eq_false_iff] at h
    simp only [insW, ← hk]
    split
    · simp only [setW]; rw [if_pos (by rw [← hk]; exact hasW_same a)]
    · simp only [setW]
      rw [if_neg (by rw [← hk, h.1]; decide), set_ins hk l h.2]
theorem put_put {a b : Wr} (hk : a.key = b.key) (l : List Wr) : putW (putW l a) b = putW l b := by
  have h1 := has_put a l
  unfold putW at h1 ⊢
  rw [← hk]
  rw [if_pos h1]
  cases h : has a.key l with
  | true => simp only [if_true]; exact set_set hk l
  | false => simp only [Bool.false_eq_true, if_false]; exact set_ins hk l h

/-! ### Keys that rise -/
theorem ins_wlen (x : Wr) : ∀ l, (insW x l).length = l.length + 1
  | [] => rfl
  | q :: l => by simp only [insW]; split <;> simp [ins_wlen x l]
theorem set_wlen (x : Wr) : ∀ l, (setW x l).length = l.length
  | [] => rfl
  | q :: l => by simp only [setW]; split <;> simp [set_wlen x l]
theorem put_wlen (l : List Wr) (x : Wr) : (putW l x).length = l.length ∨ (putW l x).length = l.length + 1 := by
  unfold putW; split
  · exact .inl (set_wlen x l)
  · exact .inr (ins_wlen x l)
theorem ins_size (x : Wr) : ∀ l, size (insW x l) = size l + (x.key.size + x.val.size)
  | [] => by simp [insW, size]
  | q :: l => by
    simp only [insW]; split
    · simp only [size]; omega
    · simp only [size, ins_size x l]; omega
theorem set_size (x : Wr) : ∀ l, size (setW x l) ≤ size l + (x.key.size + x.val.size)
  | [] => by simp [setW, size]
  | q :: l => by
    have := set_size x l
    simp only [setW]; split
    · simp only [size]; omega
    · simp only [size]; omega
theorem put_size (l : List Wr) (x : Wr) : size (putW l x) ≤ size l + (x.key.size + x.val.size) := by
  unfold putW; split
  · exact set_size x l
  · exact Nat.le_of_eq (ins_size x l)
theorem mem_insW {x a : Wr} : ∀ {l : List Wr}, a ∈ insW x l → a = x ∨ a ∈ l
  | [], h => by simp [insW] at h; exact .inl h
  | q :: l, h => by
    simp only [insW] at h
    split at h
    · rcases List.mem_cons.1 h with e | h
      · exact .inl e
      · exact .inr h
    · rcases List.mem_cons.1 h with e | h
      · exact .inr (by simp [e])
      · rcases mem_insW h with e | h
        · exact .inl e
        · exact .inr (by simp [h])
theorem mem_setW {x a : Wr} : ∀ {l : List Wr}, a ∈ setW x l → a.key = x.key ∨ a ∈ l
  | [], h => by simp [setW] at h
  | q :: l, h => by
    simp only [setW] at h
    split at h
    · rcases List.mem_cons.1 h with e | h
      · exact .inl (by rw [e])
      · exact .inr (by simp [h])
    · rcases List.mem_cons.1 h with e | h
      · exact .inr (by simp [e])
      · rcases mem_setW h with e | h
        · exact .inl e
        · exact .inr (by simp [h])
theorem has_no {k : ByteArray} {l : List Wr} (h : has k l = false) : ∀ a ∈ l, a.key ≠ k := by
  intro a ha e
  have := List.any_eq_false.1 h a ha
  simp [hasW, e] at this
theorem rises_ins {x : Wr} : ∀ {l : List Wr}, rises l → has x.key l = false → rises (insW x l)
  | [], _, _ => by simp [insW, rises]
  | q :: l, h, hn => by
    have h2 := List.pairwise_cons.1 h
    simp only [insW]
    split
    · rename_i hl
      refine List.pairwise_cons.2 ⟨fun a ha => ?_, h⟩
      rcases List.mem_cons.1 ha with e | ha
      · rw [e]; exact hl
      · exact lt_trans hl (h2.1 a ha)
    · rename_i hl
      have hq : lt q.key x.key = true := lt_tri (fun e => has_no hn q (by simp) e.symm) (by simpa using hl)
      rw [has_cons, Bool.or_eq_false_iff] at hn
      refine List.pairwise_cons.2 ⟨fun a ha => ?_, rises_ins h2.2 hn.2⟩
      rcases mem_insW ha with e | ha
      · rw [e]; exact hq
      · exact h2.1 a ha
theorem rises_set {x : Wr} : ∀ {l : List Wr}, rises l → rises (setW x l)
  | [], h => h
  | q :: l, h => by
    have h2 := List.pairwise_cons.1 h
    simp only [setW]
    split
    · rename_i hq
      refine List.pairwise_cons.2 ⟨fun a ha => ?_, h2.2⟩
      rw [← hasW_key hq]; exact h2.1 a ha
    · have hk : ∀ {l : List Wr}, (∀ a ∈ l, lt q.key a.key = true) → ∀ a ∈ setW x l, lt q.key a.key = true := by
        intro l
        induction l with
        | nil => intro _ a ha; simp [setW] at ha
        | cons p l ih =>
          intro hp a ha
          simp only [setW] at ha
          split at ha
          · rename_i hx
            rcases List.mem_cons.1 ha with e | ha
            · rw [e, ← hasW_key hx]; exact hp p (by simp)
            · exact hp a (by simp [ha])
          · rcases List.mem_cons.1 ha with e | ha
            · rw [e]; exact hp p (by simp)
            · exact ih (fun b hb => hp b (by simp [hb])) a ha
      exact List.pairwise_cons.2 ⟨hk h2.1, rises_set h2.2⟩
theorem rises_put {x : Wr} {l : List Wr} (h : rises l) : rises (putW l x) := by
  unfold putW
  cases hh : has x.key l with
  | true => exact rises_set h
  | false => exact rises_ins h hh

/-! ### Scanned just if got -/
theorem fold_none (key : ByteArray) : ∀ (l : List Wr) (r : ByteArray × Bool), has key l = false → l.foldl (lastW key) r = r
  | [], _, _ => rfl
  | q :: l, r, h => by
    rw [has_cons, Bool.or_eq_false_iff] at h
    rw [List.foldl_cons, fold_none key l _ h.2]
    unfold lastW
    have h1 := h.1
    unfold hasW at h1
    rw [if_neg (by simpa using h1)]
theorem get_last {key : ByteArray} (base : List Pr) : ∀ {l : List Wr}, rises l → l.foldl (lastW key) (find key base) = get l base key
  | [], _ => rfl
  | q :: l, h => by
    have h2 := List.pairwise_cons.1 h
    rw [List.foldl_cons]
    unfold get
    by_cases hq : hasW key q = true
    · rw [if_pos hq]
      have hno : has key l = false := by
        unfold has
        rw [List.any_eq_false]
        intro a ha
        have := lt_ne (h2.1 a ha)
        rw [hasW_key hq] at this
        simp [hasW, this.symm]
      rw [fold_none key l _ hno]
      unfold lastW told
      rw [if_pos (hasW_key hq)]
      cases q.del <;> rfl
    · rw [if_neg hq]
      have hne : q.key ≠ key := by simpa [hasW] using hq
      unfold lastW
      rw [if_neg hne]
      exact get_last base h2.2
theorem find_get {key : ByteArray} {base : List Pr} {l : List Wr} (h : rises l) : find key (apply base l) = get l base key := by
  rw [find_apply]; exact get_last base h
theorem btw_key (key k : ByteArray) : btw key (key ++ ⟨#[0]⟩) k = decide (k = key) := by
  have he : decide (key ++ (⟨#[0]⟩ : ByteArray) = ⟨#[]⟩) = false := by
    rw [decide_eq_false_iff_not]
    intro e
    have := congrArg ByteArray.size e
    rw [ByteArray.size_append] at this
    have h0 : (⟨#[0]⟩ : ByteArray).size = 1 := rfl
    have h1 : (⟨#[]⟩ : ByteArray).size = 0 := rfl
    omega
  unfold btw
  rw [he, Bool.false_or, Sm.lt_behind]
  by_cases h : k = key
  · subst h; simp [lt_irrefl]
  · cases h1 : lt k key with
    | true => simp [h]
    | false => rw [lt_tri h h1]; simp [h]
theorem filter_key {key : ByteArray} : ∀ {l : List Pr}, Sorted l → l.filter (fun p => decide (p.key = key)) = if (find key l).2 then [⟨key, (find key l).1⟩] else []
  | [], _ => rfl
  | p :: l, h => by
    have h2 := List.pairwise_cons.1 h
    rw [find_cons]
    by_cases hp : p.key = key
    · have hk : hasK key p = true := by simpa [hasK] using hp
      rw [List.filter_cons_of_pos (by simpa using hp), if_pos hk]
      have : l.filter (fun p => decide (p.key = key)) = [] := by
        rw [List.filter_eq_nil_iff]
        intro a ha
        have := lt_ne (h2.1 a ha)
        rw [hp] at this
        simp [this.symm]
      rw [this]
      simp only [if_true]
      rw [← hp]
    · have hk : ¬ hasK key p = true := by simpa [hasK] using hp
      rw [List.filter_cons_of_neg (by simpa using hp), if_neg hk]
      exact filter_key h2.2
/-- where keys rise, a key is scanned just if it is got, with that value. -/
theorem scan_get {key : ByteArray} {base : List Pr} {l : List Wr} (h : rises l) (hb : right base = true) {most : Int} (hm : 1 ≤ most) :
    range (apply base l) key (key ++ ⟨#[0]⟩) most = if (get l base key).2 then [⟨key, (get l base key).1⟩] else [] := by
  have hs := (right_iff _).1 (right_apply l hb)
  unfold range
  rw [show (fun p : Pr => btw key (key ++ ⟨#[0]⟩) p.key) = fun p => decide (p.key = key) from funext fun p => btw_key key p.key]
  rw [filter_key hs, find_get h]
  split
  · rw [List.take_of_length_le (by simp; omega)]
  · simp

/-! ### By the places of what is looked for -/
def aboveW (k : ByteArray) (w : Wr) : Bool := lt k w.key
theorem has_at {l : List Wr} {k : ByteArray} {i : Nat} (hi : i < l.length) (h : hasW k l[i] = true) : has k l = true := List.any_eq_true.2 ⟨l[i], List.getElem_mem hi, h⟩
theorem putW_has {l : List Wr} {p : Wr} {i : Nat} (hi : i < l.length) (h : hasW p.key l[i] = true) (hf : ∀ j, ∀ hj : j < l.length, j < i → hasW p.key l[j] = false) : putW l p = l.set i p := by
  unfold putW
  rw [has_at hi h]
  simp only [if_true]
  induction l generalizing i with
  | nil => simp at hi
  | cons q l ih =>
    cases i with
    | zero => simp only [List.getElem_cons_zero] at h; simp [setW, h]
    | succ i =>
      have h0 := hf 0 (by simp) (by omega)
      simp only [List.getElem_cons_zero] at h0
      simp only [setW, h0, List.set_cons_succ]
      rw [← ih (i := i) (by simpa using hi) (by simpa using h) fun j hj hji => hf (j + 1) (by simpa using hj) (by omega)]
      simp
theorem putW_new {l : List Wr} {p : Wr} (h : ∀ a ∈ l, hasW p.key a = false) : putW l p = insW p l := by
  unfold putW
  rw [if_neg (by unfold has; rw [List.any_eq_true]; rintro ⟨a, ha, hx⟩; rw [h a ha] at hx; cases hx)]
theorem insW_at {l : List Wr} {p : Wr} {i : Nat} (hi : i ≤ l.length) (h : ∀ hi : i < l.length, aboveW p.key l[i] = true) (hf : ∀ j, ∀ hj : j < l.length, j < i → aboveW p.key l[j] = false) : insW p l = l.take i ++ p :: l.drop i := by
  induction l generalizing i with
  | nil => have : i = 0 := by simpa using hi
           subst this; rfl
  | cons q l ih =>
    cases i with
    | zero =>
      have h1 := h (by simp)
      simp only [List.getElem_cons_zero, aboveW] at h1
      simp [insW, h1]
    | succ i =>
      have h0 := hf 0 (by simp) (by omega)
      simp only [List.getElem_cons_zero, aboveW] at h0
      simp only [insW, h0, List.take_succ_cons, List.drop_succ_cons, List.cons_append]
      rw [← ih (i := i) (by simpa using hi) (fun hi' => h (by simpa using hi')) fun j hj hji => hf (j + 1) (by simpa using hj) (by omega)]
      simp
theorem get_at {l : List Wr} (base : List Pr) {k : ByteArray} {i : Nat} (hi : i < l.length) (h : hasW k l[i] = true) (hf : ∀ j, ∀ hj : j < l.length, j < i → hasW k l[j] = false) : get l base k = told l[i] := by
  induction l generalizing i with
  | nil => simp at hi
  | cons q l ih =>
    cases i with
    | zero => simp only [List.getElem_cons_zero] at h; simp [get, h]
    | succ i =>
      have h0 := hf 0 (by simp) (by omega)
      simp only [List.getElem_cons_zero] at h0
      simp only [get, h0]
      exact ih (i := i) (by simpa using hi) (by simpa using h) fun j hj hji => hf (j + 1) (by simpa using hj) (by omega)
theorem get_none {l : List Wr} (base : List Pr) {k : ByteArray} (h : ∀ a ∈ l, hasW k a = false) : get l base k = find k base := by
  induction l with
  | nil => rfl
  | cons q l ih =>
    simp only [get, h q (by simp)]
    exact ih fun a ha => h a (by simp [ha])
/-- from one to the next. -/
theorem rises_iff : ∀ l : List Wr, rises l ↔ ∀ i, ∀ h : i + 1 < l.length, lt l[i].key l[i + 1].key = true
  | [] => by simp [rises]
  | [a] => by simp [rises]
  | a :: b :: l => by
    have ih := rises_iff (b :: l)
    constructor
    · intro h i hi
      exact List.pairwise_iff_getElem.1 h i (i + 1) (by omega) hi (by omega)
    · intro h
      have hb : rises (b :: l) := ih.2 fun i hi => h (i + 1) (by simpa using hi)
      have hab : lt a.key b.key = true := h 0 (by simp)
      refine List.pairwise_cons.2 ⟨fun c hc => ?_, hb⟩
      rcases List.mem_cons.1 hc with e | hc
      · rw [e]; exact hab
      · exact lt_trans hab ((List.pairwise_cons.1 hb).1 c hc)
end Go.Proofs.Ytcclgepccahhbaa.Vm
