/- Pairs: what the laws say of them, plain mathematics. -/
import Derived.Test.YthcdcjidoacalaaPairMath
namespace Go.Proofs.Ythcdcjidoacalaa.Prm
set_option maxRecDepth 100000
set_option linter.unusedVariables false

theorem hasK_same (p : Pr) : hasK p.key p = true := by simp [hasK]
theorem hasK_other {p : Pr} {o : ByteArray} (h : p.key ≠ o) : hasK o p = false := by simp [hasK, h]
theorem find_cons (o : ByteArray) (p : Pr) (l : List Pr) : find o (p :: l) = if hasK o p then (p.val, true) else find o l := rfl

theorem find_ins_other {o : ByteArray} {p : Pr} (h : p.key ≠ o) : ∀ (l : List Pr), find o (ins p l) = find o l
  | [] => by simp [ins, find_cons, hasK_other h]
  | q :: l => by
    simp only [ins]
    split
    · rw [find_cons, hasK_other h]; rfl
    · rw [find_cons, find_cons, find_ins_other h l]
theorem find_setF_other {o : ByteArray} {p : Pr} (h : p.key ≠ o) : ∀ (l : List Pr), find o (setF p l) = find o l
  | [] => rfl
  | q :: l => by
    simp only [setF]
    by_cases hq : hasK p.key q = true
    · rw [if_pos hq, find_cons, find_cons, hasK_other h, hasK_other (p := q) (by simp [hasK] at hq; rw [hq]; exact h)]
      simp
    · rw [if_neg hq, find_cons, find_cons, find_setF_other h l]
theorem find_put_other {o : ByteArray} {p : Pr} (h : p.key ≠ o) (l : List Pr) : find o (put l p) = find o l := by
  unfold put; split
  · exact find_setF_other h l
  · exact find_ins_other h l
theorem find_drop_other {o k : ByteArray} (h : k ≠ o) : ∀ (l : List Pr), find o (drop l k) = find o l
  | [] => rfl
  | q :: l => by
    have ih := find_drop_other h l
    unfold drop at ih ⊢
    rw [List.filter_cons]
    by_cases hq : hasK k q = true
    · rw [hq, find_cons, hasK_other (p := q) (by simp [hasK] at hq; rw [hq]; exact h)]
      simpa using ih
    · have hq' : hasK k q = false := by simpa using hq
      rw [hq']
      simp only [Bool.not_false, if_true]
      rw [find_cons, find_cons, ih]
theorem find_ins_same {p : Pr} : ∀ (l : List Pr), (∀ a ∈ l, hasK p.key a = false) → find p.key (ins p l) = (p.val, true)
  | [], _ => by simp [ins, find_cons, hasK_same]
  | q :: l, h => by
    simp only [ins]
    split
    · rw [find_cons, hasK_same]; rfl
    · rw [find_cons, h q (by simp), find_ins_same l fun a ha => h a (by simp [ha])]; rfl
theorem find_some_or {k : ByteArray} : ∀ (l : List Pr), (find k l).2 = false → ∀ a ∈ l, hasK k a = false
  | [], _, a, ha => by simp at ha
  | q :: l, h, a, ha => by
    rw [find_cons] at h
    by_cases hq : hasK k q = true
    · rw [if_pos hq] at h; cases h
    · rw [if_neg hq] at h
      rcases List.mem_cons.1 ha with rfl | ha
      · simpa using hq
      · exact find_some_or l h a ha
theorem find_setF_same {p : Pr} : ∀ (l : List Pr), (find p.key l).2 = true → find p.key (setF p l) = (p.val, true)
  | [], h => by cases h
  | q :: l, h => by
    simp only [setF]
    by_cases hq : hasK p.key q = true
    · rw [if_pos hq, find_cons, hasK_same]; rfl
    · rw [if_neg hq, find_cons, if_neg hq]
      rw [find_cons, if_neg hq] at h
      exact find_setF_same l h
theorem find_put_same (l : List Pr) (p : Pr) : find p.key (put l p) = (p.val, true) := by
  unfold put
  cases h : (find p.key l).2 with
  | true => exact find_setF_same l h
  | false => exact find_ins_same l (find_some_or l h)
theorem find_drop_same (l : List Pr) (k : ByteArray) : find k (drop l k) = (⟨#[]⟩, false) := find_none fun a ha => by
  have := (List.mem_filter.1 ha).2
  simpa using this

/-- what the last write of a key says. -/
def lastW (key : ByteArray) (r : ByteArray × Bool) (w : Wr) : ByteArray × Bool := if w.key = key then (if w.del then ⟨#[]⟩ else w.val, !w.del) else r
theorem find_act (key : ByteArray) (l : List Pr) (w : Wr) : find key (act l w) = lastW key (find key l) w := by
  unfold act lastW
  by_cases h : w.key = key
  · subst h
    cases hd : w.del with
    | true => simp only [if_true]; rw [find_drop_same]; rfl
    | false =>
      have := find_put_same l ⟨w.key, w.val⟩
      simpa using this
  · rw [if_neg h]
    split
    · exact find_drop_other h l
    · exact find_put_other (p := ⟨w.key, w.val⟩) h l
theorem find_apply (key : ByteArray) (ws : List Wr) : ∀ (l : List Pr), find key (apply l ws) = ws.foldl (lastW key) (find key l) := by
  induction ws with
  | nil => intro l; rfl
  | cons w ws ih => intro l; show find key (apply (act l w) ws) = _; rw [ih, find_act]; rfl

/-- two puts of one key. -/
theorem hasK_key {k : ByteArray} {q : Pr} (h : hasK k q = true) : q.key = k := by simpa [hasK] using h
theorem setF_setF {p p' : Pr} (hk : p.key = p'.key) : ∀ (l : List Pr), setF p' (setF p l) = setF p' l
  | [] => rfl
  | q :: l => by
    simp only [setF]
    by_cases hq : hasK p.key q = true
    · rw [if_pos hq, if_pos (by rw [← hk]; exact hq)]
      simp only [setF]
      rw [if_pos (by rw [← hk]; exact hasK_same p)]
    · rw [if_neg hq, if_neg (by rw [← hk]; exact hq)]
      simp only [setF]
      rw [if_neg (by rw [← hk]; exact hq), setF_setF hk l]
theorem setF_ins {p p' : Pr} (hk : p.key = p'.key) : ∀ (l : List Pr), (∀ a ∈ l, hasK p.key a = false) → setF p' (ins p l) = ins p' l
  | [], _ => by simp only [ins, setF]; rw [if_pos (by rw [← hk]; exact hasK_same p)]
  | q :: l, h => by
    simp only [ins, ← hk]
    by_cases hq : lt p.key q.key = true
    · rw [if_pos hq, if_pos hq]; simp only [setF]; rw [if_pos (by rw [← hk]; exact hasK_same p)]
    · rw [if_neg hq, if_neg hq]
      simp only [setF]
      rw [if_neg (by rw [← hk, h q (by simp)]; simp), setF_ins hk l fun a ha => h a (by simp [ha])]
theorem put_put (l : List Pr) {p p' : Pr} (hk : p.key = p'.key) : put (put l p) p' = put l p' := by
  have h2 : (find p'.key (put l p)).2 = true := by rw [← hk, find_put_same]
  rw [put, if_pos h2]
  unfold put
  cases h : (find p.key l).2 with
  | true => rw [if_pos rfl, if_pos (by rw [← hk]; exact h), setF_setF hk]
  | false => rw [if_neg (by simp), if_neg (by rw [← hk, h]; simp), setF_ins hk l (find_some_or l h)]
theorem put_there {l : List Pr} {k v : ByteArray} (h : find k l = (v, true)) : put l ⟨k, v⟩ = l := by
  have hs : ∀ (l : List Pr), find k l = (v, true) → setF ⟨k, v⟩ l = l := by
    intro l
    induction l with
    | nil => intro h; cases h
    | cons q l ih =>
      intro h
      simp only [setF]
      rw [find_cons] at h
      by_cases hq : hasK k q = true
      · rw [if_pos hq] at h ⊢
        injection h with h _
        subst h
        rw [show (⟨k, q.val⟩ : Pr) = q by rw [← hasK_key hq]]
      · rw [if_neg hq] at h ⊢
        rw [ih h]
  rw [put, if_pos (by rw [h])]
  exact hs l h

/-- right rows. -/
def Sorted (l : List Pr) : Prop := l.Pairwise fun a b => lt a.key b.key = true
theorem right_iff : ∀ (l : List Pr), right l = true ↔ Sorted l
  | [] => by simp [right, Sorted]
  | [p] => by simp [right, Sorted]
  | p :: q :: l => by
    have ih := right_iff (q :: l)
    rw [show right (p :: q :: l) = (lt p.key q.key && right (q :: l)) from rfl, Bool.and_eq_true, ih]
    unfold Sorted
    rw [List.pairwise_cons (a := p)]
    constructor
    · rintro ⟨h1, h2⟩
      refine ⟨fun b hb => ?_, h2⟩
      rcases List.mem_cons.1 hb with rfl | hb
      · exact h1
      · exact lt_trans h1 ((List.pairwise_cons.1 h2).1 b hb)
    · rintro ⟨h1, h2⟩
      exact ⟨h1 q (by simp), h2⟩
theorem sorted_filter {l : List Pr} (f : Pr → Bool) (h : Sorted l) : Sorted (l.filter f) := h.filter f
theorem right_filter {l : List Pr} (f : Pr → Bool) (h : right l = true) : right (l.filter f) = true := (right_iff _).2 (sorted_filter f ((right_iff _).1 h))
theorem right_drop {l : List Pr} (k : ByteArray) (h : right l = true) : right (drop l k) = true := right_filter _ h
theorem right_range {l : List Pr} (lo hi : ByteArray) (most : Int) (h : right l = true) : right (range l lo hi most) = true :=
  (right_iff _).2 (List.Pairwise.sublist (List.take_sublist _ _) (sorted_filter _ ((right_iff _).1 h)))
theorem mem_ins {p a : Pr} : ∀ {l : List Pr}, a ∈ ins p l → a = p ∨ a ∈ l
  | [], h => by simp [ins] at h; exact .inl h
  | q :: l, h => by
    simp only [ins] at h
    split at h
    · rcases List.mem_cons.1 h with rfl | h
      · exact .inl rfl
      · exact .inr h
    · rcases List.mem_cons.1 h with rfl | h
      · exact .inr (by simp)
      · rcases mem_ins h with rfl | h
        · exact .inl rfl
        · exact .inr (by simp [h])
theorem sorted_ins {p : Pr} : ∀ {l : List Pr}, Sorted l → (∀ a ∈ l, hasK p.key a = false) → Sorted (ins p l)
  | [], _, _ => by simp [ins, Sorted]
  | q :: l, h, hn => by
    obtain ⟨h1, h2⟩ := List.pairwise_cons.1 h
    simp only [ins]
    by_cases hq : lt p.key q.key = true
    · rw [if_pos hq]
      refine List.pairwise_cons.2 ⟨fun b hb => ?_, h⟩
      rcases List.mem_cons.1 hb with rfl | hb
      · exact hq
      · exact lt_trans hq (h1 b hb)
    · rw [if_neg hq]
      have hqp : lt q.key p.key = true := lt_tri (fun e => by have := hn q (by simp); simp [hasK, ← e] at this) (by simpa using hq)
      refine List.pairwise_cons.2 ⟨fun b hb => ?_, sorted_ins h2 fun a ha => hn a (by simp [ha])⟩
      rcases mem_ins hb with rfl | hb
      · exact hqp
      · exact h1 b hb
theorem keys_setF (p : Pr) : ∀ (l : List Pr), (setF p l).map (·.key) = l.map (·.key)
  | [] => rfl
  | q :: l => by
    simp only [setF]
    by_cases hq : hasK p.key q = true
    · rw [if_pos hq]; simp [hasK_key hq]
    · rw [if_neg hq]; simp [keys_setF p l]
theorem sorted_keys (l : List Pr) : Sorted l ↔ (l.map (·.key)).Pairwise fun a b => lt a b = true := by unfold Sorted; rw [List.pairwise_map]
theorem right_put {l : List Pr} (p : Pr) (h : right l = true) : right (put l p) = true := by
  have hs := (right_iff l).1 h
  refine (right_iff _).2 ?_
  unfold put
  cases hf : (find p.key l).2 with
  | true => rw [if_pos rfl, sorted_keys, keys_setF, ← sorted_keys]; exact hs
  | false => rw [if_neg (by simp)]; exact sorted_ins hs (find_some_or l hf)
theorem right_act {l : List Pr} (w : Wr) (h : right l = true) : right (act l w) = true := by
  unfold act; split
  · exact right_drop _ h
  · exact right_put _ h
theorem right_apply (ws : List Wr) : ∀ {l : List Pr}, right l = true → right (apply l ws) = true := by
  induction ws with
  | nil => intro l h; exact h
  | cons w ws ih => intro l h; exact ih (l := act l w) (right_act w h)

/-- ranges. -/
theorem range_len (l : List Pr) (lo hi : ByteArray) : range l lo hi (l.length : Int) = l.filter fun p => btw lo hi p.key := by
  unfold range
  exact List.take_of_length_le (by have := List.length_filter_le (fun p => btw lo hi p.key) l; omega)
theorem parts_filter {lo mid hi : ByteArray} (h0 : mid ≠ ⟨#[]⟩) (h1 : lt mid lo = false) (h2 : hi = ⟨#[]⟩ ∨ lt hi mid = false) : ∀ {l : List Pr}, Sorted l →
    (l.filter fun p => btw lo mid p.key) ++ (l.filter fun p => btw mid hi p.key) = l.filter fun p => btw lo hi p.key
  | [], _ => rfl
  | q :: l, h => by
    obtain ⟨ha, hb⟩ := List.pairwise_cons.1 h
    have ih := parts_filter h0 h1 h2 hb
    have b0 : btw lo mid q.key = (!lt q.key lo && lt q.key mid) := by simp [btw, h0]
    by_cases hm : lt q.key mid = true
    · have e1 : btw mid hi q.key = false := by simp [btw, hm]
      have e2 : btw lo mid q.key = btw lo hi q.key := by
        rw [b0, hm, Bool.and_true]
        rcases h2 with rfl | h2
        · simp [btw]
        · have : lt q.key hi = true := by
            cases k : lt q.key hi with
            | true => rfl
            | false =>
              have := ge_trans (a := q.key) (b := hi) (c := mid) k h2
              rw [hm] at this; cases this
          simp [btw, this]
      rw [List.filter_cons, List.filter_cons, List.filter_cons, e1, e2]
      by_cases hb2 : btw lo hi q.key = true
      · rw [hb2]; simp only [if_true, List.cons_append]; simp [ih]
      · rw [show btw lo hi q.key = false by simpa using hb2]; simpa using ih
    · have hm' : lt q.key mid = false := by simpa using hm
      have hnone : ∀ a ∈ q :: l, btw lo mid a.key = false := by
        intro a ha'
        have : lt a.key mid = false := by
          rcases List.mem_cons.1 ha' with rfl | hal
          · exact hm'
          · cases k : lt a.key mid with
            | false => rfl
            | true => have := lt_trans (ha a hal) k; rw [hm'] at this; cases this
        simp [btw, h0, this]
      rw [List.filter_eq_nil_iff.2 (fun a ha' => by rw [hnone a ha']; simp), List.nil_append]
      refine List.filter_congr fun a ha' => ?_
      have hge : lt a.key mid = false := by
        rcases List.mem_cons.1 ha' with rfl | hal
        · exact hm'
        · cases k : lt a.key mid with
          | false => rfl
          | true => have := lt_trans (ha a hal) k; rw [hm'] at this; cases this
      have hgl : lt a.key lo = false := ge_trans hge h1
      simp [btw, hge, hgl]
theorem range_parts {l : List Pr} {lo mid hi : ByteArray} (h : right l = true) (h0 : mid ≠ ⟨#[]⟩) (h1 : lt mid lo = false) (h2 : hi = ⟨#[]⟩ ∨ lt hi mid = false) :
    range l lo mid l.length ++ range l mid hi l.length = range l lo hi l.length := by
  rw [range_len, range_len, range_len]
  exact parts_filter h0 h1 h2 ((right_iff l).1 h)
end Go.Proofs.Ythcdcjidoacalaa.Prm
