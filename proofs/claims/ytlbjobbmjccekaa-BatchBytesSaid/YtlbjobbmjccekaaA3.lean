/- TableMath, SumMath, SumWalks, Bytes, DecMath, DecNum, SumShown, DecTakeMath, DecTake, DecTakeNum, SumOpen, RunMath: merged. -/
import Derived.Test.YtlbjobbmjccekaaA1
import Derived.Laws.BitsLemmas
import Derived.Laws.IdiomStrings
import Derived.Laws.OwnMore
import Derived.Laws.Rows
/- Pairs: what the laws say of them, plain mathematics. -/
namespace Go.Proofs.Ytlbjobbmjccekaa.Prm
set_option maxRecDepth 100000
set_option linter.unusedVariables false

theorem hasK_same (p : Pr) : hasK p.key p = true := by simp [hasK]
theorem hasK_other {p : Pr} {o : ByteArray} (h : p.key ≠ o) : hasK o p = false := by simp [hasK, h]
theorem find_cons (o : ByteArray) (p : Pr) (l : List Pr) : find o (p :: l) = if hasK o p then (p.val, true) else find o l := rfl

theorem find_ins_other {o : ByteArray} {p : Pr} (h : p.key ≠ o) : ∀ (l : List Pr), find o (ins p l) = find o l
  | [] => by simp [ins, find_cons, hasK_other h]
  | q :: l => by
    simp only [ins]
    split
    · rw [find_cons, hasK_other h]; rfl
    · rw [find_cons, find_cons, find_ins_other h l]
theorem find_setF_other {o : ByteArray} {p : Pr} (h : p.key ≠ o) : ∀ (l : List Pr), find o (setF p l) = find o l
  | [] => rfl
  | q :: l => by
    simp only [setF]
    by_cases hq : hasK p.key q = true
    · rw [if_pos hq, find_cons, find_cons, hasK_other h, hasK_other (p := q) (by simp [hasK] at hq; rw [hq]; exact h)]
      simp
    · rw [if_neg hq, find_cons, find_cons, find_setF_other h l]
theorem find_put_other {o : ByteArray} {p : Pr} (h : p.key ≠ o) (l : List Pr) : find o (put l p) = find o l := by
  unfold put; split
  · exact find_setF_other h l
  · exact find_ins_other h l
theorem find_drop_other {o k : ByteArray} (h : k ≠ o) : ∀ (l : List Pr), find o (drop l k) = find o l
  | [] => rfl
  | q :: l => by
    have ih := find_drop_other h l
    unfold drop at ih ⊢
    rw [List.filter_cons]
    by_cases hq : hasK k q = true
    · rw [hq, find_cons, hasK_other (p := q) (by simp [hasK] at hq; rw [hq]; exact h)]
      simpa using ih
    · have hq' : hasK k q = false := by simpa using hq
      rw [hq']
      simp only [Bool.not_false, if_true]
      rw [find_cons, find_cons, ih]
theorem find_ins_same {p : Pr} : ∀ (l : List Pr), (∀ a ∈ l, hasK p.key a = false) → find p.key (ins p l) = (p.val, true)
  | [], _ => by simp [ins, find_cons, hasK_same]
  | q :: l, h => by
    simp only [ins]
    split
    · rw [find_cons, hasK_same]; rfl
    · rw [find_cons, h q (by simp), find_ins_same l fun a ha => h a (by simp [ha])]; rfl
theorem find_some_or {k : ByteArray} : ∀ (l : List Pr), (find k l).2 = false → ∀ a ∈ l, hasK k a = false
  | [], _, a, ha => by simp at ha
  | q :: l, h, a, ha => by
    rw [find_cons] at h
    by_cases hq : hasK k q = true
    · rw [if_pos hq] at h; cases h
    · rw [if_neg hq] at h
      rcases List.mem_cons.1 ha with rfl | ha
      · simpa using hq
      · exact find_some_or l h a ha
theorem find_setF_same {p : Pr} : ∀ (l : List Pr), (find p.key l).2 = true → find p.key (setF p l) = (p.val, true)
  | [], h => by cases h
  | q :: l, h => by
    simp only [setF]
    by_cases hq : hasK p.key q = true
    · rw [if_pos hq, find_cons, hasK_same]; rfl
    · rw [if_neg hq, find_cons, if_neg hq]
      rw [find_cons, if_neg hq] at h
      exact find_setF_same l h
theorem find_put_same (l : List Pr) (p : Pr) : find p.key (put l p) = (p.val, true) := by
  unfold put
  cases h : (find p.key l).2 with
  | true => exact find_setF_same l h
  | false => exact find_ins_same l (find_some_or l h)
theorem find_drop_same (l : List Pr) (k : ByteArray) : find k (drop l k) = (⟨#[]⟩, false) := find_none fun a ha => by
  have := (List.mem_filter.1 ha).2
  simpa using this

/-- what the last write of a key says. -/
def lastW (key : ByteArray) (r : ByteArray × Bool) (w : Wr) : ByteArray × Bool := if w.key = key then (if w.del then ⟨#[]⟩ else w.val, !w.del) else r
theorem find_act (key : ByteArray) (l : List Pr) (w : Wr) : find key (act l w) = lastW key (find key l) w := by
  unfold act lastW
  by_cases h : w.key = key
  · subst h
    cases hd : w.del with
    | true => simp only [if_true]; rw [find_drop_same]; rfl
    | false =>
      have := find_put_same l ⟨w.key, w.val⟩
      simpa using this
  · rw [if_neg h]
    split
    · exact find_drop_other h l
    · exact find_put_other (p := ⟨w.key, w.val⟩) h l
theorem find_apply (key : ByteArray) (ws : List Wr) : ∀ (l : List Pr), find key (apply l ws) = ws.foldl (lastW key) (find key l) := by
  induction ws with
  | nil => intro l; rfl
  | cons w ws ih => intro l; show find key (apply (act l w) ws) = _; rw [ih, find_act]; rfl

/-- two puts of one key. -/
theorem hasK_key {k : ByteArray} {q : Pr} (h : hasK k q = true) : q.key = k := by simpa [hasK] using h
theorem setF_setF {p p' : Pr} (hk : p.key = p'.key) : ∀ (l : List Pr), setF p' (setF p l) = setF p' l
  | [] => rfl
  | q :: l => by
    simp only [setF]
    by_cases hq : hasK p.key q = true
    · rw [if_pos hq, if_pos (by rw [← hk]; exact hq)]
      simp only [setF]
      rw [if_pos (by rw [← hk]; exact hasK_same p)]
    · rw [if_neg hq, if_neg (by rw [← hk]; exact hq)]
      simp only [setF]
      rw [if_neg (by rw [← hk]; exact hq), setF_setF hk l]
theorem setF_ins {p p' : Pr} (hk : p.key = p'.key) : ∀ (l : List Pr), (∀ a ∈ l, hasK p.key a = false) → setF p' (ins p l) = ins p' l
  | [], _ => by simp only [ins, setF]; rw [if_pos (by rw [← hk]; exact hasK_same p)]
  | q :: l, h => by
    simp only [ins, ← hk]
    by_cases hq : lt p.key q.key = true
    · rw [if_pos hq, if_pos hq]; simp only [setF]; rw [if_pos (by rw [← hk]; exact hasK_same p)]
    · rw [if_neg hq, if_neg hq]
      simp only [setF]
      rw [if_neg (by rw [← hk, h q (by simp)]; simp), setF_ins hk l fun a ha => h a (by simp [ha])]
theorem put_put (l : List Pr) {p p' : Pr} (hk : p.key = p'.key) : put (put l p) p' = put l p' := by
  have h2 : (find p'.key (put l p)).2 = true := by rw [← hk, find_put_same]
  rw [put, if_pos h2]
  unfold put
  cases h : (find p.key l).2 with
  | true => rw [if_pos rfl, if_pos (by rw [← hk]; exact h), setF_setF hk]
  | false => rw [if_neg (by simp), if_neg (by rw [← hk, h]; simp), setF_ins hk l (find_some_or l h)]
theorem put_there {l : List Pr} {k v : ByteArray} (h : find k l = (v, true)) : put l ⟨k, v⟩ = l := by
  have hs : ∀ (l : List Pr), find k l = (v, true) → setF ⟨k, v⟩ l = l := by
    intro l
    induction l with
    | nil => intro h; cases h
    | cons q l ih =>
      intro h
      simp only [setF]
      rw [find_cons] at h
      by_cases hq : hasK k q = true
      · rw [if_pos hq] at h ⊢
        injection h with h _
        subst h
        rw [show (⟨k, q.val⟩ : Pr) = q by rw [← hasK_key hq]]
      · rw [if_neg hq] at h ⊢
        rw [ih h]
  rw [put, if_pos (by rw [h])]
  exact hs l h

/-- right rows. -/
def Sorted (l : List Pr) : Prop := l.Pairwise fun a b => lt a.key b.key = true
theorem right_iff : ∀ (l : List Pr), right l = true ↔ Sorted l
  | [] => by simp [right, Sorted]
  | [p] => by simp [right, Sorted]
  | p :: q :: l => by
    have ih := right_iff (q :: l)
    rw [show right (p :: q :: l) = (lt p.key q.key && right (q :: l)) from rfl, Bool.and_eq_true, ih]
    unfold Sorted
    rw [List.pairwise_cons (a := p)]
    constructor
    · rintro ⟨h1, h2⟩
      refine ⟨fun b hb => ?_, h2⟩
      rcases List.mem_cons.1 hb with rfl | hb
      · exact h1
      · exact lt_trans h1 ((List.pairwise_cons.1 h2).1 b hb)
    · rintro ⟨h1, h2⟩
      exact ⟨h1 q (by simp), h2⟩
theorem sorted_filter {l : List Pr} (f : Pr → Bool) (h : Sorted l) : Sorted (l.filter f) := h.filter f
theorem right_filter {l : List Pr} (f : Pr → Bool) (h : right l = true) : right (l.filter f) = true := (right_iff _).2 (sorted_filter f ((right_iff _).1 h))
theorem right_drop {l : List Pr} (k : ByteArray) (h : right l = true) : right (drop l k) = true := right_filter _ h
theorem right_range {l : List Pr} (lo hi : ByteArray) (most : Int) (h : right l = true) : right (range l lo hi most) = true :=
  (right_iff _).2 (List.Pairwise.sublist (List.take_sublist _ _) (sorted_filter _ ((right_iff _).1 h)))
theorem mem_ins {p a : Pr} : ∀ {l : List Pr}, a ∈ ins p l → a = p ∨ a ∈ l
  | [], h => by simp [ins] at h; exact .inl h
  | q :: l, h => by
    simp only [ins] at h
    split at h
    · rcases List.mem_cons.1 h with rfl | h
      · exact .inl rfl
      · exact .inr h
    · rcases List.mem_cons.1 h with rfl | h
      · exact .inr (by simp)
      · rcases mem_ins h with rfl | h
        · exact .inl rfl
        · exact .inr (by simp [h])
theorem sorted_ins {p : Pr} : ∀ {l : List Pr}, Sorted l → (∀ a ∈ l, hasK p.key a = false) → Sorted (ins p l)
  | [], _, _ => by simp [ins, Sorted]
  | q :: l, h, hn => by
    obtain ⟨h1, h2⟩ := List.pairwise_cons.1 h
    simp only [ins]
    by_cases hq : lt p.key q.key = true
    · rw [if_pos hq]
      refine List.pairwise_cons.2 ⟨fun b hb => ?_, h⟩
      rcases List.mem_cons.1 hb with rfl | hb
      · exact hq
      · exact lt_trans hq (h1 b hb)
    · rw [if_neg hq]
      have hqp : lt q.key p.key = true := lt_tri (fun e => by have := hn q (by simp); simp [hasK, ← e] at this) (by simpa using hq)
      refine List.pairwise_cons.2 ⟨fun b hb => ?_, sorted_ins h2 fun a ha => hn a (by simp [ha])⟩
      rcases mem_ins hb with rfl | hb
      · exact hqp
      · exact h1 b hb
theorem keys_setF (p : Pr) : ∀ (l : List Pr), (setF p l).map (·.key) = l.map (·.key)
  | [] => rfl
  | q :: l => by
    simp only [setF]
    by_cases hq : hasK p.key q = true
    · rw [if_pos hq]; simp [hasK_key hq]
    · rw [if_neg hq]; simp [keys_setF p l]
theorem sorted_keys (l : List Pr) : Sorted l ↔ (l.map (·.key)).Pairwise fun a b => lt a b = true := by unfold Sorted; rw [List.pairwise_map]
theorem right_put {l : List Pr} (p : Pr) (h : right l = true) : right (put l p) = true := by
  have hs := (right_iff l).1 h
  refine (right_iff _).2 ?_
  unfold put
  cases hf : (find p.key l).2 with
  | true => rw [if_pos rfl, sorted_keys, keys_setF, ← sorted_keys]; exact hs
  | false => rw [if_neg (by simp)]; exact sorted_ins hs (find_some_or l hf)
theorem right_act {l : List Pr} (w : Wr) (h : right l = true) : right (act l w) = true := by
  unfold act; split
  · exact right_drop _ h
  · exact right_put _ h
theorem right_apply (ws : List Wr) : ∀ {l : List Pr}, right l = true → right (apply l ws) = true := by
  induction ws with
  | nil => intro l h; exact h
  | cons w ws ih => intro l h; exact ih (l := act l w) (right_act w h)

/-- ranges. -/
theorem range_len (l : List Pr) (lo hi : ByteArray) : range l lo hi (l.length : Int) = l.filter fun p => btw lo hi p.key := by
  unfold range
  exact List.take_of_length_le (by have := List.length_filter_le (fun p => btw lo hi p.key) l; omega)
theorem parts_filter {lo mid hi : ByteArray} (h0 : mid ≠ ⟨#[]⟩) (h1 : lt mid lo = false) (h2 : hi = ⟨#[]⟩ ∨ lt hi mid = false) : ∀ {l : List Pr}, Sorted l →
    (l.filter fun p => btw lo mid p.key) ++ (l.filter fun p => btw mid hi p.key) = l.filter fun p => btw lo hi p.key
  | [], _ => rfl
  | q :: l, h => by
    obtain ⟨ha, hb⟩ := List.pairwise_cons.1 h
    have ih := parts_filter h0 h1 h2 hb
    have b0 : btw lo mid q.key = (!lt q.key lo && lt q.key mid) := by simp [btw, h0]
    by_cases hm : lt q.key mid = true
    · have e1 : btw mid hi q.key = false := by simp [btw, hm]
      have e2 : btw lo mid q.key = btw lo hi q.key := by
        rw [b0, hm, Bool.and_true]
        rcases h2 with rfl | h2
        · simp [btw]
        · have : lt q.key hi = true := by
            cases k : lt q.key hi with
            | true => rfl
            | false =>
              have := ge_trans (a := q.key) (b := hi) (c := mid) k h2
              rw [hm] at this; cases this
          simp [btw, this]
      rw [List.filter_cons, List.filter_cons, List.filter_cons, e1, e2]
      by_cases hb2 : btw lo hi q.key = true
      · rw [hb2]; simp only [if_true, List.cons_append]; simp [ih]
      · rw [show btw lo hi q.key = false by simpa using hb2]; simpa using ih
    · have hm' : lt q.key mid = false := by simpa using hm
      have hnone : ∀ a ∈ q :: l, btw lo mid a.key = false := by
        intro a ha'
        have : lt a.key mid = false := by
          rcases List.mem_cons.1 ha' with rfl | hal
          · exact hm'
          · cases k : lt a.key mid with
            | false => rfl
            | true => have := lt_trans (ha a hal) k; rw [hm'] at this; cases this
        simp [btw, h0, this]
      rw [List.filter_eq_nil_iff.2 (fun a ha' => by rw [hnone a ha']; simp), List.nil_append]
      refine List.filter_congr fun a ha' => ?_
      have hge : lt a.key mid = false := by
        rcases List.mem_cons.1 ha' with rfl | hal
        · exact hm'
        · cases k : lt a.key mid with
          | false => rfl
          | true => have := lt_trans (ha a hal) k; rw [hm'] at this; cases this
      have hgl : lt a.key lo = false := ge_trans hge h1
      simp [btw, hge, hgl]
theorem range_parts {l : List Pr} {lo mid hi : ByteArray} (h : right l = true) (h0 : mid ≠ ⟨#[]⟩) (h1 : lt mid lo = false) (h2 : hi = ⟨#[]⟩ ∨ lt hi mid = false) :
    range l lo mid l.length ++ range l mid hi l.length = range l lo hi l.length := by
  rw [range_len, range_len, range_len]
  exact parts_filter h0 h1 h2 ((right_iff l).1 h)
end Go.Proofs.Ytlbjobbmjccekaa.Prm

/- Plain mathematics of Adler-32: nothing of the program. -/
namespace Go.Proofs.Ytlbjobbmjccekaa.Sm
set_option maxRecDepth 100000

def step (p : Int × Int) (c : UInt8) : Int × Int := ((p.1 + (c.toNat : Int)) % 65521, (p.2 + (p.1 + (c.toNat : Int))) % 65521)
def adF (p : Int × Int) (l : List UInt8) : Int × Int := l.foldl step p
def ad (l : List UInt8) : Int × Int := adF (1, 0) l
def lo (l : List UInt8) : Int := (ad l).1
def hi (l : List UInt8) : Int := (ad l).2
def adler (l : List UInt8) : Int := hi l * 65536 + lo l

/-- the sum of the bytes, and the sum of the sums. -/
def S : List UInt8 → Int
  | [] => 0
  | c :: l => (c.toNat : Int) + S l
def T : List UInt8 → Int
  | [] => 0
  | c :: l => ((l.length : Int) + 1) * (c.toNat : Int) + T l

theorem mod_of {x y : Int} (k : Int) (h : x = y + 65521 * k) : x % 65521 = y % 65521 := by
  rw [h]; exact Int.add_mul_emod_self_left _ _ _

theorem adF_closed (l : List UInt8) : ∀ a b : Int, 0 ≤ a → a < 65521 → 0 ≤ b → b < 65521 →
    (adF (a, b) l).1 = (a + S l) % 65521 ∧ (adF (a, b) l).2 = (b + (l.length : Int) * a + T l) % 65521 := by
  induction l with
  | nil => intro a b h0 h1 h2 h3; simp only [adF, List.foldl, S, T, List.length]; omega
  | cons c l ih =>
    intro a b h0 h1 h2 h3
    have e : adF (a, b) (c :: l) = adF ((a + (c.toNat : Int)) % 65521, (b + (a + (c.toNat : Int))) % 65521) l := rfl
    obtain ⟨i1, i2⟩ := ih ((a + (c.toNat : Int)) % 65521) ((b + (a + (c.toNat : Int))) % 65521) (by omega) (by omega) (by omega) (by omega)
    rw [e, i1, i2]
    refine ⟨by simp only [S]; omega, ?_⟩
    simp only [T, List.length_cons]
    have q1 : (a + (c.toNat : Int)) % 65521 = (a + (c.toNat : Int)) - 65521 * ((a + (c.toNat : Int)) / 65521) := by omega
    have q2 : (b + (a + (c.toNat : Int))) % 65521 = (b + (a + (c.toNat : Int))) - 65521 * ((b + (a + (c.toNat : Int))) / 65521) := by omega
    rw [q1, q2]
    generalize (a + (c.toNat : Int)) / 65521 = u
    generalize (b + (a + (c.toNat : Int))) / 65521 = v
    refine mod_of (-v - (l.length : Int) * u) ?_
    push_cast
    generalize (l.length : Int) = n
    generalize (c.toNat : Int) = d
    grind

theorem lo_eq (l : List UInt8) : lo l = (1 + S l) % 65521 := (adF_closed l 1 0 (by omega) (by omega) (by omega) (by omega)).1
theorem hi_eq (l : List UInt8) : hi l = ((l.length : Int) + T l) % 65521 := by
  have h := (adF_closed l 1 0 (by omega) (by omega) (by omega) (by omega)).2
  unfold hi ad; rw [h]; congr 1; omega
theorem lo_range (l : List UInt8) : 0 ≤ lo l ∧ lo l < 65521 := by rw [lo_eq]; omega
theorem hi_range (l : List UInt8) : 0 ≤ hi l ∧ hi l < 65521 := by rw [hi_eq]; omega
theorem adler_range (l : List UInt8) : 0 ≤ adler l ∧ adler l < 4294967296 := by
  have := lo_range l; have := hi_range l; unfold adler; omega
theorem adler_lo (l : List UInt8) : adler l % 65536 = lo l := by
  have := lo_range l; have := hi_range l; unfold adler; omega
theorem adler_hi (l : List UInt8) : adler l / 65536 = hi l := by
  have := lo_range l; have := hi_range l; unfold adler; omega
theorem lo_nil : lo [] = 1 := rfl
theorem hi_nil : hi [] = 0 := rfl
theorem lo_snoc (l : List UInt8) (c : UInt8) : lo (l ++ [c]) = (lo l + (c.toNat : Int)) % 65521 := by
  unfold lo ad adF; rw [List.foldl_append]; rfl
theorem hi_snoc (l : List UInt8) (c : UInt8) : hi (l ++ [c]) = (hi l + (lo l + (c.toNat : Int))) % 65521 := by
  unfold hi lo ad adF; rw [List.foldl_append]; rfl

theorem S_append (a b : List UInt8) : S (a ++ b) = S a + S b := by
  induction a with
  | nil => simp [S]
  | cons c l ih => simp only [List.cons_append, S, ih]; omega
theorem T_append (a b : List UInt8) : T (a ++ b) = T a + (b.length : Int) * S a + T b := by
  induction a with
  | nil => simp [S, T]
  | cons c l ih =>
    simp only [List.cons_append, T, S, ih, List.length_append]
    push_cast
    generalize (l.length : Int) = n
    generalize (b.length : Int) = m
    generalize (c.toNat : Int) = d
    grind

/-- the halves of two texts, one behind the other. -/
theorem lo_append (a b : List UInt8) : lo (a ++ b) = (lo a + lo b + 65520) % 65521 := by
  simp only [lo_eq, S_append]; omega
theorem hi_append (a b : List UInt8) : hi (a ++ b) = (hi a + hi b + (b.length : Int) % 65521 * (lo a + 65520)) % 65521 := by
  have e1 := hi_eq (a ++ b)
  rw [e1, T_append]
  rw [hi_eq a, hi_eq b, lo_eq a]
  have q1 : ((a.length : Int) + T a) % 65521 = ((a.length : Int) + T a) - 65521 * (((a.length : Int) + T a) / 65521) := by omega
  have q2 : ((b.length : Int) + T b) % 65521 = ((b.length : Int) + T b) - 65521 * (((b.length : Int) + T b) / 65521) := by omega
  have q3 : (1 + S a) % 65521 = (1 + S a) - 65521 * ((1 + S a) / 65521) := by omega
  have q4 : (b.length : Int) % 65521 = (b.length : Int) - 65521 * ((b.length : Int) / 65521) := by omega
  rw [q1, q2, q3, q4]
  generalize ((a.length : Int) + T a) / 65521 = u1
  generalize ((b.length : Int) + T b) / 65521 = u2
  generalize (1 + S a) / 65521 = u3
  generalize hu : (b.length : Int) / 65521 = u4
  rw [List.length_append]
  push_cast
  generalize (a.length : Int) = m
  generalize (b.length : Int) = n
  symm
  refine mod_of (-u1 - u2 - n * u3 + n - u4 * (1 + S a - 65521 * u3 + 65520)) ?_
  grind

/-- one byte changed. -/
theorem tells (x y : List UInt8) (c d : UInt8) (h : c ≠ d) : adler (x ++ d :: y) ≠ adler (x ++ c :: y) := by
  intro e
  have e1 : lo (x ++ d :: y) = lo (x ++ c :: y) := by rw [← adler_lo, e, adler_lo]
  rw [lo_eq, lo_eq, S_append, S_append] at e1
  simp only [S] at e1
  have hc := c.toNat_lt
  have hd := d.toNat_lt
  have hn : c.toNat ≠ d.toNat := fun k => h (UInt8.toNat_inj.1 k)
  omega

/-- two that stand together changed places. -/
theorem swaps (x y : List UInt8) (c d : UInt8) (h : c ≠ d) : adler (x ++ d :: c :: y) ≠ adler (x ++ c :: d :: y) := by
  intro e
  have e1 : hi (x ++ d :: c :: y) = hi (x ++ c :: d :: y) := by rw [← adler_hi, e, adler_hi]
  rw [hi_eq, hi_eq, T_append, T_append] at e1
  simp only [T, List.length_append, List.length_cons] at e1
  have hc := c.toNat_lt
  have hd := d.toNat_lt
  have hn : c.toNat ≠ d.toNat := fun k => h (UInt8.toNat_inj.1 k)
  push_cast at e1
  have p1 : ((y.length : Int) + 1 + 1) * (d.toNat : Int) = (y.length : Int) * (d.toNat : Int) + 2 * (d.toNat : Int) := by grind
  have p2 : ((y.length : Int) + 1 + 1) * (c.toNat : Int) = (y.length : Int) * (c.toNat : Int) + 2 * (c.toNat : Int) := by grind
  have p3 : ((y.length : Int) + 1) * (d.toNat : Int) = (y.length : Int) * (d.toNat : Int) + (d.toNat : Int) := by grind
  have p4 : ((y.length : Int) + 1) * (c.toNat : Int) = (y.length : Int) * (c.toNat : Int) + (c.toNat : Int) := by grind
  rw [p1, p2, p3, p4] at e1
  generalize (y.length : Int) * (d.toNat : Int) = r1 at e1
  generalize (y.length : Int) * (c.toNat : Int) = r2 at e1
  generalize ((y.length : Int) + 1 + 1) * S x = r3 at e1
  omega
end Go.Proofs.Ytlbjobbmjccekaa.Sm

/- Contracts of package sum's Of and of the document's own. -/
namespace Go.Proofs.Ytlbjobbmjccekaa
set_option maxRecDepth 100000
open Go.RowKit

theorem or_halves (a b : Int) (h0 : 0 ≤ a) (h1 : a < 65536) (h2 : 0 ≤ b) (h3 : b < 65536) : bits BinOp.or IntKind.u64 (b * 65536) a % 4294967296 = b * 65536 + a := by
  have e : bits BinOp.or IntKind.u64 (b * 65536) a = b * 65536 + a := by
    refine bits_join .u64 40 (by decide) (fun n p q => IntWalk.u64_in n ⟨p, by omega⟩) 16 (b * 65536) a ?_ ?_ ?_ ?_ ?_ ?_ <;> omega
  rw [e]; omega

theorem take_snoc (s : ByteArray) (k : Nat) (h : k < s.size) : s.data.toList.take (k + 1) = s.data.toList.take k ++ [s[k]] := by
  rw [List.take_succ_eq_append_getElem (by simpa using h)]; rfl
theorem take_all (s : ByteArray) (k : Nat) (h : s.size ≤ k) : s.data.toList.take k = s.data.toList := List.take_of_length_le (by simpa using h)

end Go.Proofs.Ytlbjobbmjccekaa

/- Strings and bytes in memory. -/
namespace Go.Proofs.Ytlbjobbmjccekaa
set_option maxRecDepth 100000
open Go.RowKit
set_option linter.unusedVariables false

theorem Blk.cell_new (w : World) (cs : Array Value) (t : TypeId) (i : Nat) : (w.alloc (.cells cs t)).cell? ⟨w.heap.size, i, none⟩ = cs[i]? :=
  cell_of_row (w.alloc (.cells cs t)) w.heap.size i cs t (0, 0) (heap_alloc_new w _)

theorem conv_row (W : World) (b o n cap : Nat) (l : List UInt8) (hn : l.length = n) (hc : ∀ k (h : k < l.length), W.cell? ⟨b, o + k, none⟩ = some (.int .u8 (l[k].toNat : Int))) :
    (convert 68 9 (.slice (some ⟨b, o, none⟩) n cap)).run Try.prog W = .ok (.string ⟨l.toArray⟩) W := by
  subst hn
  refine run_convert_bytes_back W 68 9 5 ⟨b, o, none⟩ cap l Try.underlying68 Try.underlying5 Try.underlying9 (fun j hj => ?_)
  have e : (⟨b, o, none⟩ : Addr).add j = ⟨b, o + j, none⟩ := by
    unfold Addr.add
    by_cases hz : j = 0
    · subst hz; rfl
    · rw [if_neg hz]
  rw [e]; exact hc j hj

theorem app_list (l : List UInt8) (s : ByteArray) : (⟨l.toArray⟩ : ByteArray) ++ s = ⟨(l ++ s.data.toList).toArray⟩ := by
  apply ByteArray.ext
  rw [ByteArray.data_append]
  simp
theorem app_lists (l m : List UInt8) : (⟨l.toArray⟩ : ByteArray) ++ ⟨m.toArray⟩ = ⟨(l ++ m).toArray⟩ := by rw [app_list]
theorem ret_str {a b : ByteArray} (h : a = b) : Ending.returned (.string a) = .returned (.string b) := by rw [h]
theorem str_eq {a b : ByteArray} (h : a = b) : Value.string a = .string b := by rw [h]

theorem size_list (s : ByteArray) : s.data.toList.length = s.size := by simp

/-- '[]byte(s)': a new row that holds the bytes, and may be written. -/
theorem to_bytes (W : World) (s : ByteArray) : ∃ cap W2, (convert 9 68 (.string s)).run Try.prog W = .ok (.slice (some ⟨W.heap.size, 0, none⟩) s.size cap) W2 ∧ Q W W2 ∧ W2.heap.size = W.heap.size + 1 ∧
    (∀ i (h : i < s.size), W2.cell? ⟨W.heap.size, i, none⟩ = some (.int .u8 (s[i].toNat : Int))) ∧ (∀ i, i < s.size → W2.frozen? ⟨W.heap.size, i, none⟩ = false) := by
  refine ⟨_, _, run_bytes_of_string W 9 68 5 s Try.underlying9 Try.underlying68 Try.underlying5, (Q.refl W).drew.alloc _, ?_, ?_, ?_⟩
  · show (W.heap.push _).size = _
    simp
  · intro i h
    have e := World.cell?_alloc_mark W.drew (bytesRow s (grownCap W s.size 0 5)) 5 ((bytesRow s (grownCap W s.size 0 5)).size, (bytesRow s (grownCap W s.size 0 5)).size + 1) i
    refine e.trans ?_
    unfold bytesRow
    have h1 : i < (s.data.map (fun b => Value.int .u8 b.toNat)).size := by simpa using h
    rw [Array.getElem?_append_left h1]
    simp only [Array.getElem?_map]
    have h2 : s.data[i]? = some s[i] := Array.getElem?_eq_getElem (by simpa using h)
    rw [h2]; rfl
  · intro i h
    have e := World.frozen?_alloc_mark W.drew (bytesRow s (grownCap W s.size 0 5)) 5 (bytesRow s (grownCap W s.size 0 5)).size ((bytesRow s (grownCap W s.size 0 5)).size + 1) i
    refine e.trans ?_
    have h1 : i < (bytesRow s (grownCap W s.size 0 5)).size := by
      unfold bytesRow; simp; omega
    have h2 : decide ((bytesRow s (grownCap W s.size 0 5)).size ≤ i) = false := by simp; omega
    rw [h2]; rfl

/-- a row with one byte written holds the list with it. -/
theorem cells_set (W : World) (g : Nat) (l : List UInt8) (k : Nat) (c : UInt8) (a : Int) (ha : (c.toNat : Int) = a) (hk : k < l.length)
    (hc : ∀ i (h : i < l.length), W.cell? ⟨g, i, none⟩ = some (.int .u8 (l[i].toNat : Int))) :
    ∀ i (h : i < (l.set k c).length), (W.setCell ⟨g, k, none⟩ (.int .u8 a)).cell? ⟨g, i, none⟩ = some (.int .u8 ((l.set k c)[i].toNat : Int)) := by
  intro i h
  by_cases e : k = i
  · subst e
    rw [World.cell?_setCell_same _ _ _ (hc k hk)]
    simp [← ha]
  · rw [World.cell?_setCell_other _ _ _ _ (by intro he; injection he with _ he; exact e he)]
    rw [hc i (by simpa using h)]
    simp [e]
end Go.Proofs.Ytlbjobbmjccekaa

/- Plain mathematics of package dec: numbers and texts as bytes. Nothing of the program. -/
namespace Go.Proofs.Ytlbjobbmjccekaa.Dm
set_option maxRecDepth 100000

def digit (n : Nat) : UInt8 := UInt8.ofNat (48 + n)
def dg (v : Nat) : List UInt8 := if v < 10 then [digit v] else dg (v / 10) ++ [digit (v % 10)]
def dgz (v : Nat) : List UInt8 := if v = 0 then [] else dg v
/-- a number's bytes. -/
def num (v : Nat) : List UInt8 := dg v ++ [59]

theorem digit_toNat (n : Nat) (h : n < 10) : (digit n).toNat = 48 + n := by
  unfold digit; simp only [UInt8.toNat_ofNat']; omega
theorem dg_split (v : Nat) : dg v = dgz (v / 10) ++ [digit (v % 10)] := by
  rw [dg]
  by_cases h : v < 10
  · rw [if_pos h]; unfold dgz; rw [if_pos (by omega)]
    rw [show v % 10 = v from by omega]; rfl
  · rw [if_neg h]; unfold dgz; rw [if_neg (by omega)]
theorem dgz_pos (v : Nat) (h : v ≠ 0) : dgz v = dg v := by unfold dgz; rw [if_neg h]
theorem dgz_zero : dgz 0 = [] := rfl
theorem dg_ne (v : Nat) : dg v ≠ [] := by rw [dg_split]; simp
theorem dg_pos (v : Nat) : 1 ≤ (dg v).length := by rw [dg_split]; simp

def isD (c : UInt8) : Bool := 48 ≤ c.toNat && c.toNat ≤ 57
def dv (c : UInt8) : Nat := c.toNat - 48
/-- what figures tell. -/
def val (l : List UInt8) : Nat := l.foldl (fun v c => 10 * v + dv c) 0

theorem val_snoc (l : List UInt8) (c : UInt8) : val (l ++ [c]) = 10 * val l + dv c := by simp [val]
theorem dv_digit (n : Nat) (h : n < 10) : dv (digit n) = n := by unfold dv; rw [digit_toNat n h]; omega
theorem isD_digit (n : Nat) (h : n < 10) : isD (digit n) = true := by unfold isD; rw [digit_toNat n h]; simp; omega
theorem isD_iff (c : UInt8) : isD c = true ↔ 48 ≤ c.toNat ∧ c.toNat ≤ 57 := by simp [isD]

theorem val_dg (v : Nat) : val (dg v) = v := by
  induction v using Nat.strongRecOn with
  | _ v ih =>
    rw [dg]
    by_cases h : v < 10
    · rw [if_pos h]; simp [val, dv_digit v h]
    · rw [if_neg h, val_snoc, ih (v / 10) (by omega), dv_digit _ (by omega)]; omega
theorem all_dg (v : Nat) : ∀ c ∈ dg v, isD c = true := by
  induction v using Nat.strongRecOn with
  | _ v ih =>
    rw [dg]
    by_cases h : v < 10
    · rw [if_pos h]; intro c hc; simp at hc; subst hc; exact isD_digit v h
    · rw [if_neg h]; intro c hc
      rcases List.mem_append.1 hc with hc | hc
      · exact ih (v / 10) (by omega) c hc
      · simp at hc; subst hc; exact isD_digit _ (by omega)
/-- no leading nought but of 0 itself. -/
theorem head_dg (v : Nat) (h : 10 ≤ v) : ∀ c r, dg v = c :: r → c.toNat ≠ 48 := by
  induction v using Nat.strongRecOn with
  | _ v ih =>
    intro c r e
    rw [dg, if_neg (by omega)] at e
    by_cases h2 : v / 10 < 10
    · rw [dg, if_pos h2] at e
      simp at e
      rw [← e.1, digit_toNat _ h2]; omega
    · obtain ⟨c', r', e'⟩ : ∃ c' r', dg (v / 10) = c' :: r' := by
        cases hd : dg (v / 10) with
        | nil => exact absurd hd (dg_ne _)
        | cons a b => exact ⟨a, b, rfl⟩
      rw [e'] at e
      simp at e
      rw [← e.1]
      exact ih (v / 10) (by omega) (by omega) c' r' e'

theorem dg_length_lt (j : Nat) : ∀ v, v < 10 ^ j → 1 ≤ j → (dg v).length ≤ j := by
  induction j with
  | zero => intro v h h1; omega
  | succ j ih =>
    intro v h _
    rw [dg]
    by_cases h2 : v < 10
    · rw [if_pos h2]; simp
    · rw [if_neg h2]
      rw [Nat.pow_succ] at h
      have hj : 1 ≤ j := by
        rcases Nat.eq_zero_or_pos j with e | e
        · subst e; simp at h; omega
        · exact e
      have := ih (v / 10) (by omega) hj
      simp; omega
theorem num_length (v : Nat) (h : v < 18446744073709551616) : (num v).length ≤ 21 := by
  have := dg_length_lt 20 v (by omega) (by omega)
  unfold num; simp; omega
end Go.Proofs.Ytlbjobbmjccekaa.Dm

/- Contracts of package dec's Num and of the document's own. -/
namespace Go.Proofs.Ytlbjobbmjccekaa
set_option maxRecDepth 100000
open Go.RowKit
set_option linter.unusedVariables false

theorem slice21 (W : World) (b j : Nat) (h0 : 1 ≤ j) (h1 : j ≤ 20) :
    (Instr.sliceAt 104 (.pointer (some ⟨b, 0, none⟩)) (some (.int .i64 ((j : Int) - 1))) none none).run Try.prog W = .ok (.slice (some ⟨b, j - 1, none⟩) (22 - j) (22 - j)) W := by
  have hl : Try.prog.arrayLen 104 = 21 := by kernel_rfl
  have he : Try.prog.elem 104 = 5 := by kernel_rfl
  have hs : (sizeOf 5).run Try.prog W = .ok 1 W := by kernel_rfl
  rw [run_sliceAt_array_l W 104 _ (by rw [hl, he]; exact Try.underlying104) .i64 _ (by omega) (by rw [hl]; omega), he, hs, hl]
  have e : ((j : Int) - 1).toNat = j - 1 := by omega
  simp only [Result.andThen, slicedAt, e]
  rw [if_neg (by omega), show 21 - (j - 1) = 22 - j from by omega]
  unfold Addr.add
  by_cases hz : (j - 1) * 1 = 0
  · rw [if_pos hz, show j - 1 = 0 from by omega]
  · rw [if_neg hz]; simp

/-- the row behind a store of one figure more. -/
theorem row_more (cs : Array Value) (j m : Nat) (t : List UInt8) (h1 : 1 ≤ j) (h2 : j ≤ 20) (h3 : cs.size = 21) (h4 : t.length = 21 - j)
    (h8 : ∀ k (h : k < t.length), cs[j + k]? = some (.int .u8 (t[k].toNat : Int))) :
    ∀ k (h : k < (Dm.digit (m % 10) :: t).length), (cs.setIfInBounds (j - 1) (.int .u8 (48 + (m : Int) % 10)))[j - 1 + k]? = some (.int .u8 ((Dm.digit (m % 10) :: t)[k].toNat : Int)) := by
  intro k h
  cases k with
  | zero =>
    have e : ((Dm.digit (m % 10)).toNat : Int) = 48 + (m : Int) % 10 := by rw [Dm.digit_toNat _ (by omega)]; omega
    simp only [Nat.add_zero, List.getElem_cons_zero, e]
    rw [Array.getElem?_setIfInBounds_self_of_lt (by omega)]
  | succ k =>
    simp only [List.getElem_cons_succ]
    rw [Array.getElem?_setIfInBounds_ne (by omega), ← h8 k (by simpa using h)]
    congr 1; omega

set_option maxHeartbeats 400000 in
theorem num_nat (v : Nat) (w : World) (h0 : v < 18446744073709551616) :
    Calls Try.prog 33 #[.int .u64 v] w fun e w' => e = .returned (.string ⟨(Dm.num v).toArray⟩) ∧ Q w w' := by
  go_enter Try.func33, Try.ntmps33
  go_wp2
  go_loopw [0, 4] (fun u i wr => ∃ (m j : Nat) (t : List UInt8) (cs : Array Value), u = .int .u64 m ∧ i = .int .i64 j ∧ w.alloc (.cells cs 104) = wr ∧ 1 ≤ j ∧ j ≤ 20 ∧ cs.size = 21 ∧ t.length = 21 - j ∧ m < 10 ^ j ∧ m < 18446744073709551616 ∧ Dm.num v = Dm.dg m ++ t ∧ ∀ k (h : k < t.length), cs[j + k]? = some (.int .u8 (t[k].toNat : Int))) (fun u _ _ => (intOf u).toNat)
  case atStart => exact ⟨v, 20, [59], _, rfl, rfl, rfl, by omega, by omega, rfl, rfl, by omega, h0, rfl, by intro k h; simp at h; subst h; rfl⟩
  case round =>
    obtain ⟨m, j, t, cs, rfl, rfl, rfl, h1, h2, h3, h4, h5, h6, h7, h8⟩ := hrel
    have hr := row_more cs j m t h1 h2 h3 h4 h8
    obtain ⟨x, hx⟩ : ∃ x, cs[j - 1]? = some x := ⟨_, Array.getElem?_eq_getElem (by omega)⟩
    have hsl := fun W : World => slice21 W w.heap.size j h1 h2
    have hsp := Dm.dg_split m
    have H3 := Lib.hid h3
    have H4 := Lib.hid h4
    have H5 := Lib.hid h5
    have H7 := Lib.hid h7
    have HR := Lib.hid hr
    have HS := Lib.hid hsp
    clear h3 h4 h5 h7 h8 hr hsp
    by_cases hz : m / 10 = 0
    · have hb : ((m : Int) / 10 == 0) = true := by simp; omega
      have hcv := conv_row (w.alloc (.cells (cs.setIfInBounds (j - 1) (.int .u8 (48 + (m : Int) % 10))) 104)) w.heap.size (j - 1) (22 - j) (22 - j) (Dm.digit (m % 10) :: t) (by simp [H4.out]; omega) (by
        intro k h
        rw [← HR.out k h]
        exact Blk.cell_new _ _ _ _)
      have hfin : Dm.num v = Dm.digit (m % 10) :: t := by rw [H7.out, HS.out, hz]; simp [Dm.dgz_zero]
      rw [← hfin] at hcv
      have HF := Lib.hid hfin
      have HZ := Lib.hid hz
      clear hfin hz
      go_wp2
      go_ret
      exact ⟨rfl, (Q.refl _).alloc _⟩
    · have hb : ((m : Int) / 10 == 0) = false := by simp; omega
      have HZ := Lib.hid hz
      clear hz
      go_wp2
      have h5 := H5.out
      have hz := HZ.out
      obtain ⟨j, rfl⟩ : ∃ j', j = j' + 1 := ⟨j - 1, by omega⟩
      rw [Nat.pow_succ] at h5
      have hj : 1 ≤ j := by
        rcases Nat.eq_zero_or_pos j with e | e
        · subst e; simp at h5; omega
        · exact e
      go_roundw
      case rel => exact ⟨m / 10, j, Dm.digit (m % 10) :: t, _, by go_num, by go_num, rfl, hj, by omega, by simpa using H3.out, by simp [H4.out]; omega, by omega, by omega, by rw [H7.out, HS.out, Dm.dgz_pos _ hz]; simp, HR.out⟩
      case measure => simp [intOf]; omega

theorem conv_one (W : World) (m : Nat) : (convert 68 9 (.slice (some ⟨W.heap.size, 0, none⟩) 1 1)).run Try.prog (W.alloc (.cells #[.int .u8 (48 + (m : Int) % 10)] 5)) = .ok (.string ⟨[Dm.digit (m % 10)].toArray⟩) (W.alloc (.cells #[.int .u8 (48 + (m : Int) % 10)] 5)) := by
  refine conv_row _ _ _ _ _ [Dm.digit (m % 10)] rfl (fun k h => ?_)
  have hk : k = 0 := by simpa using h
  subst hk
  have e : ((Dm.digit (m % 10)).toNat : Int) = 48 + (m : Int) % 10 := by rw [Dm.digit_toNat _ (by omega)]; omega
  rw [Nat.add_zero, Blk.cell_new]
  simp only [List.getElem_cons_zero, e]
  rfl

set_option maxHeartbeats 400000 in
theorem refNum_nat (v : Nat) (w : World) (h0 : v < 18446744073709551616) :
    Calls Try.prog 37 #[.int .u64 v] w fun e w' => e = .returned (.string ⟨(Dm.num v).toArray⟩) ∧ Q w w' := by
  have hcv := conv_one
  go_enter Try.func37, Try.ntmps37
  go_wp2
  go_loopw [0, 3] (fun u s wr => ∃ (m : Nat) (t : List UInt8), u = .int .u64 m ∧ s = .string ⟨t.toArray⟩ ∧ Q w wr ∧ m < 18446744073709551616 ∧ Dm.num v = Dm.dgz m ++ t) (fun u _ _ => (intOf u).toNat)
  case atStart => exact ⟨v / 10, [Dm.digit (v % 10), 59], by go_num, rfl, (Q.refl _).alloc _, by omega, by unfold Dm.num; rw [Dm.dg_split]; simp⟩
  case round =>
    obtain ⟨m, t, rfl, rfl, hq, h1, h2⟩ := hrel
    have hsp := Dm.dg_split m
    have hl : t.length ≤ 21 := by
      have a := Dm.num_length v h0
      rw [h2, List.length_append] at a; omega
    have HS := Lib.hid hsp
    have H2 := Lib.hid h2
    clear hsp h2
    by_cases hz : 0 < m
    · go_wp2
      go_roundw
      case rel => exact ⟨m / 10, Dm.digit (m % 10) :: t, by go_num, str_eq (app_lists _ _), hq.alloc _, by omega, by rw [H2.out, Dm.dgz_pos _ (by omega), HS.out]; simp⟩
      case measure => simp [intOf]; omega
    · have e : m = 0 := by omega
      subst e
      have hf : Dm.num v = t := by rw [H2.out]; rfl
      have HF := Lib.hid hf
      clear hf
      go_wp2
      go_ret
      exact ⟨by rw [HF.out]; rfl, hq⟩

/-- as the walks ask for them. -/
theorem num_any (a : Int) (w : World) (h0 : 0 ≤ a) (h1 : a < 18446744073709551616) :
    Calls Try.prog 33 #[.int .u64 a] w fun e w' => e = .returned (.string ⟨(Dm.num a.toNat).toArray⟩) ∧ Q w w' := by
  obtain ⟨n, rfl⟩ := Int.eq_ofNat_of_zero_le h0
  exact num_nat n w (by omega)
theorem refNum_any (a : Int) (w : World) (h0 : 0 ≤ a) (h1 : a < 18446744073709551616) :
    Calls Try.prog 37 #[.int .u64 a] w fun e w' => e = .returned (.string ⟨(Dm.num a.toNat).toArray⟩) ∧ Q w w' := by
  obtain ⟨n, rfl⟩ := Int.eq_ofNat_of_zero_le h0
  exact refNum_nat n w (by omega)

set_option maxHeartbeats 400000 in
theorem text_any (s : ByteArray) (w : World) (hs : s.size ≤ 4611686018427387904) :
    Calls Try.prog 34 #[.string s] w fun e w' => e = .returned (.string ⟨(Dm.num s.size ++ s.data.toList).toArray⟩) ∧ Q w w' := by
  have hn := Dm.num_length s.size (by omega)
  go_enter Try.func34, Try.ntmps34
  go_wp2_with fail
  refine (num_any _ _ (by omega) (by omega)).mono ?_
  rintro e w1 ⟨rfl, q1⟩
  go_wp2_with fail
  go_ret
  exact ⟨ret_str (app_list _ _), q1⟩

set_option maxHeartbeats 400000 in
theorem refText_any (s : ByteArray) (w : World) (hs : s.size ≤ 4611686018427387904) :
    Calls Try.prog 38 #[.string s] w fun e w' => e = .returned (.string ⟨(Dm.num s.size ++ s.data.toList).toArray⟩) ∧ Q w w' := by
  have hn := Dm.num_length s.size (by omega)
  go_enter Try.func38, Try.ntmps38
  go_wp2_with fail
  refine (refNum_any _ _ (by omega) (by omega)).mono ?_
  rintro e w1 ⟨rfl, q1⟩
  go_wp2_with fail
  go_ret
  exact ⟨ret_str (app_list _ _), q1⟩
end Go.Proofs.Ytlbjobbmjccekaa

/- Contracts of Seal, the document's own, and the examples. -/
namespace Go.Proofs.Ytlbjobbmjccekaa
set_option maxRecDepth 100000
open Go.RowKit
set_option linter.unusedVariables false

/-- a text with its sum. -/
def sld (l : List UInt8) : List UInt8 := Dm.num l.length ++ l ++ Dm.num (Sm.adler l).toNat
theorem sld_length (l : List UInt8) (h : l.length ≤ 4611686018427387904) : (sld l).length ≤ l.length + 42 := by
  have h1 := Dm.num_length l.length (by omega)
  have h2 := Sm.adler_range l
  have h3 := Dm.num_length (Sm.adler l).toNat (by omega)
  unfold sld; simp only [List.length_append]; omega

theorem ex_nil : Sm.adler [] = 1 := by decide
theorem ex_a : Sm.adler [97] = 6422626 := by decide
theorem ex_sld : sld [97] = [49, 59, 97, 54, 52, 50, 50, 54, 50, 54, 59] := by
  unfold sld Dm.num
  rw [ex_a]
  have e1 : Dm.dg 1 = [49] := by rw [Dm.dg]; rfl
  have f0 : Dm.dg 6 = [54] := by rw [Dm.dg]; rfl
  have f1 : Dm.dg 64 = [54, 52] := by rw [Dm.dg, if_neg (by omega), show 64 / 10 = 6 from rfl, f0]; rfl
  have f2 : Dm.dg 642 = [54, 52, 50] := by rw [Dm.dg, if_neg (by omega), show 642 / 10 = 64 from rfl, f1]; rfl
  have f3 : Dm.dg 6422 = [54, 52, 50, 50] := by rw [Dm.dg, if_neg (by omega), show 6422 / 10 = 642 from rfl, f2]; rfl
  have f4 : Dm.dg 64226 = [54, 52, 50, 50, 54] := by rw [Dm.dg, if_neg (by omega), show 64226 / 10 = 6422 from rfl, f3]; rfl
  have f5 : Dm.dg 642262 = [54, 52, 50, 50, 54, 50] := by rw [Dm.dg, if_neg (by omega), show 642262 / 10 = 64226 from rfl, f4]; rfl
  have f6 : Dm.dg 6422626 = [54, 52, 50, 50, 54, 50, 54] := by rw [Dm.dg, if_neg (by omega), show 6422626 / 10 = 642262 from rfl, f5]; rfl
  rw [show (6422626 : Int).toNat = 6422626 from rfl, f6, show ([97] : List UInt8).length = 1 from rfl, e1]; rfl

end Go.Proofs.Ytlbjobbmjccekaa

/- Plain mathematics of package dec: what is taken. Nothing of the program. -/
namespace Go.Proofs.Ytlbjobbmjccekaa.Dm
set_option maxRecDepth 100000

/-! ### Taking a number -/
def maxU : Nat := 18446744073709551615
theorem maxU_eq : maxU = 18446744073709551615 := rfl
/-- the figures at the beginning of a text, and what stands behind them. -/
def figs (l : List UInt8) : List UInt8 := l.takeWhile isD
def rest (l : List UInt8) : List UInt8 := l.dropWhile isD
/-- figures that no number's bytes begin with. -/
def bad (l : List UInt8) : Bool := (decide (1 < (figs l).length) && l.head? == some 48) || decide (maxU < val (figs l))
/-- what is taken: the number, what stands behind it, and the errno. -/
def tnum (l : List UInt8) : Nat × List UInt8 × Nat :=
  if bad l = true then (0, [], 3)
  else if rest l = [] then (0, [], 2)
  else if (rest l).head? ≠ some 59 ∨ figs l = [] then (0, [], 3)
  else (val (figs l), (rest l).tail, 0)

theorem figs_rest (l : List UInt8) : figs l ++ rest l = l := List.takeWhile_append_dropWhile
theorem figs_len (l : List UInt8) : (figs l).length ≤ l.length := by
  have := congrArg List.length (figs_rest l)
  rw [List.length_append] at this; omega
theorem rest_eq (l : List UInt8) : rest l = l.drop (figs l).length := by
  have h := List.drop_left (l₁ := figs l) (l₂ := rest l)
  rw [figs_rest] at h; exact h.symm
theorem figs_eq (l : List UInt8) : figs l = l.take (figs l).length := by
  have h := List.take_left (l₁ := figs l) (l₂ := rest l)
  rw [figs_rest] at h; exact h.symm
theorem figs_all (l : List UInt8) : ∀ c ∈ figs l, isD c = true := List.all_eq_true.1 List.all_takeWhile

/-- how far the figures go: n of them, and then the end or another byte. -/
theorem figs_of (l : List UInt8) (n : Nat) (h1 : n ≤ l.length) (h2 : ∀ i (h : i < n), isD (l[i]'(by omega)) = true) (h3 : n = l.length ∨ ∃ h : n < l.length, isD l[n] = false) :
    figs l = l.take n := by
  induction l generalizing n with
  | nil => simp [figs]
  | cons c l ih =>
    cases n with
    | zero =>
      rcases h3 with h3 | ⟨_, h3⟩
      · simp at h3
      · simp at h3; simp [figs, h3]
    | succ n =>
      have hc : isD c = true := h2 0 (by omega)
      have := ih n (by simpa using h1) (fun i h => by have := h2 (i + 1) (by omega); simpa using this) (by
        rcases h3 with h3 | ⟨a, h3⟩
        · left; simpa using h3
        · right; exact ⟨by simpa using a, by simpa using h3⟩)
      unfold figs at this ⊢
      rw [List.takeWhile_cons, if_pos hc, this]; simp

theorem val_foldl (l : List UInt8) : ∀ a : Nat, l.foldl (fun v c => 10 * v + dv c) a = a * 10 ^ l.length + val l := by
  induction l with
  | nil => intro a; simp [val]
  | cons c l ih =>
    intro a
    simp only [List.foldl_cons, val, List.length_cons]
    rw [ih, ih (10 * 0 + dv c), Nat.pow_succ]
    grind
theorem val_append (a b : List UInt8) : val (a ++ b) = val a * 10 ^ b.length + val b := by
  show (a ++ b).foldl _ 0 = _
  rw [List.foldl_append, val_foldl]; rfl
theorem val_le_append (a b : List UInt8) : val a ≤ val (a ++ b) := by
  rw [val_append]
  have h1 : 1 ≤ 10 ^ b.length := Nat.pow_pos (by omega)
  have h2 : val a * 1 ≤ val a * 10 ^ b.length := Nat.mul_le_mul_left _ h1
  omega
theorem val_cons (c : UInt8) (l : List UInt8) : val (c :: l) = dv c * 10 ^ l.length + val l := by
  show l.foldl _ (10 * 0 + dv c) = _
  rw [val_foldl]; simp
/-- figures that don't begin with nought, and are more than twenty, tell a number that is too great. -/
theorem val_big (l : List UInt8) (c : UInt8) (r : List UInt8) (e : l = c :: r) (hc : isD c = true) (h0 : c.toNat ≠ 48) (hl : 20 < l.length) : maxU < val l := by
  subst e
  rw [val_cons]
  have h1 : 1 ≤ dv c := by rw [isD_iff] at hc; unfold dv; omega
  have h2 : 10 ^ 20 ≤ 10 ^ r.length := Nat.pow_le_pow_right (by omega) (by simp at hl; omega)
  have h3 : 1 * 10 ^ r.length ≤ dv c * 10 ^ r.length := Nat.mul_le_mul_right _ h1
  unfold maxU
  omega

/-! ### Taking a text -/
def ttext (l : List UInt8) (most : Int) : List UInt8 × List UInt8 × Nat :=
  if (tnum l).2.2 ≠ 0 then ([], [], (tnum l).2.2)
  else if most < 0 ∨ most < ((tnum l).1 : Int) then ([], [], 4)
  else if (tnum l).2.1.length < (tnum l).1 then ([], [], 2)
  else ((tnum l).2.1.take (tnum l).1, (tnum l).2.1.drop (tnum l).1, 0)

theorem tnum_len (l : List UInt8) : (tnum l).2.1.length ≤ l.length := by
  have h := congrArg List.length (figs_rest l)
  rw [List.length_append] at h
  unfold tnum
  split
  · simp
  · split
    · simp
    · split
      · simp
      · simp; omega
theorem tnum_le (l : List UInt8) : (tnum l).1 ≤ maxU := by
  unfold tnum
  split
  · simp
  · rename_i hb
    split
    · simp
    · split
      · simp
      · simp only [bad, Bool.or_eq_true, Bool.and_eq_true, decide_eq_true_eq, not_or] at hb
        simp only; omega
theorem tnum_err (l : List UInt8) : (tnum l).2.2 = 0 ∨ (tnum l).2.2 = 2 ∨ (tnum l).2.2 = 3 := by
  unfold tnum
  split
  · simp
  · split
    · simp
    · split <;> simp

/-! ### What was written is taken -/
theorem figs_num (v : Nat) (r : List UInt8) : figs (num v ++ r) = dg v ∧ rest (num v ++ r) = 59 :: r := by
  have h59 : isD 59 = false := by decide
  have e : num v ++ r = dg v ++ 59 :: r := by simp [num]
  have h1 : figs (num v ++ r) = dg v := by
    rw [e]; unfold figs
    rw [List.takeWhile_append_of_pos (all_dg v)]
    simp [h59]
  refine ⟨h1, ?_⟩
  rw [rest_eq, h1, e]; simp
theorem head_num (v : Nat) (h : 1 < (dg v).length) : ∀ r, (dg v ++ r).head? ≠ some 48 := by
  intro r
  have hv : 10 ≤ v := by
    rcases Nat.lt_or_ge v 10 with a | a
    · rw [dg, if_pos a] at h; simp at h
    · exact a
  cases hd : dg v with
  | nil => exact absurd hd (dg_ne v)
  | cons c t =>
    have := head_dg v hv c t hd
    simp
    intro e; subst e; exact this (by decide)
theorem tnum_num (v : Nat) (r : List UInt8) (hv : v ≤ maxU) : tnum (num v ++ r) = (v, r, 0) := by
  obtain ⟨h1, h2⟩ := figs_num v r
  have hb : bad (num v ++ r) = false := by
    unfold bad
    rw [h1, val_dg]
    by_cases hl : 1 < (dg v).length
    · have := head_num v hl (59 :: r)
      rw [show num v ++ r = dg v ++ 59 :: r from by simp [num], beq_eq_false_iff_ne.2 this]
      simp; omega
    · rw [decide_eq_false hl]; simp; omega
  unfold tnum
  rw [hb, h1, h2, val_dg]
  simp [dg_ne v]
/-- no beginning of it is. -/
theorem tnum_cut (v : Nat) (hv : v ≤ maxU) (k : Nat) (hk : k < (num v).length) : tnum ((num v).take k) = (0, [], 2) := by
  have hk' : k ≤ (dg v).length := by simp [num] at hk; omega
  have e : (num v).take k = (dg v).take k := by
    unfold num; rw [List.take_append_of_le_length hk']
  rw [e]
  have hall : ∀ c ∈ (dg v).take k, isD c = true := fun c hc => all_dg v c (List.mem_of_mem_take hc)
  have h1 : figs ((dg v).take k) = (dg v).take k := by
    have := figs_of ((dg v).take k) ((dg v).take k).length (Nat.le_refl _) (fun i h => hall _ (List.getElem_mem _)) (.inl rfl)
    rw [this, List.take_length]
  have h2 : rest ((dg v).take k) = [] := by rw [rest_eq, h1]; simp
  have hb : bad ((dg v).take k) = false := by
    unfold bad
    rw [h1]
    have hle : val ((dg v).take k) ≤ v := by
      have := val_le_append ((dg v).take k) ((dg v).drop k)
      rw [List.take_append_drop, val_dg] at this; exact this
    have hd : decide (maxU < val ((dg v).take k)) = false := by simp; omega
    rw [hd, Bool.or_false]
    by_cases hl : 1 < ((dg v).take k).length
    · have hl' : 1 < (dg v).length := by rw [List.length_take] at hl; omega
      have := head_num v hl' []
      rw [List.append_nil] at this
      have e2 : ((dg v).take k).head? = (dg v).head? := by
        cases hd2 : dg v with
        | nil => simp
        | cons c t => cases k with
          | zero => simp at hl
          | succ k => simp
      rw [e2, beq_eq_false_iff_ne.2 this, Bool.and_false]
    · rw [decide_eq_false hl, Bool.false_and]
  unfold tnum
  rw [hb, h2]; simp

theorem ttext_text (s r : List UInt8) (most : Int) (h : s.length ≤ maxU) (hm : (s.length : Int) ≤ most) : ttext (num s.length ++ (s ++ r)) most = (s, r, 0) := by
  unfold ttext
  rw [tnum_num _ _ h]
  simp only [List.length_append]
  rw [if_neg (by simp), if_neg (by omega), if_neg (by omega)]
  simp
theorem ttext_big (s r : List UInt8) (most : Int) (h : s.length ≤ maxU) (hm : most < (s.length : Int)) : ttext (num s.length ++ (s ++ r)) most = ([], [], 4) := by
  unfold ttext
  rw [tnum_num _ _ h]
  rw [if_neg (by simp), if_pos (.inr hm)]
theorem ttext_cut (s : List UInt8) (most : Int) (h : s.length ≤ maxU) (hm : (s.length : Int) ≤ most) (k : Nat) (hk : k < (num s.length ++ s).length) : ttext ((num s.length ++ s).take k) most = ([], [], 2) := by
  rcases Nat.lt_or_ge k (num s.length).length with a | a
  · rw [List.take_append_of_le_length (by omega)]
    unfold ttext
    rw [tnum_cut _ h k a]
    simp
  · rw [List.take_append, List.take_of_length_le a]
    unfold ttext
    rw [tnum_num _ _ h]
    rw [List.length_append] at hk
    rw [if_neg (by simp), if_neg (by simp; omega), if_pos (by simp only [List.length_take]; omega)]

/-- figures that stand there are among the figures. -/
theorem figs_ge (l : List UInt8) (m : Nat) (h1 : m ≤ l.length) (h2 : ∀ i (h : i < m), isD (l[i]'(by omega)) = true) : ∃ t, figs l = l.take m ++ t := by
  have hall : ∀ c ∈ l.take m, isD c = true := by
    intro c hc
    obtain ⟨i, hi, rfl⟩ := List.mem_iff_getElem.1 hc
    rw [List.length_take] at hi
    rw [List.getElem_take]
    exact h2 i (by omega)
  refine ⟨(l.drop m).takeWhile isD, ?_⟩
  unfold figs
  conv => lhs; rw [← List.take_append_drop m l]
  rw [List.takeWhile_append_of_pos hall]
theorem bad_zero (l : List UInt8) (k : Nat) (h0 : 0 < k) (h1 : k < l.length) (h2 : ∀ i (h : i < k + 1), isD (l[i]'(by omega)) = true) (h3 : l.head? = some 48) : bad l = true := by
  obtain ⟨t, ht⟩ := figs_ge l (k + 1) h1 h2
  have hl : 1 < (figs l).length := by rw [ht, List.length_append, List.length_take]; omega
  unfold bad; rw [decide_eq_true hl, h3]; rfl
theorem bad_big (l : List UInt8) (k : Nat) (h1 : k < l.length) (h2 : ∀ i (h : i < k + 1), isD (l[i]'(by omega)) = true) (h3 : maxU < val (l.take (k + 1))) : bad l = true := by
  obtain ⟨t, ht⟩ := figs_ge l (k + 1) h1 h2
  have hv : maxU < val (figs l) := by rw [ht]; exact Nat.lt_of_lt_of_le h3 (val_le_append _ _)
  unfold bad; rw [decide_eq_true hv, Bool.or_true]
theorem bad_not (l : List UInt8) (k : Nat) (e : figs l = l.take k) (hk : k ≤ l.length) (h1 : 1 < k → l.head? ≠ some 48) (h2 : val (l.take k) ≤ maxU) : bad l = false := by
  unfold bad
  rw [e, decide_eq_false (show ¬ maxU < val (l.take k) by omega), Bool.or_false, List.length_take, Nat.min_eq_left hk]
  by_cases h : 1 < k
  · rw [beq_eq_false_iff_ne.2 (h1 h), Bool.and_false]
  · rw [decide_eq_false h, Bool.false_and]
end Go.Proofs.Ytlbjobbmjccekaa.Dm

/- Contracts of package dec's TakeNum, TakeText and of the document's own. -/
namespace Go.Proofs.Ytlbjobbmjccekaa
set_option maxRecDepth 100000
open Go.RowKit
set_option linter.unusedVariables false

theorem take_snoc' (s : ByteArray) (k : Nat) (h : k < s.size) : s.data.toList.take (k + 1) = s.data.toList.take k ++ [s[k]] := by
  rw [List.take_succ_eq_append_getElem (by simpa using h)]; rfl
theorem get_list (s : ByteArray) (k : Nat) (h : k < s.data.toList.length) : s.data.toList[k] = s[k]'(by rw [← size_list]; exact h) := rfl
theorem head_list (s : ByteArray) (h : 0 < s.size) : s.data.toList.head? = some s[0] := by
  rw [List.head?_eq_getElem?, List.getElem?_eq_getElem (by rw [size_list]; exact h)]; rfl

def figV (l : List UInt8) : Value := if Dm.bad l = true then .tuple #[.int .u64 0, .int .i64 0, .bool false] else .tuple #[.int .u64 (Dm.val (Dm.figs l)), .int .i64 ((Dm.figs l).length : Int), .bool true]

theorem figV_end (l : List UInt8) (k : Nat) (hk : k ≤ l.length) (hd : ∀ i (h : i < k) (h' : i < l.length), Dm.isD l[i] = true) (h3 : k = l.length ∨ ∃ h : k < l.length, Dm.isD l[k] = false)
    (hv : Dm.val (l.take k) ≤ Dm.maxU) (hz : 1 < k → l.head? ≠ some 48) : figV l = .tuple #[.int .u64 (Dm.val (l.take k)), .int .i64 (k : Int), .bool true] := by
  have e := Dm.figs_of l k hk (fun i h => hd i h (by omega)) h3
  have hb := Dm.bad_not l k e hk hz hv
  unfold figV
  rw [hb, e, if_neg (by simp), List.length_take, Nat.min_eq_left hk]
theorem figV_bad (l : List UInt8) (h : Dm.bad l = true) : figV l = .tuple #[.int .u64 0, .int .i64 0, .bool false] := by unfold figV; rw [if_pos h]

set_option maxHeartbeats 400000 in
theorem figures_any (s : ByteArray) (w : World) (hs : s.size ≤ maxLen) :
    Calls Try.prog 78 #[.string s] w fun e w' => e = .returned (figV s.data.toList) ∧ w = w' := by
  unfold maxLen at hs
  go_enter Try.func78, Try.ntmps78
  go_wp2
  go_step3
  go_wp2
  go_step3
  go_wp2
  go_loop [2, 3] (fun v n => ∃ k : Nat, k ≤ s.size ∧ n = .int .i64 k ∧ v = .int .u64 (Dm.val (s.data.toList.take k)) ∧ Dm.val (s.data.toList.take k) ≤ Dm.maxU ∧ (∀ i (h : i < k) (h' : i < s.data.toList.length), Dm.isD s.data.toList[i] = true) ∧ (1 < k → s.data.toList.head? ≠ some 48)) (fun _ n => s.size - (intOf n).toNat)
  case atStart => exact ⟨0, Nat.zero_le _, rfl, rfl, Nat.zero_le _, fun i h => absurd h (by omega), fun h => absurd h (by omega)⟩
  case round =>
    obtain ⟨k, hk, rfl, rfl, hv, hd, hz⟩ := hrel
    have HD := Lib.hid hd
    have HZ := Lib.hid hz
    clear hd hz
    have hv' : Dm.val (s.data.toList.take k) ≤ 18446744073709551615 := hv
    by_cases hlt : k < s.size
    · have hts := take_snoc' s k hlt
      have e1 := Dm.val_snoc (s.data.toList.take k) s[k]
      rw [← hts] at e1
      have H1 := Lib.hid e1
      clear e1 hts hv
      generalize hA : Dm.val (s.data.toList.take k) = A at *
      have HA := Lib.hid hA
      clear hA
      have hkl : k < s.data.toList.length := by rw [size_list]; exact hlt
      by_cases c0 : s[k].toNat < 48
      · have hfin := figV_end s.data.toList k (by omega) HD.out (.inr ⟨hkl, by rw [get_list]; unfold Dm.isD; rw [decide_eq_false (show ¬ 48 ≤ s[k].toNat by omega)]; rfl⟩) (by rw [HA.out]; exact hv') HZ.out
        rw [HA.out] at hfin
        have HF := Lib.hid hfin
        clear hfin
        go_wp2
        rw [HF.out]
        go_ret3
        exact ⟨rfl, rfl⟩
      have c0' : 48 ≤ s[k].toNat := by omega
      clear c0
      by_cases c1 : 57 < s[k].toNat
      · have hfin := figV_end s.data.toList k (by omega) HD.out (.inr ⟨hkl, by rw [get_list]; unfold Dm.isD; rw [decide_eq_false (show ¬ s[k].toNat ≤ 57 by omega), Bool.and_false]⟩) (by rw [HA.out]; exact hv') HZ.out
        rw [HA.out] at hfin
        have HF := Lib.hid hfin
        clear hfin
        go_wp2
        rw [HF.out]
        go_ret3
        exact ⟨rfl, rfl⟩
      have c1' : s[k].toNat ≤ 57 := by omega
      clear c1
      have hd' : ∀ i (h : i < k + 1) (h' : i < s.data.toList.length), Dm.isD s.data.toList[i] = true := by
        intro i h h'
        rcases Nat.lt_or_ge i k with a | a
        · exact HD.out i a h'
        · obtain rfl : i = k := by omega
          rw [get_list, Dm.isD_iff]; omega
      have HD' := Lib.hid hd'
      clear hd'
      by_cases c2 : 0 < k ∧ s[0].toNat = 48
      · obtain ⟨c2, c3⟩ := c2
        have hfin := figV_bad s.data.toList (Dm.bad_zero s.data.toList k c2 hkl (fun i h => HD'.out i h (by omega)) (by rw [head_list s (by omega)]; congr 1; exact UInt8.toNat_inj.1 c3))
        have HF := Lib.hid hfin
        have hb : ((s[0].toNat : Int) == 48) = true := by simp; omega
        clear hfin c3
        go_wp2
        (try rw [Exit.noGoto_ret])
        go_ret3
        exact ⟨by rw [HF.out]; rfl, rfl⟩
      have hdv : Dm.dv s[k] = s[k].toNat - 48 := rfl
      have HDV := Lib.hid hdv
      clear hdv
      have C2 := Lib.hid c2
      clear c2
      by_cases c4 : 18446744073709551615 < 10 * A + (s[k].toNat - 48)
      · have hfin := figV_bad s.data.toList (Dm.bad_big s.data.toList k hkl (fun i h => HD'.out i h (by omega)) (by rw [H1.out, HDV.out]; exact c4))
        have HF := Lib.hid hfin
        clear hfin
        have c4' : (18446744073709551615 - ((s[k].toNat : Int) - 48)) / 10 < (A : Int) := by omega
        clear c4
        by_cases c5 : k = 0
        · subst c5
          go_wp2
          (try rw [Exit.noGoto_ret])
          go_ret3
          exact ⟨by rw [HF.out]; rfl, rfl⟩
        · have c5' : 0 < k := by omega
          have hb : ((s[0].toNat : Int) == 48) = false := by
            have := C2.out
            simp; omega
          clear c5
          go_wp2
          (try rw [Exit.noGoto_ret])
          go_ret3
          exact ⟨by rw [HF.out]; rfl, rfl⟩
      have c4' : (A : Int) ≤ (18446744073709551615 - ((s[k].toNat : Int) - 48)) / 10 := by omega
      have c6 : (A : Int) * 10 + ((s[k].toNat : Int) - 48) ≤ 18446744073709551615 := by omega
      have hnew : ((10 * A + (s[k].toNat - 48) : Nat) : Int) = (A : Int) * 10 + ((s[k].toNat : Int) - 48) := by omega
      have HN := Lib.hid hnew
      have C4 := Lib.hid c4
      clear c4 hnew
      by_cases c5 : k = 0
      · subst c5
        go_wp2
        go_round
        case rel => exact ⟨0 + 1, by omega, by go_num, by rw [H1.out, HDV.out, HN.out], by rw [H1.out, HDV.out]; have := C4.out; unfold Dm.maxU; omega, HD'.out, fun h => absurd h (by omega)⟩
        case measure => simp [intOf]; omega
      · have c5' : 0 < k := by omega
        have hb : ((s[0].toNat : Int) == 48) = false := by
          have := C2.out
          simp; omega
        clear c5
        have hh : 1 < k + 1 → s.data.toList.head? ≠ some 48 := by
          intro _ e
          rw [head_list s (by omega)] at e
          injection e with e
          have := C2.out
          rw [e] at this
          exact this ⟨c5', by decide⟩
        have HH := Lib.hid hh
        clear hh
        go_wp2
        go_round
        case rel => exact ⟨k + 1, by omega, by go_num, by rw [H1.out, HDV.out, HN.out], by rw [H1.out, HDV.out]; have := C4.out; unfold Dm.maxU; omega, HD'.out, HH.out⟩
        case measure => simp [intOf]; omega
    · have hfin := figV_end s.data.toList k (by rw [size_list]; exact hk) HD.out (.inl (by rw [size_list]; omega)) hv HZ.out
      have HF := Lib.hid hfin
      clear hfin
      generalize Dm.val (s.data.toList.take k) = A at *
      go_wp2
      rw [HF.out]
      go_ret3
      exact ⟨rfl, rfl⟩
end Go.Proofs.Ytlbjobbmjccekaa

/- Contracts of package dec's TakeNum, above, TakeText. -/
namespace Go.Proofs.Ytlbjobbmjccekaa
set_option maxRecDepth 100000
open Go.RowKit
set_option linter.unusedVariables false

theorem extract_list (s : ByteArray) (a b : Nat) : s.extract a b = ⟨((s.data.toList.take b).drop a).toArray⟩ := by
  apply ByteArray.ext
  rw [ByteArray.data_extract]
  apply Array.ext'
  simp [List.extract_eq_take_drop, List.drop_take]

def tnR (r : Nat × List UInt8 × Nat) : Value := .tuple #[.int .u64 (r.1 : Int), .string ⟨r.2.1.toArray⟩, .int .i64 (r.2.2 : Int)]

set_option maxHeartbeats 400000 in
theorem takeNum_any (s : ByteArray) (w : World) (hs : s.size ≤ maxLen) :
    Calls Try.prog 64 #[.string s] w fun e w' => e = .returned (tnR (Dm.tnum s.data.toList)) ∧ Q w w' := by
  by_cases hb : Dm.bad s.data.toList = true
  · have hf := figV_bad _ hb
    have ht : Dm.tnum s.data.toList = (0, [], 3) := by unfold Dm.tnum; rw [if_pos hb]
    have HF := Lib.hid hf
    have HT := Lib.hid ht
    clear hf ht hb
    go_enter Try.func64, Try.ntmps64
    go_wp2_with fail
    refine (figures_any _ _ hs).mono ?_
    rintro e w1 ⟨rfl, rfl⟩
    rw [HF.out]
    go_wp2_with fail
    go_ret3
    exact ⟨by rw [HT.out]; rfl, Q.refl _⟩
  have hf : figV s.data.toList = .tuple #[.int .u64 (Dm.val (Dm.figs s.data.toList)), .int .i64 ((Dm.figs s.data.toList).length : Int), .bool true] := by unfold figV; rw [if_neg hb]
  have hle : (Dm.figs s.data.toList).length ≤ s.size := by have := Dm.figs_len s.data.toList; rw [size_list] at this; exact this
  have hrest := Dm.rest_eq s.data.toList
  have htn : Dm.tnum s.data.toList = if Dm.rest s.data.toList = [] then (0, [], 2) else if (Dm.rest s.data.toList).head? ≠ some 59 ∨ Dm.figs s.data.toList = [] then (0, [], 3) else (Dm.val (Dm.figs s.data.toList), (Dm.rest s.data.toList).tail, 0) := by
    unfold Dm.tnum; rw [if_neg hb]
  have HF := Lib.hid hf
  have HR := Lib.hid hrest
  have HT := Lib.hid htn
  have hnil : Dm.figs s.data.toList = [] ↔ (Dm.figs s.data.toList).length = 0 := List.length_eq_zero_iff.symm
  have HNIL := Lib.hid hnil
  have hval : Dm.val (Dm.figs s.data.toList) ≤ 18446744073709551615 := by
    have : Dm.bad s.data.toList = false := by simpa using hb
    unfold Dm.bad at this
    simp only [Bool.or_eq_false_iff, decide_eq_false_iff_not] at this
    have h2 := this.2
    unfold Dm.maxU at h2; omega
  clear hf hrest htn hb hnil
  generalize hN : (Dm.figs s.data.toList).length = n at *
  generalize hV : Dm.val (Dm.figs s.data.toList) = v at *
  unfold maxLen at hs
  by_cases c0 : n = s.size
  · have ht : Dm.tnum s.data.toList = (0, [], 2) := by
      rw [HT.out, if_pos (by rw [HR.out]; exact List.drop_of_length_le (by rw [size_list]; omega))]
    have HT2 := Lib.hid ht
    have hbeq : ((n : Int) == (s.size : Int)) = true := by simp; omega
    clear hN hV c0 ht
    go_enter Try.func64, Try.ntmps64
    go_wp2_with fail
    refine (figures_any _ _ (by unfold maxLen; omega)).mono ?_
    rintro e w1 ⟨rfl, rfl⟩
    rw [HF.out]
    go_wp2_with fail
    go_ret3
    exact ⟨by rw [HT2.out]; rfl, Q.refl _⟩
  have hlt : n < s.size := by omega
  have hbeq : ((n : Int) == (s.size : Int)) = false := by simp; omega
  have hrs : Dm.rest s.data.toList = s[n] :: s.data.toList.drop (n + 1) := by
    rw [HR.out, List.drop_eq_getElem_cons (by rw [size_list]; exact hlt)]; rfl
  have HRS := Lib.hid hrs
  clear hN hV c0 hrs
  by_cases c1 : s[n].toNat = 59
  · have h59 : s[n] = 59 := UInt8.toNat_inj.1 (by rw [c1]; rfl)
    have hne : ((s[n].toNat : Int) != 59) = false := by simp; omega
    clear c1
    by_cases c2 : n = 0
    · have ht : Dm.tnum s.data.toList = (0, [], 3) := by
        rw [HT.out, HRS.out, if_neg (by simp), if_pos (.inr (HNIL.out.2 c2))]
      have HT2 := Lib.hid ht
      have h0 : ((n : Int) == 0) = true := by simp; omega
      clear ht c2 h59
      go_enter Try.func64, Try.ntmps64
      go_wp2_with fail
      refine (figures_any _ _ (by unfold maxLen; omega)).mono ?_
      rintro e w1 ⟨rfl, rfl⟩
      rw [HF.out]
      go_wp2_with fail
      go_ret3
      exact ⟨by rw [HT2.out]; rfl, Q.refl _⟩
    · have ht : Dm.tnum s.data.toList = (v, s.data.toList.drop (n + 1), 0) := by
        rw [HT.out, HRS.out, if_neg (by simp), if_neg (by rw [h59]; simp; exact fun e => c2 (HNIL.out.1 e))]; rfl
      have HT2 := Lib.hid ht
      have h0 : ((n : Int) == 0) = false := by simp; omega
      have he := extract_list s (n + 1) s.size
      rw [List.take_of_length_le (by rw [size_list]; omega)] at he
      have HE := Lib.hid he
      have e1 : IntKind.i64.wrap ((n : Int) + 1) = (n : Int) + 1 := IntWalk.i64_in _ (by omega)
      have e2 : 0 ≤ (n : Int) + 1 := by omega
      have e3 : ((n : Int) + 1).toNat = n + 1 := by omega
      have e4 : (n : Int) + 1 ≤ (s.size : Int) := by omega
      clear ht c2 h59 he
      go_enter Try.func64, Try.ntmps64
      go_wp2_with fail
      refine (figures_any _ _ (by unfold maxLen; omega)).mono ?_
      rintro e w1 ⟨rfl, rfl⟩
      rw [HF.out]
      go_wp2_with fail
      go_quiet (fail)
      go_wp2_with fail
      go_ret3
      refine ⟨?_, (Q.refl _).drewN _⟩
      rw [HT2.out]; unfold tnR
      simp only [← HE.out]; rfl
  · have h59 : s[n] ≠ 59 := fun e => c1 (by rw [e]; rfl)
    have ht : Dm.tnum s.data.toList = (0, [], 3) := by
      rw [HT.out, HRS.out, if_neg (by simp), if_pos (.inl (by simpa using h59))]
    have hne : ((s[n].toNat : Int) != 59) = true := by simp; omega
    have HT2 := Lib.hid ht
    clear ht c1 h59
    go_enter Try.func64, Try.ntmps64
    go_wp2_with fail
    refine (figures_any _ _ (by unfold maxLen; omega)).mono ?_
    rintro e w1 ⟨rfl, rfl⟩
    rw [HF.out]
    go_wp2_with fail
    go_ret3
    exact ⟨by rw [HT2.out]; rfl, Q.refl _⟩

set_option maxHeartbeats 400000 in
theorem above_yes (v b : Int) (w : World) (h0 : 0 ≤ v) (h1 : v ≤ 18446744073709551615) (h2 : -9223372036854775808 ≤ b) (h3 : b ≤ 9223372036854775807) (h : b < 0 ∨ b < v) :
    Calls Try.prog 79 #[.int .u64 v, .int .i64 b] w fun e w' => e = .returned (.bool true) ∧ w = w' := by
  by_cases c : b < 0
  · have d : decide (b < 0) = true := by simpa using c
    clear h
    go_enter Try.func79, Try.ntmps79
    go_wp2
    go_ret
    exact ⟨rfl, rfl⟩
  · have c' : 0 ≤ b := by omega
    have d : decide (b < 0) = false := by simpa using c'
    have e : b < v := by omega
    have d2 : decide (b < v) = true := by simpa using e
    clear h c
    go_enter Try.func79, Try.ntmps79
    go_wp2
    go_ret
    exact ⟨rfl, rfl⟩
set_option maxHeartbeats 400000 in
theorem above_no (v b : Int) (w : World) (h0 : 0 ≤ v) (h1 : v ≤ 18446744073709551615) (h2 : 0 ≤ b) (h3 : b ≤ 9223372036854775807) (h : v ≤ b) :
    Calls Try.prog 79 #[.int .u64 v, .int .i64 b] w fun e w' => e = .returned (.bool false) ∧ w = w' := by
  have d : decide (b < 0) = false := by simpa using h2
  have d2 : decide (b < v) = false := by simpa using h
  go_enter Try.func79, Try.ntmps79
  go_wp2
  go_ret
  exact ⟨rfl, rfl⟩

def ttR (r : List UInt8 × List UInt8 × Nat) : Value := .tuple #[.string ⟨r.1.toArray⟩, .string ⟨r.2.1.toArray⟩, .int .i64 (r.2.2 : Int)]

set_option maxHeartbeats 400000 in
theorem takeText_any (s : ByteArray) (most : Int) (w : World) (hs : s.size ≤ maxLen) (hm0 : -9223372036854775808 ≤ most) (hm1 : most ≤ 9223372036854775807) :
    Calls Try.prog 66 #[.string s, .int .i64 most] w fun e w' => e = .returned (ttR (Dm.ttext s.data.toList most)) ∧ Q w w' := by
  have hlen := Dm.tnum_len s.data.toList
  have hle := Dm.tnum_le s.data.toList
  have hcall := takeNum_any s w hs
  have htx : Dm.ttext s.data.toList most = if (Dm.tnum s.data.toList).2.2 ≠ 0 then ([], [], (Dm.tnum s.data.toList).2.2) else if most < 0 ∨ most < ((Dm.tnum s.data.toList).1 : Int) then ([], [], 4) else if (Dm.tnum s.data.toList).2.1.length < (Dm.tnum s.data.toList).1 then ([], [], 2)
    else ((Dm.tnum s.data.toList).2.1.take (Dm.tnum s.data.toList).1, (Dm.tnum s.data.toList).2.1.drop (Dm.tnum s.data.toList).1, 0) := rfl
  have herr := Dm.tnum_err s.data.toList
  generalize Dm.tnum s.data.toList = x at *
  obtain ⟨n, r, er⟩ := x
  obtain ⟨R, hR⟩ : ∃ R : ByteArray, R = ⟨r.toArray⟩ := ⟨_, rfl⟩
  have hsz : R.size = r.length := by rw [hR]; show r.toArray.size = _; simp
  have hl : R.data.toList = r := by rw [hR]
  unfold tnR at hcall
  simp only at hlen hle hcall htx herr
  rw [← hR] at hcall
  have hRle : R.size ≤ s.size := by rw [hsz]; rw [size_list] at hlen; exact hlen
  unfold maxLen at hs
  unfold Dm.maxU at hle
  have HC := Lib.hid hcall
  have HT := Lib.hid htx
  have HSZ := Lib.hid hsz
  have HL := Lib.hid hl
  clear hcall htx hsz hl hR hlen
  by_cases c0 : er = 0
  · subst c0
    clear herr
    by_cases c1 : most < 0 ∨ most < (n : Int)
    · have ht : Dm.ttext s.data.toList most = ([], [], 4) := by rw [HT.out, if_neg (by simp), if_pos c1]
      have HT2 := Lib.hid ht
      have C1 := Lib.hid c1
      clear ht c1
      go_enter Try.func66, Try.ntmps66
      go_wp2_with fail
      refine HC.out.mono ?_
      rintro e w1 ⟨rfl, q1⟩
      go_wp2_with fail
      refine (above_yes _ _ _ (by omega) (by omega) hm0 hm1 C1.out).mono ?_
      rintro e w2 ⟨rfl, rfl⟩
      go_wp2_with fail
      go_ret3
      exact ⟨by rw [HT2.out]; rfl, q1⟩
    have c1' : 0 ≤ most := by omega
    have c1'' : (n : Int) ≤ most := by omega
    by_cases c2 : R.size < n
    · have ht : Dm.ttext s.data.toList most = ([], [], 2) := by rw [HT.out, if_neg (by simp), if_neg c1, if_pos (by rw [← HSZ.out]; exact c2)]
      have HT2 := Lib.hid ht
      clear ht c1
      go_enter Try.func66, Try.ntmps66
      go_wp2_with fail
      refine HC.out.mono ?_
      rintro e w1 ⟨rfl, q1⟩
      go_wp2_with fail
      refine (above_no _ _ _ (by omega) (by omega) c1' hm1 c1'').mono ?_
      rintro e w2 ⟨rfl, rfl⟩
      go_wp2_with fail
      refine (above_yes _ _ _ (by omega) (by omega) (by omega) (by omega) (by omega)).mono ?_
      rintro e w2 ⟨rfl, rfl⟩
      go_wp2_with fail
      go_ret3
      exact ⟨by rw [HT2.out]; rfl, q1⟩
    have c2' : n ≤ R.size := by omega
    have ht : Dm.ttext s.data.toList most = (r.take n, r.drop n, 0) := by rw [HT.out, if_neg (by simp), if_neg c1, if_neg (by rw [← HSZ.out]; exact c2)]
    have he1 := extract_list R 0 n
    have he2 := extract_list R n R.size
    rw [List.take_of_length_le (by rw [size_list]; omega), HL.out] at he2
    rw [HL.out, List.drop_zero] at he1
    have HT2 := Lib.hid ht
    have HE1 := Lib.hid he1
    have HE2 := Lib.hid he2
    have e4 : (n : Int) ≤ (R.size : Int) := by omega
    clear ht c1 c2 he1 he2
    go_enter Try.func66, Try.ntmps66
    go_wp2_with fail
    refine HC.out.mono ?_
    rintro e w1 ⟨rfl, q1⟩
    go_wp2_with fail
    refine (above_no _ _ _ (by omega) (by omega) c1' hm1 c1'').mono ?_
    rintro e w2 ⟨rfl, rfl⟩
    go_wp2_with fail
    refine (above_no _ _ _ (by omega) (by omega) (by omega) (by omega) (by omega)).mono ?_
    rintro e w2 ⟨rfl, rfl⟩
    go_wp2_with fail
    go_quiet (fail)
    go_wp2_with fail
    go_ret3
    refine ⟨?_, q1.drewN _⟩
    rw [HT2.out]; unfold ttR
    simp only [← HE1.out, ← HE2.out]; rfl
  · have ht : Dm.ttext s.data.toList most = ([], [], er) := by rw [HT.out, if_pos c0]
    have HT2 := Lib.hid ht
    have hne : ((er : Int) != 0) = true := by simp; omega
    clear ht c0 herr
    go_enter Try.func66, Try.ntmps66
    go_wp2_with fail
    refine HC.out.mono ?_
    rintro e w1 ⟨rfl, q1⟩
    go_wp2_with fail
    go_ret3
    exact ⟨by rw [HT2.out]; rfl, q1⟩
end Go.Proofs.Ytlbjobbmjccekaa

/- The contract of sum.Open. -/
namespace Go.Proofs.Ytlbjobbmjccekaa
set_option maxRecDepth 100000
open Go.RowKit
set_option linter.unusedVariables false

def topen2 (s : List UInt8) (x : Nat × List UInt8 × Nat) : List UInt8 × List UInt8 × Nat :=
  if x.2.2 ≠ 0 then ([], [], x.2.2) else if (x.1 : Int) ≠ Sm.adler s then ([], [], 10) else (s, x.2.1, 0)
def topen1 (x : List UInt8 × List UInt8 × Nat) : List UInt8 × List UInt8 × Nat :=
  if x.2.2 ≠ 0 then ([], [], x.2.2) else topen2 x.1 (Dm.tnum x.2.1)
/-- what is opened: the text, what stands behind it, the errno. -/
def topen (l : List UInt8) (most : Int) : List UInt8 × List UInt8 × Nat := topen1 (Dm.ttext l most)

theorem ttext_len (l : List UInt8) (most : Int) : (Dm.ttext l most).1.length ≤ l.length ∧ (Dm.ttext l most).2.1.length ≤ l.length := by
  have h := Dm.tnum_len l
  unfold Dm.ttext
  split
  · simp
  · split
    · simp
    · split
      · simp
      · simp; omega
theorem ttext_err (l : List UInt8) (most : Int) : (Dm.ttext l most).2.2 ≤ 4 := by
  have h := Dm.tnum_err l
  unfold Dm.ttext
  split
  · simp only; omega
  · split
    · simp
    · split <;> simp

/-- a list of bytes as a text. -/
theorem bytes_of (r : List UInt8) : ∃ R : ByteArray, R = ⟨r.toArray⟩ ∧ R.size = r.length ∧ R.data.toList = r := ⟨_, rfl, by show r.toArray.size = _; simp, rfl⟩

/-! ### What was sealed is opened -/
theorem adler_maxU (l : List UInt8) : (Sm.adler l).toNat ≤ Dm.maxU := by have := Sm.adler_range l; unfold Dm.maxU; omega
theorem topen_sld (s more : List UInt8) (most : Int) (h : s.length ≤ Dm.maxU) (hm : (s.length : Int) ≤ most) : topen (sld s ++ more) most = (s, more, 0) := by
  have e : sld s ++ more = Dm.num s.length ++ (s ++ (Dm.num (Sm.adler s).toNat ++ more)) := by simp [sld]
  have hr := Sm.adler_range s
  unfold topen
  rw [e, Dm.ttext_text s _ most h hm]
  unfold topen1
  rw [if_neg (by simp)]
  simp only
  rw [Dm.tnum_num _ _ (adler_maxU s)]
  unfold topen2
  rw [if_neg (by simp), if_neg (by simp only [ne_eq, Decidable.not_not]; omega)]
theorem topen_big (s : List UInt8) (most : Int) (h : s.length ≤ Dm.maxU) (hm : most < (s.length : Int)) : topen (sld s) most = ([], [], 4) := by
  have e : sld s = Dm.num s.length ++ (s ++ Dm.num (Sm.adler s).toNat) := by simp [sld]
  unfold topen
  rw [e, Dm.ttext_big s _ most h hm]
  unfold topen1
  rw [if_pos (by simp)]
theorem topen_cut (s : List UInt8) (most : Int) (h : s.length ≤ Dm.maxU) (hm : (s.length : Int) ≤ most) (k : Nat) (hk : k < (sld s).length) : topen ((sld s).take k) most = ([], [], 2) := by
  unfold topen
  rcases Nat.lt_or_ge k (Dm.num s.length ++ s).length with a | a
  · have e : (sld s).take k = (Dm.num s.length ++ s).take k := by
      unfold sld; rw [List.take_append_of_le_length (by omega)]
    rw [e, Dm.ttext_cut s most h hm k a]
    unfold topen1
    rw [if_pos (by simp)]
  · have e : (sld s).take k = Dm.num s.length ++ (s ++ (Dm.num (Sm.adler s).toNat).take (k - (Dm.num s.length ++ s).length)) := by
      unfold sld; rw [List.take_append, List.take_of_length_le a]; simp
    rw [e, Dm.ttext_text s _ most h hm]
    unfold topen1
    rw [if_neg (by simp)]
    simp only
    have hk2 : k - (Dm.num s.length ++ s).length < (Dm.num (Sm.adler s).toNat).length := by
      unfold sld at hk; rw [List.length_append] at hk; omega
    rw [Dm.tnum_cut _ (adler_maxU s) _ hk2]
    unfold topen2
    rw [if_pos (by simp)]
end Go.Proofs.Ytlbjobbmjccekaa

/- The mathematics of package run: a row's bytes, and the row of bytes. -/
namespace Go.Proofs.Ytlbjobbmjccekaa
set_option maxRecDepth 100000
open Prm
set_option linter.unusedVariables false
set_option linter.unusedSimpArgs false
namespace Rn

def big (p : Pr) : Bool := decide (65536 < p.key.size) || decide (65536 < p.val.size)
def may (l : List Pr) : Bool := right l && !l.any big
def ptx (s : ByteArray) : List UInt8 := Dm.num s.data.toList.length ++ s.data.toList
def one (p : Pr) : List UInt8 := ptx p.key ++ ptx p.val
def flat : List Pr → List UInt8
  | [] => []
  | p :: l => one p ++ flat l
def body (l : List Pr) : List UInt8 := Dm.num l.length ++ flat l
def bytes (l : List Pr) : List UInt8 := sld (body l)
/-- n pairs, taken off r, behind those of acc. -/
def tkp : Nat → List UInt8 → List Pr → List Pr × List UInt8 × Nat
  | 0, r, acc => (acc, r, 0)
  | n + 1, r, acc =>
    if (Dm.ttext r 65536).2.2 ≠ 0 then (acc, [], (Dm.ttext r 65536).2.2)
    else if (Dm.ttext (Dm.ttext r 65536).2.1 65536).2.2 ≠ 0 then (acc, [], (Dm.ttext (Dm.ttext r 65536).2.1 65536).2.2)
    else tkp n (Dm.ttext (Dm.ttext r 65536).2.1 65536).2.1 (acc ++ [⟨⟨(Dm.ttext r 65536).1.toArray⟩, ⟨(Dm.ttext (Dm.ttext r 65536).2.1 65536).1.toArray⟩⟩])
def tkps (s : List UInt8) : List Pr × List UInt8 × Nat :=
  if (Dm.tnum s).2.2 ≠ 0 then ([], [], (Dm.tnum s).2.2) else tkp (Dm.tnum s).1 (Dm.tnum s).2.1 []
def tk2 (x : List Pr × List UInt8 × Nat) : List Pr × Nat := if x.2.2 ≠ 0 ∨ x.2.1 ≠ [] ∨ may x.1 = false then ([], 3) else (x.1, 0)
def tk1 (x : List UInt8 × List UInt8 × Nat) : List Pr × Nat := if x.2.2 ≠ 0 ∨ x.2.1 ≠ [] then ([], 3) else tk2 (tkps x.1)
/-- the row of bytes, and the errno. -/
def take (s : List UInt8) (most : Int) : List Pr × Nat := tk1 (topen s most)

theorem may_big {l : List Pr} (h : may l = true) : ∀ p ∈ l, p.key.size ≤ 65536 ∧ p.val.size ≤ 65536 := by
  intro p hp
  unfold may at h
  simp only [Bool.and_eq_true, Bool.not_eq_true', List.any_eq_false] at h
  have := h.2 p hp
  simp only [big, Bool.or_eq_true, decide_eq_true_eq, not_or] at this
  omega
theorem may_right {l : List Pr} (h : may l = true) : right l = true := by
  unfold may at h
  simp only [Bool.and_eq_true] at h
  exact h.1

theorem flat_app (l m : List Pr) : flat (l ++ m) = flat l ++ flat m := by
  induction l with
  | nil => rfl
  | cons p l ih => simp [flat, ih]
theorem flat_snoc (l : List Pr) {k : Nat} (hk : k < l.length) : flat (l.take (k + 1)) = flat (l.take k) ++ one l[k] := by
  rw [List.take_succ_eq_append_getElem hk, flat_app]; simp [flat]

theorem size_data (s : ByteArray) : s.data.toList.length = s.size := by simp
theorem mk_data (s : ByteArray) : (⟨s.data.toList.toArray⟩ : ByteArray) = s := by simp

theorem ttext_ptx (s : ByteArray) (r : List UInt8) (h : s.size ≤ 65536) : Dm.ttext (ptx s ++ r) 65536 = (s.data.toList, r, 0) := by
  unfold ptx
  rw [List.append_assoc]
  exact Dm.ttext_text _ r 65536 (by rw [size_data]; unfold Dm.maxU; omega) (by rw [size_data]; omega)

/-- What was told is taken. -/
theorem tkp_flat : ∀ (l : List Pr) (r : List UInt8) (acc : List Pr), (∀ p ∈ l, p.key.size ≤ 65536 ∧ p.val.size ≤ 65536) → tkp l.length (flat l ++ r) acc = (acc ++ l, r, 0)
  | [], r, acc, _ => by simp [tkp, flat]
  | p :: l, r, acc, h => by
    have hp := h p (by simp)
    have e1 : flat (p :: l) ++ r = ptx p.key ++ (ptx p.val ++ (flat l ++ r)) := by simp [flat, one]
    rw [List.length_cons, tkp, e1, ttext_ptx _ _ hp.1]
    simp only [ne_eq, not_true_eq_false, if_false]
    rw [ttext_ptx _ _ hp.2]
    simp only [ne_eq, not_true_eq_false, if_false]
    rw [mk_data, mk_data, tkp_flat l r _ (fun q hq => h q (by simp [hq]))]
    simp
theorem tkps_body (l : List Pr) (h : ∀ p ∈ l, p.key.size ≤ 65536 ∧ p.val.size ≤ 65536) (hl : l.length ≤ Dm.maxU) : tkps (body l) = (l, [], 0) := by
  unfold tkps body
  rw [Dm.tnum_num _ _ hl]
  simp only [ne_eq, not_true_eq_false, if_false]
  have := tkp_flat l [] [] h
  simpa using this
theorem take_bytes (l : List Pr) (most : Int) (h : may l = true) (hl : (body l).length ≤ Dm.maxU) (hm : ((body l).length : Int) ≤ most) : take (bytes l) most = (l, 0) := by
  have hn : l.length ≤ Dm.maxU := by
    have h1 : l.length ≤ (flat l).length := by
      clear h hl hm
      induction l with
      | nil => simp
      | cons p l ih =>
        simp only [flat, one, ptx, List.length_append, List.length_cons]
        have := Dm.dg_pos p.key.data.toList.length
        simp only [Dm.num, List.length_append, List.length_singleton]
        omega
    unfold body at hl; rw [List.length_append] at hl; omega
  unfold take bytes
  have e := topen_sld (body l) [] most hl hm
  rw [List.append_nil] at e
  rw [e, tk1]
  simp only [ne_eq, not_true_eq_false, or_self, if_false]
  rw [tkps_body l (may_big h) hn, tk2]
  simp [h]

/-- Of a beginning of what was sealed nothing is opened. -/
theorem ttext_cut_any (s : List UInt8) (most : Int) (h : s.length ≤ Dm.maxU) (k : Nat) (hk : k < (Dm.num s.length ++ s).length) : (Dm.ttext ((Dm.num s.length ++ s).take k) most).2.2 ≠ 0 := by
  by_cases hm : (s.length : Int) ≤ most
  · rw [Dm.ttext_cut s most h hm k hk]; simp
  · rcases Nat.lt_or_ge k (Dm.num s.length).length with a | a
    · have e : (Dm.num s.length ++ s).take k = (Dm.num s.length).take k := by rw [List.take_append_of_le_length (by omega)]
      unfold Dm.ttext
      rw [e, Dm.tnum_cut _ h k a, if_pos (by simp)]
      simp
    · have e : (Dm.num s.length ++ s).take k = Dm.num s.length ++ s.take (k - (Dm.num s.length).length) := by
        rw [List.take_append, List.take_of_length_le a]
      unfold Dm.ttext
      rw [e, Dm.tnum_num _ _ h, if_neg (by simp), if_pos (by simp only; omega)]
      simp
theorem topen_cut_any (s : List UInt8) (most : Int) (h : s.length ≤ Dm.maxU) (k : Nat) (hk : k < (sld s).length) : (topen ((sld s).take k) most).2.2 ≠ 0 := by
  by_cases hm : (s.length : Int) ≤ most
  · rw [topen_cut s most h hm k hk]; simp
  · unfold topen
    rcases Nat.lt_or_ge k (Dm.num s.length ++ s).length with a | a
    · have e : (sld s).take k = (Dm.num s.length ++ s).take k := by
        unfold sld; rw [List.take_append_of_le_length (by omega)]
      rw [e]
      have := ttext_cut_any s most h k a
      unfold topen1
      rw [if_pos this]
      exact this
    · have e : (sld s).take k = Dm.num s.length ++ (s ++ (Dm.num (Sm.adler s).toNat).take (k - (Dm.num s.length ++ s).length)) := by
        unfold sld; rw [List.take_append, List.take_of_length_le a]; simp
      rw [e, Dm.ttext_big s _ most h (by omega)]
      unfold topen1
      rw [if_pos (by simp)]
      simp
theorem take_cut (l : List Pr) (most : Int) (hl : (body l).length ≤ Dm.maxU) (k : Nat) (hk : k < (bytes l).length) : take ((bytes l).take k) most = ([], 3) := by
  unfold take tk1
  rw [if_pos (.inl (topen_cut_any _ most hl k hk))]

/-- Which bound is told makes no odds, if it is as great as the text. -/
theorem ttext_most (l : List UInt8) (m1 m2 : Int) (h1 : (l.length : Int) ≤ m1) (h2 : (l.length : Int) ≤ m2) :
    Dm.ttext l m1 = Dm.ttext l m2 ∨ ((Dm.ttext l m1).2.2 ≠ 0 ∧ (Dm.ttext l m2).2.2 ≠ 0) := by
  have hlen := Dm.tnum_len l
  by_cases hs : (Dm.tnum l).2.1.length < (Dm.tnum l).1
  · right
    unfold Dm.ttext
    constructor <;> · split
                      · assumption
                      · split
                        · simp
                        · simp
  · left
    unfold Dm.ttext
    by_cases h0 : (Dm.tnum l).2.2 ≠ 0
    · rw [if_pos h0, if_pos h0]
    · have a1 : ¬ (m1 < 0 ∨ m1 < ((Dm.tnum l).1 : Int)) := by omega
      have a2 : ¬ (m2 < 0 ∨ m2 < ((Dm.tnum l).1 : Int)) := by omega
      rw [if_neg h0, if_neg h0, if_neg a1, if_neg a2]
theorem take_most (s : List UInt8) (m1 m2 : Int) (h1 : (s.length : Int) ≤ m1) (h2 : (s.length : Int) ≤ m2) : take s m1 = take s m2 := by
  unfold take topen
  rcases ttext_most s m1 m2 h1 h2 with e | ⟨a, b⟩
  · rw [e]
  · unfold topen1 tk1
    rw [if_pos a, if_pos b, if_pos (.inl a), if_pos (.inl b)]

/-- How much a text takes at least. -/
theorem tnum_takes (l : List UInt8) (h : (Dm.tnum l).2.2 = 0) : (Dm.tnum l).2.1.length + 2 ≤ l.length := by
  have hl := congrArg List.length (Dm.figs_rest l)
  rw [List.length_append] at hl
  unfold Dm.tnum at h ⊢
  split at h
  · simp at h
  · rename_i hb
    split at h
    · simp at h
    · rename_i hr
      split at h
      · simp at h
      · rename_i hf
        rw [if_neg hb, if_neg hr, if_neg hf]
        simp only [not_or] at hf
        have h1 : 1 ≤ (Dm.figs l).length := by
          cases hh : Dm.figs l with
          | nil => exact absurd hh hf.2
          | cons a b => simp
        have h2 : 1 ≤ (Dm.rest l).length := by
          cases hh : Dm.rest l with
          | nil => exact absurd hh hr
          | cons a b => simp
        simp only [List.length_tail]
        omega
theorem ttext_takes (l : List UInt8) (most : Int) (h : (Dm.ttext l most).2.2 = 0) : (Dm.ttext l most).2.1.length + 2 ≤ l.length := by
  unfold Dm.ttext at h ⊢
  split at h
  · rename_i h0; simp only at h; exact absurd h h0
  · rename_i h0
    split at h
    · simp at h
    · rename_i h1
      split at h
      · simp at h
      · rename_i h2
        rw [if_neg h0, if_neg h1, if_neg h2]
        have := tnum_takes l (by simpa using h0)
        simp only [List.length_drop]
        omega
theorem body_length (l : List Pr) (h : ∀ p ∈ l, p.key.size ≤ 65536 ∧ p.val.size ≤ 65536) (hl : l.length ≤ Dm.maxU) : (body l).length ≤ 21 + l.length * 131114 := by
  have hf : ∀ m : List Pr, (∀ p ∈ m, p.key.size ≤ 65536 ∧ p.val.size ≤ 65536) → (flat m).length ≤ m.length * 131114 := by
    intro m
    induction m with
    | nil => intro _; simp [flat]
    | cons p m ih =>
      intro hm
      have h1 := hm p (by simp)
      have h2 := ih fun q hq => hm q (by simp [hq])
      have h3 := Dm.num_length p.key.size (by omega)
      have h4 := Dm.num_length p.val.size (by omega)
      simp only [flat, one, ptx, List.length_append, List.length_cons, size_data, Nat.add_mul]
      omega
  have := hf l h
  have h2 := Dm.num_length l.length (by unfold Dm.maxU at hl; omega)
  unfold body
  rw [List.length_append]
  omega
end Rn
end Go.Proofs.Ytlbjobbmjccekaa
