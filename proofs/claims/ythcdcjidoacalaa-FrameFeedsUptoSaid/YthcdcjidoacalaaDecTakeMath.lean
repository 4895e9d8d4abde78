/- Plain mathematics of package dec: what is taken. Nothing of the program. -/
import Derived.Test.YthcdcjidoacalaaDecMath
namespace Go.Proofs.Ythcdcjidoacalaa.Dm
set_option maxRecDepth 100000

/-! ### Taking a number -/
def maxU : Nat := 18446744073709551615
theorem maxU_eq : maxU = 18446744073709551615 := rfl
/-- the figures at the beginning of a text, and what stands behind them. -/
def figs (l : List UInt8) : List UInt8 := l.takeWhile isD
def rest (l : List UInt8) : List UInt8 := l.dropWhile isD
/-- figures that no number's bytes begin with. -/
def bad (l : List UInt8) : Bool := (decide (1 < (figs l).length) && l.head? == some 48) || decide (maxU < val (figs l))
/-- what is taken: the number, what stands behind it, and the errno. -/
def tnum (l : List UInt8) : Nat × List UInt8 × Nat :=
  if bad l = true then (0, [], 3)
  else if rest l = [] then (0, [], 2)
  else if (rest l).head? ≠ some 59 ∨ figs l = [] then (0, [], 3)
  else (val (figs l), (rest l).tail, 0)

theorem figs_rest (l : List UInt8) : figs l ++ rest l = l := List.takeWhile_append_dropWhile
theorem figs_len (l : List UInt8) : (figs l).length ≤ l.length := by
  have := congrArg List.length (figs_rest l)
  rw [List.length_append] at this; omega
theorem rest_eq (l : List UInt8) : rest l = l.drop (figs l).length := by
  have h := List.drop_left (l₁ := figs l) (l₂ := rest l)
  rw [figs_rest] at h; exact h.symm
theorem figs_eq (l : List UInt8) : figs l = l.take (figs l).length := by
  have h := List.take_left (l₁ := figs l) (l₂ := rest l)
  rw [figs_rest] at h; exact h.symm
theorem figs_all (l : List UInt8) : ∀ c ∈ figs l, isD c = true := List.all_eq_true.1 List.all_takeWhile

/-- how far the figures go: n of them, and then the end or another byte. -/
theorem figs_of (l : List UInt8) (n : Nat) (h1 : n ≤ l.length) (h2 : ∀ i (h : i < n), isD (l[i]'(by omega)) = true) (h3 : n = l.length ∨ ∃ h : n < l.length, isD l[n] = false) :
    figs l = l.take n := by
  induction l generalizing n with
  | nil => simp [figs]
  | cons c l ih =>
    cases n with
    | zero =>
      rcases h3 with h3 | ⟨_, h3⟩
      · simp at h3
      · simp at h3; simp [figs, h3]
    | succ n =>
      have hc : isD c = true := h2 0 (by omega)
      have := ih n (by simpa using h1) (fun i h => by have := h2 (i + 1) (by omega); simpa using this) (by
        rcases h3 with h3 | ⟨a, h3⟩
        · left; simpa using h3
        · right; exact ⟨by simpa using a, by simpa using h3⟩)
      unfold figs at this ⊢
      rw [List.takeWhile_cons, if_pos hc, this]; simp

theorem val_foldl (l : List UInt8) : ∀ a : Nat, l.foldl (fun v c => 10 * v + dv c) a = a * 10 ^ l.length + val l := by
  induction l with
  | nil => intro a; simp [val]
  | cons c l ih =>
    intro a
    simp only [List.foldl_cons, val, List.length_cons]
    rw [ih, ih (10 * 0 + dv c), Nat.pow_succ]
    grind
theorem val_append (a b : List UInt8) : val (a ++ b) = val a * 10 ^ b.length + val b := by
  show (a ++ b).foldl _ 0 = _
  rw [List.foldl_append, val_foldl]; rfl
theorem val_le_append (a b : List UInt8) : val a ≤ val (a ++ b) := by
  rw [val_append]
  have h1 : 1 ≤ 10 ^ b.length := Nat.pow_pos (by omega)
  have h2 : val a * 1 ≤ val a * 10 ^ b.length := Nat.mul_le_mul_left _ h1
  omega
theorem val_cons (c : UInt8) (l : List UInt8) : val (c :: l) = dv c * 10 ^ l.length + val l := by
  show l.foldl _ (10 * 0 + dv c) = _
  rw [val_foldl]; simp
/-- figures that don't begin with nought, and are more than twenty, tell a number that is too great. -/
theorem val_big (l : List UInt8) (c : UInt8) (r : List UInt8) (e : l = c :: r) (hc : isD c = true) (h0 : c.toNat ≠ 48) (hl : 20 < l.length) : maxU < val l := by
  subst e
  rw [val_cons]
  have h1 : 1 ≤ dv c := by rw [isD_iff] at hc; unfold dv; omega
  have h2 : 10 ^ 20 ≤ 10 ^ r.length := Nat.pow_le_pow_right (by omega) (by simp at hl; omega)
  have h3 : 1 * 10 ^ r.length ≤ dv c * 10 ^ r.length := Nat.mul_le_mul_right _ h1
  unfold maxU
  omega

/-! ### Taking a text -/
def ttext (l : List UInt8) (most : Int) : List UInt8 × List UInt8 × Nat :=
  if (tnum l).2.2 ≠ 0 then ([], [], (tnum l).2.2)
  else if most < 0 ∨ most < ((tnum l).1 : Int) then ([], [], 4)
  else if (tnum l).2.1.length < (tnum l).1 then ([], [], 2)
  else ((tnum l).2.1.take (tnum l).1, (tnum l).2.1.drop (tnum l).1, 0)

theorem tnum_len (l : List UInt8) : (tnum l).2.1.length ≤ l.length := by
  have h := congrArg List.length (figs_rest l)
  rw [List.length_append] at h
  unfold tnum
  split
  · simp
  · split
    · simp
    · split
      · simp
      · simp; omega
theorem tnum_le (l : List UInt8) : (tnum l).1 ≤ maxU := by
  unfold tnum
  split
  · simp
  · rename_i hb
    split
    · simp
    · split
      · simp
      · simp only [bad, Bool.or_eq_true, Bool.and_eq_true, decide_eq_true_eq, not_or] at hb
        simp only; omega
theorem tnum_err (l : List UInt8) : (tnum l).2.2 = 0 ∨ (tnum l).2.2 = 2 ∨ (tnum l).2.2 = 3 := by
  unfold tnum
  split
  · simp
  · split
    · simp
    · split <;> simp

/-! ### What was written is taken -/
theorem figs_num (v : Nat) (r : List UInt8) : figs (num v ++ r) = dg v ∧ rest (num v ++ r) = 59 :: r := by
  have h59 : isD 59 = false := by decide
  have e : num v ++ r = dg v ++ 59 :: r := by simp [num]
  have h1 : figs (num v ++ r) = dg v := by
    rw [e]; unfold figs
    rw [List.takeWhile_append_of_pos (all_dg v)]
    simp [h59]
  refine ⟨h1, ?_⟩
  rw [rest_eq, h1, e]; simp
theorem head_num (v : Nat) (h : 1 < (dg v).length) : ∀ r, (dg v ++ r).head? ≠ some 48 := by
  intro r
  have hv : 10 ≤ v := by
    rcases Nat.lt_or_ge v 10 with a | a
    · rw [dg, if_pos a] at h; simp at h
    · exact a
  cases hd : dg v with
  | nil => exact absurd hd (dg_ne v)
  | cons c t =>
    have := head_dg v hv c t hd
    simp
    intro e; subst e; exact this (by decide)
theorem tnum_num (v : Nat) (r : List UInt8) (hv : v ≤ maxU) : tnum (num v ++ r) = (v, r, 0) := by
  obtain ⟨h1, h2⟩ := figs_num v r
  have hb : bad (num v ++ r) = false := by
    unfold bad
    rw [h1, val_dg]
    by_cases hl : 1 < (dg v).length
    · have := head_num v hl (59 :: r)
      rw [show num v ++ r = dg v ++ 59 :: r from by simp [num], beq_eq_false_iff_ne.2 this]
      simp; omega
    · rw [decide_eq_false hl]; simp; omega
  unfold tnum
  rw [hb, h1, h2, val_dg]
  simp [dg_ne v]
/-- no beginning of it is. -/
theorem tnum_cut (v : Nat) (hv : v ≤ maxU) (k : Nat) (hk : k < (num v).length) : tnum ((num v).take k) = (0, [], 2) := by
  have hk' : k ≤ (dg v).length := by simp [num] at hk; omega
  have e : (num v).take k = (dg v).take k := by
    unfold num; rw [List.take_append_of_le_length hk']
  rw [e]
  have hall : ∀ c ∈ (dg v).take k, isD c = true := fun c hc => all_dg v c (List.mem_of_mem_take hc)
  have h1 : figs ((dg v).take k) = (dg v).take k := by
    have := figs_of ((dg v).take k) ((dg v).take k).length (Nat.le_refl _) (fun i h => hall _ (List.getElem_mem _)) (.inl rfl)
    rw [this, List.take_length]
  have h2 : rest ((dg v).take k) = [] := by rw [rest_eq, h1]; simp
  have hb : bad ((dg v).take k) = false := by
    unfold bad
    rw [h1]
    have hle : val ((dg v).take k) ≤ v := by
      have := val_le_append ((dg v).take k) ((dg v).drop k)
      rw [List.take_append_drop, val_dg] at this; exact this
    have hd : decide (maxU < val ((dg v).take k)) = false := by simp; omega
    rw [hd, Bool.or_false]
    by_cases hl : 1 < ((dg v).take k).length
    · have hl' : 1 < (dg v).length := by rw [List.length_take] at hl; omega
      have := head_num v hl' []
      rw [List.append_nil] at this
      have e2 : ((dg v).take k).head? = (dg v).head? := by
        cases hd2 : dg v with
        | nil => simp
        | cons c t => cases k with
          | zero => simp at hl
          | succ k => simp
      rw [e2, beq_eq_false_iff_ne.2 this, Bool.and_false]
    · rw [decide_eq_false hl, Bool.false_and]
  unfold tnum
  rw [hb, h2]; simp

theorem ttext_text (s r : List UInt8) (most : Int) (h : s.length ≤ maxU) (hm : (s.length : Int) ≤ most) : ttext (num s.length ++ (s ++ r)) most = (s, r, 0) := by
  unfold ttext
  rw [tnum_num _ _ h]
  simp only [List.length_append]
  rw [if_neg (by simp), if_neg (by omega), if_neg (by omega)]
  simp
theorem ttext_big (s r : List UInt8) (most : Int) (h : s.length ≤ maxU) (hm : most < (s.length : Int)) : ttext (num s.length ++ (s ++ r)) most = ([], [], 4) := by
  unfold ttext
  rw [tnum_num _ _ h]
  rw [if_neg (by simp), if_pos (.inr hm)]
theorem ttext_cut (s : List UInt8) (most : Int) (h : s.length ≤ maxU) (hm : (s.length : Int) ≤ most) (k : Nat) (hk : k < (num s.length ++ s).length) : ttext ((num s.length ++ s).take k) most = ([], [], 2) := by
  rcases Nat.lt_or_ge k (num s.length).length with a | a
  · rw [List.take_append_of_le_length (by omega)]
    unfold ttext
    rw [tnum_cut _ h k a]
    simp
  · rw [List.take_append, List.take_of_length_le a]
    unfold ttext
    rw [tnum_num _ _ h]
    rw [List.length_append] at hk
    rw [if_neg (by simp), if_neg (by simp; omega), if_pos (by simp only [List.length_take]; omega)]

/-- figures that stand there are among the figures. -/
theorem figs_ge (l : List UInt8) (m : Nat) (h1 : m ≤ l.length) (h2 : ∀ i (h : i < m), isD (l[i]'(by omega)) = true) : ∃ t, figs l = l.take m ++ t := by
  have hall : ∀ c ∈ l.take m, isD c = true := by
    intro c hc
    obtain ⟨i, hi, rfl⟩ := List.mem_iff_getElem.1 hc
    rw [List.length_take] at hi
    rw [List.getElem_take]
    exact h2 i (by omega)
  refine ⟨(l.drop m).takeWhile isD, ?_⟩
  unfold figs
  conv => lhs; rw [← List.take_append_drop m l]
  rw [List.takeWhile_append_of_pos hall]
theorem bad_zero (l : List UInt8) (k : Nat) (h0 : 0 < k) (h1 : k < l.length) (h2 : ∀ i (h : i < k + 1), isD (l[i]'(by omega)) = true) (h3 : l.head? = some 48) : bad l = true := by
  obtain ⟨t, ht⟩ := figs_ge l (k + 1) h1 h2
  have hl : 1 < (figs l).length := by rw [ht, List.length_append, List.length_take]; omega
  unfold bad; rw [decide_eq_true hl, h3]; rfl
theorem bad_big (l : List UInt8) (k : Nat) (h1 : k < l.length) (h2 : ∀ i (h : i < k + 1), isD (l[i]'(by omega)) = true) (h3 : maxU < val (l.take (k + 1))) : bad l = true := by
  obtain ⟨t, ht⟩ := figs_ge l (k + 1) h1 h2
  have hv : maxU < val (figs l) := by rw [ht]; exact Nat.lt_of_lt_of_le h3 (val_le_append _ _)
  unfold bad; rw [decide_eq_true hv, Bool.or_true]
theorem bad_not (l : List UInt8) (k : Nat) (e : figs l = l.take k) (hk : k ≤ l.length) (h1 : 1 < k → l.head? ≠ some 48) (h2 : val (l.take k) ≤ maxU) : bad l = false := by
  unfold bad
  rw [e, decide_eq_false (show ¬ maxU < val (l.take k) by omega), Bool.or_false, List.length_take, Nat.min_eq_left hk]
  by_cases h : 1 < k
  · rw [beq_eq_false_iff_ne.2 (h1 h), Bool.and_false]
  · rw [decide_eq_false h, Bool.false_and]
end Go.Proofs.Ythcdcjidoacalaa.Dm
