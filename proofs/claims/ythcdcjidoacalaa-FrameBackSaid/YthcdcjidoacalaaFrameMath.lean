/- The mathematics of package frame: the texts of bytes, what may go on, buffers. -/
import Derived.Test.YthcdcjidoacalaaBatchMath
import Derived.Test.YthcdcjidoacalaaWalMath
namespace Go.Proofs.Ythcdcjidoacalaa
set_option maxRecDepth 100000
set_option linter.unusedVariables false
set_option linter.unusedSimpArgs false
namespace Dm
theorem figs_grow (l m : List UInt8) : ∃ t, figs (l ++ m) = figs l ++ t := by
  by_cases h : rest l = []
  · have e := figs_rest l
    rw [h, List.append_nil] at e
    have ha : ∀ c ∈ l, isD c = true := by rw [← e]; exact figs_all l
    refine ⟨figs m, ?_⟩
    rw [e]
    show List.takeWhile isD (l ++ m) = l ++ List.takeWhile isD m
    exact List.takeWhile_append_of_pos ha
  · exact ⟨[], by rw [(Bm.figs_more l m h).1, List.append_nil]⟩
theorem bad_more {l : List UInt8} (m : List UInt8) (h : bad l = true) : bad (l ++ m) = true := by
  obtain ⟨t, ht⟩ := figs_grow l m
  have hl : l ≠ [] := by rintro rfl; revert h; decide
  unfold bad at h ⊢
  rw [ht]
  simp only [Bool.or_eq_true, Bool.and_eq_true, decide_eq_true_eq] at h ⊢
  rcases h with ⟨h1, h2⟩ | h
  · exact .inl ⟨by rw [List.length_append]; omega, by rw [Bm.head_app hl]; exact h2⟩
  · exact .inr (Nat.lt_of_lt_of_le h (val_le_append _ _))
theorem tnum_form {l : List UInt8} (m : List UInt8) (h : (tnum l).2.2 = 3) : (tnum (l ++ m)).2.2 = 3 := by
  by_cases h1 : bad l = true
  · unfold tnum; rw [if_pos (bad_more m h1)]
  · unfold tnum at h
    rw [if_neg h1] at h
    by_cases h2 : rest l = []
    · rw [if_pos h2] at h; simp at h
    · rw [if_neg h2] at h
      by_cases h3 : (rest l).head? ≠ some 59 ∨ figs l = []
      · obtain ⟨e1, e2⟩ := Bm.figs_more l m h2
        unfold tnum
        split
        · rfl
        · rw [e1, e2, if_neg (by simp [h2]), Bm.head_app h2, if_pos h3]
      · rw [if_neg h3] at h; simp at h
theorem tnum_more_len {l : List UInt8} (h : (tnum l).2.2 = 2) : l.length ≤ 20 := by
  unfold tnum at h
  split at h
  · simp at h
  · rename_i hb
    split at h
    · rename_i hr
      have e := figs_rest l
      rw [hr, List.append_nil] at e
      simp only [bad, Bool.or_eq_true, Bool.and_eq_true, decide_eq_true_eq, not_or] at hb
      rw [e] at hb
      rcases Nat.lt_or_ge 20 l.length with hl | hl
      · cases l with
        | nil => simp
        | cons c r =>
          have hc : isD c = true := figs_all (c :: r) c (by rw [e]; simp)
          have h0 : c.toNat ≠ 48 := by
            intro e0
            have : c = 48 := by rw [← UInt8.toNat_inj]; exact e0
            subst this
            exact hb.1 ⟨by omega, by simp⟩
          have := val_big (c :: r) c r rfl hc h0 hl
          omega
      · exact hl
    · split at h <;> simp at h
theorem ttext_form {l : List UInt8} (m : List UInt8) {most : Int} (h0 : (ttext l most).2.2 ≠ 0) (h2 : (ttext l most).2.2 ≠ 2) : (ttext (l ++ m) most).2.2 ≠ 0 ∧ (ttext (l ++ m) most).2.2 ≠ 2 := by
  rcases tnum_err l with e | e | e
  · have e2 := Bm.tnum_more l m e
    unfold ttext at h0 h2 ⊢
    rw [if_neg (by simpa using e)] at h0 h2
    rw [e2]
    simp only [ne_eq, not_true_eq_false, if_false]
    by_cases hb : most < 0 ∨ most < ((tnum l).1 : Int)
    · rw [if_pos hb]; simp
    · rw [if_neg hb] at h0 h2
      split at h2
      · simp at h2
      · rename_i h3; rw [if_neg h3] at h0; simp at h0
  · unfold ttext at h2
    rw [if_pos (by omega)] at h2
    exact absurd e h2
  · have := tnum_form m e
    unfold ttext
    rw [if_pos (by omega)]
    simp [this]
theorem ttext_more_len {l : List UInt8} (h : (ttext l 2048).2.2 = 2) : l.length ≤ 2053 := by
  unfold ttext at h
  split at h
  · have := tnum_more_len h; omega
  · rename_i hn
    have hn' : (tnum l).2.2 = 0 := by simpa using hn
    split at h
    · simp at h
    · rename_i hb
      split at h
      · rename_i hlt
        have hi := (tnum_inv (l := l) (v := (tnum l).1) (r := (tnum l).2.1) (Prod.ext rfl (Prod.ext rfl hn'))).1
        have hl := congrArg List.length hi
        rw [List.length_append] at hl
        have hd := dg_length_lt 4 (tnum l).1 (by omega) (by omega)
        have : (num (tnum l).1).length ≤ 5 := by unfold num; rw [List.length_append]; simp; omega
        omega
      · simp at h
end Dm
namespace Fm
abbrev tt (l : List UInt8) : List UInt8 × List UInt8 × Nat := Dm.ttext l 2048
theorem tt_takes {l : List UInt8} (h : (tt l).2.2 = 0) : (tt l).2.1.length + 2 ≤ l.length := Rn.ttext_takes l 2048 h
def whF : Nat → List UInt8 → List (List UInt8) × List UInt8
  | 0, l => ([], l)
  | n + 1, l => if (tt l).2.2 = 0 then ((tt l).1 :: (whF n (tt l).2.1).1, (whF n (tt l).2.1).2) else ([], l)
/-- the texts at the beginning of bytes, and what stands behind them. -/
def wh (l : List UInt8) : List (List UInt8) × List UInt8 := whF l.length l
/-- may what stands behind go on? -/
def on (l : List UInt8) : Bool := decide ((tt (wh l).2).2.2 = 2)
theorem whF_fuel : ∀ (n m : Nat) (l : List UInt8), l.length ≤ n → l.length ≤ m → whF n l = whF m l
  | 0, 0, _, _, _ => rfl
  | 0, m + 1, l, h, _ => by
    have : l = [] := List.eq_nil_of_length_eq_zero (by omega)
    subst this
    unfold whF
    rw [if_neg (by decide)]
  | n + 1, 0, l, _, h => by
    have : l = [] := List.eq_nil_of_length_eq_zero (by omega)
    subst this
    unfold whF
    rw [if_neg (by decide)]
  | n + 1, m + 1, l, h1, h2 => by
    unfold whF
    split
    · rename_i h0
      have := tt_takes h0
      rw [whF_fuel n m _ (by omega) (by omega)]
    · rfl
theorem wh_no {l : List UInt8} (h : (tt l).2.2 ≠ 0) : wh l = ([], l) := by
  unfold wh
  cases hl : l.length with
  | zero => rfl
  | succ n => unfold whF; rw [if_neg h]
theorem wh_yes {l : List UInt8} (h : (tt l).2.2 = 0) : wh l = ((tt l).1 :: (wh (tt l).2.1).1, (wh (tt l).2.1).2) := by
  have ht := tt_takes h
  obtain ⟨n, hn⟩ : ∃ n, l.length = n + 1 := ⟨l.length - 1, by omega⟩
  have : wh l = whF (n + 1) l := by unfold wh; rw [hn]
  rw [this]
  unfold whF
  rw [if_pos h, whF_fuel n (tt l).2.1.length _ (by omega) (Nat.le_refl _)]
  rfl
/-- by the length of bytes. -/
theorem ind {P : List UInt8 → Prop} (h1 : ∀ l, (tt l).2.2 = 0 → P (tt l).2.1 → P l) (h2 : ∀ l, (tt l).2.2 ≠ 0 → P l) : ∀ l, P l := by
  have : ∀ n, ∀ l : List UInt8, l.length ≤ n → P l := by
    intro n
    induction n with
    | zero =>
      intro l hl
      have : l = [] := List.eq_nil_of_length_eq_zero (by omega)
      subst this
      exact h2 [] (by decide)
    | succ n ih =>
      intro l hl
      by_cases h : (tt l).2.2 = 0
      · have := tt_takes h
        exact h1 l h (ih _ (by omega))
      · exact h2 l h
  exact fun l => this _ l (Nat.le_refl _)
theorem wh_stop : ∀ l, (tt (wh l).2).2.2 ≠ 0 := ind (fun l h ih => by rw [wh_yes h]; exact ih) (fun l h => by rw [wh_no h]; exact h)
theorem wh_len : ∀ l, (wh l).2.length ≤ l.length := ind (fun l h ih => by rw [wh_yes h]; have := tt_takes h; simp only; omega) (fun l h => by rw [wh_no h]; exact Nat.le_refl _)
theorem wh_count : ∀ l, (wh l).1.length * 2 ≤ l.length := ind (fun l h ih => by rw [wh_yes h]; have := tt_takes h; simp only [List.length_cons]; omega) (fun l h => by rw [wh_no h]; exact Nat.zero_le _)
theorem wh_app (m : List UInt8) : ∀ l, wh (l ++ m) = ((wh l).1 ++ (wh ((wh l).2 ++ m)).1, (wh ((wh l).2 ++ m)).2) :=
  ind (fun l h ih => by
    have e : tt (l ++ m) = ((tt l).1, (tt l).2.1 ++ m, 0) := Bm.ttext_more l m 2048 h
    have h' : (tt (l ++ m)).2.2 = 0 := by rw [e]
    rw [wh_yes h', wh_yes h, e]
    simp only
    rw [ih]
    rfl) (fun l h => by rw [wh_no h]; simp)
/-- what is wrong stays wrong. -/
theorem off_app {l : List UInt8} (m : List UInt8) (h : on l = false) : wh (l ++ m) = ((wh l).1, (wh l).2 ++ m) ∧ on (l ++ m) = false := by
  have h0 := wh_stop l
  have h2 : (tt (wh l).2).2.2 ≠ 2 := by unfold on at h; simpa using h
  obtain ⟨a, b⟩ := Dm.ttext_form m h0 h2
  have e : wh (l ++ m) = ((wh l).1, (wh l).2 ++ m) := by rw [wh_app, wh_no a]; simp
  refine ⟨e, ?_⟩
  unfold on
  rw [e]
  simpa using b
theorem on_app {l : List UInt8} (m : List UInt8) : on (l ++ m) = on ((wh l).2 ++ m) := by
  unfold on
  rw [wh_app]
theorem on_small {l : List UInt8} (h : on l = true) : (wh l).2.length ≤ 2053 := Dm.ttext_more_len (by unfold on at h; simpa using h)
theorem wh_nil : wh [] = ([], []) := rfl
theorem on_nil : on [] = true := by decide
/-- a frame. -/
def wrap (s : List UInt8) : List UInt8 := Dm.num s.length ++ s
def wraps : List (List UInt8) → List UInt8
  | [] => []
  | s :: l => wrap s ++ wraps l
theorem wraps_snoc (l : List (List UInt8)) (s : List UInt8) : wraps (l ++ [s]) = wraps l ++ wrap s := by
  induction l with
  | nil => simp [wraps]
  | cons a l ih => simp [wraps, ih]
theorem tt_wrap {s : List UInt8} (r : List UInt8) (h : s.length ≤ 2048) : tt (wrap s ++ r) = (s, r, 0) := by
  unfold wrap
  rw [List.append_assoc]
  exact Dm.ttext_text s r 2048 (by unfold Dm.maxU; omega) (by omega)
theorem wh_wraps : ∀ (l : List (List UInt8)) (r : List UInt8), (∀ s ∈ l, s.length ≤ 2048) → wh (wraps l ++ r) = (l ++ (wh r).1, (wh r).2)
  | [], r, _ => by simp [wraps]
  | s :: l, r, h => by
    have e := tt_wrap (s := s) (wraps l ++ r) (h s (by simp))
    have h0 : (tt (wrap s ++ (wraps l ++ r))).2.2 = 0 := by rw [e]
    show wh (wrap s ++ wraps l ++ r) = _
    rw [List.append_assoc, wh_yes h0, e]
    simp only
    rw [wh_wraps l r fun q hq => h q (by simp [hq])]
    rfl
theorem tt_inv {l : List UInt8} (h : (tt l).2.2 = 0) : l = wrap (tt l).1 ++ (tt l).2.1 ∧ (tt l).1.length ≤ 2048 := by
  obtain ⟨a, b, c⟩ := Dm.ttext_inv (l := l) (s := (tt l).1) (r := (tt l).2.1) (most := 2048) (Prod.ext rfl (Prod.ext rfl h))
  refine ⟨?_, by omega⟩
  unfold wrap
  rw [List.append_assoc]
  exact a
theorem wh_eq : ∀ l, l = wraps (wh l).1 ++ (wh l).2 := ind (fun l h ih => by
  rw [wh_yes h]
  simp only [wraps]
  rw [List.append_assoc, ← ih]
  exact (tt_inv h).1) (fun l h => by rw [wh_no h]; rfl)
theorem wh_le : ∀ l, ∀ r ∈ (wh l).1, r.length ≤ 2048 := ind (fun l h ih => by
  rw [wh_yes h]
  intro r hr
  rcases List.mem_cons.1 hr with rfl | hr
  · exact (tt_inv h).2
  · exact ih r hr) (fun l h => by rw [wh_no h]; intro r hr; cases hr)
theorem wraps_app (a b : List (List UInt8)) : wraps (a ++ b) = wraps a ++ wraps b := by
  induction a with
  | nil => rfl
  | cons x a ih => simp only [List.cons_append, wraps, ih, List.append_assoc]
theorem wrap_len (s : List UInt8) : s.length + 2 ≤ (wrap s).length := by
  have := Dm.dg_pos s.length
  unfold wrap Dm.num
  simp only [List.length_append, List.length_cons, List.length_nil]; omega
theorem wrap_inj {a b : List UInt8} (ha : a.length ≤ 2048) (hb : b.length ≤ 2048) (h : wrap a = wrap b) : a = b := by
  have e1 := tt_wrap [] ha
  have e2 := tt_wrap [] hb
  rw [h, e2] at e1
  exact (congrArg (·.1) e1).symm
theorem wrap_cut {s : List UInt8} (h : s.length ≤ 2048) {k : Nat} (hk : k < (wrap s).length) : wh ((wrap s).take k) = ([], (wrap s).take k) ∧ on ((wrap s).take k) = true := by
  have e := Dm.ttext_cut s 2048 (by unfold Dm.maxU; omega) (by omega) k hk
  have h0 : (tt ((wrap s).take k)).2.2 = 2 := by show (Dm.ttext ((Dm.num s.length ++ s).take k) 2048).2.2 = 2; rw [e]
  have e2 := wh_no (l := (wrap s).take k) (by rw [h0]; omega)
  refine ⟨e2, ?_⟩
  unfold on
  rw [e2]
  simpa using h0

/-- a buffer: its rest, whether it is bad. -/
structure Bf where
  rest : List UInt8
  bad : Bool
deriving DecidableEq
def of (s : List UInt8) : Bf := if on s = true then ⟨(wh s).2, false⟩ else ⟨[], true⟩
def feed (b : Bf) (m : List UInt8) : Bf × List (List UInt8) × Nat :=
  if b.bad = true then (b, [], 9) else if on (b.rest ++ m) = true then (⟨(wh (b.rest ++ m)).2, false⟩, (wh (b.rest ++ m)).1, 0) else (⟨[], true⟩, (wh (b.rest ++ m)).1, 3)
theorem of_nil : of [] = ⟨[], false⟩ := by unfold of; rw [if_pos on_nil]; rfl
theorem feed_of (s m : List UInt8) : (feed (of s) m).1 = of (s ++ m) ∧ (wh (s ++ m)).1 = (wh s).1 ++ (feed (of s) m).2.1 ∧ ((feed (of s) m).2.2 = 0 ↔ on (s ++ m) = true) := by
  cases hs : on s with
  | true =>
    have e : of s = ⟨(wh s).2, false⟩ := by unfold of; rw [if_pos hs]
    rw [e]
    have ha := wh_app m s
    have ho := on_app (l := s) m
    unfold feed of
    simp only [Bool.false_eq_true, if_false]
    rw [← ho, ha]
    cases hm : on (s ++ m) with
    | true => simp
    | false => simp
  | false =>
    have e : of s = ⟨[], true⟩ := by unfold of; rw [if_neg (by rw [hs]; simp)]
    obtain ⟨a, b⟩ := off_app m hs
    rw [e]
    unfold feed of
    rw [b, a]
    simp
theorem of_small (s : List UInt8) : (of s).rest.length ≤ 2053 := by
  unfold of
  split
  · rename_i h; exact on_small h
  · simp
end Fm
end Go.Proofs.Ythcdcjidoacalaa
