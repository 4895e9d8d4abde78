/- The mathematics of package run: a row's bytes, and the row of bytes. -/
import Derived.Test.YthcdcjidoacalaaTableMath
import Derived.Test.YthcdcjidoacalaaSumOpen
namespace Go.Proofs.Ythcdcjidoacalaa
set_option maxRecDepth 100000
open Prm
set_option linter.unusedVariables false
set_option linter.unusedSimpArgs false
namespace Rn

def big (p : Pr) : Bool := decide (65536 < p.key.size) || decide (65536 < p.val.size)
def may (l : List Pr) : Bool := right l && !l.any big
def ptx (s : ByteArray) : List UInt8 := Dm.num s.data.toList.length ++ s.data.toList
def one (p : Pr) : List UInt8 := ptx p.key ++ ptx p.val
def flat : List Pr → List UInt8
  | [] => []
  | p :: l => one p ++ flat l
def body (l : List Pr) : List UInt8 := Dm.num l.length ++ flat l
def bytes (l : List Pr) : List UInt8 := sld (body l)
/-- n pairs, taken off r, behind those of acc. -/
def tkp : Nat → List UInt8 → List Pr → List Pr × List UInt8 × Nat
  | 0, r, acc => (acc, r, 0)
  | n + 1, r, acc =>
    if (Dm.ttext r 65536).2.2 ≠ 0 then (acc, [], (Dm.ttext r 65536).2.2)
    else if (Dm.ttext (Dm.ttext r 65536).2.1 65536).2.2 ≠ 0 then (acc, [], (Dm.ttext (Dm.ttext r 65536).2.1 65536).2.2)
    else tkp n (Dm.ttext (Dm.ttext r 65536).2.1 65536).2.1 (acc ++ [⟨⟨(Dm.ttext r 65536).1.toArray⟩, ⟨(Dm.ttext (Dm.ttext r 65536).2.1 65536).1.toArray⟩⟩])
def tkps (s : List UInt8) : List Pr × List UInt8 × Nat :=
  if (Dm.tnum s).2.2 ≠ 0 then ([], [], (Dm.tnum s).2.2) else tkp (Dm.tnum s).1 (Dm.tnum s).2.1 []
def tk2 (x : List Pr × List UInt8 × Nat) : List Pr × Nat := if x.2.2 ≠ 0 ∨ x.2.1 ≠ [] ∨ may x.1 = false then ([], 3) else (x.1, 0)
def tk1 (x : List UInt8 × List UInt8 × Nat) : List Pr × Nat := if x.2.2 ≠ 0 ∨ x.2.1 ≠ [] then ([], 3) else tk2 (tkps x.1)
/-- the row of bytes, and the errno. -/
def take (s : List UInt8) (most : Int) : List Pr × Nat := tk1 (topen s most)

theorem may_big {l : List Pr} (h : may l = true) : ∀ p ∈ l, p.key.size ≤ 65536 ∧ p.val.size ≤ 65536 := by
  intro p hp
  unfold may at h
  simp only [Bool.and_eq_true, Bool.not_eq_true', List.any_eq_false] at h
  have := h.2 p hp
  simp only [big, Bool.or_eq_true, decide_eq_true_eq, not_or] at this
  omega
theorem may_right {l : List Pr} (h : may l = true) : right l = true := by
  unfold may at h
  simp only [Bool.and_eq_true] at h
  exact h.1

theorem flat_app (l m : List Pr) : flat (l ++ m) = flat l ++ flat m := by
  induction l with
  | nil => rfl
  | cons p l ih => simp [flat, ih]
theorem flat_snoc (l : List Pr) {k : Nat} (hk : k < l.length) : flat (l.take (k + 1)) = flat (l.take k) ++ one l[k] := by
  rw [List.take_succ_eq_append_getElem hk, flat_app]; simp [flat]

theorem size_data (s : ByteArray) : s.data.toList.length = s.size := by simp
theorem mk_data (s : ByteArray) : (⟨s.data.toList.toArray⟩ : ByteArray) = s := by simp

theorem ttext_ptx (s : ByteArray) (r : List UInt8) (h : s.size ≤ 65536) : Dm.ttext (ptx s ++ r) 65536 = (s.data.toList, r, 0) := by
  unfold ptx
  rw [List.append_assoc]
  exact Dm.ttext_text _ r 65536 (by rw [size_data]; unfold Dm.maxU; omega) (by rw [size_data]; omega)

/-- What was told is taken. -/
theorem tkp_flat : ∀ (l : List Pr) (r : List UInt8) (acc : List Pr), (∀ p ∈ l, p.key.size ≤ 65536 ∧ p.val.size ≤ 65536) → tkp l.length (flat l ++ r) acc = (acc ++ l, r, 0)
  | [], r, acc, _ => by simp [tkp, flat]
  | p :: l, r, acc, h => by
    have hp := h p (by simp)
    have e1 : flat (p :: l) ++ r = ptx p.key ++ (ptx p.val ++ (flat l ++ r)) := by simp [flat, one]
    rw [List.length_cons, tkp, e1, ttext_ptx _ _ hp.1]
    simp only [ne_eq, not_true_eq_false, if_false]
    rw [ttext_ptx _ _ hp.2]
    simp only [ne_eq, not_true_eq_false, if_false]
    rw [mk_data, mk_data, tkp_flat l r _ (fun q hq => h q (by simp [hq]))]
    simp
theorem tkps_body (l : List Pr) (h : ∀ p ∈ l, p.key.size ≤ 65536 ∧ p.val.size ≤ 65536) (hl : l.length ≤ Dm.maxU) : tkps (body l) = (l, [], 0) := by
  unfold tkps body
  rw [Dm.tnum_num _ _ hl]
  simp only [ne_eq, not_true_eq_false, if_false]
  have := tkp_flat l [] [] h
  simpa using this
theorem take_bytes (l : List Pr) (most : Int) (h : may l = true) (hl : (body l).length ≤ Dm.maxU) (hm : ((body l).length : Int) ≤ most) : take (bytes l) most = (l, 0) := by
  have hn : l.length ≤ Dm.maxU := by
    have h1 : l.length ≤ (flat l).length := by
      clear h hl hm
      induction l with
      | nil => simp
      | cons p l ih =>
        simp only [flat, one, ptx, List.length_append, List.length_cons]
        have := Dm.dg_pos p.key.data.toList.length
        simp only [Dm.num, List.length_append, List.length_singleton]
        omega
    unfold body at hl; rw [List.length_append] at hl; omega
  unfold take bytes
  have e := topen_sld (body l) [] most hl hm
  rw [List.append_nil] at e
  rw [e, tk1]
  simp only [ne_eq, not_true_eq_false, or_self, if_false]
  rw [tkps_body l (may_big h) hn, tk2]
  simp [h]

/-- Of a beginning of what was sealed nothing is opened. -/
theorem ttext_cut_any (s : List UInt8) (most : Int) (h : s.length ≤ Dm.maxU) (k : Nat) (hk : k < (Dm.num s.length ++ s).length) : (Dm.ttext ((Dm.num s.length ++ s).take k) most).2.2 ≠ 0 := by
  by_cases hm : (s.length : Int) ≤ most
  · rw [Dm.ttext_cut s most h hm k hk]; simp
  · rcases Nat.lt_or_ge k (Dm.num s.length).length with a | a
    · have e : (Dm.num s.length ++ s).take k = (Dm.num s.length).take k := by rw [List.take_append_of_le_length (by omega)]
      unfold Dm.ttext
      rw [e, Dm.tnum_cut _ h k a, if_pos (by simp)]
      simp
    · have e : (Dm.num s.length ++ s).take k = Dm.num s.length ++ s.take (k - (Dm.num s.length).length) := by
        rw [List.take_append, List.take_of_length_le a]
      unfold Dm.ttext
      rw [e, Dm.tnum_num _ _ h, if_neg (by simp), if_pos (by simp only; omega)]
      simp
theorem topen_cut_any (s : List UInt8) (most : Int) (h : s.length ≤ Dm.maxU) (k : Nat) (hk : k < (sld s).length) : (topen ((sld s).take k) most).2.2 ≠ 0 := by
  by_cases hm : (s.length : Int) ≤ most
  · rw [topen_cut s most h hm k hk]; simp
  · unfold topen
    rcases Nat.lt_or_ge k (Dm.num s.length ++ s).length with a | a
    · have e : (sld s).take k = (Dm.num s.length ++ s).take k := by
        unfold sld; rw [List.take_append_of_le_length (by omega)]
      rw [e]
      have := ttext_cut_any s most h k a
      unfold topen1
      rw [if_pos this]
      exact this
    · have e : (sld s).take k = Dm.num s.length ++ (s ++ (Dm.num (Sm.adler s).toNat).take (k - (Dm.num s.length ++ s).length)) := by
        unfold sld; rw [List.take_append, List.take_of_length_le a]; simp
      rw [e, Dm.ttext_big s _ most h (by omega)]
      unfold topen1
      rw [if_pos (by simp)]
      simp
theorem take_cut (l : List Pr) (most : Int) (hl : (body l).length ≤ Dm.maxU) (k : Nat) (hk : k < (bytes l).length) : take ((bytes l).take k) most = ([], 3) := by
  unfold take tk1
  rw [if_pos (.inl (topen_cut_any _ most hl k hk))]

/-- Which bound is told makes no odds, if it is as great as the text. -/
theorem ttext_most (l : List UInt8) (m1 m2 : Int) (h1 : (l.length : Int) ≤ m1) (h2 : (l.length : Int) ≤ m2) :
    Dm.ttext l m1 = Dm.ttext l m2 ∨ ((Dm.ttext l m1).2.2 ≠ 0 ∧ (Dm.ttext l m2).2.2 ≠ 0) := by
  have hlen := Dm.tnum_len l
  by_cases hs : (Dm.tnum l).2.1.length < (Dm.tnum l).1
  · right
    unfold Dm.ttext
    constructor <;> · split
                      · assumption
                      · split
                        · simp
                        · simp
  · left
    unfold Dm.ttext
    by_cases h0 : (Dm.tnum l).2.2 ≠ 0
    · rw [if_pos h0, if_pos h0]
    · have a1 : ¬ (m1 < 0 ∨ m1 < ((Dm.tnum l).1 : Int)) := by omega
      have a2 : ¬ (m2 < 0 ∨ m2 < ((Dm.tnum l).1 : Int)) := by omega
      rw [if_neg h0, if_neg h0, if_neg a1, if_neg a2]
theorem take_most (s : List UInt8) (m1 m2 : Int) (h1 : (s.length : Int) ≤ m1) (h2 : (s.length : Int) ≤ m2) : take s m1 = take s m2 := by
  unfold take topen
  rcases ttext_most s m1 m2 h1 h2 with e | ⟨a, b⟩
  · rw [e]
  · unfold topen1 tk1
    rw [if_pos a, if_pos b, if_pos (.inl a), if_pos (.inl b)]

/-- How much a text takes at least. -/
theorem tnum_takes (l : List UInt8) (h : (Dm.tnum l).2.2 = 0) : (Dm.tnum l).2.1.length + 2 ≤ l.length := by
  have hl := congrArg List.length (Dm.figs_rest l)
  rw [List.length_append] at hl
  unfold Dm.tnum at h ⊢
  split at h
  · simp at h
  · rename_i hb
    split at h
    · simp at h
    · rename_i hr
      split at h
      · simp at h
      · rename_i hf
        rw [if_neg hb, if_neg hr, if_neg hf]
        simp only [not_or] at hf
        have h1 : 1 ≤ (Dm.figs l).length := by
          cases hh : Dm.figs l with
          | nil => exact absurd hh hf.2
          | cons a b => simp
        have h2 : 1 ≤ (Dm.rest l).length := by
          cases hh : Dm.rest l with
          | nil => exact absurd hh hr
          | cons a b => simp
        simp only [List.length_tail]
        omega
theorem ttext_takes (l : List UInt8) (most : Int) (h : (Dm.ttext l most).2.2 = 0) : (Dm.ttext l most).2.1.length + 2 ≤ l.length := by
  unfold Dm.ttext at h ⊢
  split at h
  · rename_i h0; simp only at h; exact absurd h h0
  · rename_i h0
    split at h
    · simp at h
    · rename_i h1
      split at h
      · simp at h
      · rename_i h2
        rw [if_neg h0, if_neg h1, if_neg h2]
        have := tnum_takes l (by simpa using h0)
        simp only [List.length_drop]
        omega
theorem body_length (l : List Pr) (h : ∀ p ∈ l, p.key.size ≤ 65536 ∧ p.val.size ≤ 65536) (hl : l.length ≤ Dm.maxU) : (body l).length ≤ 21 + l.length * 131114 := by
  have hf : ∀ m : List Pr, (∀ p ∈ m, p.key.size ≤ 65536 ∧ p.val.size ≤ 65536) → (flat m).length ≤ m.length * 131114 := by
    intro m
    induction m with
    | nil => intro _; simp [flat]
    | cons p m ih =>
      intro hm
      have h1 := hm p (by simp)
      have h2 := ih fun q hq => hm q (by simp [hq])
      have h3 := Dm.num_length p.key.size (by omega)
      have h4 := Dm.num_length p.val.size (by omega)
      simp only [flat, one, ptx, List.length_append, List.length_cons, size_data, Nat.add_mul]
      omega
  have := hf l h
  have h2 := Dm.num_length l.length (by unfold Dm.maxU at hl; omega)
  unfold body
  rw [List.length_append]
  omega
end Rn
end Go.Proofs.Ythcdcjidoacalaa
