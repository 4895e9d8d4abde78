/- Plain mathematics of package dec: numbers and texts as bytes. Nothing of the program. -/
namespace Go.Proofs.Ythcdcjidoacalaa.Dm
set_option maxRecDepth 100000

def digit (n : Nat) : UInt8 := UInt8.ofNat (48 + n)
def dg (v : Nat) : List UInt8 := if v < 10 then [digit v] else dg (v / 10) ++ [digit (v % 10)]
def dgz (v : Nat) : List UInt8 := if v = 0 then [] else dg v
/-- a number's bytes. -/
def num (v : Nat) : List UInt8 := dg v ++ [59]

theorem digit_toNat (n : Nat) (h : n < 10) : (digit n).toNat = 48 + n := by
  unfold digit; simp only [UInt8.toNat_ofNat']; omega
theorem dg_split (v : Nat) : dg v = dgz (v / 10) ++ [digit (v % 10)] := by
  rw [dg]
  by_cases h : v < 10
  · rw [if_pos h]; unfold dgz; rw [if_pos (by omega)]
    rw [show v % 10 = v from by omega]; rfl
  · rw [if_neg h]; unfold dgz; rw [if_neg (by omega)]
theorem dgz_pos (v : Nat) (h : v ≠ 0) : dgz v = dg v := by unfold dgz; rw [if_neg h]
theorem dgz_zero : dgz 0 = [] := rfl
theorem dg_ne (v : Nat) : dg v ≠ [] := by rw [dg_split]; simp
theorem dg_pos (v : Nat) : 1 ≤ (dg v).length := by rw [dg_split]; simp

def isD (c : UInt8) : Bool := 48 ≤ c.toNat && c.toNat ≤ 57
def dv (c : UInt8) : Nat := c.toNat - 48
/-- what figures tell. -/
def val (l : List UInt8) : Nat := l.foldl (fun v c => 10 * v + dv c) 0

theorem val_snoc (l : List UInt8) (c : UInt8) : val (l ++ [c]) = 10 * val l + dv c := by simp [val]
theorem dv_digit (n : Nat) (h : n < 10) : dv (digit n) = n := by unfold dv; rw [digit_toNat n h]; omega
theorem isD_digit (n : Nat) (h : n < 10) : isD (digit n) = true := by unfold isD; rw [digit_toNat n h]; simp; omega
theorem isD_iff (c : UInt8) : isD c = true ↔ 48 ≤ c.toNat ∧ c.toNat ≤ 57 := by simp [isD]

theorem val_dg (v : Nat) : val (dg v) = v := by
  induction v using Nat.strongRecOn with
  | _ v ih =>
    rw [dg]
    by_cases h : v < 10
    · rw [if_pos h]; simp [val, dv_digit v h]
    · rw [if_neg h, val_snoc, ih (v / 10) (by omega), dv_digit _ (by omega)]; omega
theorem all_dg (v : Nat) : ∀ c ∈ dg v, isD c = true := by
  induction v using Nat.strongRecOn with
  | _ v ih =>
    rw [dg]
    by_cases h : v < 10
    · rw [if_pos h]; intro c hc; simp at hc; subst hc; exact isD_digit v h
    · rw [if_neg h]; intro c hc
      rcases List.mem_append.1 hc with hc | hc
      · exact ih (v / 10) (by omega) c hc
      · simp at hc; subst hc; exact isD_digit _ (by omega)
/-- no leading nought but of 0 itself. -/
theorem head_dg (v : Nat) (h : 10 ≤ v) : ∀ c r, dg v = c :: r → c.toNat ≠ 48 := by
  induction v using Nat.strongRecOn with
  | _ v ih =>
    intro c r e
    rw [dg, if_neg (by omega)] at e
    by_cases h2 : v / 10 < 10
    · rw [dg, if_pos h2] at e
      simp at e
      rw [← e.1, digit_toNat _ h2]; omega
    · obtain ⟨c', r', e'⟩ : ∃ c' r', dg (v / 10) = c' :: r' := by
        cases hd : dg (v / 10) with
        | nil => exact absurd hd (dg_ne _)
        | cons a b => exact ⟨a, b, rfl⟩
      rw [e'] at e
      simp at e
      rw [← e.1]
      exact ih (v / 10) (by omega) (by omega) c' r' e'

theorem dg_length_lt (j : Nat) : ∀ v, v < 10 ^ j → 1 ≤ j → (dg v).length ≤ j := by
  induction j with
  | zero => intro v h h1; omega
  | succ j ih =>
    intro v h _
    rw [dg]
    by_cases h2 : v < 10
    · rw [if_pos h2]; simp
    · rw [if_neg h2]
      rw [Nat.pow_succ] at h
      have hj : 1 ≤ j := by
        rcases Nat.eq_zero_or_pos j with e | e
        · subst e; simp at h; omega
        · exact e
      have := ih (v / 10) (by omega) hj
      simp; omega
theorem num_length (v : Nat) (h : v < 18446744073709551616) : (num v).length ≤ 21 := by
  have := dg_length_lt 20 v (by omega) (by omega)
  unfold num; simp; omega
end Go.Proofs.Ythcdcjidoacalaa.Dm
