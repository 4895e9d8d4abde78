/- The contract of sum.Open. -/
import Derived.Test.YthcdcjidoacalaaSumShown
import Derived.Test.YthcdcjidoacalaaDecTakeNum
namespace Go.Proofs.Ythcdcjidoacalaa
set_option maxRecDepth 100000
open Go.RowKit
set_option linter.unusedVariables false

def topen2 (s : List UInt8) (x : Nat × List UInt8 × Nat) : List UInt8 × List UInt8 × Nat :=
  if x.2.2 ≠ 0 then ([], [], x.2.2) else if (x.1 : Int) ≠ Sm.adler s then ([], [], 10) else (s, x.2.1, 0)
def topen1 (x : List UInt8 × List UInt8 × Nat) : List UInt8 × List UInt8 × Nat :=
  if x.2.2 ≠ 0 then ([], [], x.2.2) else topen2 x.1 (Dm.tnum x.2.1)
/-- what is opened: the text, what stands behind it, the errno. -/
def topen (l : List UInt8) (most : Int) : List UInt8 × List UInt8 × Nat := topen1 (Dm.ttext l most)

theorem ttext_len (l : List UInt8) (most : Int) : (Dm.ttext l most).1.length ≤ l.length ∧ (Dm.ttext l most).2.1.length ≤ l.length := by
  have h := Dm.tnum_len l
  unfold Dm.ttext
  split
  · simp
  · split
    · simp
    · split
      · simp
      · simp; omega
theorem ttext_err (l : List UInt8) (most : Int) : (Dm.ttext l most).2.2 ≤ 4 := by
  have h := Dm.tnum_err l
  unfold Dm.ttext
  split
  · simp only; omega
  · split
    · simp
    · split <;> simp

/-- a list of bytes as a text. -/
theorem bytes_of (r : List UInt8) : ∃ R : ByteArray, R = ⟨r.toArray⟩ ∧ R.size = r.length ∧ R.data.toList = r := ⟨_, rfl, by show r.toArray.size = _; simp, rfl⟩

/-! ### What was sealed is opened -/
theorem adler_maxU (l : List UInt8) : (Sm.adler l).toNat ≤ Dm.maxU := by have := Sm.adler_range l; unfold Dm.maxU; omega
theorem topen_sld (s more : List UInt8) (most : Int) (h : s.length ≤ Dm.maxU) (hm : (s.length : Int) ≤ most) : topen (sld s ++ more) most = (s, more, 0) := by
  have e : sld s ++ more = Dm.num s.length ++ (s ++ (Dm.num (Sm.adler s).toNat ++ more)) := by simp [sld]
  have hr := Sm.adler_range s
  unfold topen
  rw [e, Dm.ttext_text s _ most h hm]
  unfold topen1
  rw [if_neg (by simp)]
  simp only
  rw [Dm.tnum_num _ _ (adler_maxU s)]
  unfold topen2
  rw [if_neg (by simp), if_neg (by simp only [ne_eq, Decidable.not_not]; omega)]
theorem topen_big (s : List UInt8) (most : Int) (h : s.length ≤ Dm.maxU) (hm : most < (s.length : Int)) : topen (sld s) most = ([], [], 4) := by
  have e : sld s = Dm.num s.length ++ (s ++ Dm.num (Sm.adler s).toNat) := by simp [sld]
  unfold topen
  rw [e, Dm.ttext_big s _ most h hm]
  unfold topen1
  rw [if_pos (by simp)]
theorem topen_cut (s : List UInt8) (most : Int) (h : s.length ≤ Dm.maxU) (hm : (s.length : Int) ≤ most) (k : Nat) (hk : k < (sld s).length) : topen ((sld s).take k) most = ([], [], 2) := by
  unfold topen
  rcases Nat.lt_or_ge k (Dm.num s.length ++ s).length with a | a
  · have e : (sld s).take k = (Dm.num s.length ++ s).take k := by
      unfold sld; rw [List.take_append_of_le_length (by omega)]
    rw [e, Dm.ttext_cut s most h hm k a]
    unfold topen1
    rw [if_pos (by simp)]
  · have e : (sld s).take k = Dm.num s.length ++ (s ++ (Dm.num (Sm.adler s).toNat).take (k - (Dm.num s.length ++ s).length)) := by
      unfold sld; rw [List.take_append, List.take_of_length_le a]; simp
    rw [e, Dm.ttext_text s _ most h hm]
    unfold topen1
    rw [if_neg (by simp)]
    simp only
    have hk2 : k - (Dm.num s.length ++ s).length < (Dm.num (Sm.adler s).toNat).length := by
      unfold sld at hk; rw [List.length_append] at hk; omega
    rw [Dm.tnum_cut _ (adler_maxU s) _ hk2]
    unfold topen2
    rw [if_pos (by simp)]
end Go.Proofs.Ythcdcjidoacalaa
