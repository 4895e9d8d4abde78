/- What the laws of chapter 10 need of locks that come in. -/
import Derived.Test.YtenemdpjhoebpaaLockShown
namespace Go.Proofs.Ytenemdpjhoebpaa
set_option maxRecDepth 100000
open Go.RowKit Prm Lm Sm
set_option linter.unusedVariables false

theorem LIn.loI {w : World} {A B : Option Addr} {n c m d : Nat} {l : Lo} (h : LIn w A n c B m d l) : LoI l := ⟨fun a ha => (h.inn.1 a ha).1, fun a ha => (h.inn.2 a ha).1⟩
theorem LIn.loW {w : World} {A B : Option Addr} {n c m d : Nat} {l : Lo} (h : LIn w A n c B m d l) : LoW l := ⟨fun a ha => wns (h.inn.1 a ha).2.1 (h.inn.1 a ha).2.2, fun a ha => wns (h.inn.2 a ha).2.1.1 (h.inn.2 a ha).2.1.2⟩
theorem LIn.few {w : World} {A B : Option Addr} {n c m d : Nat} {l : Lo} (h : LIn w A n c B m d l) (hn : n ≤ 200) (hm : m ≤ 40) : Few A n c B m d l := ⟨by omega, by omega, h.loI.1, h.loI.2⟩
theorem many {n m : Nat} (h : ¬ (n ≤ 200 ∧ m ≤ 40)) : (decide (n ≤ 200) && decide (m ≤ 40)) = false := by
  by_cases h1 : n ≤ 200 <;> by_cases h2 : m ≤ 40 <;> simp [h1, h2]
  exact h ⟨h1, h2⟩
theorem few {n m : Nat} (h : n ≤ 200 ∧ m ≤ 40) : (decide (n ≤ 200) && decide (m ≤ 40)) = true := by simp [h.1, h.2]
theorem rints_same (A B : Option Addr) (n c m d : Nat) (l : List Int) (w : World) (h1 : Lst numK w A n l) (h2 : Lst numK w B m l) (hn : n ≤ maxLen) :
    Calls Try.prog 15 #[.slice A n c, .slice B m d] w fun e w' => e = .returned (.bool true) ∧ Q w w' := by
  have := rints_any A B n c m d l l w h1 h2 hn (by rw [← h2.len, h1.len]; exact hn)
  rwa [decide_eq_true rfl] at this
theorem rsame_same (A B C D : Option Addr) (n c m d p q r s : Nat) (x : Lo) (w : World) (h1 : Lst holdK w A n x.held) (h2 : Lst claimK w B m x.queue) (h3 : Lst holdK w C p x.held) (h4 : Lst claimK w D r x.queue) (hn : n ≤ maxLen) (hm : m ≤ maxLen) :
    Calls Try.prog 14 #[locV A n c B m d, locV C p q D r s] w fun e w' => e = .returned (.bool true) ∧ Q w w' := by
  have := rsame_any A B C D n c m d p q r s x x w h1 h2 h3 h4 hn hm (by rw [← h3.len, h1.len]; exact hn) (by rw [← h4.len, h2.len]; exact hm)
  rwa [decide_eq_true rfl] at this
theorem lsame_same (A B C D : Option Addr) (n c m d p q r s : Nat) (x : Lo) (w : World) (h1 : Lst holdK w A n x.held) (h2 : Lst claimK w B m x.queue) (h3 : Lst holdK w C p x.held) (h4 : Lst claimK w D r x.queue) (hn : n ≤ maxLen) (hm : m ≤ maxLen) :
    Calls Try.prog 22 #[locV A n c B m d, locV C p q D r s] w fun e w' => e = .returned (.bool true) ∧ Q w w' := by
  have := lsame_any A B C D n c m d p q r s x x w h1 h2 h3 h4 hn hm (by rw [← h3.len, h1.len]; exact hn) (by rw [← h4.len, h2.len]; exact hm)
  rwa [decide_eq_true rfl] at this
theorem beq_b (r : Bool) : (r == r) = true := by cases r <;> rfl
end Go.Proofs.Ytenemdpjhoebpaa
