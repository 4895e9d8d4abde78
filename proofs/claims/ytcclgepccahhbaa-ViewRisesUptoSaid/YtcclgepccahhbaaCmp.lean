/- Contracts: cmp.Compare of texts. -/
import Derived.Test.YtcclgepccahhbaaPair
namespace Go.Proofs.Ytcclgepccahhbaa
set_option maxRecDepth 100000
open Go.RowKit Prm
set_option linter.unusedVariables false
set_option linter.unusedSimpArgs false

/-! ### The closure that compares -/
theorem isNaN_any (s : ByteArray) (w : World) : Calls Try.prog 44 #[.string s] w fun e w' => e = .returned (.bool false) ∧ w = w' := by
  go_enter Try.func44, Try.ntmps44
  go_wp2
  go_ret
  exact ⟨by simp, rfl⟩
def cfS (a b : ByteArray) : Int := if lt a b then -1 else if lt b a then 1 else 0
theorem compare_any (a b : ByteArray) (w : World) : Calls Try.prog 36 #[.string a, .string b] w fun e w' => e = .returned (.int .i64 (cfS a b)) ∧ w = w' := by
  have e1 := lt_data a b
  have e2 := gtr_lt a b
  by_cases h1 : lt a b = true
  · have HR := Lib.hid (show cfS a b = -1 by unfold cfS; rw [if_pos h1])
    rw [h1] at e1
    clear h1 e2
    go_enter Try.func36, Try.ntmps36
    go_wp2_with (first | (go_at_call 44; refine (isNaN_any _ _).mono ?_; rintro e w' ⟨rfl, rfl⟩))
    go_ret
    exact ⟨ret_int HR.out.symm, rfl⟩
  · have h1' : lt a b = false := by simpa using h1
    rw [h1'] at e1
    by_cases h2 : lt b a = true
    · have HR := Lib.hid (show cfS a b = 1 by unfold cfS; rw [if_neg h1, if_pos h2])
      have e3 : (a.toList == b.toList) = false := by rw [same_str]; simpa using (lt_ne h2).symm
      clear h1 h1' h2 e2
      go_enter Try.func36, Try.ntmps36
      go_wp2_with (first | (go_at_call 44; refine (isNaN_any _ _).mono ?_; rintro e w' ⟨rfl, rfl⟩))
      go_ret
      exact ⟨ret_int HR.out.symm, rfl⟩
    · have h2' : lt b a = false := by simpa using h2
      have HR := Lib.hid (show cfS a b = 0 by unfold cfS; rw [if_neg h1, if_neg h2])
      have e3 : (a.toList == b.toList) = true := by
        rw [same_str, decide_eq_true_eq]
        exact Classical.byContradiction fun hne => h2 (lt_tri hne h1')
      clear h1 h1' h2 h2' e2
      go_enter Try.func36, Try.ntmps36
      go_wp2_with (first | (go_at_call 44; refine (isNaN_any _ _).mono ?_; rintro e w' ⟨rfl, rfl⟩))
      go_ret
      exact ⟨ret_int HR.out.symm, rfl⟩
end Go.Proofs.Ytcclgepccahhbaa
