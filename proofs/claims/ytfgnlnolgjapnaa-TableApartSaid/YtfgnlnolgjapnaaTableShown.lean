/- The examples of chapter 5, at the head of each law. -/
import Derived.Test.YtfgnlnolgjapnaaTableRef5
namespace Go.Proofs.Ytfgnlnolgjapnaa
set_option maxRecDepth 100000
open Go.RowKit Prm
set_option linter.unusedVariables false
set_option linter.unusedSimpArgs false

theorem shown_put1 : put [] ⟨⟨#[98]⟩, ⟨#[50]⟩⟩ = [⟨⟨#[98]⟩, ⟨#[50]⟩⟩] := rfl
theorem shown_put2 : put [⟨⟨#[98]⟩, ⟨#[50]⟩⟩] ⟨⟨#[97]⟩, ⟨#[49]⟩⟩ = [⟨⟨#[97]⟩, ⟨#[49]⟩⟩, ⟨⟨#[98]⟩, ⟨#[50]⟩⟩] := by decide
theorem shown_range : range [⟨⟨#[97]⟩, ⟨#[49]⟩⟩, ⟨⟨#[98]⟩, ⟨#[50]⟩⟩] ⟨#[97]⟩ ⟨#[98]⟩ 9 = [⟨⟨#[97]⟩, ⟨#[49]⟩⟩] := by decide

set_option maxHeartbeats 2000000 in
theorem tshown_any (w : World) : Calls Try.prog 11 #[] w fun e w' => e = .returned (.bool true) ∧ Q w w' := by
  go_enter Try.func11, Try.ntmps11
  go_wp2_with fail
  refine (put_any ⟨#[98]⟩ ⟨#[50]⟩ none 0 0 [] _ (In_.none_ _ _) (by omega)).mono ?_
  rw [shown_put1]
  rintro e w1 ⟨A1, c1, rfl, o1, q1⟩
  have I1 := Lib.hid (o1.in_ (by show 1 * 32 ≤ _; omega))
  have Q1 := Lib.hid q1
  clear o1 q1
  go_wp2_with fail
  refine (put_any ⟨#[97]⟩ ⟨#[49]⟩ A1 1 c1 _ _ I1.out (by omega)).mono ?_
  rw [shown_put2]
  rintro e w2 ⟨A2, c2, rfl, o2, q2⟩
  have I2 := Lib.hid (o2.in_ (by show 2 * 32 ≤ _; omega))
  have Q2 := Lib.hid (Q1.out.trans q2)
  clear o2 q2
  go_wp2_with fail
  refine (range_any ⟨#[97]⟩ ⟨#[98]⟩ 9 A2 2 c2 _ _ I2.out (by omega)).mono ?_
  rw [shown_range]
  rintro e w3 ⟨A3, c3, rfl, o3, q3⟩
  obtain ⟨ad, rfl, hb, x0, x1⟩ := load_pair (I2.out.lst.q q3) (k := 0) (by simp) (by simp)
  obtain ⟨ae, rfl, he, y0, y1⟩ := load_pair o3.lst (k := 0) (by simp) (by simp)
  have QQ := Lib.hid (Q2.out.trans q3)
  simp only [List.getElem_cons_zero, Nat.zero_mul] at x0 x1 y0 y1
  rw [show ad.add 0 = ad from rfl] at x0 x1
  rw [show ae.add 0 = ae from rfl] at y0 y1
  clear q3 o3
  go_wp2
  go_ret
  exact ⟨rfl, QQ.out⟩
end Go.Proofs.Ytfgnlnolgjapnaa
