/- The example of chapter 15, at the head of each law. -/
import Derived.Test.YtbclamfpoigneaaAlProg
namespace Go.Proofs.Ytbclamfpoigneaa
set_option maxRecDepth 100000
open Go.RowKit
set_option linter.unusedVariables false
set_option linter.unusedSimpArgs false
namespace Am
theorem ex_put1 : put [] ⟨5, 1⟩ = [⟨5, 1⟩] := by decide
theorem ex_put2 : put [⟨5, 1⟩] ⟨3, 2⟩ = [⟨3, 2⟩, ⟨5, 1⟩] := by decide
theorem ex_put3 : put [⟨3, 2⟩, ⟨5, 1⟩] ⟨4, 3⟩ = [⟨3, 2⟩, ⟨5, 1⟩, ⟨4, 3⟩] := by decide
theorem ex_due : due 3 [⟨3, 2⟩, ⟨5, 1⟩, ⟨4, 3⟩] 4 = ([⟨5, 1⟩], [2, 3]) := by decide
set_option maxHeartbeats 2000000 in
theorem alshown_any (w : World) : Calls Try.prog 8 #[] w fun e w' => e = .returned (.bool true) ∧ Q w w' := by
  have A1 : ∀ W, Calls Try.prog 10 #[.slice none 0 0, .agg #[.int .u64 5, .int .i64 1]] W (RetI alK W [⟨5, 1⟩]) := fun W => by
    have := aput_any none 0 0 [] ⟨5, 1⟩ W (In_.none_ _ _) (by omega)
    rw [ex_put1] at this; exact this
  have A2 : ∀ W A c, In_ alK W A 1 c [⟨5, 1⟩] → Calls Try.prog 10 #[.slice A 1 c, .agg #[.int .u64 3, .int .i64 2]] W (RetI alK W [⟨3, 2⟩, ⟨5, 1⟩]) := fun W A c h => by
    have := aput_any A 1 c [⟨5, 1⟩] ⟨3, 2⟩ W h (by omega)
    rw [ex_put2] at this; exact this
  have A3 : ∀ W A c, In_ alK W A 2 c [⟨3, 2⟩, ⟨5, 1⟩] → Calls Try.prog 10 #[.slice A 2 c, .agg #[.int .u64 4, .int .i64 3]] W (RetI alK W [⟨3, 2⟩, ⟨5, 1⟩, ⟨4, 3⟩]) := fun W A c h => by
    have := aput_any A 2 c [⟨3, 2⟩, ⟨5, 1⟩] ⟨4, 3⟩ W h (by omega)
    rw [ex_put3] at this; exact this
  have A4 : ∀ W A c, In_ alK W A 3 c [⟨3, 2⟩, ⟨5, 1⟩, ⟨4, 3⟩] → Calls Try.prog 14 #[.slice A 3 c, .int .u64 4] W (RetDw W ([⟨5, 1⟩], [2, 3])) := fun W A c h => by
    have := adue_any A 3 c [⟨3, 2⟩, ⟨5, 1⟩, ⟨4, 3⟩] 4 W h (by omega)
    rw [ex_due] at this; exact this
  have H1 := Lib.hid A1
  have H2 := Lib.hid A2
  have H3 := Lib.hid A3
  have H4 := Lib.hid A4
  clear A1 A2 A3 A4
  unfold RetI RetDw at *
  go_enter Try.func8, Try.ntmps8
  go_wp2_with fail
  refine (H1.out _).mono ?_
  rintro e w1 ⟨B1, c1, rfl, i1, q1⟩
  go_wp2_with fail
  refine (H2.out _ _ _ i1).mono ?_
  rintro e w2 ⟨B2, c2, rfl, i2, q2⟩
  go_wp2_with fail
  refine (H3.out _ _ _ i2).mono ?_
  rintro e w3 ⟨B3, c3, rfl, i3, q3⟩
  go_wp2_with fail
  refine (H4.out _ _ _ i3).mono ?_
  rintro e w4 ⟨B4, c4, D, d, rfl, i4, l4, q4⟩
  obtain ⟨ad, rfl, hab, x0⟩ := load_num l4 (k := 0) (by simp) (by simp)
  obtain ⟨ad2, he, hab2, x1⟩ := load_num l4 (k := 1) (by simp) (by simp)
  injection he with he
  subst he
  simp only [List.getElem_cons_zero, List.getElem_cons_succ] at x0 x1
  rw [show ad.add 0 = ad from rfl] at x0
  change w4.cell? ⟨ad.block, ad.off + 1, none⟩ = _ at x1
  have Q4 := Lib.hid (((q1.trans q2).trans q3).trans q4)
  clear q1 q2 q3 q4 i1 i2 i3 i4 l4
  go_wp2
  go_ret
  exact ⟨rfl, Q4.out⟩
end Am
end Go.Proofs.Ytbclamfpoigneaa
