/- The example of chapter 14, at the head of each law. -/
import Derived.Test.YthcdcjidoacalaaFrmFeed
namespace Go.Proofs.Ythcdcjidoacalaa
set_option maxRecDepth 100000
open Go.RowKit
set_option linter.unusedVariables false
set_option linter.unusedSimpArgs false
namespace Fm

theorem ex1 : feed ⟨[], false⟩ [50, 59, 97] = (⟨[50, 59, 97], false⟩, [], 0) := by decide
theorem ex2 : feed ⟨[50, 59, 97], false⟩ [98, 49, 59, 99] = (⟨[], false⟩, [[97, 98], [99]], 0) := by decide

set_option maxHeartbeats 2000000 in
theorem fshown_any (w : World) : Calls Try.prog 9 #[] w fun e w' => e = .returned (.bool true) ∧ Q w w' := by
  have A1 : ∀ W, Calls Try.prog 14 #[.agg #[.string ⟨#[]⟩, .bool false], .string ⟨#[50, 59, 97]⟩] W fun e w' => ∃ A c, e = .returned (.tuple #[.agg #[.string ⟨#[50, 59, 97]⟩, .bool false], .slice A 0 c, .int .i64 0]) ∧ Q W w' := fun W => by
    have h := ffeed_any ⟨[], false⟩ ⟨#[50, 59, 97]⟩ W (by decide) (by decide)
    rw [show (⟨#[50, 59, 97]⟩ : ByteArray).data.toList = [50, 59, 97] from rfl, ex1] at h
    exact h.mono fun e w' ⟨A, c, he, _, q⟩ => ⟨A, c, he, q⟩
  have A2 : ∀ W, Calls Try.prog 14 #[.agg #[.string ⟨#[50, 59, 97]⟩, .bool false], .string ⟨#[98, 49, 59, 99]⟩] W fun e w' => ∃ A c, e = .returned (.tuple #[.agg #[.string ⟨#[]⟩, .bool false], .slice A 2 c, .int .i64 0]) ∧ OwnK textK w' W.heap.size A 2 c [[97, 98], [99]] ∧ Q W w' := fun W => by
    have h := ffeed_any ⟨[50, 59, 97], false⟩ ⟨#[98, 49, 59, 99]⟩ W (by decide) (by decide)
    rw [show (⟨#[98, 49, 59, 99]⟩ : ByteArray).data.toList = [98, 49, 59, 99] from rfl, ex2] at h
    exact h
  have H1 := Lib.hid A1
  have H2 := Lib.hid A2
  clear A1 A2
  go_enter Try.func9, Try.ntmps9
  go_wp2_with fail
  refine (H1.out _).mono ?_
  rintro e w1 ⟨A, c, rfl, q1⟩
  go_wp2_with fail
  refine (H2.out _).mono ?_
  rintro e w2 ⟨B, d, rfl, o2, q2⟩
  obtain ⟨g, rfl⟩ : ∃ g, B = some ⟨g, 0, none⟩ := by
    rcases o2.parts with ⟨_, h, _⟩ | ⟨g, cur, h, _⟩
    · cases h
    · exact ⟨g, h⟩
  have x0 : w2.cell? ⟨g, 0, none⟩ = some (.string ⟨#[97, 98]⟩) := o2.cells (k := 0) (by simp) 0 _ rfl
  have x1 : w2.cell? ⟨g, 1, none⟩ = some (.string ⟨#[99]⟩) := o2.cells (k := 1) (by simp) 0 _ rfl
  have Q2 := Lib.hid ((q1.alloc (.cells #[.string ⟨#[50, 59, 97]⟩, .bool false] 23)).trans q2)
  clear o2 q1 q2
  have y0 := box_ ((Q.refl w2).alloc (.cells #[.string ⟨#[]⟩, .bool false] 23)) x0
  have y1 := box_ ((Q.refl w2).alloc (.cells #[.string ⟨#[]⟩, .bool false] 23)) x1
  go_wp2
  go_ret
  exact ⟨rfl, Q2.out.alloc _⟩
end Fm
end Go.Proofs.Ythcdcjidoacalaa
