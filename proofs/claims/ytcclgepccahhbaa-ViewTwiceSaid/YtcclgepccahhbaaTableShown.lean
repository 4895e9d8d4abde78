/- The examples of chapter 5, at the head of each law. -/
import Derived.Test.YtcclgepccahhbaaTableRef5
namespace Go.Proofs.Ytcclgepccahhbaa
set_option maxRecDepth 100000
open Go.RowKit Prm
set_option linter.unusedVariables false
set_option linter.unusedSimpArgs false

theorem shown_put1 : put [] ⟨⟨#[98]⟩, ⟨#[50]⟩⟩ = [⟨⟨#[98]⟩, ⟨#[50]⟩⟩] := rfl
theorem shown_put2 : put [⟨⟨#[98]⟩, ⟨#[50]⟩⟩] ⟨⟨#[97]⟩, ⟨#[49]⟩⟩ = [⟨⟨#[97]⟩, ⟨#[49]⟩⟩, ⟨⟨#[98]⟩, ⟨#[50]⟩⟩] := by decide
theorem shown_range : range [⟨⟨#[97]⟩, ⟨#[49]⟩⟩, ⟨⟨#[98]⟩, ⟨#[50]⟩⟩] ⟨#[97]⟩ ⟨#[98]⟩ 9 = [⟨⟨#[97]⟩, ⟨#[49]⟩⟩] := by decide

end Go.Proofs.Ytcclgepccahhbaa
