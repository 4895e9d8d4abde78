/- The example of chapter 7, at the head of each law. -/
import Derived.Test.YtlbjobbmjccekaaBatchBytes
namespace Go.Proofs.Ytlbjobbmjccekaa
set_option maxRecDepth 100000
open Go.RowKit Prm
set_option linter.unusedVariables false
set_option linter.unusedSimpArgs false

def exWr : Wr := ⟨⟨#[97]⟩, ⟨#[49]⟩, false⟩
theorem bex_may : Bm.may ⟨1, ⟨#[116]⟩, [exWr]⟩ = true := by decide
theorem bex_bytes : Bm.bytesM ⟨1, ⟨#[116]⟩, [exWr]⟩ = ([49, 59, 49, 59, 116, 49, 59, 48, 59, 49, 59, 97, 49, 59, 49], 0) := by
  have e1 : Dm.num 1 = [49, 59] := by unfold Dm.num; rw [show Dm.dg 1 = [49] by rw [Dm.dg]; rfl]; rfl
  have e0 : Dm.num 0 = [48, 59] := by unfold Dm.num; rw [show Dm.dg 0 = [48] by rw [Dm.dg]; rfl]; rfl
  unfold Bm.bytesM
  rw [bex_may]
  show (Dm.num 1 ++ (Dm.num 1 ++ [116]) ++ Dm.num 1 ++ (Dm.num 0 ++ (Dm.num 1 ++ [97]) ++ (Dm.num 1 ++ [49]) ++ []), (0 : Int)) = _
  rw [e1, e0]; rfl
theorem bbytes_ex (w : World) : Calls Try.prog 12 #[batV 1 ⟨#[116]⟩ (some ⟨w.heap.size, 0, none⟩) 1 1] (w.alloc (.cells #[.string ⟨#[97]⟩, .string ⟨#[49]⟩, .bool false] 63)) fun e w' => e = .returned (.tuple #[.string ⟨#[49, 59, 49, 59, 116, 49, 59, 48, 59, 49, 59, 97, 49, 59, 49]⟩, .int .i64 0]) ∧ Q (w.alloc (.cells #[.string ⟨#[97]⟩, .string ⟨#[49]⟩, .bool false] 63)) w' := by
  have h := bbytes_any 1 ⟨#[116]⟩ (some ⟨w.heap.size, 0, none⟩) 1 1 [exWr] _ (lit_write w exWr).lst (by unfold maxLen; omega)
  rw [bex_bytes] at h
  exact h

set_option maxHeartbeats 2000000 in
theorem bshown_any (w : World) : Calls Try.prog 11 #[] w fun e w' => e = .returned (.bool true) ∧ Q w w' := by
  go_enter Try.func11, Try.ntmps11
  go_wp2_with fail
  refine (bbytes_ex _).mono ?_
  rintro e w1 ⟨rfl, q1⟩
  have Q1 := Lib.hid (((Q.refl w).alloc _).trans q1)
  clear q1
  go_wp2
  go_ret
  exact ⟨by first | rfl | simp, Q1.out⟩
end Go.Proofs.Ytlbjobbmjccekaa
