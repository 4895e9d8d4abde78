/- Contracts of Seal, the document's own, and the examples. -/
import Derived.Test.YtbkiladofijljaaSumWalks
import Derived.Test.YtbkiladofijljaaDecNum
namespace Go.Proofs.Ytbkiladofijljaa
open Go.RowKit
set_option linter.unusedVariables false

/-- a text with its sum. -/
def sld (l : List UInt8) : List UInt8 := Dm.num l.length ++ l ++ Dm.num (Sm.adler l).toNat
theorem sld_length (l : List UInt8) (h : l.length ≤ 4611686018427387904) : (sld l).length ≤ l.length + 42 := by
  have h1 := Dm.num_length l.length (by omega)
  have h2 := Sm.adler_range l
  have h3 := Dm.num_length (Sm.adler l).toNat (by omega)
  unfold sld; simp only [List.length_append]; omega

set_option maxHeartbeats 400000 in
theorem seal_any (s : ByteArray) (w : World) (hs : s.size ≤ 4611686018427387800) :
    Calls Try.prog 15 #[.string s] w fun e w' => e = .returned (.string ⟨(sld s.data.toList).toArray⟩) ∧ Q w w' := by
  have h2 := Sm.adler_range s.data.toList
  have h1 := Dm.num_length s.size (by omega)
  have h3 := Dm.num_length (Sm.adler s.data.toList).toNat (by omega)
  go_enter Try.func15, Try.ntmps15
  go_wp2_with fail
  refine (text_any _ _ (by omega)).mono ?_
  rintro e w1 ⟨rfl, q1⟩
  go_wp2_with fail
  refine (of_any _ _ (by unfold maxLen; omega)).mono ?_
  rintro e w2 ⟨rfl, q2⟩
  go_wp2_with fail
  refine (num_any _ _ (by omega) (by omega)).mono ?_
  rintro e w3 ⟨rfl, q3⟩
  go_wp2_with fail
  go_ret
  exact ⟨ret_str (by unfold sld; rw [size_list]; exact app_lists _ _), q1.trans (q2.trans q3)⟩

set_option maxHeartbeats 400000 in
theorem refSeal_any (s : ByteArray) (w : World) (hs : s.size ≤ 4611686018427387800) :
    Calls Try.prog 16 #[.string s] w fun e w' => e = .returned (.string ⟨(sld s.data.toList).toArray⟩) ∧ Q w w' := by
  have h2 := Sm.adler_range s.data.toList
  have h1 := Dm.num_length s.size (by omega)
  have h3 := Dm.num_length (Sm.adler s.data.toList).toNat (by omega)
  go_enter Try.func16, Try.ntmps16
  go_wp2_with fail
  refine (refText_any _ _ (by omega)).mono ?_
  rintro e w1 ⟨rfl, q1⟩
  go_wp2_with fail
  refine (refOf_any _ _ (by unfold maxLen; omega)).mono ?_
  rintro e w2 ⟨rfl, q2⟩
  go_wp2_with fail
  refine (refNum_any _ _ (by omega) (by omega)).mono ?_
  rintro e w3 ⟨rfl, q3⟩
  go_wp2_with fail
  go_ret
  exact ⟨ret_str (by unfold sld; rw [size_list]; exact app_lists _ _), q1.trans (q2.trans q3)⟩

theorem ex_nil : Sm.adler [] = 1 := by decide
theorem ex_a : Sm.adler [97] = 6422626 := by decide
theorem ex_sld : sld [97] = [49, 59, 97, 54, 52, 50, 50, 54, 50, 54, 59] := by
  unfold sld Dm.num
  rw [ex_a]
  have e1 : Dm.dg 1 = [49] := by rw [Dm.dg]; rfl
  have f0 : Dm.dg 6 = [54] := by rw [Dm.dg]; rfl
  have f1 : Dm.dg 64 = [54, 52] := by rw [Dm.dg, if_neg (by omega), show 64 / 10 = 6 from rfl, f0]; rfl
  have f2 : Dm.dg 642 = [54, 52, 50] := by rw [Dm.dg, if_neg (by omega), show 642 / 10 = 64 from rfl, f1]; rfl
  have f3 : Dm.dg 6422 = [54, 52, 50, 50] := by rw [Dm.dg, if_neg (by omega), show 6422 / 10 = 642 from rfl, f2]; rfl
  have f4 : Dm.dg 64226 = [54, 52, 50, 50, 54] := by rw [Dm.dg, if_neg (by omega), show 64226 / 10 = 6422 from rfl, f3]; rfl
  have f5 : Dm.dg 642262 = [54, 52, 50, 50, 54, 50] := by rw [Dm.dg, if_neg (by omega), show 642262 / 10 = 64226 from rfl, f4]; rfl
  have f6 : Dm.dg 6422626 = [54, 52, 50, 50, 54, 50, 54] := by rw [Dm.dg, if_neg (by omega), show 6422626 / 10 = 642262 from rfl, f5]; rfl
  rw [show (6422626 : Int).toNat = 6422626 from rfl, f6, show ([97] : List UInt8).length = 1 from rfl, e1]; rfl

theorem of_empty (w : World) : Calls Try.prog 13 #[.string ⟨#[]⟩] w fun e w' => e = .returned (.int .u32 1) ∧ Q w w' := of_any ⟨#[]⟩ w (by decide)
theorem of_a (w : World) : Calls Try.prog 13 #[.string ⟨#[97]⟩] w fun e w' => e = .returned (.int .u32 6422626) ∧ Q w w' := by
  have h := of_any ⟨#[97]⟩ w (by decide)
  rw [show (⟨#[97]⟩ : ByteArray).data.toList = [97] from rfl, ex_a] at h
  exact h
theorem seal_a (w : World) : Calls Try.prog 15 #[.string ⟨#[97]⟩] w fun e w' => e = .returned (.string ⟨#[49, 59, 97, 54, 52, 50, 50, 54, 50, 54, 59]⟩) ∧ Q w w' := by
  have h := seal_any ⟨#[97]⟩ w (by decide)
  rw [show (⟨#[97]⟩ : ByteArray).data.toList = [97] from rfl, ex_sld] at h
  exact h

set_option maxHeartbeats 400000 in
theorem shown_any (w : World) : Calls Try.prog 12 #[] w fun e w' => e = .returned (.bool true) ∧ Q w w' := by
  go_enter Try.func12, Try.ntmps12
  go_wp2_with fail
  refine (of_empty _).mono ?_
  rintro e w1 ⟨rfl, q1⟩
  go_wp2_with fail
  refine (of_a _).mono ?_
  rintro e w2 ⟨rfl, q2⟩
  go_wp2_with fail
  refine (seal_a _).mono ?_
  rintro e w3 ⟨rfl, q3⟩
  go_wp2_with fail
  go_ret
  exact ⟨rfl, q1.trans (q2.trans q3)⟩
end Go.Proofs.Ytbkiladofijljaa
