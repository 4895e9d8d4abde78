/- Contracts of Seal, the document's own, and the examples. -/
import Derived.Test.YthcdcjidoacalaaSumWalks
import Derived.Test.YthcdcjidoacalaaDecNum
namespace Go.Proofs.Ythcdcjidoacalaa
set_option maxRecDepth 100000
open Go.RowKit
set_option linter.unusedVariables false

/-- a text with its sum. -/
def sld (l : List UInt8) : List UInt8 := Dm.num l.length ++ l ++ Dm.num (Sm.adler l).toNat
theorem sld_length (l : List UInt8) (h : l.length ≤ 4611686018427387904) : (sld l).length ≤ l.length + 42 := by
  have h1 := Dm.num_length l.length (by omega)
  have h2 := Sm.adler_range l
  have h3 := Dm.num_length (Sm.adler l).toNat (by omega)
  unfold sld; simp only [List.length_append]; omega

theorem ex_nil : Sm.adler [] = 1 := by decide
theorem ex_a : Sm.adler [97] = 6422626 := by decide
theorem ex_sld : sld [97] = [49, 59, 97, 54, 52, 50, 50, 54, 50, 54, 59] := by
  unfold sld Dm.num
  rw [ex_a]
  have e1 : Dm.dg 1 = [49] := by rw [Dm.dg]; rfl
  have f0 : Dm.dg 6 = [54] := by rw [Dm.dg]; rfl
  have f1 : Dm.dg 64 = [54, 52] := by rw [Dm.dg, if_neg (by omega), show 64 / 10 = 6 from rfl, f0]; rfl
  have f2 : Dm.dg 642 = [54, 52, 50] := by rw [Dm.dg, if_neg (by omega), show 642 / 10 = 64 from rfl, f1]; rfl
  have f3 : Dm.dg 6422 = [54, 52, 50, 50] := by rw [Dm.dg, if_neg (by omega), show 6422 / 10 = 642 from rfl, f2]; rfl
  have f4 : Dm.dg 64226 = [54, 52, 50, 50, 54] := by rw [Dm.dg, if_neg (by omega), show 64226 / 10 = 6422 from rfl, f3]; rfl
  have f5 : Dm.dg 642262 = [54, 52, 50, 50, 54, 50] := by rw [Dm.dg, if_neg (by omega), show 642262 / 10 = 64226 from rfl, f4]; rfl
  have f6 : Dm.dg 6422626 = [54, 52, 50, 50, 54, 50, 54] := by rw [Dm.dg, if_neg (by omega), show 6422626 / 10 = 642262 from rfl, f5]; rfl
  rw [show (6422626 : Int).toNat = 6422626 from rfl, f6, show ([97] : List UInt8).length = 1 from rfl, e1]; rfl

end Go.Proofs.Ythcdcjidoacalaa
