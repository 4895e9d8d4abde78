/- Contracts of package sum's Of and of the document's own. -/
import Derived.Test.YthcdcjidoacalaaBase
import Derived.Test.YthcdcjidoacalaaSumMath
import Derived.Laws.BitsLemmas
namespace Go.Proofs.Ythcdcjidoacalaa
set_option maxRecDepth 100000
open Go.RowKit

theorem or_halves (a b : Int) (h0 : 0 ≤ a) (h1 : a < 65536) (h2 : 0 ≤ b) (h3 : b < 65536) : bits BinOp.or IntKind.u64 (b * 65536) a % 4294967296 = b * 65536 + a := by
  have e : bits BinOp.or IntKind.u64 (b * 65536) a = b * 65536 + a := by
    refine bits_join .u64 40 (by decide) (fun n p q => IntWalk.u64_in n ⟨p, by omega⟩) 16 (b * 65536) a ?_ ?_ ?_ ?_ ?_ ?_ <;> omega
  rw [e]; omega

theorem take_snoc (s : ByteArray) (k : Nat) (h : k < s.size) : s.data.toList.take (k + 1) = s.data.toList.take k ++ [s[k]] := by
  rw [List.take_succ_eq_append_getElem (by simpa using h)]; rfl
theorem take_all (s : ByteArray) (k : Nat) (h : s.size ≤ k) : s.data.toList.take k = s.data.toList := List.take_of_length_le (by simpa using h)

end Go.Proofs.Ythcdcjidoacalaa
