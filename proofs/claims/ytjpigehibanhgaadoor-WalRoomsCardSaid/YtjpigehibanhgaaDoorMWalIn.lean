/- What comes in: lists of texts. -/
import Derived.Test.YtjpigehibanhgaaDoorA5
namespace Go.Proofs.YtjpigehibanhgaaDoor
set_option maxRecDepth 100000
open Go.ChangeShapes Go.WideShapes Go.RowKit Dkm
set_option linter.unusedVariables false

theorem strs_flat (rs : List (List UInt8)) : (rs.map fun r => Value.string (bs r)) = rs.flatMap fun r => [Value.string (bs r)] := by
  induction rs with
  | nil => rfl
  | cons r rs ih => rw [List.map_cons, List.flatMap_cons, ih]; rfl
theorem open_strs {w : World} {cs : List Value} (h : Rd w 23 cs) : ∃ A n c rs, cs = [.slice A n c] ∧ Strs w A n rs ∧ n * 16 ≤ 140737488351232 ∧ n ≤ c ∧ ∀ r ∈ rs, r.length ≤ 140737488351232 := by
  rcases h.slice Tryd.underlying23 with rfl | ⟨a, len, cap, rfl, hl, hm, hb, hi⟩
  · exact ⟨none, 0, 0, [], rfl, Holds.none_ _ _ _ _, by omega, Nat.le_refl _, by simp⟩
  · rw [show Tryd.prog.bytesOf 9 = 16 by kernel_rfl] at hb
    rw [show Tryd.prog.cellsOf 9 = 1 by kernel_rfl] at hi
    obtain ⟨l, hll, hr⟩ := choose_list (R := fun i (x : List UInt8) => w.cells? 0 (a.add (i * 1)) 1 = some [Value.string (bs x)] ∧ x.length ≤ 140737488351232) len (fun i hlt => by
      obtain ⟨cs', hc, hrd⟩ := hi i (by omega)
      obtain ⟨s, rfl, hs⟩ := hrd.string Tryd.underlying9
      exact ⟨s.data.toList, by rw [bs_list]; exact hc, by rw [size_list]; exact hs⟩)
    refine ⟨some a, len, cap, l, rfl, ?_, by omega, hl, fun r hr' => ?_⟩
    · have := holds_flat (fun r => [Value.string (bs r)]) 1 (fun _ => rfl) w a l (fun i hi' => (hr i hi').1)
      rw [hll] at this
      unfold Strs
      rw [strs_flat]
      exact this
    · obtain ⟨i, hi', rfl⟩ := List.getElem_of_mem hr'
      exact (hr i hi').2
end Go.Proofs.YtjpigehibanhgaaDoor
