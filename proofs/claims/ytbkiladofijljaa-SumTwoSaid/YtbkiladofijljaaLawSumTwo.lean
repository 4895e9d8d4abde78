/- For every two texts: the sum of one behind the other is the Join of their sums. No condition. -/
import Derived.Test.YtbkiladofijljaaSumShown
import Derived.Test.YtbkiladofijljaaSumJoin
import Derived.SizedLaws
namespace Go.Proofs.Ytbkiladofijljaa.sumTwo
open Go.ChangeShapes Go.WideShapes Go.ChangeAt Go.RowKit
open Go.ChangeMaps (open_string shut_string)
set_option linter.unusedVariables false

theorem own : ownKnob Try.prog.godebug = none := by kernel_rfl

theorem two (a b : List UInt8) : jval (Sm.adler a) (Sm.adler b) (b.length : Int) = Sm.adler (a ++ b) := by
  unfold jval jhi jlo
  rw [Sm.adler_lo, Sm.adler_hi, Sm.adler_lo, Sm.adler_hi, ← Sm.lo_append, ← Sm.hi_append]
  rfl

set_option maxHeartbeats 400000 in
theorem walk (a0 a1 : ByteArray) (r0 : a0.size ≤ 140737488351232) (r1 : a1.size ≤ 140737488351232) (w : World) :
    Calls Try.prog 9 #[.string a0, .string a1] w fun e w' => e = .returned (.bool true) ∧ Q w w' := by
  have ha := Sm.adler_range a0.data.toList
  have hb := Sm.adler_range a1.data.toList
  have ha1 := Sm.lo_range a0.data.toList
  have ha2 := Sm.hi_range a0.data.toList
  have hb1 := Sm.lo_range a1.data.toList
  have hb2 := Sm.hi_range a1.data.toList
  have A1 := Lib.hid (Sm.adler_lo a0.data.toList)
  have A2 := Lib.hid (Sm.adler_hi a0.data.toList)
  have B1 := Lib.hid (Sm.adler_lo a1.data.toList)
  have B2 := Lib.hid (Sm.adler_hi a1.data.toList)
  have ht := two a0.data.toList a1.data.toList
  rw [size_list] at ht
  have HT := Lib.hid ht
  clear ht
  go_enter Try.func9, Try.ntmps9
  go_wp2_with fail
  refine (shown_any _).mono ?_
  rintro e w1 ⟨rfl, q1⟩
  go_wp2_with fail
  refine (of_any _ _ (by unfold maxLen; omega)).mono ?_
  rintro e w2 ⟨rfl, q2⟩
  go_wp2_with fail
  refine (of_any _ _ (by unfold maxLen; omega)).mono ?_
  rintro e w3 ⟨rfl, q3⟩
  go_wp2_with fail
  refine (join_yes _ _ _ _ ha.1 ha.2 hb.1 hb.2 (by omega) (by omega) (by rw [A1.out]; exact ha1.2) (by rw [A2.out]; exact ha2.2) (by rw [B1.out]; exact hb1.2) (by rw [B2.out]; exact hb2.2)).mono ?_
  rintro e w4 ⟨rfl, q4⟩
  rw [HT.out]
  go_wp2_with fail
  refine (of_any _ _ (by unfold maxLen; rw [ByteArray.size_append]; omega)).mono ?_
  rintro e w5 ⟨rfl, q5⟩
  go_wp2_with fail
  go_ret
  exact ⟨ret_bool (by simp), q1.trans (q2.trans (q3.trans (q4.trans q5)))⟩


set_option maxRecDepth 100000 in
theorem lifted (os : Os) (started : os.Started) (H : Type) (enc : TypeId × Value → H) :
    ReturnsInHanded {} Try.checked os 9 .any (Rows.sumTwoSpec.pre6 enc Try.prog Try.f9 Rows.sumTwoRow.domain false) (Rows.sumTwoSpec.post enc Try.prog Try.f9 false true false false) := by
  refine returnsInHanded_of_change_sized (C := Try.checked) own started (by kernel_rfl) Try.func9
    (ChangeSpec.witness6 (enc := enc) (C := Try.checked) false ⟨#[], #[.string ByteArray.empty, .string ByteArray.empty], []⟩ 8 (by kernel_rfl) (by kernel_rfl) (by kernel_rfl) (by kernel_rfl)) ?_
  intro W base args ds gs before hval0 hW hcnd hsz0 _
  have hval : ∀ (j : Nat) t v, Try.f9.params[j]? = some t → args[j]? = some v → Value.okWide Try.prog W .any base t v := hval0
  have hsz : (DataW.weightsEach Try.prog (Try.f9.params.toList ++ Rows.sumTwoSpec.plain.varTypes Try.prog) (ds ++ gs)).all (· ≤ reachBytes) = true := hsz0
  clear hsz0
  have hW' := hW
  obtain ⟨p, q, hA0, hV, rfl, hfz, hnd⟩ := hW
  have hA : DataW.TrodAll enc Try.prog W 0 (fun _ => true) true Try.f9.params.toList args.toList ds p := hA0
  rw [Try.params9] at hA hval hsz
  obtain ⟨v0, vs0, d0, ds0, p0, q0, hargs, rfl, rfl, h0, r0⟩ := trodAll_cons hA
  obtain ⟨v1, vs1, d1, ds1, p1, q1, rfl, rfl, rfl, h1, r1⟩ := trodAll_cons r0
  obtain ⟨rfl, rfl, rfl⟩ := trodAll_nil r1
  obtain rfl : args = #[v0, v1] := by cases args; simp_all
  obtain ⟨rfl, rfl⟩ := trodVars_none hV
  obtain ⟨a0, rfl, rfl, rfl, w0⟩ := open_string Try.underlying9 (hval 0 9 v0 rfl rfl) h0
  obtain ⟨a1, rfl, rfl, rfl, w1⟩ := open_string Try.underlying9 (hval 1 9 v1 rfl rfl) h1
  have r0 : a0.size ≤ 140737488351232 := by
    have := sized_string hsz (j := 0) (t := 9) rfl rfl
    simp only [reachBytes] at this
    simpa using this
  have r1 : a1.size ≤ 140737488351232 := by
    have := sized_string hsz (j := 1) (t := 9) rfl rfl
    simp only [reachBytes] at this
    simpa using this
  clear hA0 hval0
  simp only [List.append_nil] at hW'
  refine (walk a0 a1 r0 r1 W).mono fun e W' ⟨he, hg⟩ => ?_
  subst he
  exact ⟨_, rfl, _, _, _, [], [], [], hW', trodAll_mk1 (shut_bool Try.underlying4 _), (trodAll_cons_mk (shut_string Try.underlying9 w0) (trodAll_cons_mk (shut_string Try.underlying9 w1) trodAll_mk0)), rfl, hg.below.frame _, fun h => by cases h⟩

theorem over : Rows.sumTwoRow.holds Try.pinned (OpenSpec.ofChange Rows.sumTwoSpec) :=
  OpenClaim.holds_of_wide 9 Try.f9 rfl rfl rfl rfl rfl rfl rfl ⟨rfl, rfl, rfl, rfl, rfl⟩ rfl rfl rfl rfl rfl (by kernel_rfl) Try.func9 (by kernel_rfl)
    (of_decide_eq_true (by kernel_rfl)) (by unfold Func.isWrapper; first | (rw [if_pos (by decide +kernel)]; kernel_rfl) | (rw [if_neg (by decide +kernel)]; exact ⟨rfl, rfl⟩))
    (fun os started H enc _ => lifted os started H enc)

theorem proved : Rows.SumTwoSaid := over
end Go.Proofs.Ytbkiladofijljaa.sumTwo
