/- For every text: both halves of its sum are below 65521, the lower one is 1 and the sum of the bytes. No condition. -/
import Derived.Test.YtbkiladofijljaaSumShown
import Derived.Test.YtbkiladofijljaaSumJoin
import Derived.SizedLaws
namespace Go.Proofs.Ytbkiladofijljaa.sumHalves
open Go.ChangeShapes Go.WideShapes Go.ChangeAt Go.RowKit
open Go.ChangeMaps (open_string shut_string)
set_option linter.unusedVariables false

theorem own : ownKnob Try.prog.godebug = none := by kernel_rfl

set_option maxHeartbeats 400000 in
theorem walk (a0 : ByteArray) (r0 : a0.size ≤ 140737488351232) (w : World) :
    Calls Try.prog 10 #[.string a0] w fun e w' => e = .returned (.bool true) ∧ Q w w' := by
  have hr := Sm.adler_range a0.data.toList
  have hlo := Sm.adler_lo a0.data.toList
  have hhi := Sm.adler_hi a0.data.toList
  have h1 := Sm.lo_range a0.data.toList
  have h2 := Sm.hi_range a0.data.toList
  have g1 : Sm.adler a0.data.toList % 65536 < 65521 := by omega
  have g2 : Sm.adler a0.data.toList / 65536 < 65521 := by omega
  have HLO := Lib.hid hlo
  clear hlo hhi h1 h2
  go_enter Try.func10, Try.ntmps10
  go_wp2_with fail
  refine (shown_any _).mono ?_
  rintro e w1 ⟨rfl, q1⟩
  go_wp2_with fail
  refine (of_any _ _ (by unfold maxLen; omega)).mono ?_
  rintro e w2 ⟨rfl, q2⟩
  go_wp2_with fail
  have HR := Lib.hid hr
  clear hr
  go_loop [5, 6] (fun n i => ∃ k : Nat, k ≤ a0.size ∧ i = .int .i64 k ∧ n = .int .i64 (Sm.lo (a0.data.toList.take k))) (fun _ i => a0.size - (intOf i).toNat)
  case atStart => exact ⟨0, Nat.zero_le _, rfl, rfl⟩
  case round =>
    obtain ⟨k, hk, rfl, rfl⟩ := hrel
    have r1 := Sm.lo_range (a0.data.toList.take k)
    by_cases hlt : k < a0.size
    · have hts := take_snoc a0 k hlt
      have e1 := Sm.lo_snoc (a0.data.toList.take k) a0[k]
      rw [← hts] at e1
      have H1 := Lib.hid e1
      clear e1 hts
      generalize Sm.lo (a0.data.toList.take k) = A at *
      have hb := a0[k].toNat_lt
      go_wp2_with fail
      go_round
      case rel => exact ⟨k + 1, by omega, by go_num, by rw [H1.out]⟩
      case measure => simp [intOf]; omega
    · have hall := take_all a0 k (by omega)
      rw [hall] at r1 ⊢
      clear hall
      have hr := HR.out
      have heq : (Sm.adler a0.data.toList % 65536 == Sm.lo a0.data.toList) = true := by rw [HLO.out]; simp
      go_wp2_with fail
      go_ret
      exact ⟨ret_bool (by simp), q1.trans q2⟩


set_option maxRecDepth 100000 in
theorem lifted (os : Os) (started : os.Started) (H : Type) (enc : TypeId × Value → H) :
    ReturnsInHanded {} Try.checked os 10 .any (Rows.sumHalvesSpec.pre6 enc Try.prog Try.f10 Rows.sumHalvesRow.domain false) (Rows.sumHalvesSpec.post enc Try.prog Try.f10 false true false false) := by
  refine returnsInHanded_of_change_sized (C := Try.checked) own started (by kernel_rfl) Try.func10
    (ChangeSpec.witness6 (enc := enc) (C := Try.checked) false ⟨#[], #[.string ByteArray.empty], []⟩ 8 (by kernel_rfl) (by kernel_rfl) (by kernel_rfl) (by kernel_rfl)) ?_
  intro W base args ds gs before hval0 hW hcnd hsz0 _
  have hval : ∀ (j : Nat) t v, Try.f10.params[j]? = some t → args[j]? = some v → Value.okWide Try.prog W .any base t v := hval0
  have hsz : (DataW.weightsEach Try.prog (Try.f10.params.toList ++ Rows.sumHalvesSpec.plain.varTypes Try.prog) (ds ++ gs)).all (· ≤ reachBytes) = true := hsz0
  clear hsz0
  have hW' := hW
  obtain ⟨p, q, hA0, hV, rfl, hfz, hnd⟩ := hW
  have hA : DataW.TrodAll enc Try.prog W 0 (fun _ => true) true Try.f10.params.toList args.toList ds p := hA0
  rw [Try.params10] at hA hval hsz
  obtain ⟨v0, vs0, d0, ds0, p0, q0, hargs, rfl, rfl, h0, r0⟩ := trodAll_cons hA
  obtain ⟨rfl, rfl, rfl⟩ := trodAll_nil r0
  obtain rfl : args = #[v0] := by cases args; simp_all
  obtain ⟨rfl, rfl⟩ := trodVars_none hV
  obtain ⟨a0, rfl, rfl, rfl, w0⟩ := open_string Try.underlying9 (hval 0 9 v0 rfl rfl) h0
  have r0 : a0.size ≤ 140737488351232 := by
    have := sized_string hsz (j := 0) (t := 9) rfl rfl
    simp only [reachBytes] at this
    simpa using this
  clear hA0 hval0
  simp only [List.append_nil] at hW'
  refine (walk a0 r0 W).mono fun e W' ⟨he, hg⟩ => ?_
  subst he
  exact ⟨_, rfl, _, _, _, [], [], [], hW', trodAll_mk1 (shut_bool Try.underlying4 _), (trodAll_cons_mk (shut_string Try.underlying9 w0) trodAll_mk0), rfl, hg.below.frame _, fun h => by cases h⟩

theorem over : Rows.sumHalvesRow.holds Try.pinned (OpenSpec.ofChange Rows.sumHalvesSpec) :=
  OpenClaim.holds_of_wide 10 Try.f10 rfl rfl rfl rfl rfl rfl rfl ⟨rfl, rfl, rfl, rfl, rfl⟩ rfl rfl rfl rfl rfl (by kernel_rfl) Try.func10 (by kernel_rfl)
    (of_decide_eq_true (by kernel_rfl)) (by unfold Func.isWrapper; first | (rw [if_pos (by decide +kernel)]; kernel_rfl) | (rw [if_neg (by decide +kernel)]; exact ⟨rfl, rfl⟩))
    (fun os started H enc _ => lifted os started H enc)

theorem proved : Rows.SumHalvesSaid := over
end Go.Proofs.Ytbkiladofijljaa.sumHalves
