/- For every text, whatever stands behind it, every cut: what was sealed is opened as it was, and no beginning of it is. No condition. -/
import Derived.Test.YtbkiladofijljaaSumOpen
import Derived.SizedLaws
namespace Go.Proofs.Ytbkiladofijljaa.sumBack
open Go.ChangeShapes Go.WideShapes Go.ChangeAt Go.RowKit
open Go.ChangeMaps (open_string shut_string)
set_option linter.unusedVariables false

theorem own : ownKnob Try.prog.godebug = none := by kernel_rfl

theorem data_app (a b : ByteArray) : (a ++ b).data.toList = a.data.toList ++ b.data.toList := by rw [ByteArray.data_append]; exact Array.toList_append

set_option maxHeartbeats 400000 in
theorem walk (a0 a1 : ByteArray) (a2 : Int) (r0 : a0.size ≤ 140737488351232) (r1 : a1.size ≤ 140737488351232) (w2 : (Lit.int .i64 a2).wf = true) (w : World) :
    Calls Try.prog 6 #[.string a0, .string a1, .int .i64 a2] w fun e w' => e = .returned (.bool true) ∧ Q w w' := by
  have b2 := bounds_i64 w2
  obtain ⟨b20, b21⟩ := b2
  clear w2
  have hll : a0.data.toList.length = a0.size := size_list a0
  have hmx : a0.data.toList.length ≤ Dm.maxU := by rw [hll]; unfold Dm.maxU; omega
  have hslen := sld_length a0.data.toList (by rw [hll]; omega)
  have hseal := fun W => seal_any a0 W (by omega)
  have hop := topen_sld a0.data.toList a1.data.toList (a0.size : Int) hmx (by rw [hll]; omega)
  have hcut := fun k hk => topen_cut a0.data.toList (a0.size : Int) hmx (by rw [hll]; omega) k hk
  obtain ⟨F, hF, hFs, hFl⟩ := bytes_of (sld a0.data.toList)
  rw [← hF] at hseal
  rw [← hFs, hll] at hslen
  rw [← hFl, ← data_app] at hop
  rw [← hFl, size_list F] at hcut
  have h0 : (⟨a0.data.toList.toArray⟩ : ByteArray) = a0 := by cases a0; rfl
  have h1 : (⟨a1.data.toList.toArray⟩ : ByteArray) = a1 := by cases a1; rfl
  have hopen := fun W => open_any (F ++ a1) (a0.size : Int) W (by unfold maxLen; rw [ByteArray.size_append]; omega) (by omega) (by omega)
  rw [hop] at hopen
  unfold ttR at hopen
  simp only [h0, h1] at hopen
  have hsize : (F ++ a1).size = F.size + a1.size := ByteArray.size_append
  have HSEAL := Lib.hid hseal
  have HOPEN := Lib.hid hopen
  have HCUT := Lib.hid hcut
  clear hll hmx hseal hop hcut hF hFs hFl h0 h1 hopen hsize
  by_cases c0 : a2 < 0
  · go_enter Try.func6, Try.ntmps6
    go_wp2_with fail
    refine (shown_any _).mono ?_
    rintro e w1 ⟨rfl, q1⟩
    go_wp2_with fail
    refine (HSEAL.out _).mono ?_
    rintro e w2 ⟨rfl, q2⟩
    go_wp2_with fail
    refine (HOPEN.out _).mono ?_
    rintro e w3 ⟨rfl, q3⟩
    go_wp2_with fail
    go_ret
    exact ⟨rfl, q1.trans (q2.trans q3)⟩
  obtain ⟨k, rfl⟩ := Int.eq_ofNat_of_zero_le (show 0 ≤ a2 by omega)
  clear c0 b20
  by_cases c1 : F.size ≤ k
  · go_enter Try.func6, Try.ntmps6
    go_wp2_with fail
    refine (shown_any _).mono ?_
    rintro e w1 ⟨rfl, q1⟩
    go_wp2_with fail
    refine (HSEAL.out _).mono ?_
    rintro e w2 ⟨rfl, q2⟩
    go_wp2_with fail
    refine (HOPEN.out _).mono ?_
    rintro e w3 ⟨rfl, q3⟩
    go_wp2_with fail
    go_ret
    exact ⟨rfl, q1.trans (q2.trans q3)⟩
  have hk : k < F.size := by omega
  have he : (F.extract 0 k).data.toList = F.data.toList.take k := by rw [extract_list]; simp
  have hes : (F.extract 0 k).size ≤ maxLen := by unfold maxLen; rw [← size_list, he, List.length_take, size_list]; omega
  have hopen2 := fun W => open_any (F.extract 0 k) (a0.size : Int) W hes (by omega) (by omega)
  rw [he, HCUT.out k hk] at hopen2
  have HO2 := Lib.hid hopen2
  clear c1 he hes hopen2
  go_enter Try.func6, Try.ntmps6
  go_wp2_with fail
  refine (shown_any _).mono ?_
  rintro e w1 ⟨rfl, q1⟩
  go_wp2_with fail
  refine (HSEAL.out _).mono ?_
  rintro e w2 ⟨rfl, q2⟩
  go_wp2_with fail
  refine (HOPEN.out _).mono ?_
  rintro e w3 ⟨rfl, q3⟩
  go_wp2_with fail
  refine (HO2.out _).mono ?_
  rintro e w4 ⟨rfl, q4⟩
  unfold ttR
  go_wp2_with fail
  go_ret
  exact ⟨rfl, q1.trans (q2.trans (q3.trans q4))⟩


set_option maxRecDepth 100000 in
theorem lifted (os : Os) (started : os.Started) (H : Type) (enc : TypeId × Value → H) :
    ReturnsInHanded {} Try.checked os 6 .any (Rows.sumBackSpec.pre6 enc Try.prog Try.f6 Rows.sumBackRow.domain false) (Rows.sumBackSpec.post enc Try.prog Try.f6 false true false false) := by
  refine returnsInHanded_of_change_sized (C := Try.checked) own started (by kernel_rfl) Try.func6
    (ChangeSpec.witness6 (enc := enc) (C := Try.checked) false ⟨#[], #[.string ByteArray.empty, .string ByteArray.empty, .int .i64 0], []⟩ 8 (by kernel_rfl) (by kernel_rfl) (by kernel_rfl) (by kernel_rfl)) ?_
  intro W base args ds gs before hval0 hW hcnd hsz0 _
  have hval : ∀ (j : Nat) t v, Try.f6.params[j]? = some t → args[j]? = some v → Value.okWide Try.prog W .any base t v := hval0
  have hsz : (DataW.weightsEach Try.prog (Try.f6.params.toList ++ Rows.sumBackSpec.plain.varTypes Try.prog) (ds ++ gs)).all (· ≤ reachBytes) = true := hsz0
  clear hsz0
  have hW' := hW
  obtain ⟨p, q, hA0, hV, rfl, hfz, hnd⟩ := hW
  have hA : DataW.TrodAll enc Try.prog W 0 (fun _ => true) true Try.f6.params.toList args.toList ds p := hA0
  rw [Try.params6] at hA hval hsz
  obtain ⟨v0, vs0, d0, ds0, p0, q0, hargs, rfl, rfl, h0, r0⟩ := trodAll_cons hA
  obtain ⟨v1, vs1, d1, ds1, p1, q1, rfl, rfl, rfl, h1, r1⟩ := trodAll_cons r0
  obtain ⟨v2, vs2, d2, ds2, p2, q2, rfl, rfl, rfl, h2, r2⟩ := trodAll_cons r1
  obtain ⟨rfl, rfl, rfl⟩ := trodAll_nil r2
  obtain rfl : args = #[v0, v1, v2] := by cases args; simp_all
  obtain ⟨rfl, rfl⟩ := trodVars_none hV
  obtain ⟨a0, rfl, rfl, rfl, w0⟩ := open_string Try.underlying9 (hval 0 9 v0 rfl rfl) h0
  obtain ⟨a1, rfl, rfl, rfl, w1⟩ := open_string Try.underlying9 (hval 1 9 v1 rfl rfl) h1
  obtain ⟨a2, rfl, rfl, rfl, w2⟩ := open_int Try.underlying3 (hval 2 3 v2 rfl rfl) h2
  have r0 : a0.size ≤ 140737488351232 := by
    have := sized_string hsz (j := 0) (t := 9) rfl rfl
    simp only [reachBytes] at this
    simpa using this
  have r1 : a1.size ≤ 140737488351232 := by
    have := sized_string hsz (j := 1) (t := 9) rfl rfl
    simp only [reachBytes] at this
    simpa using this
  clear hA0 hval0
  simp only [List.append_nil] at hW'
  refine (walk a0 a1 a2 r0 r1 w2 W).mono fun e W' ⟨he, hg⟩ => ?_
  subst he
  exact ⟨_, rfl, _, _, _, [], [], [], hW', trodAll_mk1 (shut_bool Try.underlying4 _), (trodAll_cons_mk (shut_string Try.underlying9 w0) (trodAll_cons_mk (shut_string Try.underlying9 w1) (trodAll_cons_mk (shut_int Try.underlying3 w2) trodAll_mk0))), rfl, hg.below.frame _, fun h => by cases h⟩

theorem over : Rows.sumBackRow.holds Try.pinned (OpenSpec.ofChange Rows.sumBackSpec) :=
  OpenClaim.holds_of_wide 6 Try.f6 rfl rfl rfl rfl rfl rfl rfl ⟨rfl, rfl, rfl, rfl, rfl⟩ rfl rfl rfl rfl rfl (by kernel_rfl) Try.func6 (by kernel_rfl)
    (of_decide_eq_true (by kernel_rfl)) (by unfold Func.isWrapper; first | (rw [if_pos (by decide +kernel)]; kernel_rfl) | (rw [if_neg (by decide +kernel)]; exact ⟨rfl, rfl⟩))
    (fun os started H enc _ => lifted os started H enc)

theorem proved : Rows.SumBackSaid := over
end Go.Proofs.Ytbkiladofijljaa.sumBack
