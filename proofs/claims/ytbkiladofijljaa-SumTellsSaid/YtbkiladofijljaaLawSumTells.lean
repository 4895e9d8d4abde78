/- For every text, every place and every byte: a text of which one byte was changed has another sum. No condition. -/
import Derived.Test.YtbkiladofijljaaSumShown
import Derived.Test.YtbkiladofijljaaSumJoin
import Derived.SizedLaws
namespace Go.Proofs.Ytbkiladofijljaa.sumTells
open Go.ChangeShapes Go.WideShapes Go.ChangeAt Go.RowKit
open Go.ChangeMaps (open_string shut_string)
set_option linter.unusedVariables false

theorem own : ownKnob Try.prog.godebug = none := by kernel_rfl

set_option maxHeartbeats 400000 in
theorem walk (a0 : ByteArray) (a1 a2 : Int) (r0 : a0.size ≤ 140737488351232) (w1 : (Lit.int .i64 a1).wf = true) (w2 : (Lit.int .u8 a2).wf = true) (w : World) :
    Calls Try.prog 7 #[.string a0, .int .i64 a1, .int .u8 a2] w fun e w' => e = .returned (.bool true) ∧ Q w w' := by
  have b1 := bounds_i64 w1
  have b2 := bounds_u8 w2
  obtain ⟨b10, b11⟩ := b1
  obtain ⟨b20, b21⟩ := b2
  clear w1 w2
  by_cases c0 : a1 < 0
  · go_enter Try.func7, Try.ntmps7
    go_wp2_with fail
    refine (shown_any _).mono ?_
    rintro e w1 ⟨rfl, q1⟩
    go_wp2_with fail
    go_ret
    exact ⟨rfl, q1⟩
  obtain ⟨k, rfl⟩ := Int.eq_ofNat_of_zero_le (show 0 ≤ a1 by omega)
  clear c0 b10
  by_cases c1 : a0.size ≤ k
  · go_enter Try.func7, Try.ntmps7
    go_wp2_with fail
    refine (shown_any _).mono ?_
    rintro e w1 ⟨rfl, q1⟩
    go_wp2_with fail
    go_ret
    exact ⟨rfl, q1⟩
  have hk : k < a0.size := by omega
  clear c1
  by_cases c2 : (a0[k].toNat : Int) = a2
  · have hd : ((a0[k].toNat : Int) == a2) = true := by simpa using c2
    clear c2
    go_enter Try.func7, Try.ntmps7
    go_wp2_with fail
    refine (shown_any _).mono ?_
    rintro e w1 ⟨rfl, q1⟩
    go_wp2_with fail
    go_ret
    exact ⟨rfl, q1⟩
  have hd : ((a0[k].toNat : Int) == a2) = false := by simpa using c2
  obtain ⟨c, hc⟩ : ∃ c : UInt8, (c.toNat : Int) = a2 := ⟨UInt8.ofNat a2.toNat, by rw [UInt8.toNat_ofNat']; omega⟩
  have hne : a0[k] ≠ c := fun e => c2 (by rw [e]; exact hc)
  have hkl : k < a0.data.toList.length := by rw [size_list]; exact hk
  have hdec : a0.data.toList = a0.data.toList.take k ++ a0[k] :: a0.data.toList.drop (k + 1) := by
    have := List.take_append_drop k a0.data.toList
    rw [List.drop_eq_getElem_cons hkl] at this
    exact this.symm
  have hset : a0.data.toList.set k c = a0.data.toList.take k ++ c :: a0.data.toList.drop (k + 1) := by
    rw [List.set_eq_take_append_cons_drop, if_pos hkl]
  have hfin : Sm.adler (a0.data.toList.set k c) ≠ Sm.adler a0.data.toList := by
    rw [hset]
    conv => rhs; rw [hdec]
    exact Sm.tells _ _ _ _ hne
  have HF := Lib.hid hfin
  have HC := Lib.hid hc
  clear c2 hdec hset hne hfin hc
  go_enter Try.func7, Try.ntmps7
  go_wp2_with fail
  refine (shown_any _).mono ?_
  rintro e w1 ⟨rfl, q1⟩
  obtain ⟨cap, W2, hrun, hq2, hsz, hcell, hfro⟩ := to_bytes w1 a0
  have hck := hcell k hk
  have hfk := hfro k hk
  have hcv := conv_row (W2.setCell ⟨w1.heap.size, k, none⟩ (.int .u8 a2)) w1.heap.size 0 a0.size cap (a0.data.toList.set k c) (by simp) (by
    intro i h
    rw [Nat.zero_add]
    exact cells_set W2 w1.heap.size a0.data.toList k c a2 HC.out hkl (fun i h => hcell i (by rw [← size_list]; exact h)) i h)
  have HCE := Lib.hid hcell
  have HSZ := Lib.hid hsz
  clear hcell hfro hsz
  go_wp2_with fail
  refine (of_any _ _ (by unfold maxLen; show (a0.data.toList.set k c).toArray.size ≤ _; simp; omega)).mono ?_
  rintro e w3 ⟨rfl, q3⟩
  go_wp2_with fail
  refine (of_any _ _ (by unfold maxLen; omega)).mono ?_
  rintro e w4 ⟨rfl, q4⟩
  go_wp2_with fail
  go_ret
  refine ⟨ret_bool ?_, q1.trans ((hq2.setCell (p := ⟨w1.heap.size, k, none⟩) (Nat.le_refl _) _).trans (q3.trans q4))⟩
  simpa using HF.out


set_option maxRecDepth 100000 in
theorem lifted (os : Os) (started : os.Started) (H : Type) (enc : TypeId × Value → H) :
    ReturnsInHanded {} Try.checked os 7 .any (Rows.sumTellsSpec.pre6 enc Try.prog Try.f7 Rows.sumTellsRow.domain false) (Rows.sumTellsSpec.post enc Try.prog Try.f7 false true false false) := by
  refine returnsInHanded_of_change_sized (C := Try.checked) own started (by kernel_rfl) Try.func7
    (ChangeSpec.witness6 (enc := enc) (C := Try.checked) false ⟨#[], #[.string ByteArray.empty, .int .i64 0, .int .u8 0], []⟩ 8 (by kernel_rfl) (by kernel_rfl) (by kernel_rfl) (by kernel_rfl)) ?_
  intro W base args ds gs before hval0 hW hcnd hsz0 _
  have hval : ∀ (j : Nat) t v, Try.f7.params[j]? = some t → args[j]? = some v → Value.okWide Try.prog W .any base t v := hval0
  have hsz : (DataW.weightsEach Try.prog (Try.f7.params.toList ++ Rows.sumTellsSpec.plain.varTypes Try.prog) (ds ++ gs)).all (· ≤ reachBytes) = true := hsz0
  clear hsz0
  have hW' := hW
  obtain ⟨p, q, hA0, hV, rfl, hfz, hnd⟩ := hW
  have hA : DataW.TrodAll enc Try.prog W 0 (fun _ => true) true Try.f7.params.toList args.toList ds p := hA0
  rw [Try.params7] at hA hval hsz
  obtain ⟨v0, vs0, d0, ds0, p0, q0, hargs, rfl, rfl, h0, r0⟩ := trodAll_cons hA
  obtain ⟨v1, vs1, d1, ds1, p1, q1, rfl, rfl, rfl, h1, r1⟩ := trodAll_cons r0
  obtain ⟨v2, vs2, d2, ds2, p2, q2, rfl, rfl, rfl, h2, r2⟩ := trodAll_cons r1
  obtain ⟨rfl, rfl, rfl⟩ := trodAll_nil r2
  obtain rfl : args = #[v0, v1, v2] := by cases args; simp_all
  obtain ⟨rfl, rfl⟩ := trodVars_none hV
  obtain ⟨a0, rfl, rfl, rfl, w0⟩ := open_string Try.underlying9 (hval 0 9 v0 rfl rfl) h0
  obtain ⟨a1, rfl, rfl, rfl, w1⟩ := open_int Try.underlying3 (hval 1 3 v1 rfl rfl) h1
  obtain ⟨a2, rfl, rfl, rfl, w2⟩ := open_int Try.underlying5 (hval 2 5 v2 rfl rfl) h2
  have r0 : a0.size ≤ 140737488351232 := by
    have := sized_string hsz (j := 0) (t := 9) rfl rfl
    simp only [reachBytes] at this
    simpa using this
  clear hA0 hval0
  simp only [List.append_nil] at hW'
  refine (walk a0 a1 a2 r0 w1 w2 W).mono fun e W' ⟨he, hg⟩ => ?_
  subst he
  exact ⟨_, rfl, _, _, _, [], [], [], hW', trodAll_mk1 (shut_bool Try.underlying4 _), (trodAll_cons_mk (shut_string Try.underlying9 w0) (trodAll_cons_mk (shut_int Try.underlying3 w1) (trodAll_cons_mk (shut_int Try.underlying5 w2) trodAll_mk0))), rfl, hg.below.frame _, fun h => by cases h⟩

theorem over : Rows.sumTellsRow.holds Try.pinned (OpenSpec.ofChange Rows.sumTellsSpec) :=
  OpenClaim.holds_of_wide 7 Try.f7 rfl rfl rfl rfl rfl rfl rfl ⟨rfl, rfl, rfl, rfl, rfl⟩ rfl rfl rfl rfl rfl (by kernel_rfl) Try.func7 (by kernel_rfl)
    (of_decide_eq_true (by kernel_rfl)) (by unfold Func.isWrapper; first | (rw [if_pos (by decide +kernel)]; kernel_rfl) | (rw [if_neg (by decide +kernel)]; exact ⟨rfl, rfl⟩))
    (fun os started H enc _ => lifted os started H enc)

theorem proved : Rows.SumTellsSaid := over
end Go.Proofs.Ytbkiladofijljaa.sumTells
