/- For every text and every place: a text of which two unlike bytes that stand together changed places has another sum. No condition. -/
import Derived.Test.YtbkiladofijljaaSumShown
import Derived.Test.YtbkiladofijljaaSumJoin
import Derived.SizedLaws
namespace Go.Proofs.Ytbkiladofijljaa.sumSwaps
open Go.ChangeShapes Go.WideShapes Go.ChangeAt Go.RowKit
open Go.ChangeMaps (open_string shut_string)
set_option linter.unusedVariables false

theorem own : ownKnob Try.prog.godebug = none := by kernel_rfl

theorem two_set (l : List UInt8) (k : Nat) (h : k + 1 < l.length) (hne : l[k] ≠ l[k + 1]) : Sm.adler ((l.set k l[k + 1]).set (k + 1) l[k]) ≠ Sm.adler l := by
  have h1 : l = l.take k ++ l[k] :: l[k + 1] :: l.drop (k + 2) := by
    have := List.take_append_drop k l
    rw [List.drop_eq_getElem_cons (by omega), List.drop_eq_getElem_cons h] at this
    exact this.symm
  have h2 : (l.set k l[k + 1]).set (k + 1) l[k] = l.take k ++ l[k + 1] :: l[k] :: l.drop (k + 2) := by
    apply List.ext_getElem?
    intro i
    conv => lhs; rw [List.getElem?_set, List.getElem?_set]
    conv => rhs; rw [show l.take k ++ l[k + 1] :: l[k] :: l.drop (k + 2) = l.take k ++ ([l[k + 1], l[k]] ++ l.drop (k + 2)) from rfl, List.getElem?_append, List.getElem?_append, List.getElem?_take, List.getElem?_drop]
    have hl : (l.take k).length = k := by simp; omega
    rw [hl]
    by_cases e1 : i < k
    · rw [if_neg (by omega), if_neg (by omega), if_pos e1, if_pos e1]
    · by_cases e2 : i = k
      · subst e2; simp only [Nat.lt_irrefl, if_false, Nat.sub_self]; rw [if_neg (by omega), if_pos trivial, if_pos (by omega), if_pos (by simp)]; rfl
      · by_cases e3 : i = k + 1
        · subst e3; rw [if_pos rfl, if_pos (by simp; omega), if_neg e1, if_pos (by simp), show k + 1 - k = 1 from by omega]; rfl
        · rw [if_neg (by omega), if_neg (by omega), if_neg e1, if_neg (by simp; omega)]
          congr 1; simp; omega
  rw [h2]
  conv => rhs; rw [h1]
  exact Sm.swaps _ _ _ _ hne

set_option maxHeartbeats 400000 in
theorem walk (a0 : ByteArray) (a1 : Int) (r0 : a0.size ≤ 140737488351232) (w1 : (Lit.int .i64 a1).wf = true) (w : World) :
    Calls Try.prog 8 #[.string a0, .int .i64 a1] w fun e w' => e = .returned (.bool true) ∧ Q w w' := by
  have b1 := bounds_i64 w1
  obtain ⟨b10, b11⟩ := b1
  clear w1
  have e1 : IntKind.i64.wrap ((a0.size : Int) - 1) = (a0.size : Int) - 1 := IntWalk.i64_in _ (by omega)
  by_cases c0 : a1 < 0
  · go_enter Try.func8, Try.ntmps8
    go_wp2_with fail
    refine (shown_any _).mono ?_
    rintro e w1 ⟨rfl, q1⟩
    go_wp2_with fail
    go_quiet (fail)
    go_wp2_with fail
    go_ret
    exact ⟨rfl, q1.drewN _⟩
  obtain ⟨k, rfl⟩ := Int.eq_ofNat_of_zero_le (show 0 ≤ a1 by omega)
  have d0 : decide ((k : Int) < 0) = false := by simp
  clear c0 b10
  by_cases c1 : a0.size ≤ k + 1
  · have c1' : (a0.size : Int) - 1 ≤ k := by omega
    have d1 : decide ((a0.size : Int) - 1 ≤ k) = true := by simpa using c1'
    go_enter Try.func8, Try.ntmps8
    go_wp2_with fail
    refine (shown_any _).mono ?_
    rintro e w1 ⟨rfl, q1⟩
    go_wp2_with fail
    go_quiet (fail)
    go_wp2_with fail
    go_ret
    exact ⟨rfl, q1.drewN _⟩
  have hk1 : k + 1 < a0.size := by omega
  have hk : k < a0.size := by omega
  have c1' : (k : Int) < (a0.size : Int) - 1 := by omega
  have d1 : decide ((a0.size : Int) - 1 ≤ k) = false := by simp; omega
  have e2 : IntKind.i64.wrap ((k : Int) + 1) = (k : Int) + 1 := IntWalk.i64_in _ (by omega)
  have e3 : ((k : Int) + 1).toNat = k + 1 := by omega
  have e4 : 0 ≤ (k : Int) + 1 := by omega
  have e5 : (k : Int) + 1 < (a0.size : Int) := by omega
  clear c1
  by_cases c2 : (a0[k].toNat : Int) = (a0[k + 1].toNat : Int)
  · have hd : ((a0[k].toNat : Int) == (a0[k + 1].toNat : Int)) = true := by simpa using c2
    clear c2
    go_enter Try.func8, Try.ntmps8
    go_wp2_with fail
    refine (shown_any _).mono ?_
    rintro e w1 ⟨rfl, q1⟩
    go_wp2_with fail
    go_quiet (fail)
    go_wp2_with fail
    go_ret
    exact ⟨rfl, q1.drewN _⟩
  have hd : ((a0[k].toNat : Int) == (a0[k + 1].toNat : Int)) = false := by simpa using c2
  have hlen : k + 1 < a0.data.toList.length := by rw [size_list]; exact hk1
  have hfin : Sm.adler ((a0.data.toList.set k a0[k + 1]).set (k + 1) a0[k]) ≠ Sm.adler a0.data.toList := two_set a0.data.toList k hlen (fun e => c2 (by show ((a0.data.toList[k]).toNat : Int) = _; rw [e]; rfl))
  have HF := Lib.hid hfin
  clear c2 hfin
  go_enter Try.func8, Try.ntmps8
  go_wp2_with fail
  refine (shown_any _).mono ?_
  rintro e w1 ⟨rfl, q1⟩
  go_wp2_with fail
  go_quiet (fail)
  rename_i nq
  have qd := q1.drewN nq
  generalize w1.drewN nq = wd at *
  obtain ⟨cap, W2, hrun, hq2, hsz, hcell, hfro⟩ := to_bytes wd a0
  have hck := hcell k hk
  have hfk := hfro k hk
  have hck1 : (W2.setCell ⟨wd.heap.size, k, none⟩ (.int .u8 (a0[k + 1].toNat : Int))).cell? ⟨wd.heap.size, k + 1, none⟩ = some (.int .u8 (a0[k + 1].toNat : Int)) := by
    rw [World.cell?_setCell_other _ _ _ _ (by intro he; injection he with _ he; omega)]; exact hcell (k + 1) hk1
  have hfk1 : (W2.setCell ⟨wd.heap.size, k, none⟩ (.int .u8 (a0[k + 1].toNat : Int))).frozen? ⟨wd.heap.size, k + 1, none⟩ = false := by
    rw [World.frozen?_setCell]; exact hfro (k + 1) hk1
  have hcv := conv_row ((W2.setCell ⟨wd.heap.size, k, none⟩ (.int .u8 (a0[k + 1].toNat : Int))).setCell ⟨wd.heap.size, k + 1, none⟩ (.int .u8 (a0[k].toNat : Int))) wd.heap.size 0 a0.size cap ((a0.data.toList.set k a0[k + 1]).set (k + 1) a0[k]) (by simp) (by
    intro i h
    rw [Nat.zero_add]
    exact cells_set _ wd.heap.size (a0.data.toList.set k a0[k + 1]) (k + 1) a0[k] _ rfl (by simpa using hlen) (cells_set W2 wd.heap.size a0.data.toList k a0[k + 1] _ rfl (by omega) (fun i h => hcell i (by rw [← size_list]; exact h))) i h)
  have HCE := Lib.hid hcell
  have HSZ := Lib.hid hsz
  clear hcell hfro hsz
  go_wp2_with fail
  refine (of_any _ _ (by unfold maxLen; show ((a0.data.toList.set k a0[k + 1]).set (k + 1) a0[k]).toArray.size ≤ _; simp; omega)).mono ?_
  rintro e w3 ⟨rfl, q3⟩
  go_wp2_with fail
  refine (of_any _ _ (by unfold maxLen; omega)).mono ?_
  rintro e w4 ⟨rfl, q4⟩
  go_wp2_with fail
  go_ret
  refine ⟨ret_bool ?_, qd.trans (((hq2.setCell (p := ⟨wd.heap.size, k, none⟩) (Nat.le_refl _) _).setCell (p := ⟨wd.heap.size, k + 1, none⟩) (Nat.le_refl _) _).trans (q3.trans q4))⟩
  simpa using HF.out


set_option maxRecDepth 100000 in
theorem lifted (os : Os) (started : os.Started) (H : Type) (enc : TypeId × Value → H) :
    ReturnsInHanded {} Try.checked os 8 .any (Rows.sumSwapsSpec.pre6 enc Try.prog Try.f8 Rows.sumSwapsRow.domain false) (Rows.sumSwapsSpec.post enc Try.prog Try.f8 false true false false) := by
  refine returnsInHanded_of_change_sized (C := Try.checked) own started (by kernel_rfl) Try.func8
    (ChangeSpec.witness6 (enc := enc) (C := Try.checked) false ⟨#[], #[.string ByteArray.empty, .int .i64 0], []⟩ 8 (by kernel_rfl) (by kernel_rfl) (by kernel_rfl) (by kernel_rfl)) ?_
  intro W base args ds gs before hval0 hW hcnd hsz0 _
  have hval : ∀ (j : Nat) t v, Try.f8.params[j]? = some t → args[j]? = some v → Value.okWide Try.prog W .any base t v := hval0
  have hsz : (DataW.weightsEach Try.prog (Try.f8.params.toList ++ Rows.sumSwapsSpec.plain.varTypes Try.prog) (ds ++ gs)).all (· ≤ reachBytes) = true := hsz0
  clear hsz0
  have hW' := hW
  obtain ⟨p, q, hA0, hV, rfl, hfz, hnd⟩ := hW
  have hA : DataW.TrodAll enc Try.prog W 0 (fun _ => true) true Try.f8.params.toList args.toList ds p := hA0
  rw [Try.params8] at hA hval hsz
  obtain ⟨v0, vs0, d0, ds0, p0, q0, hargs, rfl, rfl, h0, r0⟩ := trodAll_cons hA
  obtain ⟨v1, vs1, d1, ds1, p1, q1, rfl, rfl, rfl, h1, r1⟩ := trodAll_cons r0
  obtain ⟨rfl, rfl, rfl⟩ := trodAll_nil r1
  obtain rfl : args = #[v0, v1] := by cases args; simp_all
  obtain ⟨rfl, rfl⟩ := trodVars_none hV
  obtain ⟨a0, rfl, rfl, rfl, w0⟩ := open_string Try.underlying9 (hval 0 9 v0 rfl rfl) h0
  obtain ⟨a1, rfl, rfl, rfl, w1⟩ := open_int Try.underlying3 (hval 1 3 v1 rfl rfl) h1
  have r0 : a0.size ≤ 140737488351232 := by
    have := sized_string hsz (j := 0) (t := 9) rfl rfl
    simp only [reachBytes] at this
    simpa using this
  clear hA0 hval0
  simp only [List.append_nil] at hW'
  refine (walk a0 a1 r0 w1 W).mono fun e W' ⟨he, hg⟩ => ?_
  subst he
  exact ⟨_, rfl, _, _, _, [], [], [], hW', trodAll_mk1 (shut_bool Try.underlying4 _), (trodAll_cons_mk (shut_string Try.underlying9 w0) (trodAll_cons_mk (shut_int Try.underlying3 w1) trodAll_mk0)), rfl, hg.below.frame _, fun h => by cases h⟩

theorem over : Rows.sumSwapsRow.holds Try.pinned (OpenSpec.ofChange Rows.sumSwapsSpec) :=
  OpenClaim.holds_of_wide 8 Try.f8 rfl rfl rfl rfl rfl rfl rfl ⟨rfl, rfl, rfl, rfl, rfl⟩ rfl rfl rfl rfl rfl (by kernel_rfl) Try.func8 (by kernel_rfl)
    (of_decide_eq_true (by kernel_rfl)) (by unfold Func.isWrapper; first | (rw [if_pos (by decide +kernel)]; kernel_rfl) | (rw [if_neg (by decide +kernel)]; exact ⟨rfl, rfl⟩))
    (fun os started H enc _ => lifted os started H enc)

theorem proved : Rows.SumSwapsSaid := over
end Go.Proofs.Ytbkiladofijljaa.sumSwaps
