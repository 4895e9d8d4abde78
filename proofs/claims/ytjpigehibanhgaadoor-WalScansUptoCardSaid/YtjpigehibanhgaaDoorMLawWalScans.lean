/- For every number and every text: a segment's name, and the records of bytes, are as the document says. Its second form: where what it reads is of bulk at most 1048576. -/
import Derived.Test.YtjpigehibanhgaaDoorA5
namespace Go.Proofs.YtjpigehibanhgaaDoor.walScansUpto
set_option maxRecDepth 100000
open Go.ChangeShapes Go.WideShapes Go.ChangeAt Go.RowKit
set_option linter.unusedVariables false

set_option maxHeartbeats 2000000 in
theorem walk (seg : Int) (s : ByteArray) (w : World) (hT : Tab w) (h0 : -9223372036854775808 ≤ seg) (h1 : seg ≤ 9223372036854775807) (hs : s.size ≤ 1048576) :
    Calls Tryd.prog 3 #[.int .i64 seg, .string s] w fun e w' => e = .returned (.bool true) ∧ Q w w' := by
  have HT := Lib.hid hT
  have hl := scn_len s.data.toList
  rw [size_list] at hl
  have K1 := Lib.hid (fun w => scan_any s w (by unfold maxLen; omega) (by omega))
  have K2 := Lib.hid (fun w => refScan_any s w (by unfold maxLen; omega) (by omega))
  have K3 := Lib.hid (name_any seg)
  have K4 := Lib.hid (fun w => refName_any seg w h0 h1)
  have HL := Lib.hid hl
  generalize (scn s.data.toList).1 = rs at K1 K2 HL
  generalize used s.data.toList = us at K1 K2
  generalize namB seg = nm at K3 K4
  clear hT hl
  go_enter Tryd.func3, Tryd.ntmps3
  go_wp2_with fail
  refine (wshown_any _ HT.out).mono ?_
  rintro e w1 ⟨rfl, q1⟩
  go_wp2_with fail
  refine (K1.out _).mono ?_
  rintro e w2 ⟨A, n, c, rfl, o2, q2⟩
  go_wp2_with fail
  refine (K2.out _).mono ?_
  rintro e w3 ⟨B, m, d, rfl, o3, q3⟩
  have hn : n ≤ maxLen := by have h1 := o2.len; have h2 := HL.out; unfold maxLen; omega
  have S1 := Lib.hid (o2.strs.q q3)
  have S2 := Lib.hid o3.strs
  have QQ := Lib.hid ((q1.trans q2).trans q3)
  clear o2 o3 q1 q2 q3
  go_wp2_with fail
  refine (same_strs A B n c m d rs rs _ S1.out S2.out hn).mono ?_
  rw [show decide (rs = rs) = true from decide_eq_true rfl]
  rintro e w4 ⟨rfl, q4⟩
  go_wp2_with fail
  refine (K3.out _ (HT.out.q (QQ.out.trans q4))).mono ?_
  rintro e w5 ⟨rfl, q5⟩
  go_wp2_with fail
  refine (K4.out _).mono ?_
  rintro e w6 ⟨rfl, q6⟩
  go_wp2
  all_goals go_ret
  all_goals exact ⟨by first | rfl | simp, ((QQ.out.trans q4).trans q5).trans q6⟩

theorem opened (W : World) (args : Array Value) (hn : args.size = 2) (h : ∀ (j : Nat) t v, Tryd.f3.params[j]? = some t → args[j]? = some v → RdV W t v ∧ (true = true → RdU W t v.cells.toList)) (hL : laidMetH Tryd.prog Rows.walScansUptoRow.laid W) :
    Calls Tryd.prog 3 args W fun e W' => e = .returned (.bool true) ∧ Q W W' := by
  obtain ⟨a, b, rfl⟩ := args2 hn
  rw [Tryd.params3] at h
  obtain ⟨seg, rfl, hw⟩ := (h 0 3 a rfl rfl).1.int Tryd.underlying3
  have h1 := h 1 9 b rfl rfl
  obtain ⟨s, rfl, hs⟩ := h1.1.string Tryd.underlying9
  have hu := (h1.2 rfl).string (s := s) Tryd.underlying9
  exact walk seg s W (tab_laid (by kernel_rfl) hL) (wf_i64 hw).1 (wf_i64 hw).2 hu

theorem start_met (os : Os) : laidMetH Tryd.prog Rows.walScansUptoRow.laid ((World.doorLaid Tryd.prog 24 os).forCall (fun _ _ => 0) ⟨#[], #[.int .i64 0, .string ⟨#[]⟩], []⟩).memory :=
  laidMetH_of_parts3 (fuel := 8) (laidMet_of_run' 8 (by kernel_rfl) (by kernel_rfl)) (by kernel_rfl) (by kernel_rfl)
theorem reads (os : Os) {H : Type} (enc : TypeId × Value → H) : ∃ places, DataW.whole enc Tryd.prog ((World.doorLaid Tryd.prog 24 os).forCall (fun _ _ => 0) ⟨#[], #[.int .i64 0, .string ⟨#[]⟩], []⟩).memory Tryd.f3.params.toList Rows.walScansSpec.vars false (#[.int .i64 0, .string ⟨#[]⟩] : Array Value).toList 8 = some ([.lit (.int .i64 0), .lit (.string [])], [], places) :=
  ⟨[], by kernel_rfl⟩

set_option maxRecDepth 100000 in
theorem lifted (os : Os) (started : os.Started) (H : Type) (enc : TypeId × Value → H) (F : Stop.Interp) :
    ReturnsInHanded {} Tryd.checked os 3 .any ((Rows.OpenSpec.upto Rows.walScansSpec).preRow enc Tryd.prog Tryd.f3 Rows.walScansUptoRow.domain false Rows.walScansUptoRow.laid) (((Rows.OpenSpec.upto Rows.walScansSpec).at F).post enc Tryd.prog Tryd.f3 false true false false) := by
  obtain ⟨places, hx⟩ := reads os enc
  refine returnsInHanded_of_row (C := Tryd.checked) (s := Rows.OpenSpec.upto Rows.walScansSpec) ownKnob_ started (by kernel_rfl) Tryd.func3
    (witness_row_atRef (enc := enc) (C := Tryd.checked) false (World.doorLaid Tryd.prog 24 os) #[.int .i64 0, .string ⟨#[]⟩] rfl (by kernel_rfl) (by kernel_rfl) (by kernel_rfl)
      (OpenSpec.preRow_of_cond 8 hx (by kernel_rfl) (fun k hk => by cases hk; kernel_rfl) (by kernel_rfl) (start_met os))) ?_
  intro W base args ds gs before hval hW _ hcond hsz hL _ _
  exact framedC (s := Rows.walScansSpec) true Rows.walScansUptoRow.laid 2 (by rw [Tryd.params3]; rfl) rfl (by kernel_rfl) (by kernel_rfl)
    (fun H ds h => by match ds, h with | [d0, d1], _ => exact ⟨rfl, rfl, rfl⟩)
    opened H enc W base args ds gs before hval hW (fun _ => of_decide_eq_true (hcond _ rfl)) hsz hL

theorem over : Rows.WalScansUptoSaid :=
  OpenClaim.holds_of_cond 3 Tryd.f3 rfl rfl rfl rfl rfl rfl rfl ⟨rfl, rfl, rfl, rfl, rfl⟩ rfl rfl rfl rfl rfl (by kernel_rfl) Tryd.func3 (by kernel_rfl)
    (of_decide_eq_true (by kernel_rfl)) (by unfold Func.isWrapper; first | (rw [if_pos (by decide +kernel)]; kernel_rfl) | (rw [if_neg (by decide +kernel)]; exact ⟨rfl, rfl⟩))
    (fun os started H enc _ F => by rw [OpenClaim.pre_eq_preRow]; exact lifted os started H enc F)

/-- No parameter wants a stand-in; the program's own looks are as the card says. -/
theorem plain (f : FuncId) (fn : Func) (hf : Tryd.pinned.checked.prog.funcNamed "stanchion/stanchionlaw04.WalScans" = some f) (hfn : Tryd.pinned.checked.prog.funcs[f]? = some fn) :
    false = Tryd.pinned.checked.prog.looks [] ∧ ∀ (j : Nat) t, fn.params[j]? = some t → Tryd.pinned.checked.prog.wantsStandIn t = false := by
  obtain rfl : f = 3 := Option.some.inj ((show Tryd.prog.funcNamed "stanchion/stanchionlaw04.WalScans" = some 3 by kernel_rfl).symm.trans hf) |>.symm
  obtain rfl : fn = Tryd.f3 := (Option.some.inj (Tryd.func3.symm.trans hfn)).symm
  refine ⟨by kernel_rfl, fun j t ht => ?_⟩
  have h0 : (Tryd.f3.params.toList.all fun t => !(Tryd.prog.wantsStandIn t)) = true := by kernel_rfl
  have h1 := List.all_eq_true.1 h0 t (by rw [← Array.getElem?_toList] at ht; exact List.mem_of_getElem? ht)
  exact (by simpa using h1 : Tryd.prog.wantsStandIn t = false)

theorem proved : Rows.WalScansUptoCardSaid :=
  Claim7.holds_tied_plain_at .later [] _ _ _ _ over (fun _ h => by cases h) (by kernel_rfl) (fun _ h => by cases h) walScansUpto_row_tie rfl ⟨rfl, rfl⟩ (by kernel_rfl) rfl plain (by kernel_rfl)
end Go.Proofs.YtjpigehibanhgaaDoor.walScansUpto
