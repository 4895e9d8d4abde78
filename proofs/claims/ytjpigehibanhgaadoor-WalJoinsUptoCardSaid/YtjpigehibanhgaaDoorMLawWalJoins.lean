/- For every two texts: of records' bytes, one row behind another one, all are scanned. Its second form: where what it reads is of bulk at most 1048576. -/
import Derived.Test.YtjpigehibanhgaaDoorA5
namespace Go.Proofs.YtjpigehibanhgaaDoor.walJoinsUpto
set_option maxRecDepth 100000
open Go.ChangeShapes Go.WideShapes Go.ChangeAt Go.RowKit
set_option linter.unusedVariables false

theorem app_list2 (a b : ByteArray) : (a ++ b).data.toList = a.data.toList ++ b.data.toList := by rw [ByteArray.data_append]; exact Array.toList_append
/-- a row that is scanned whole, another one behind it. -/
theorem join_whole {a b : List UInt8} (h : (scn a).2 = []) : scn (a ++ b) = ((scn a).1 ++ (scn b).1, (scn b).2) := by
  have h1 := (scd a).eq
  rw [h, List.append_nil] at h1
  conv => lhs; rw [h1]
  exact scn_app (scn a).1 (scd a).le b
theorem join_more (a b : List UInt8) : (scn a).1.length ≤ (scn (a ++ b)).1.length ∧ used a ≤ used (a ++ b) := by
  have h1 := (scd a).eq
  have h2 : a ++ b = flat (scn a).1 ++ ((scn a).2 ++ b) := by conv => lhs; rw [h1]
                                                              rw [List.append_assoc]
  have h3 := scn_app (scn a).1 (scd a).le ((scn a).2 ++ b)
  rw [← h2] at h3
  rw [used_flat, used_flat, h3, flat_app]
  simp

set_option maxHeartbeats 4000000 in
theorem walk (a b : ByteArray) (w : World) (hT : Tab w) (ha : a.size ≤ 1048576) (hb : b.size ≤ 1048576) :
    Calls Tryd.prog 7 #[.string a, .string b] w fun e w' => e = .returned (.bool true) ∧ Q w w' := by
  have HT := Lib.hid hT
  have la := scn_len a.data.toList
  have lb := scn_len b.data.toList
  have lab := scn_len (a ++ b).data.toList
  have hab : (a ++ b).size = a.size + b.size := ByteArray.size_append
  rw [size_list] at la lb lab
  have K1 := Lib.hid (fun w => scan_any a w (by unfold maxLen; omega) (by omega))
  have K2 := Lib.hid (fun w => scan_any b w (by unfold maxLen; omega) (by omega))
  have K3 := Lib.hid (fun w => scan_any (a ++ b) w (by unfold maxLen; omega) (by omega))
  have hrest : (scn a.data.toList).2 = [] ↔ used a.data.toList = a.size := by
    have h1 := congrArg List.length (scd a.data.toList).eq
    rw [List.length_append, size_list, ← used_flat] at h1
    rw [← List.length_eq_zero_iff]; omega
  have hua := used_le a.data.toList
  have hub := used_le b.data.toList
  rw [size_list] at hua hub
  have hm := join_more a.data.toList b.data.toList
  rw [← app_list2] at hm
  have hj : (scn a.data.toList).2 = [] → (scn (a ++ b).data.toList).1 = (scn a.data.toList).1 ++ (scn b.data.toList).1 ∧ used (a ++ b).data.toList = used a.data.toList + used b.data.toList := by
    intro h
    have h1 := join_whole (b := b.data.toList) h
    rw [← app_list2] at h1
    rw [used_flat, used_flat, used_flat, h1, flat_app]
    simp
  rw [hrest] at hj
  have HL := Lib.hid (And.intro la (And.intro lb lab))
  have HM := Lib.hid hm
  have HJ := Lib.hid hj
  generalize (scn a.data.toList).1 = ra at K1 HL HM HJ
  generalize (scn b.data.toList).1 = rb at K2 HL HM HJ
  generalize (scn (a ++ b).data.toList).1 = rab at K3 HL HM HJ
  generalize used a.data.toList = ua at K1 hua HM HJ
  generalize used b.data.toList = ub at K2 hub HM HJ
  generalize used (a ++ b).data.toList = uab at K3 HM HJ
  clear hT la lb lab hrest hm hj
  by_cases hu : ua < a.size
  · have hle1 : ra.length ≤ rab.length := HM.out.1
    have hle2 : ua ≤ uab := HM.out.2
    go_enter Tryd.func7, Tryd.ntmps7
    go_wp2_with fail
    refine (wshown_any _ HT.out).mono ?_
    rintro e w1 ⟨rfl, q1⟩
    go_wp2_with fail
    refine (K1.out _).mono ?_
    rintro e w2 ⟨A, n, c, rfl, o2, q2⟩
    go_wp2_with fail
    refine (K2.out _).mono ?_
    rintro e w3 ⟨B, m, d, rfl, o3, q3⟩
    go_wp2_with fail
    refine (K3.out _).mono ?_
    rintro e w4 ⟨C, l, f, rfl, o4, q4⟩
    have hn1 : ra.length = n := o2.len
    have hn2 : rab.length = l := o4.len
    have QQ := Lib.hid (((q1.trans q2).trans q3).trans q4)
    subst hn1 hn2
    clear o2 o3 o4 q1 q2 q3 q4
    go_wp2
    all_goals go_ret
    all_goals exact ⟨by first | rfl | simp, QQ.out⟩
  · have hue : ua = a.size := by omega
    have HE := Lib.hid (HJ.out hue)
    clear hue
    go_enter Tryd.func7, Tryd.ntmps7
    go_wp2_with fail
    refine (wshown_any _ HT.out).mono ?_
    rintro e w1 ⟨rfl, q1⟩
    go_wp2_with fail
    refine (K1.out _).mono ?_
    rintro e w2 ⟨A, n, c, rfl, o2, q2⟩
    go_wp2_with fail
    refine (K2.out _).mono ?_
    rintro e w3 ⟨B, m, d, rfl, o3, q3⟩
    go_wp2_with fail
    refine (K3.out _).mono ?_
    rintro e w4 ⟨C, l, f, rfl, o4, q4⟩
    have hn1 : ra.length = n := o2.len
    have hn2 : rb.length = m := o3.len
    have hn3 : rab.length = l := o4.len
    subst hn1 hn2 hn3
    have S1 := Lib.hid ((o2.strs.q q3).q q4)
    have S2 := Lib.hid (o3.strs.q q4)
    have S3 := Lib.hid o4.strs
    have N1 := Lib.hid o2.nil
    have N2 := Lib.hid o3.nil
    have QQ := Lib.hid (((q1.trans q2).trans q3).trans q4)
    have hb1 : (0 + ra.length) * 16 ≤ 140737488355328 := by have := HL.out.1; omega
    have hb2 : (0 + ra.length + rb.length) * 16 ≤ 140737488355328 := by have := HL.out.1; have := HL.out.2.1; omega
    clear o2 o3 o4 q1 q2 q3 q4
    go_wp2_with (first
      | (at_builtin
         refine wpl_appSS rfl (.tmp 47) (.tmp 48) rfl w4.heap.size (some ⟨w4.heap.size, 0, none⟩) 0 0 [] rfl (World.ownsRow_lit w4 #[] 0 (Nat.le_refl _) (Nat.zero_le _) rfl) A ra.length c ra rfl (S1.out.q ((Q.refl _).alloc _)) N1.out hb1 (by simp) ?_
         intro A5 c5 w5 ho5 hg5 hb5
         refine Hid.out ?_))
    have q5 : Q w4 w5 := ((Q.refl w4).alloc (.cells #[] 9)).below.trans hb5
    have S2' := Lib.hid (S2.out.q q5)
    have S3' := Lib.hid (S3.out.q q5)
    have O5 : Hid (OwnS w5 w4.heap.size A5 ra.length c5 ra) := Lib.hid (by simpa using ho5)
    have hb2' : (ra.length + rb.length) * 16 ≤ 140737488355328 := by omega
    have hb5' : w4.heap.size ≤ w5.heap.size := q5.size
    have Q5 := Lib.hid q5
    clear ho5 hg5 hb5 q5
    refine Lib.hid ?_
    go_wp2_with (first
      | (at_builtin
         refine wpl_appSS rfl (.tmp 49) (.tmp 50) rfl w4.heap.size A5 ra.length c5 ra rfl O5.out B rb.length d rb rfl S2'.out N2.out hb2' hb5' ?_
         intro A6 c6 w6 ho6 hg6 hb6
         refine Hid.out ?_))
    have q6 : Q w4 w6 := Q5.out.below.trans hb6
    have S4 := Lib.hid ho6.strs
    have S3'' := Lib.hid (S3.out.q q6)
    have Q6 := Lib.hid q6
    have hmx : rab.length ≤ maxLen := by have := HL.out.2.2; unfold maxLen; omega
    have hii : (uab : Int) = (ua : Int) + (ub : Int) := by have := HE.out.2; omega
    have hdec : decide (rab = ra ++ rb) = true := decide_eq_true (by rw [HE.out.1])
    have HD := Lib.hid hdec
    clear hdec ho6 hg6 hb6 q6 S2' S3' O5 hb5'
    refine Lib.hid ?_
    go_wp2_with fail
    refine (same_strs C A6 rab.length f (ra.length + rb.length) c6 rab (ra ++ rb) _ S3''.out S4.out hmx).mono ?_
    rw [HD.out]
    rintro e w7 ⟨rfl, q7⟩
    go_wp2
    all_goals go_ret
    all_goals exact ⟨by first | rfl | simp, (QQ.out.trans Q6.out).trans q7⟩

theorem opened (W : World) (args : Array Value) (hn : args.size = 2) (h : ∀ (j : Nat) t v, Tryd.f7.params[j]? = some t → args[j]? = some v → RdV W t v ∧ (true = true → RdU W t v.cells.toList)) (hL : laidMetH Tryd.prog Rows.walJoinsUptoRow.laid W) :
    Calls Tryd.prog 7 args W fun e W' => e = .returned (.bool true) ∧ Q W W' := by
  obtain ⟨a, b, rfl⟩ := args2 hn
  rw [Tryd.params7] at h
  have h0 := h 0 9 a rfl rfl
  have h1 := h 1 9 b rfl rfl
  obtain ⟨s, rfl, hs⟩ := h0.1.string Tryd.underlying9
  obtain ⟨r, rfl, hr⟩ := h1.1.string Tryd.underlying9
  exact walk s r W (tab_laid (by kernel_rfl) hL) ((h0.2 rfl).string Tryd.underlying9) ((h1.2 rfl).string Tryd.underlying9)

theorem start_met (os : Os) : laidMetH Tryd.prog Rows.walJoinsUptoRow.laid ((World.doorLaid Tryd.prog 24 os).forCall (fun _ _ => 0) ⟨#[], #[.string ⟨#[]⟩, .string ⟨#[]⟩], []⟩).memory :=
  laidMetH_of_parts3 (fuel := 8) (laidMet_of_run' 8 (by kernel_rfl) (by kernel_rfl)) (by kernel_rfl) (by kernel_rfl)
theorem reads (os : Os) {H : Type} (enc : TypeId × Value → H) : ∃ places, DataW.whole enc Tryd.prog ((World.doorLaid Tryd.prog 24 os).forCall (fun _ _ => 0) ⟨#[], #[.string ⟨#[]⟩, .string ⟨#[]⟩], []⟩).memory Tryd.f7.params.toList Rows.walJoinsSpec.vars false (#[.string ⟨#[]⟩, .string ⟨#[]⟩] : Array Value).toList 8 = some ([.lit (.string []), .lit (.string [])], [], places) :=
  ⟨[], by kernel_rfl⟩

set_option maxRecDepth 100000 in
theorem lifted (os : Os) (started : os.Started) (H : Type) (enc : TypeId × Value → H) (F : Stop.Interp) :
    ReturnsInHanded {} Tryd.checked os 7 .any ((Rows.OpenSpec.upto Rows.walJoinsSpec).preRow enc Tryd.prog Tryd.f7 Rows.walJoinsUptoRow.domain false Rows.walJoinsUptoRow.laid) (((Rows.OpenSpec.upto Rows.walJoinsSpec).at F).post enc Tryd.prog Tryd.f7 false true false false) := by
  obtain ⟨places, hx⟩ := reads os enc
  refine returnsInHanded_of_row (C := Tryd.checked) (s := Rows.OpenSpec.upto Rows.walJoinsSpec) ownKnob_ started (by kernel_rfl) Tryd.func7
    (witness_row_atRef (enc := enc) (C := Tryd.checked) false (World.doorLaid Tryd.prog 24 os) #[.string ⟨#[]⟩, .string ⟨#[]⟩] rfl (by kernel_rfl) (by kernel_rfl) (by kernel_rfl)
      (OpenSpec.preRow_of_cond 8 hx (by kernel_rfl) (fun k hk => by cases hk; kernel_rfl) (by kernel_rfl) (start_met os))) ?_
  intro W base args ds gs before hval hW _ hcond hsz hL _ _
  exact framedC (s := Rows.walJoinsSpec) true Rows.walJoinsUptoRow.laid 2 (by rw [Tryd.params7]; rfl) rfl (by kernel_rfl) (by kernel_rfl)
    (fun H ds h => by match ds, h with | [d0, d1], _ => exact ⟨rfl, rfl, rfl⟩)
    opened H enc W base args ds gs before hval hW (fun _ => of_decide_eq_true (hcond _ rfl)) hsz hL

theorem over : Rows.WalJoinsUptoSaid :=
  OpenClaim.holds_of_cond 7 Tryd.f7 rfl rfl rfl rfl rfl rfl rfl ⟨rfl, rfl, rfl, rfl, rfl⟩ rfl rfl rfl rfl rfl (by kernel_rfl) Tryd.func7 (by kernel_rfl)
    (of_decide_eq_true (by kernel_rfl)) (by unfold Func.isWrapper; first | (rw [if_pos (by decide +kernel)]; kernel_rfl) | (rw [if_neg (by decide +kernel)]; exact ⟨rfl, rfl⟩))
    (fun os started H enc _ F => by rw [OpenClaim.pre_eq_preRow]; exact lifted os started H enc F)

/-- No parameter wants a stand-in; the program's own looks are as the card says. -/
theorem plain (f : FuncId) (fn : Func) (hf : Tryd.pinned.checked.prog.funcNamed "stanchion/stanchionlaw04.WalJoins" = some f) (hfn : Tryd.pinned.checked.prog.funcs[f]? = some fn) :
    false = Tryd.pinned.checked.prog.looks [] ∧ ∀ (j : Nat) t, fn.params[j]? = some t → Tryd.pinned.checked.prog.wantsStandIn t = false := by
  obtain rfl : f = 7 := Option.some.inj ((show Tryd.prog.funcNamed "stanchion/stanchionlaw04.WalJoins" = some 7 by kernel_rfl).symm.trans hf) |>.symm
  obtain rfl : fn = Tryd.f7 := (Option.some.inj (Tryd.func7.symm.trans hfn)).symm
  refine ⟨by kernel_rfl, fun j t ht => ?_⟩
  have h0 : (Tryd.f7.params.toList.all fun t => !(Tryd.prog.wantsStandIn t)) = true := by kernel_rfl
  have h1 := List.all_eq_true.1 h0 t (by rw [← Array.getElem?_toList] at ht; exact List.mem_of_getElem? ht)
  exact (by simpa using h1 : Tryd.prog.wantsStandIn t = false)

theorem proved : Rows.WalJoinsUptoCardSaid :=
  Claim7.holds_tied_plain_at .later [] _ _ _ _ over (fun _ h => by cases h) (by kernel_rfl) (fun _ h => by cases h) walJoinsUpto_row_tie rfl ⟨rfl, rfl⟩ (by kernel_rfl) rfl plain (by kernel_rfl)
end Go.Proofs.YtjpigehibanhgaaDoor.walJoinsUpto
