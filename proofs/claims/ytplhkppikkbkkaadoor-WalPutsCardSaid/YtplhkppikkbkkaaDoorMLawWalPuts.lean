/- For every disk, segment and record: what a put and a sync make of it is as the document says. No condition. -/
import Derived.Test.YtplhkppikkbkkaaDoorA6
import Derived.Test.YtplhkppikkbkkaaDoorA8
import Derived.Test.YtplhkppikkbkkaaDoorA9
namespace Go.Proofs.YtplhkppikkbkkaaDoor.walPuts
set_option maxRecDepth 100000
open Go.ChangeShapes Go.WideShapes Go.ChangeAt Go.RowKit Dkm Wm
set_option linter.unusedVariables false

set_option maxHeartbeats 8000000 in
theorem walk (seg : Int) (rec : ByteArray) (A : Option Addr) (n c : Nat) (d : Dk) (w : World) (hT : Tab w) (hd : Dsk w A n c d.fs) (hB : Bnd 2305843009213693952 d) (hr : rec.size ≤ maxLen) (h0 : -9223372036854775808 ≤ seg) (h1 : seg ≤ 9223372036854775807) :
    Calls Tryd.prog 3 #[dkv A n c d.room d.fuse d.off, .int .i64 seg, .string rec] w fun e w' => e = .returned (.bool true) ∧ Q w w' := by
  have HT := Lib.hid hT
  have hmx : ∀ f ∈ d.fs, f.sf.size + f.wt.size ≤ maxLen := fun f hf => Nat.le_trans (hB.sum f hf) (by unfold maxLen; omega)
  have KP := Lib.hid (fun w hT hd => put_any seg rec A n c d w hT hd hB hr)
  have KQ := Lib.hid (fun w hd => refPut_any seg rec A n c d w hd hB hr)
  have KS := Lib.hid (fun w hT hd => wsync_any seg A n c d w hT hd hmx)
  have KT := Lib.hid (fun w hT hd => refWSync_any seg A n c d w hT hd hmx h0 h1)
  have V0 := DV.new (W := w) (d := d) hd
  generalize putM d seg rec = r at KP KQ
  generalize syncM d seg = s at KS KT
  clear hT hmx hd
  go_enter Tryd.func3, Tryd.ntmps3
  go_wp2_with fail
  refine (wshown_any _ (HT.out.q ((Q.refl _).alloc _))).mono ?_
  rintro e w1 ⟨rfl, q1⟩
  have VD := Lib.hid (V0.q q1)
  have Q1 := Lib.hid (((Q.refl w).alloc (.cells #[.slice A n c, .int .i64 d.room, .int .i64 d.fuse, .bool d.off] 24)).trans q1)
  clear V0 q1
  obtain ⟨⟨e0, e1, e2, e3⟩, f0, f1, f2', f3⟩ := VD.out.get
  go_wp2_with fail
  refine (KP.out _ (HT.out.q Q1.out) VD.out.dsk).mono ?_
  rintro e w2 ⟨A2, n2, c2, rfl, hd2, hf2, q2⟩
  have VA := Lib.hid (DV.new (W := w2) (d := r.1) hd2)
  have P2 := Lib.hid (q2.alloc (.cells #[.slice A2 n2 c2, .int .i64 r.1.room, .int .i64 r.1.fuse, .bool r.1.off] 24))
  clear hd2 hf2 q2 e0 e1 e2 e3 f0 f1 f2' f3
  go_upto_region 3 with (fail)
  generalize (w2.alloc (.cells #[.slice A2 n2 c2, .int .i64 r.1.room, .int .i64 r.1.fuse, .bool r.1.off] 24)) = W2 at VA P2 ⊢
  generalize w2.heap.size = gA at VA ⊢
  have VD2 := Lib.hid (VD.out.q P2.out)
  have Q2 := Lib.hid (Q1.out.trans P2.out)
  clear VD Q1 P2 KP
  obtain ⟨⟨e0, e1, e2, e3⟩, f0, f1, f2', f3⟩ := VD2.out.get
  go_wp2_with fail
  refine (KQ.out _ VD2.out.dsk).mono ?_
  rintro e w3 ⟨A3, n3, c3, rfl, hd3, hf3, q3⟩
  have VB := Lib.hid (DV.new (W := w3) (d := r.1) hd3)
  have P3 := Lib.hid (q3.alloc (.cells #[.slice A3 n3 c3, .int .i64 r.1.room, .int .i64 r.1.fuse, .bool r.1.off] 24))
  clear hd3 hf3 q3 e0 e1 e2 e3 f0 f1 f2' f3
  go_upto_region 4 with (fail)
  generalize (w3.alloc (.cells #[.slice A3 n3 c3, .int .i64 r.1.room, .int .i64 r.1.fuse, .bool r.1.off] 24)) = W3 at VB P3 ⊢
  generalize w3.heap.size = gB at VB ⊢
  have VD3 := Lib.hid (VD2.out.q P3.out)
  have VA3 := Lib.hid (VA.out.q P3.out)
  have Q3 := Lib.hid (Q2.out.trans P3.out)
  clear VD2 VA Q2 P3 KQ
  obtain ⟨⟨e0, e1, e2, e3⟩, f0, f1, f2', f3⟩ := VD3.out.get
  go_wp2_with fail
  refine (KS.out _ (HT.out.q Q3.out) VD3.out.dsk).mono ?_
  rintro e w4 ⟨A4, n4, c4, rfl, hd4, hf4, q4⟩
  have VX := Lib.hid (DV.new (W := w4) (d := s.1) hd4)
  have P4 := Lib.hid (q4.alloc (.cells #[.slice A4 n4 c4, .int .i64 s.1.room, .int .i64 s.1.fuse, .bool s.1.off] 24))
  clear hd4 hf4 q4 e0 e1 e2 e3 f0 f1 f2' f3
  go_upto_region 5 with (fail)
  generalize (w4.alloc (.cells #[.slice A4 n4 c4, .int .i64 s.1.room, .int .i64 s.1.fuse, .bool s.1.off] 24)) = W4 at VX P4 ⊢
  generalize w4.heap.size = gX at VX ⊢
  have VD4 := Lib.hid (VD3.out.q P4.out)
  have VA4 := Lib.hid (VA3.out.q P4.out)
  have VB4 := Lib.hid (VB.out.q P4.out)
  have Q4 := Lib.hid (Q3.out.trans P4.out)
  clear VD3 VA3 VB Q3 P4 KS
  obtain ⟨⟨e0, e1, e2, e3⟩, f0, f1, f2', f3⟩ := VD4.out.get
  go_wp2_with fail
  refine (KT.out _ (HT.out.q Q4.out) VD4.out.dsk).mono ?_
  rintro e w5 ⟨A5, n5, c5, rfl, hd5, hf5, q5⟩
  have VY := Lib.hid (DV.new (W := w5) (d := s.1) hd5)
  have P5 := Lib.hid (q5.alloc (.cells #[.slice A5 n5 c5, .int .i64 s.1.room, .int .i64 s.1.fuse, .bool s.1.off] 24))
  clear hd5 hf5 q5 e0 e1 e2 e3 f0 f1 f2' f3
  go_upto_region 6 with (fail)
  generalize (w5.alloc (.cells #[.slice A5 n5 c5, .int .i64 s.1.room, .int .i64 s.1.fuse, .bool s.1.off] 24)) = W5 at VY P5 ⊢
  generalize w5.heap.size = gY at VY ⊢
  have VA5 := Lib.hid (VA4.out.q P5.out)
  have VB5 := Lib.hid (VB4.out.q P5.out)
  have VX5 := Lib.hid (VX.out.q P5.out)
  have Q5 := Lib.hid (Q4.out.trans P5.out)
  clear VD4 VA4 VB4 VX Q4 P5 KT
  obtain ⟨⟨a0, a1, a2, a3⟩, _⟩ := VA5.out.get
  obtain ⟨⟨b0, b1, b2, b3⟩, _⟩ := VB5.out.get
  have k6 := ref_same_any A2 A3 n2 c2 n3 c3 r.1 r.1 W5 VA5.out.dsk.files VB5.out.dsk.files VA5.out.dsk.max VB5.out.dsk.max
  rw [show sameD r.1 r.1 = true by simp [sameD]] at k6
  have K6 := Lib.hid k6
  clear k6
  go_wp2_with fail
  refine K6.out.mono ?_
  rintro e w6 ⟨rfl, q6⟩
  have k7 := ref_same_any A4 A5 n4 c4 n5 c5 s.1 s.1 w6 (VX5.out.q q6).dsk.files (VY.out.q q6).dsk.files VX5.out.dsk.max VY.out.dsk.max
  rw [show sameD s.1 s.1 = true by simp [sameD]] at k7
  have K7 := Lib.hid k7
  clear k7 a0 a1 a2 a3 b0 b1 b2 b3
  obtain ⟨⟨a0, a1, a2, a3⟩, _⟩ := (VX5.out.q q6).get
  obtain ⟨⟨b0, b1, b2, b3⟩, _⟩ := (VY.out.q q6).get
  go_wp2_with fail
  refine K7.out.mono ?_
  rintro e w7 ⟨rfl, q7⟩
  go_wp2
  all_goals go_ret
  all_goals exact ⟨by first | rfl | simp, (Q5.out.trans q6).trans q7⟩

theorem opened (W : World) (args : Array Value) (hn : args.size = 3) (h : ∀ (j : Nat) t v, Tryd.f3.params[j]? = some t → args[j]? = some v → RdV W t v ∧ (false = true → RdU W t v.cells.toList)) (hL : laidMetH Tryd.prog Rows.walPutsRow.laid W) :
    Calls Tryd.prog 3 args W fun e W' => e = .returned (.bool true) ∧ Q W W' := by
  obtain ⟨v, a, b, rfl⟩ := args3 hn
  rw [Tryd.params3] at h
  obtain ⟨cs, rfl, hr⟩ := (h 0 24 v rfl rfl).1.struct Tryd.underlying24
  obtain ⟨A, n, c, d, rfl, hd⟩ := open_disk hr
  obtain ⟨seg, rfl, hs⟩ := (h 1 3 a rfl rfl).1.int Tryd.underlying3
  obtain ⟨rec, rfl, hrec⟩ := (h 2 9 b rfl rfl).1.string Tryd.underlying9
  have hB : Bnd 2305843009213693952 d := ⟨fun f hf => by have h1 := (hd.fil f hf).2.1; have h2 := (hd.fil f hf).2.2; omega, by have h1 := hd.dsk.len; have h2 := hd.dsk.few; omega, hd.room, hd.fuse⟩
  exact walk seg rec A n c d W (tab_laid (by kernel_rfl) hL) hd.dsk hB (by unfold maxLen; omega) (wf_i64 hs).1 (wf_i64 hs).2

theorem start_met (os : Os) : laidMetH Tryd.prog Rows.walPutsRow.laid ((World.doorLaid Tryd.prog 24 os).forCall (fun _ _ => 0) ⟨#[], #[.agg #[.slice none 0 0, .int .i64 0, .int .i64 0, .bool false], .int .i64 0, .string ⟨#[]⟩], []⟩).memory :=
  laidMetH_of_parts3 (fuel := 8) (laidMet_of_run' 8 (by kernel_rfl) (by kernel_rfl)) (by kernel_rfl) (by kernel_rfl)
theorem reads (os : Os) {H : Type} (enc : TypeId × Value → H) : ∃ places, DataW.whole enc Tryd.prog ((World.doorLaid Tryd.prog 24 os).forCall (fun _ _ => 0) ⟨#[], #[.agg #[.slice none 0 0, .int .i64 0, .int .i64 0, .bool false], .int .i64 0, .string ⟨#[]⟩], []⟩).memory Tryd.f3.params.toList Rows.walPutsSpec.vars false (#[.agg #[.slice none 0 0, .int .i64 0, .int .i64 0, .bool false], .int .i64 0, .string ⟨#[]⟩] : Array Value).toList 8 = some ([.agg [.nil, .lit (.int .i64 0), .lit (.int .i64 0), .lit (.bool false)], .lit (.int .i64 0), .lit (.string [])], [], places) :=
  ⟨[], by kernel_rfl⟩

set_option maxRecDepth 100000 in
theorem lifted (os : Os) (started : os.Started) (H : Type) (enc : TypeId × Value → H) (F : Stop.Interp) :
    ReturnsInHanded {} Tryd.checked os 3 .any ((OpenSpec.ofChange Rows.walPutsSpec).preRow enc Tryd.prog Tryd.f3 Rows.walPutsRow.domain false Rows.walPutsRow.laid) (((OpenSpec.ofChange Rows.walPutsSpec).at F).post enc Tryd.prog Tryd.f3 false true false false) := by
  obtain ⟨places, hx⟩ := reads os enc
  refine returnsInHanded_of_row (C := Tryd.checked) (s := OpenSpec.ofChange Rows.walPutsSpec) ownKnob_ started (by kernel_rfl) Tryd.func3
    (witness_row_atRef (enc := enc) (C := Tryd.checked) false (World.doorLaid Tryd.prog 24 os) #[.agg #[.slice none 0 0, .int .i64 0, .int .i64 0, .bool false], .int .i64 0, .string ⟨#[]⟩] rfl (by kernel_rfl) (by kernel_rfl) (by kernel_rfl)
      (OpenSpec.preRow_of_cond 8 hx (by kernel_rfl) (fun k hk => by cases hk) (by kernel_rfl) (start_met os))) ?_
  intro W base args ds gs before hval hW _ hcond hsz hL _ _
  exact framedC (s := Rows.walPutsSpec) false Rows.walPutsRow.laid 3 (by rw [Tryd.params3]; rfl) rfl (by kernel_rfl) (by kernel_rfl)
    (fun H ds h => by match ds, h with | [d0, d1, d2], _ => exact ⟨rfl, rfl, rfl⟩)
    opened H enc W base args ds gs before hval hW (fun h => by cases h) hsz hL

theorem over : Rows.WalPutsSaid :=
  OpenClaim.holds_of_cond 3 Tryd.f3 rfl rfl rfl rfl rfl rfl rfl ⟨rfl, rfl, rfl, rfl, rfl⟩ rfl rfl rfl rfl rfl (by kernel_rfl) Tryd.func3 (by kernel_rfl)
    (of_decide_eq_true (by kernel_rfl)) (by unfold Func.isWrapper; first | (rw [if_pos (by decide +kernel)]; kernel_rfl) | (rw [if_neg (by decide +kernel)]; exact ⟨rfl, rfl⟩))
    (fun os started H enc _ F => by rw [OpenClaim.pre_eq_preRow]; exact lifted os started H enc F)

/-- No parameter wants a stand-in; the program's own looks are as the card says. -/
theorem plain (f : FuncId) (fn : Func) (hf : Tryd.pinned.checked.prog.funcNamed "stanchion/stanchionlaw04.WalPuts" = some f) (hfn : Tryd.pinned.checked.prog.funcs[f]? = some fn) :
    false = Tryd.pinned.checked.prog.looks [] ∧ ∀ (j : Nat) t, fn.params[j]? = some t → Tryd.pinned.checked.prog.wantsStandIn t = false := by
  obtain rfl : f = 3 := Option.some.inj ((show Tryd.prog.funcNamed "stanchion/stanchionlaw04.WalPuts" = some 3 by kernel_rfl).symm.trans hf) |>.symm
  obtain rfl : fn = Tryd.f3 := (Option.some.inj (Tryd.func3.symm.trans hfn)).symm
  refine ⟨by kernel_rfl, fun j t ht => ?_⟩
  have h0 : (Tryd.f3.params.toList.all fun t => !(Tryd.prog.wantsStandIn t)) = true := by kernel_rfl
  have h1 := List.all_eq_true.1 h0 t (by rw [← Array.getElem?_toList] at ht; exact List.mem_of_getElem? ht)
  exact (by simpa using h1 : Tryd.prog.wantsStandIn t = false)

theorem proved : Rows.WalPutsCardSaid :=
  Claim7.holds_tied_plain_at .later [] _ _ _ _ over (fun _ h => by cases h) (by kernel_rfl) (fun _ h => by cases h) walPuts_row_tie rfl ⟨rfl, rfl⟩ (by kernel_rfl) rfl plain (by kernel_rfl)
end Go.Proofs.YtplhkppikkbkkaaDoor.walPuts
