/- For every disk and numbers: what is recovered of it, what the disk is then, and what a drop makes of it, is as the document says. Its second form: where what it reads is of bulk at most 1048576. -/
import Derived.Test.YtggbdhnjogalgaaGreatDoorR8
import Derived.Test.YtggbdhnjogalgaaGreatDoorR9
namespace Go.Proofs.YtggbdhnjogalgaaGreatDoor.walRecoversUpto
set_option maxRecDepth 100000
open Go.ChangeShapes Go.WideShapes Go.ChangeAt Go.RowKit Dkm Wm
set_option linter.unusedVariables false
set_option linter.unusedSimpArgs false

theorem refRec_any (fr : Int) (A : Option Addr) (n c : Nat) (d : Dk) (w : World) (hd : Dsk w A n c d.fs) (hB : Bnd 2097152 d) :
    Calls Tryz.prog 7 #[dkv A n c d.room d.fuse d.off, .int .i64 fr] w fun e w' => RetRK w A n (recM d fr) e w' := by
  by_cases h1 : segOk fr
  · exact refRec_good fr A n c d w hd hB h1
  · rw [show recM d fr = (d, [], fr, 1) by unfold recM; rw [if_pos h1]]
    exact refRec_bad fr A n c d w hd h1
theorem sameD_self (x : Dk) : sameD x x = true := by unfold sameD; simp
theorem strs_max {w : World} {base : Nat} {A : Option Addr} {n c : Nat} {rs : List (List UInt8)} (h : OwnS w base A n c rs) : n ≤ maxLen := by
  rcases h.2 with ⟨e, _⟩ | ⟨g, cap, cur, e, hb, hh, hc, hm, _⟩
  · have h1 := h.1
    injection e with _ e2 _
    omega
  · injection e with _ e2 e3
    omega
def Tn (w : World) : Prop := Tab w ∧ Errs w
theorem Tn.q {w w' : World} (h : Tn w) (q : Q w w') : Tn w' := ⟨h.1.q q, h.2.q q⟩

set_option maxRecDepth 100000 in
set_option maxHeartbeats 16000000 in
theorem walk (A : Option Addr) (n c : Nat) (d : Dk) (fr til : Int) (w : World) (hT : Tn w) (hd : Dsk w A n c d.fs) (hB : Bnd 2097152 d) (hn : ∀ f ∈ d.fs, f.nm.size ≤ 140737488355328) (h1 : til ≤ 9223372036854775807) :
    Calls Tryz.prog 3 #[dkv A n c d.room d.fuse d.off, .int .i64 fr, .int .i64 til] w fun e w' => e = .returned (.bool true) ∧ Q w w' := by
  have HT := Lib.hid hT
  have HD := Lib.hid hd
  have QQ := Lib.hid ((Q.refl w).alloc (.cells #[.slice A n c, .int .i64 d.room, .int .i64 d.fuse, .bool d.off] 24))
  have X0 := Lib.hid (Bx.new w [.slice A n c, .int .i64 d.room, .int .i64 d.fuse, .bool d.off] 24)
  have X0 : Hid (Bx (w.alloc (.cells #[.slice A n c, .int .i64 d.room, .int .i64 d.fuse, .bool d.off] 24)) w.heap.size [.slice A n c, .int .i64 d.room, .int .i64 d.fuse, .bool d.off]) := Lib.hid X0.out
  have R1 := Lib.hid (fun W (q : Q w W) => recover_any fr A n c d W (HT.out.1.q q) (HD.out.q q) hB)
  have R2 := Lib.hid (fun W (q : Q w W) => refRec_any fr A n c d W (HD.out.q q) hB)
  have hB2 : Bnd 2305843009213693952 d := hB.more (by omega)
  have D1 := Lib.hid (fun W (q : Q w W) => wdrop_of fr til A n c d (prsN d.fs) W (HT.out.1.q q) (HD.out.q q) hB2 (Lib.hid fun A n c W2 q2 h => present_any A n c d W2 ((HT.out.1.q q).q q2) ((HT.out.2.q q).q q2) h hn))
  have D2 := Lib.hid (fun W (q : Q w W) => refDrop_any fr til A n c d W (HD.out.q q) hB2 _ rfl h1)
  have hE := drops_seq d fr til (if fr < 1 then 1 else fr) rfl
  rw [show ((prsN d.fs).filter fun k => decide (fr ≤ k ∧ k < til)) = fil fr til (prsN d.fs) from rfl] at hE
  rw [hE] at D1
  clear hT hd hB hB2 hn hE
  generalize seqD (til - (if fr < 1 then 1 else fr)).toNat (if fr < 1 then 1 else fr) til d = r at D1 D2
  generalize recM d fr = x at R1 R2
  obtain ⟨rd, re⟩ := r
  obtain ⟨xd, rs, last, er⟩ := x
  simp only at R1 R2 D1 D2
  have i1 : (last != last) = false := by simp
  have i2 : (er != er) = false := by simp
  have i3 : (re == re) = true := by simp
  go_enter Tryz.func3, Tryz.ntmps3
  go_wp2_with fail
  generalize w.alloc (.cells #[.slice A n c, .int .i64 d.room, .int .i64 d.fuse, .bool d.off] 24) = W0 at X0 QQ ⊢
  refine (wshown_any _ (HT.out.1.q QQ.out)).mono ?_
  rintro e w1 ⟨rfl, q1⟩
  have X0 := Lib.hid (X0.out.q q1)
  have QQ := Lib.hid (QQ.out.trans q1)
  clear q1
  obtain ⟨⟨d0, d1, d2, d3⟩, _⟩ := X0.out.get4
  go_wp2_with fail
  refine (R1.out _ QQ.out).mono ?_
  rintro e w2 ⟨A2, n2, c2, L2, ln2, lc2, rfl, hd2, hf2, hl2, q2⟩
  have HD2 := Lib.hid hd2
  have HL2 := Lib.hid hl2
  clear hd2 hf2 hl2
  clear d0 d1 d2 d3
  have X0 := Lib.hid (X0.out.q q2)
  have QQ := Lib.hid (QQ.out.trans q2)
  clear q2
  have qa := (Q.refl w2).alloc (.cells #[.slice A2 n2 c2, .int .i64 xd.room, .int .i64 xd.fuse, .bool xd.off] 24)
  have X2 := Lib.hid (Bx.new w2 [.slice A2 n2 c2, .int .i64 xd.room, .int .i64 xd.fuse, .bool xd.off] 24)
  have X2 : Hid (Bx (w2.alloc (.cells #[.slice A2 n2 c2, .int .i64 xd.room, .int .i64 xd.fuse, .bool xd.off] 24)) w2.heap.size [.slice A2 n2 c2, .int .i64 xd.room, .int .i64 xd.fuse, .bool xd.off]) := Lib.hid X2.out
  have X0 := Lib.hid (X0.out.q qa)
  have HD2 := Lib.hid (HD2.out.q qa)
  have HL2 := Lib.hid (HL2.out.q qa)
  have QQ := Lib.hid (QQ.out.trans qa)
  clear qa
  go_upto_region 3 with (fail)
  generalize w2.alloc (.cells #[.slice A2 n2 c2, .int .i64 xd.room, .int .i64 xd.fuse, .bool xd.off] 24) = W2 at X2 QQ X0 HD2 HL2 ⊢
  generalize w2.heap.size = b2 at X2 ⊢
  obtain ⟨⟨d0, d1, d2, d3⟩, _⟩ := X0.out.get4
  go_wp2_with fail
  refine (R2.out _ QQ.out).mono ?_
  rintro e w3 ⟨A3, n3, c3, L3, ln3, lc3, rfl, hd3, hf3, hl3, q3⟩
  have HD3 := Lib.hid hd3
  have HL3 := Lib.hid hl3
  clear hd3 hf3 hl3
  clear d0 d1 d2 d3
  have X0 := Lib.hid (X0.out.q q3)
  have X2 := Lib.hid (X2.out.q q3)
  have HD2 := Lib.hid (HD2.out.q q3)
  have HL2 := Lib.hid (HL2.out.q q3)
  have QQ := Lib.hid (QQ.out.trans q3)
  clear q3
  have qa := (Q.refl w3).alloc (.cells #[.slice A3 n3 c3, .int .i64 xd.room, .int .i64 xd.fuse, .bool xd.off] 24)
  have X3 := Lib.hid (Bx.new w3 [.slice A3 n3 c3, .int .i64 xd.room, .int .i64 xd.fuse, .bool xd.off] 24)
  have X3 : Hid (Bx (w3.alloc (.cells #[.slice A3 n3 c3, .int .i64 xd.room, .int .i64 xd.fuse, .bool xd.off] 24)) w3.heap.size [.slice A3 n3 c3, .int .i64 xd.room, .int .i64 xd.fuse, .bool xd.off]) := Lib.hid X3.out
  have X0 := Lib.hid (X0.out.q qa)
  have X2 := Lib.hid (X2.out.q qa)
  have HD2 := Lib.hid (HD2.out.q qa)
  have HL2 := Lib.hid (HL2.out.q qa)
  have HD3 := Lib.hid (HD3.out.q qa)
  have HL3 := Lib.hid (HL3.out.q qa)
  have QQ := Lib.hid (QQ.out.trans qa)
  clear qa
  go_upto_region 4 with (fail)
  generalize w3.alloc (.cells #[.slice A3 n3 c3, .int .i64 xd.room, .int .i64 xd.fuse, .bool xd.off] 24) = W3 at X3 QQ X0 X2 HD2 HL2 HD3 HL3 ⊢
  generalize w3.heap.size = b3 at X3 ⊢
  obtain ⟨⟨a0, a1, a2, a3⟩, _⟩ := X2.out.get4
  obtain ⟨⟨b0, b1, b2, b3⟩, _⟩ := X3.out.get4
  have KM := Lib.hid (sameD_self xd ▸ ref_same_any A2 A3 n2 c2 n3 c3 xd xd W3 HD2.out.files HD3.out.files HD2.out.max HD3.out.max)
  go_wp2_with fail
  refine KM.out.mono ?_
  rintro e w4 ⟨rfl, q4⟩
  clear a0 a1 a2 a3 b0 b1 b2 b3
  have X0 := Lib.hid (X0.out.q q4)
  have HL2 := Lib.hid (HL2.out.q q4)
  have HL3 := Lib.hid (HL3.out.q q4)
  have QQ := Lib.hid (QQ.out.trans q4)
  clear q4
  have KS := Lib.hid (decide_eq_true (rfl : rs = rs) ▸ same_strs L2 L3 ln2 lc2 ln3 lc3 rs rs w4 HL2.out.strs HL3.out.strs (strs_max HL2.out))
  go_wp2_with fail
  refine KS.out.mono ?_
  rintro e w5 ⟨rfl, q5⟩
  clear KM KS
  have X0 := Lib.hid (X0.out.q q5)
  have QQ := Lib.hid (QQ.out.trans q5)
  clear q5
  obtain ⟨⟨d0, d1, d2, d3⟩, _⟩ := X0.out.get4
  by_cases h2 : 2000 < til
  · go_wp2
    go_ret
    exact ⟨rfl, QQ.out⟩
  by_cases h3 : 70 < n
  · have i4 : (70 : Int) < (n : Int) := by omega
    go_wp2
    go_ret
    exact ⟨rfl, QQ.out⟩
  have i4 : ¬ (70 : Int) < (n : Int) := by omega
  have i5 : ¬ 70 < n := h3
  go_wp2_with fail
  refine (D1.out _ QQ.out).mono ?_
  rintro e w6 ⟨A6, n6, c6, rfl, hd6, hf6, q6⟩
  have HD6 := Lib.hid hd6
  clear hd6 hf6 X2 X3 HD2 HD3 HL2 HL3
  clear d0 d1 d2 d3
  have X0 := Lib.hid (X0.out.q q6)
  have QQ := Lib.hid (QQ.out.trans q6)
  clear q6
  have qa := (Q.refl w6).alloc (.cells #[.slice A6 n6 c6, .int .i64 rd.room, .int .i64 rd.fuse, .bool rd.off] 24)
  have X6 := Lib.hid (Bx.new w6 [.slice A6 n6 c6, .int .i64 rd.room, .int .i64 rd.fuse, .bool rd.off] 24)
  have X6 : Hid (Bx (w6.alloc (.cells #[.slice A6 n6 c6, .int .i64 rd.room, .int .i64 rd.fuse, .bool rd.off] 24)) w6.heap.size [.slice A6 n6 c6, .int .i64 rd.room, .int .i64 rd.fuse, .bool rd.off]) := Lib.hid X6.out
  have X0 := Lib.hid (X0.out.q qa)
  have HD6 := Lib.hid (HD6.out.q qa)
  have QQ := Lib.hid (QQ.out.trans qa)
  clear qa
  go_upto_region 10 with (fail)
  generalize w6.alloc (.cells #[.slice A6 n6 c6, .int .i64 rd.room, .int .i64 rd.fuse, .bool rd.off] 24) = W6 at X6 QQ X0 HD6 ⊢
  generalize w6.heap.size = b6 at X6 ⊢
  obtain ⟨⟨d0, d1, d2, d3⟩, _⟩ := X0.out.get4
  go_wp2_with fail
  refine (D2.out _ QQ.out).mono ?_
  rintro e w7 ⟨A7, n7, c7, rfl, hd7, hf7, q7⟩
  have HD7 := Lib.hid hd7
  clear hd7 hf7
  clear d0 d1 d2 d3
  have X0 := Lib.hid (X0.out.q q7)
  have X6 := Lib.hid (X6.out.q q7)
  have HD6 := Lib.hid (HD6.out.q q7)
  have QQ := Lib.hid (QQ.out.trans q7)
  clear q7
  have qa := (Q.refl w7).alloc (.cells #[.slice A7 n7 c7, .int .i64 rd.room, .int .i64 rd.fuse, .bool rd.off] 24)
  have X7 := Lib.hid (Bx.new w7 [.slice A7 n7 c7, .int .i64 rd.room, .int .i64 rd.fuse, .bool rd.off] 24)
  have X7 : Hid (Bx (w7.alloc (.cells #[.slice A7 n7 c7, .int .i64 rd.room, .int .i64 rd.fuse, .bool rd.off] 24)) w7.heap.size [.slice A7 n7 c7, .int .i64 rd.room, .int .i64 rd.fuse, .bool rd.off]) := Lib.hid X7.out
  have X0 := Lib.hid (X0.out.q qa)
  have X6 := Lib.hid (X6.out.q qa)
  have HD6 := Lib.hid (HD6.out.q qa)
  have HD7 := Lib.hid (HD7.out.q qa)
  have QQ := Lib.hid (QQ.out.trans qa)
  clear qa
  go_upto_region 11 with (fail)
  generalize w7.alloc (.cells #[.slice A7 n7 c7, .int .i64 rd.room, .int .i64 rd.fuse, .bool rd.off] 24) = W7 at X7 QQ X0 X6 HD6 HD7 ⊢
  generalize w7.heap.size = b7 at X7 ⊢
  obtain ⟨⟨a0, a1, a2, a3⟩, _⟩ := X6.out.get4
  obtain ⟨⟨b0, b1, b2, b3⟩, _⟩ := X7.out.get4
  have KM := Lib.hid (sameD_self rd ▸ ref_same_any A6 A7 n6 c6 n7 c7 rd rd W7 HD6.out.files HD7.out.files HD6.out.max HD7.out.max)
  go_wp2_with fail
  refine KM.out.mono ?_
  rintro e w8 ⟨rfl, q8⟩
  have QQ := Lib.hid (QQ.out.trans q8)
  clear q8
  go_wp2
  go_ret
  exact ⟨by first | rfl | (simp; done), QQ.out⟩

theorem opened (W : World) (args : Array Value) (hn : args.size = 3) (h : ∀ (j : Nat) t v, Tryz.f3.params[j]? = some t → args[j]? = some v → RdV W t v ∧ (true = true → RdU W t v.cells.toList)) (hL : laidMetH Tryz.prog Rows.walRecoversUptoRow.laid W) :
    Calls Tryz.prog 3 args W fun e W' => e = .returned (.bool true) ∧ Q W W' := by
  obtain ⟨a, b, x, rfl⟩ := args3 hn
  rw [Tryz.params3] at h
  obtain ⟨cs, rfl, hr⟩ := (h 0 24 a rfl rfl).1.struct Tryz.underlying24
  have hu := (h 0 24 _ rfl rfl).2 rfl
  obtain ⟨A, n, c, d, rfl, hd⟩ := open_disk hr
  obtain ⟨fr, rfl, _⟩ := (h 1 3 b rfl rfl).1.int Tryz.underlying3
  obtain ⟨til, rfl, hk⟩ := (h 2 3 x rfl rfl).1.int Tryz.underlying3
  have hsm := hd.small (by simpa [Value.cells] using hu)
  exact walk A n c d fr til W ⟨tab_laid (by kernel_rfl) hL, errs_laid (by kernel_rfl) hL⟩ hd.dsk ⟨fun f hf => by have := hsm f hf; omega, hd.bnd.few, hd.room, hd.fuse⟩ (fun f hf => by obtain ⟨b0, _⟩ := hd.fil f hf; omega) (wf_i64 hk).2

theorem start_met (os : Os) : laidMetH Tryz.prog Rows.walRecoversUptoRow.laid ((World.doorLaid Tryz.prog 600 os).forCall (fun _ _ => 0) ⟨#[], #[.agg #[.slice none 0 0, .int .i64 0, .int .i64 0, .bool false], .int .i64 0, .int .i64 0], []⟩).memory :=
  laidMetH_of_parts3 (fuel := 8) (laidMet_of_run' 8 (by kernel_rfl) (by kernel_rfl)) (by kernel_rfl) (by kernel_rfl)
theorem reads (os : Os) {H : Type} (enc : TypeId × Value → H) : ∃ places, DataW.whole enc Tryz.prog ((World.doorLaid Tryz.prog 600 os).forCall (fun _ _ => 0) ⟨#[], #[.agg #[.slice none 0 0, .int .i64 0, .int .i64 0, .bool false], .int .i64 0, .int .i64 0], []⟩).memory Tryz.f3.params.toList Rows.walRecoversSpec.vars false (#[.agg #[.slice none 0 0, .int .i64 0, .int .i64 0, .bool false], .int .i64 0, .int .i64 0] : Array Value).toList 8 = some ([.agg [.nil, .lit (.int .i64 0), .lit (.int .i64 0), .lit (.bool false)], .lit (.int .i64 0), .lit (.int .i64 0)], [], places) :=
  ⟨[], by kernel_rfl⟩

set_option maxRecDepth 100000 in
theorem lifted (os : Os) (started : os.Started) (H : Type) (enc : TypeId × Value → H) (F : Stop.Interp) :
    ReturnsInHanded {} Tryz.checked os 3 .any ((Rows.OpenSpec.upto Rows.walRecoversSpec).preRow enc Tryz.prog Tryz.f3 Rows.walRecoversUptoRow.domain false Rows.walRecoversUptoRow.laid) (((Rows.OpenSpec.upto Rows.walRecoversSpec).at F).post enc Tryz.prog Tryz.f3 false true false false) := by
  obtain ⟨places, hx⟩ := reads os enc
  refine returnsInHanded_of_row (C := Tryz.checked) (s := Rows.OpenSpec.upto Rows.walRecoversSpec) ownKnob_ started (by kernel_rfl) Tryz.func3
    (witness_row_atRef (enc := enc) (C := Tryz.checked) false (World.doorLaid Tryz.prog 600 os) #[.agg #[.slice none 0 0, .int .i64 0, .int .i64 0, .bool false], .int .i64 0, .int .i64 0] rfl (by kernel_rfl) (by kernel_rfl) (by kernel_rfl)
      (OpenSpec.preRow_of_cond 8 hx (by kernel_rfl) (fun k hk => by cases hk; kernel_rfl) (by kernel_rfl) (start_met os))) ?_
  intro W base args ds gs before hval hW _ hcond hsz hL _ _
  exact framedC (s := Rows.walRecoversSpec) true Rows.walRecoversUptoRow.laid 3 (by rw [Tryz.params3]; rfl) rfl (by kernel_rfl) (by kernel_rfl)
    (fun H ds h => by match ds, h with | [d0, d1, d2], _ => exact ⟨rfl, rfl, rfl⟩)
    opened H enc W base args ds gs before hval hW (fun _ => of_decide_eq_true (hcond _ rfl)) hsz hL

theorem over : Rows.WalRecoversUptoSaid :=
  OpenClaim.holds_of_cond 3 Tryz.f3 rfl rfl rfl rfl rfl rfl rfl ⟨rfl, rfl, rfl, rfl, rfl⟩ rfl rfl rfl rfl rfl (by kernel_rfl) Tryz.func3 (by kernel_rfl)
    (of_decide_eq_true (by kernel_rfl)) (by unfold Func.isWrapper; first | (rw [if_pos (by decide +kernel)]; kernel_rfl) | (rw [if_neg (by decide +kernel)]; exact ⟨rfl, rfl⟩))
    (fun os started H enc _ F => by rw [OpenClaim.pre_eq_preRow]; exact lifted os started H enc F)

/-- No parameter wants a stand-in; the program's own looks are as the card says. -/
theorem plain (f : FuncId) (fn : Func) (hf : Tryz.pinned.checked.prog.funcNamed "stanchion/stanchionlaw04.WalRecovers" = some f) (hfn : Tryz.pinned.checked.prog.funcs[f]? = some fn) :
    true = Tryz.pinned.checked.prog.looks [] ∧ ∀ (j : Nat) t, fn.params[j]? = some t → Tryz.pinned.checked.prog.wantsStandIn t = false := by
  obtain rfl : f = 3 := Option.some.inj ((show Tryz.prog.funcNamed "stanchion/stanchionlaw04.WalRecovers" = some 3 by kernel_rfl).symm.trans hf) |>.symm
  obtain rfl : fn = Tryz.f3 := (Option.some.inj (Tryz.func3.symm.trans hfn)).symm
  refine ⟨by kernel_rfl, fun j t ht => ?_⟩
  have h0 : (Tryz.f3.params.toList.all fun t => !(Tryz.prog.wantsStandIn t)) = true := by kernel_rfl
  have h1 := List.all_eq_true.1 h0 t (by rw [← Array.getElem?_toList] at ht; exact List.mem_of_getElem? ht)
  exact (by simpa using h1 : Tryz.prog.wantsStandIn t = false)

theorem proved : Rows.WalRecoversUptoCardSaid :=
  Claim7.holds_tied_plain_at .later [] _ _ _ _ over (fun _ h => by cases h) (by kernel_rfl) (fun _ h => by cases h) walRecoversUpto_row_tie rfl ⟨rfl, rfl⟩ (by kernel_rfl) rfl plain (by kernel_rfl)
end Go.Proofs.YtggbdhnjogalgaaGreatDoor.walRecoversUpto
