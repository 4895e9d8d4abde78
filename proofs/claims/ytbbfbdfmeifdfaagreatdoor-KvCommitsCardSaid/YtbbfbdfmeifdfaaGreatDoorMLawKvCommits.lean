/- For every store and every batch: a commit that is OK makes of the state what the batch makes of it; one that isn't leaves it. No condition. -/
import Derived.Test.YtbbfbdfmeifdfaaGreatDoorK10
import Derived.Test.YtbbfbdfmeifdfaaGreatDoorK11
namespace Go.Proofs.YtbbfbdfmeifdfaaGreatDoor.kvCommits
set_option maxRecDepth 100000
open Go.ChangeShapes Go.WideShapes Go.ChangeAt Go.RowKit Dkm Prm Km Wm
set_option linter.unusedVariables false
set_option linter.unusedSimpArgs false

/-- where the law stands: the store's box, the batch's. -/
structure Cm (w : World) (p : Kp) (x : Ks) (k : Int) (tok : ByteArray) (D : Option Addr) (dn dc : Nat) (ws : List Wr) (wi : World) : Prop where
  kb : Kb wi w.heap.size p x
  bb : Bx wi (w.heap.size + 1) [.int .i64 k, .string tok, .slice D dn dc]
  ws : In_ writeK wi D dn dc ws
  q : Q w wi
section
variable {w wi wj : World} {p : Kp} {x : Ks} {k : Int} {tok : ByteArray} {D : Option Addr} {dn dc : Nat} {ws : List Wr}
theorem Cm.step (h : Cm w p x k tok D dn dc ws wi) (q : Q wi wj) : Cm w p x k tok D dn dc ws wj := ⟨h.kb.q q, h.bb.q q, h.ws.q q, h.q.trans q⟩
theorem Cm.new (hk : Kr w p x) (hD : In_ writeK w D dn dc ws) (k : Int) (tok : ByteArray) : Cm w p x k tok D dn dc ws ((w.alloc (.cells (kL p x).toArray 32)).alloc (.cells #[.int .i64 k, .string tok, .slice D dn dc] 48)) := by
  refine ⟨(Kb.new hk).q ((Q.refl _).alloc _), ?_, hD.q (((Q.refl w).alloc _).alloc _), ((Q.refl w).alloc _).alloc _⟩
  have := Bx.new (w.alloc (.cells (kL p x).toArray 32)) [.int .i64 k, .string tok, .slice D dn dc] 48
  rw [show (w.alloc (.cells (kL p x).toArray 32)).heap.size = w.heap.size + 1 by simp] at this
  exact this
end

set_option maxHeartbeats 8000000 in
theorem walk (p : Kp) (x : Ks) (k : Int) (tok : ByteArray) (D : Option Addr) (dn dc : Nat) (ws : List Wr) (w : World) (hT : ∃ a b, Kt w a b) (hk : KsIn w p x) (hD : In_ writeK w D dn dc ws) (htok : tok.size ≤ maxLen) (hws : ∀ y ∈ ws, WrIn y) :
    Calls Tryz.prog 8 #[kvV p x, batV k tok D dn dc] w fun e w' => e = .returned (.bool true) ∧ Q w w' := by
  obtain ⟨a, b, hT⟩ := hT
  have HT := Lib.hid hT
  have hl1 : x.s.data.length = p.bn := hk.kr.dlen
  have hl2 : x.s.toks.length = p.cn := hk.kr.tlen
  have n1 := hk.bn
  have n2 := hk.cn
  have KC := Lib.hid (fun (W : World) (q : Q w W) => Commit_any p x k tok D dn dc ws W a b (hT.q q) (hk.kr.q q) hk.bnd (hD.q q).lst hD.max (by omega) (by omega))
  have kd : KeysIn x.s.data := fun q hq => by have := (hk.data q hq).1; unfold maxLen; omega
  have kt : KeysIn x.s.toks := fun q hq => by have := (hk.toks q hq).1; unfold maxLen; omega
  have kw : WKeysIn ws := fun q hq => by have := (hws q hq).1; unfold maxLen; omega
  have KD := Lib.hid (fun (W : World) (q : Q w W) => refDo_any k tok p.B p.C D p.bn p.bc p.cn p.cc dn dc x.s.data x.s.toks ws W (hk.kr.data.q q) (hk.kr.toks.q q) (hD.q q).lst hD.max (by omega) (by omega) kd kt kw htok)
  rw [show (⟨x.s.data, x.s.toks⟩ : Bm.Sta) = x.s from rfl] at KD
  have HB := Lib.hid (fun h => comM_bad (x := x) (b := ⟨k, tok, ws⟩) h)
  have HG := Lib.hid (fun h => comM_ok (x := x) (b := ⟨k, tok, ws⟩) h)
  generalize comM x ⟨k, tok, ws⟩ = y at KC HB HG
  obtain ⟨y, er⟩ := y
  have hkr := hk.kr
  obtain ⟨A, n, c, B, bn, bc, C, cn, cc⟩ := p
  obtain ⟨⟨l, room, fuse, off⟩, frm, seg, run, s, down⟩ := x
  obtain ⟨⟨l2, room2, fuse2, off2⟩, frm2, seg2, run2, s2, down2⟩ := y
  simp only at KC KD HB HG
  have X0 : Hid (Cm w ⟨A, n, c, B, bn, bc, C, cn, cc⟩ ⟨⟨l, room, fuse, off⟩, frm, seg, run, s, down⟩ k tok D dn dc ws ((w.alloc (.cells #[.slice A n c, .int .i64 room, .int .i64 fuse, .bool off, .int .i64 frm, .int .i64 seg, .int .i64 run, .slice B bn bc, .slice C cn cc, .bool down] 32)).alloc (.cells #[.int .i64 k, .string tok, .slice D dn dc] 48))) := Lib.hid (Cm.new hkr hD k tok)
  clear hT hl1 hl2 n1 n2 kd kt kw hk hkr hD htok hws
  by_cases he : er = 0
  · subst he
    obtain ⟨g1, rfl⟩ := HG.out rfl
    generalize Bm.doo s ⟨k, tok, ws⟩ = z at KD g1 KC
    obtain ⟨z, ze⟩ := z
    simp only at g1 KD KC
    subst g1
    clear HB HG
    go_enter Tryz.func8, Tryz.ntmps8
    go_upto_region 1 with (fail)
    generalize ((w.alloc (.cells #[.slice A n c, .int .i64 room, .int .i64 fuse, .bool off, .int .i64 frm, .int .i64 seg, .int .i64 run, .slice B bn bc, .slice C cn cc, .bool down] 32)).alloc (.cells #[.int .i64 k, .string tok, .slice D dn dc] 48)) = W at X0 ⊢
    go_wp2_with fail
    refine (kshown_any a b _ (HT.out.q X0.out.q)).mono ?_
    rintro e w1 ⟨rfl, q1⟩
    have X1 := Lib.hid (X0.out.step q1)
    clear q1 X0
    obtain ⟨e0, e1, e2, e3, e4, e5, e6, e7, e8, e9⟩ := kget X1.out.kb.box
    obtain ⟨b0, b1, b2⟩ := X1.out.bb.get3.1
    go_wp2_with fail
    refine (KC.out _ X1.out.q).mono ?_
    rintro e w2 ⟨p2, rfl, k2, q2⟩
    obtain ⟨A2, n2, c2, B2, bn2, bc2, C2, cn2, cc2⟩ := p2
    have Y : Hid (Kb (w2.alloc (.cells #[.slice A2 n2 c2, .int .i64 room2, .int .i64 fuse2, .bool off2, .int .i64 frm2, .int .i64 seg2, .int .i64 run2, .slice B2 bn2 bc2, .slice C2 cn2 cc2, .bool down2] 32)) w2.heap.size ⟨A2, n2, c2, B2, bn2, bc2, C2, cn2, cc2⟩ ⟨⟨l2, room2, fuse2, off2⟩, frm2, seg2, run2, z, down2⟩) := Lib.hid (Kb.new k2)
    have X2 : Hid (Cm w ⟨A, n, c, B, bn, bc, C, cn, cc⟩ ⟨⟨l, room, fuse, off⟩, frm, seg, run, s, down⟩ k tok D dn dc ws (w2.alloc (.cells #[.slice A2 n2 c2, .int .i64 room2, .int .i64 fuse2, .bool off2, .int .i64 frm2, .int .i64 seg2, .int .i64 run2, .slice B2 bn2 bc2, .slice C2 cn2 cc2, .bool down2] 32))) := Lib.hid ((X1.out.step q2).step ((Q.refl w2).alloc _))
    clear q2 k2 X1 e0 e1 e2 e3 e4 e5 e6 e7 e8 e9 b0 b1 b2
    go_upto_region 5 with (fail)
    generalize w2.alloc (.cells #[.slice A2 n2 c2, .int .i64 room2, .int .i64 fuse2, .bool off2, .int .i64 frm2, .int .i64 seg2, .int .i64 run2, .slice B2 bn2 bc2, .slice C2 cn2 cc2, .bool down2] 32) = W2 at Y X2 ⊢
    obtain ⟨e0, e1, e2, e3, e4, e5, e6, e7, e8, e9⟩ := kget X2.out.kb.box
    obtain ⟨b0, b1, b2⟩ := X2.out.bb.get3.1
    go_wp2_with fail
    refine (KD.out _ X2.out.q).mono ?_
    rintro e w3 ⟨A3, n3, c3, B3, m3, d3, rfl, i3, j3, q3⟩
    have Z := Lib.hid (Bx.new w3 [.slice A3 n3 c3, .slice B3 m3 d3] 30)
    have Y3 := Lib.hid (Y.out.q (q3.alloc (.cells #[.slice A3 n3 c3, .slice B3 m3 d3] 30)))
    have Q3 := Lib.hid ((X2.out.q.trans q3).alloc (.cells #[.slice A3 n3 c3, .slice B3 m3 d3] 30))
    have I3 := Lib.hid (And.intro (i3.q ((Q.refl w3).alloc (.cells #[.slice A3 n3 c3, .slice B3 m3 d3] 30))) (j3.q ((Q.refl w3).alloc (.cells #[.slice A3 n3 c3, .slice B3 m3 d3] 30))))
    clear q3 i3 j3 Y X2 e0 e1 e2 e3 e4 e5 e6 e7 e8 e9 b0 b1 b2
    go_upto_region 6 with (fail)
    generalize w3.alloc (.cells #[.slice A3 n3 c3, .slice B3 m3 d3] 30) = W3 at Z Y3 Q3 I3 ⊢
    obtain ⟨e0, e1, e2, e3, e4, e5, e6, e7, e8, e9⟩ := kget Y3.out.box
    obtain ⟨b0, b1⟩ := Z.out.get2.1
    go_wp2_with fail
    refine (refSameS_any A3 B3 B2 C2 n3 c3 m3 d3 bn2 bc2 cn2 cc2 z z _ I3.out.1 I3.out.2 Y3.out.is.data Y3.out.is.toks).mono ?_
    rw [decide_eq_true rfl]
    rintro e w4 ⟨rfl, q4⟩
    have Q4 := Lib.hid (Q3.out.trans q4)
    clear q4
    go_wp2
    go_ret
    exact ⟨by first | rfl | simp, Q4.out⟩
  · have hs : s2 = s := HB.out he
    subst hs
    clear HB HG KD
    go_enter Tryz.func8, Tryz.ntmps8
    go_upto_region 1 with (fail)
    generalize ((w.alloc (.cells #[.slice A n c, .int .i64 room, .int .i64 fuse, .bool off, .int .i64 frm, .int .i64 seg, .int .i64 run, .slice B bn bc, .slice C cn cc, .bool down] 32)).alloc (.cells #[.int .i64 k, .string tok, .slice D dn dc] 48)) = W at X0 ⊢
    go_wp2_with fail
    refine (kshown_any a b _ (HT.out.q X0.out.q)).mono ?_
    rintro e w1 ⟨rfl, q1⟩
    have X1 := Lib.hid (X0.out.step q1)
    clear q1 X0
    obtain ⟨e0, e1, e2, e3, e4, e5, e6, e7, e8, e9⟩ := kget X1.out.kb.box
    obtain ⟨b0, b1, b2⟩ := X1.out.bb.get3.1
    go_wp2_with fail
    refine (KC.out _ X1.out.q).mono ?_
    rintro e w2 ⟨p2, rfl, k2, q2⟩
    obtain ⟨A2, n2, c2, B2, bn2, bc2, C2, cn2, cc2⟩ := p2
    have Y : Hid (Kb (w2.alloc (.cells #[.slice A2 n2 c2, .int .i64 room2, .int .i64 fuse2, .bool off2, .int .i64 frm2, .int .i64 seg2, .int .i64 run2, .slice B2 bn2 bc2, .slice C2 cn2 cc2, .bool down2] 32)) w2.heap.size ⟨A2, n2, c2, B2, bn2, bc2, C2, cn2, cc2⟩ ⟨⟨l2, room2, fuse2, off2⟩, frm2, seg2, run2, s2, down2⟩) := Lib.hid (Kb.new k2)
    have X2 : Hid (Cm w ⟨A, n, c, B, bn, bc, C, cn, cc⟩ ⟨⟨l, room, fuse, off⟩, frm, seg, run, s2, down⟩ k tok D dn dc ws (w2.alloc (.cells #[.slice A2 n2 c2, .int .i64 room2, .int .i64 fuse2, .bool off2, .int .i64 frm2, .int .i64 seg2, .int .i64 run2, .slice B2 bn2 bc2, .slice C2 cn2 cc2, .bool down2] 32))) := Lib.hid ((X1.out.step q2).step ((Q.refl w2).alloc _))
    clear q2 k2 X1 e0 e1 e2 e3 e4 e5 e6 e7 e8 e9 b0 b1 b2
    go_upto_region 4 with (fail)
    generalize w2.alloc (.cells #[.slice A2 n2 c2, .int .i64 room2, .int .i64 fuse2, .bool off2, .int .i64 frm2, .int .i64 seg2, .int .i64 run2, .slice B2 bn2 bc2, .slice C2 cn2 cc2, .bool down2] 32) = W2 at Y X2 ⊢
    obtain ⟨e0, e1, e2, e3, e4, e5, e6, e7, e8, e9⟩ := kget X2.out.kb.box
    obtain ⟨f0, f1, f2, f3, f4, f5, f6, f7, f8, f9⟩ := kget Y.out.box
    go_wp2_with fail
    refine (refSameS_any B C B2 C2 bn bc cn cc bn2 bc2 cn2 cc2 s2 s2 _ X2.out.kb.is.data X2.out.kb.is.toks Y.out.is.data Y.out.is.toks).mono ?_
    rw [decide_eq_true rfl]
    rintro e w4 ⟨rfl, q4⟩
    have Q4 := Lib.hid (X2.out.q.trans q4)
    clear q4
    go_wp2
    go_ret
    exact ⟨by first | rfl | simp, Q4.out⟩
theorem opened (W : World) (args : Array Value) (hn : args.size = 2) (h : ∀ (j : Nat) t v, Tryz.f8.params[j]? = some t → args[j]? = some v → RdV W t v ∧ (false = true → RdU W t v.cells.toList)) (hL : laidMetH Tryz.prog Rows.kvCommitsRow.laid W) :
    Calls Tryz.prog 8 args W fun e W' => e = .returned (.bool true) ∧ Q W W' := by
  obtain ⟨v0, v1, rfl⟩ := args2 hn
  rw [Tryz.params8] at h
  obtain ⟨cs, rfl, hr⟩ := (h 0 32 v0 rfl rfl).1.struct Tryz.underlying32
  obtain ⟨p, x, rfl, hk⟩ := open_store hr
  obtain ⟨cb, rfl, hb⟩ := (h 1 48 v1 rfl rfl).1.struct Tryz.underlying48
  obtain ⟨k, tok, D, dn, dc, ws, rfl, ht, hD, _, hws, _⟩ := open_batch hb
  exact walk p x k tok D dn dc ws W (kt_laid hL) hk hD (by unfold maxLen; omega) hws

theorem start_met (os : Os) : laidMetH Tryz.prog Rows.kvCommitsRow.laid ((World.doorLaid Tryz.prog 600 os).forCall (fun _ _ => 0) ⟨#[], #[.agg #[.slice none 0 0, .int .i64 0, .int .i64 0, .bool false, .int .i64 0, .int .i64 0, .int .i64 0, .slice none 0 0, .slice none 0 0, .bool false], .agg #[.int .i64 0, .string ⟨#[]⟩, .slice none 0 0]], []⟩).memory :=
  laidMetH_of_parts3 (fuel := 8) (laidMet_of_run' 8 (by kernel_rfl) (by kernel_rfl)) (by kernel_rfl) (by kernel_rfl)
theorem reads (os : Os) {H : Type} (enc : TypeId × Value → H) : ∃ places, DataW.whole enc Tryz.prog ((World.doorLaid Tryz.prog 600 os).forCall (fun _ _ => 0) ⟨#[], #[.agg #[.slice none 0 0, .int .i64 0, .int .i64 0, .bool false, .int .i64 0, .int .i64 0, .int .i64 0, .slice none 0 0, .slice none 0 0, .bool false], .agg #[.int .i64 0, .string ⟨#[]⟩, .slice none 0 0]], []⟩).memory Tryz.f8.params.toList Rows.kvCommitsSpec.vars false (#[.agg #[.slice none 0 0, .int .i64 0, .int .i64 0, .bool false, .int .i64 0, .int .i64 0, .int .i64 0, .slice none 0 0, .slice none 0 0, .bool false], .agg #[.int .i64 0, .string ⟨#[]⟩, .slice none 0 0]] : Array Value).toList 8 = some ([.agg [.agg [.nil, .lit (.int .i64 0), .lit (.int .i64 0), .lit (.bool false)], .lit (.int .i64 0), .lit (.int .i64 0), .lit (.int .i64 0), .agg [.nil, .nil], .lit (.bool false)], .agg [.lit (.int .i64 0), .lit (.string []), .nil]], [], places) :=
  ⟨[], by kernel_rfl⟩

set_option maxRecDepth 100000 in
theorem lifted (os : Os) (started : os.Started) (H : Type) (enc : TypeId × Value → H) (F : Stop.Interp) :
    ReturnsInHanded {} Tryz.checked os 8 .any ((OpenSpec.ofChange Rows.kvCommitsSpec).preRow enc Tryz.prog Tryz.f8 Rows.kvCommitsRow.domain false Rows.kvCommitsRow.laid) (((OpenSpec.ofChange Rows.kvCommitsSpec).at F).post enc Tryz.prog Tryz.f8 false true false false) := by
  obtain ⟨places, hx⟩ := reads os enc
  refine returnsInHanded_of_row (C := Tryz.checked) (s := OpenSpec.ofChange Rows.kvCommitsSpec) ownKnob_ started (by kernel_rfl) Tryz.func8
    (witness_row_atRef (enc := enc) (C := Tryz.checked) false (World.doorLaid Tryz.prog 600 os) #[.agg #[.slice none 0 0, .int .i64 0, .int .i64 0, .bool false, .int .i64 0, .int .i64 0, .int .i64 0, .slice none 0 0, .slice none 0 0, .bool false], .agg #[.int .i64 0, .string ⟨#[]⟩, .slice none 0 0]] rfl (by kernel_rfl) (by kernel_rfl) (by kernel_rfl)
      (OpenSpec.preRow_of_cond 8 hx (by kernel_rfl) (fun k hk => by cases hk) (by kernel_rfl) (start_met os))) ?_
  intro W base args ds gs before hval hW _ hcond hsz hL _ _
  exact framedC (s := Rows.kvCommitsSpec) false Rows.kvCommitsRow.laid 2 (by rw [Tryz.params8]; rfl) rfl (by kernel_rfl) (by kernel_rfl)
    (fun H ds h => by match ds, h with | [d0, d1], _ => exact ⟨rfl, rfl, rfl⟩)
    opened H enc W base args ds gs before hval hW (fun h => by cases h) hsz hL

theorem over : Rows.KvCommitsSaid :=
  OpenClaim.holds_of_cond 8 Tryz.f8 rfl rfl rfl rfl rfl rfl rfl ⟨rfl, rfl, rfl, rfl, rfl⟩ rfl rfl rfl rfl rfl (by kernel_rfl) Tryz.func8 (by kernel_rfl)
    (of_decide_eq_true (by kernel_rfl)) (by unfold Func.isWrapper; first | (rw [if_pos (by decide +kernel)]; kernel_rfl) | (rw [if_neg (by decide +kernel)]; exact ⟨rfl, rfl⟩))
    (fun os started H enc _ F => by rw [OpenClaim.pre_eq_preRow]; exact lifted os started H enc F)

/-- No parameter wants a stand-in; the program's own looks are as the card says. -/
theorem plain (f : FuncId) (fn : Func) (hf : Tryz.pinned.checked.prog.funcNamed "stanchion/stanchionlaw08.KvCommits" = some f) (hfn : Tryz.pinned.checked.prog.funcs[f]? = some fn) :
    true = Tryz.pinned.checked.prog.looks [] ∧ ∀ (j : Nat) t, fn.params[j]? = some t → Tryz.pinned.checked.prog.wantsStandIn t = false := by
  obtain rfl : f = 8 := Option.some.inj ((show Tryz.prog.funcNamed "stanchion/stanchionlaw08.KvCommits" = some 8 by kernel_rfl).symm.trans hf) |>.symm
  obtain rfl : fn = Tryz.f8 := (Option.some.inj (Tryz.func8.symm.trans hfn)).symm
  refine ⟨by kernel_rfl, fun j t ht => ?_⟩
  have h0 : (Tryz.f8.params.toList.all fun t => !(Tryz.prog.wantsStandIn t)) = true := by kernel_rfl
  have h1 := List.all_eq_true.1 h0 t (by rw [← Array.getElem?_toList] at ht; exact List.mem_of_getElem? ht)
  exact (by simpa using h1 : Tryz.prog.wantsStandIn t = false)

theorem proved : Rows.KvCommitsCardSaid :=
  Claim7.holds_tied_plain_at .later [] _ _ _ _ over (fun _ h => by cases h) (by kernel_rfl) (fun _ h => by cases h) kvCommits_row_tie rfl ⟨rfl, rfl⟩ (by kernel_rfl) rfl plain (by kernel_rfl)
end Go.Proofs.YtbbfbdfmeifdfaaGreatDoor.kvCommits
