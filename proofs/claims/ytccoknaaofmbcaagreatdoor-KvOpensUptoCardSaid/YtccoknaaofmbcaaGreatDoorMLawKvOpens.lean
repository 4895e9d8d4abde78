/- For every disk, numbers and bytes: what is opened of the disk, the names of runs, the manifest, and what is taken of bytes as one, are as the document says. Its second form: where what it reads is of bulk at most 1048576. -/
import Derived.Test.YtccoknaaofmbcaaGreatDoorO16
import Derived.Test.YtccoknaaofmbcaaGreatDoorO13
import Derived.Test.YtccoknaaofmbcaaGreatDoorO17
import Derived.Test.YtccoknaaofmbcaaGreatDoorO18
set_option linter.unusedVariables false
set_option linter.unusedSimpArgs false
set_option maxRecDepth 100000
set_option maxHeartbeats 16000000
open Go.Lib (hid)
namespace Go.Proofs.YtccoknaaofmbcaaGreatDoor.kvOpensUpto
open Go.ChangeShapes Go.WideShapes Go.ChangeAt Go.RowKit Dkm Prm Km Wm
theorem walk (A:Option Addr)(n c:Nat)(d:Dk)(fr rn:Int)(s:ByteArray)(w:World)(hT:∃ a b,Kt w a b)(hd:Dsk w A n c d.fs)(hB:Bnd 2097152 d)(hs:s.size≤maxLen)
  (f0:-9223372036854775808≤fr) (f1:fr≤9223372036854775807) (g0:-9223372036854775808≤rn) (g1:rn≤9223372036854775807) :
  Calls Tryz.prog 3 #[.agg #[.slice A n c,.int .i64 d.room,.int .i64 d.fuse,.bool d.off,.int .i64 fr,.int .i64 rn,.string s]] w fun e w'=>e=.returned (.bool true)∧Q w w':=by
 obtain⟨a,b,hT⟩:=hT
 have HT:=hid hT
 have HD:=hid hd
 have K1:=hid (fun W (q:Q w W)=>kOpenB_any A n c d W a b (hT.q q) (hd.q q) hB)
 have K2:=hid (fun W (q:Q w W)=>refKOpen_any A n c d W (hd.q q) hB)
 have K3:=hid (fun W=>takeMan_any s W hs)
 have K4:=hid (fun W=>refTakeMan_any s W hs)
 have K5:=hid (fun W (q:Q w W)=>runName_any rn W (hT.q q).tab)
 have K6:=hid (fun W=>refRunName_any rn W g0 g1)
 have K7:=hid (fun W=>manifest_any fr rn W f1 g1)
 have K8:=hid (fun W=>refManifest_any fr rn W f1 g1 f0 g0)
 obtain⟨l,room,fuse,off⟩:=d
 clear hT hd hB hs f0 f1 g0 g1
 generalize openM ⟨l,room,fuse,off⟩=y at K1 K2
 obtain⟨y,er⟩:=y
 obtain⟨⟨l2,room2,fuse2,off2⟩,frm2,seg2,run2,s2,down2⟩:=y
 generalize tman s.data.toList=m at K3 K4
 obtain⟨m0,m1,m2⟩:=m
 generalize rnamB rn=nm at K5 K6
 generalize manB fr rn=mb at K7 K8
 simp only at K1 K2 K3 K4
 have QQ:=hid (((Q.refl w).alloc (.cells #[.slice A n c,.int .i64 room,.int .i64 fuse,.bool off,.int .i64 fr,.int .i64 rn,.string s] 26)).alloc (.cells #[.slice A n c,.int .i64 room,.int .i64 fuse,.bool off] 24))
 have XB:=hid ((Bx.new w [.slice A n c,.int .i64 room,.int .i64 fuse,.bool off,.int .i64 fr,.int .i64 rn,.string s] 26).alloc (.cells #[.slice A n c,.int .i64 room,.int .i64 fuse,.bool off] 24))
 have XB:Hid (Bx ((w.alloc (.cells #[.slice A n c,.int .i64 room,.int .i64 fuse,.bool off,.int .i64 fr,.int .i64 rn,.string s] 26)).alloc (.cells #[.slice A n c,.int .i64 room,.int .i64 fuse,.bool off] 24)) w.heap.size [.slice A n c,.int .i64 room,.int .i64 fuse,.bool off,.int .i64 fr,.int .i64 rn,.string s]):=XB
 have XD:=hid (Bx.new (w.alloc (.cells #[.slice A n c,.int .i64 room,.int .i64 fuse,.bool off,.int .i64 fr,.int .i64 rn,.string s] 26)) [.slice A n c,.int .i64 room,.int .i64 fuse,.bool off] 24)
 have XD:Hid (Bx ((w.alloc (.cells #[.slice A n c,.int .i64 room,.int .i64 fuse,.bool off,.int .i64 fr,.int .i64 rn,.string s] 26)).alloc (.cells #[.slice A n c,.int .i64 room,.int .i64 fuse,.bool off] 24)) (w.alloc (.cells #[.slice A n c,.int .i64 room,.int .i64 fuse,.bool off,.int .i64 fr,.int .i64 rn,.string s] 26)).heap.size [.slice A n c,.int .i64 room,.int .i64 fuse,.bool off]):=XD
 go_enter Tryz.func3,Tryz.ntmps3
 go_upto_region 2 with (fail)
 rw[show (w.alloc (.cells #[.slice A n c,.int .i64 room,.int .i64 fuse,.bool off,.int .i64 fr,.int .i64 rn,.string s] 26)).heap.size=w.heap.size+1 by simp] at XD
 generalize ((w.alloc (.cells #[.slice A n c,.int .i64 room,.int .i64 fuse,.bool off,.int .i64 fr,.int .i64 rn,.string s] 26)).alloc (.cells #[.slice A n c,.int .i64 room,.int .i64 fuse,.bool off] 24))=W at QQ XB XD ⊢
 have b4:=(XB.out 4 _ rfl).1
 have b5:=(XB.out 5 _ rfl).1
 have b6:=(XB.out 6 _ rfl).1
 go_wp2_with fail
 refine(kshown_any a b _ (HT.out.q QQ.out)).mono ?_
 rintro e w1 ⟨rfl,q1⟩
 have QQ:=hid (QQ.out.trans q1)
 have XD:=hid (XD.out.q q1)
 clear q1 b4 b5 b6 XB
 obtain⟨⟨d0,d1,d2,d3⟩,_⟩:=XD.out.get4
 go_wp2_with fail
 refine(K1.out _ QQ.out).mono ?_
 rintro e w2 ⟨p5,rfl,k5,q2⟩
 obtain⟨A5,n5,c5,B5,bn5,bc5,C5,cn5,cc5⟩:=p5
 have V5:Hid (Kb (w2.alloc (.cells #[.slice A5 n5 c5,.int .i64 room2,.int .i64 fuse2,.bool off2,.int .i64 frm2,.int .i64 seg2,.int .i64 run2,.slice B5 bn5 bc5,.slice C5 cn5 cc5,.bool down2] 32)) w2.heap.size ⟨A5,n5,c5,B5,bn5,bc5,C5,cn5,cc5⟩ ⟨⟨l2,room2,fuse2,off2⟩,frm2,seg2,run2,s2,down2⟩):=hid (Kb.new k5)
 have QQ:=hid (QQ.out.trans (q2.alloc (.cells #[.slice A5 n5 c5,.int .i64 room2,.int .i64 fuse2,.bool off2,.int .i64 frm2,.int .i64 seg2,.int .i64 run2,.slice B5 bn5 bc5,.slice C5 cn5 cc5,.bool down2] 32)))
 have XD:=hid (XD.out.q (q2.alloc (.cells #[.slice A5 n5 c5,.int .i64 room2,.int .i64 fuse2,.bool off2,.int .i64 frm2,.int .i64 seg2,.int .i64 run2,.slice B5 bn5 bc5,.slice C5 cn5 cc5,.bool down2] 32)))
 clear q2 k5 d0 d1 d2 d3
 go_upto_region 7 with (fail)
 generalize w2.alloc (.cells #[.slice A5 n5 c5,.int .i64 room2,.int .i64 fuse2,.bool off2,.int .i64 frm2,.int .i64 seg2,.int .i64 run2,.slice B5 bn5 bc5,.slice C5 cn5 cc5,.bool down2] 32)=W2 at V5 QQ XD ⊢
 generalize w2.heap.size=g5 at V5 ⊢
 obtain⟨⟨d0,d1,d2,d3⟩,_⟩:=XD.out.get4
 go_wp2_with fail
 refine(K2.out _ QQ.out).mono ?_
 rintro e w3 ⟨p7,rfl,k7,q3⟩
 obtain⟨A7,n7,c7,B7,bn7,bc7,C7,cn7,cc7⟩:=p7
 have V7:Hid (Kb (w3.alloc (.cells #[.slice A7 n7 c7,.int .i64 room2,.int .i64 fuse2,.bool off2,.int .i64 frm2,.int .i64 seg2,.int .i64 run2,.slice B7 bn7 bc7,.slice C7 cn7 cc7,.bool down2] 32)) w3.heap.size ⟨A7,n7,c7,B7,bn7,bc7,C7,cn7,cc7⟩ ⟨⟨l2,room2,fuse2,off2⟩,frm2,seg2,run2,s2,down2⟩):=hid (Kb.new k7)
 have QQ:=hid (QQ.out.trans (q3.alloc (.cells #[.slice A7 n7 c7,.int .i64 room2,.int .i64 fuse2,.bool off2,.int .i64 frm2,.int .i64 seg2,.int .i64 run2,.slice B7 bn7 bc7,.slice C7 cn7 cc7,.bool down2] 32)))
 have V5:=hid (V5.out.q (q3.alloc (.cells #[.slice A7 n7 c7,.int .i64 room2,.int .i64 fuse2,.bool off2,.int .i64 frm2,.int .i64 seg2,.int .i64 run2,.slice B7 bn7 bc7,.slice C7 cn7 cc7,.bool down2] 32)))
 clear q3 k7 d0 d1 d2 d3 XD
 go_upto_region 8 with (fail)
 generalize w3.alloc (.cells #[.slice A7 n7 c7,.int .i64 room2,.int .i64 fuse2,.bool off2,.int .i64 frm2,.int .i64 seg2,.int .i64 run2,.slice B7 bn7 bc7,.slice C7 cn7 cc7,.bool down2] 32)=W3 at V5 V7 QQ ⊢
 generalize w3.heap.size=g7 at V7 ⊢
 obtain⟨a0,a1,a2,a3,a4,a5,a6,a7,a8,a9⟩:=kget V5.out.box
 obtain⟨b0,b1,b2,b3,b4,b5,b6,b7,b8,b9⟩:=kget V7.out.box
 have KS:=hid (ksame_one ⟨A5,n5,c5,B5,bn5,bc5,C5,cn5,cc5⟩ ⟨A7,n7,c7,B7,bn7,bc7,C7,cn7,cc7⟩ ⟨⟨l2,room2,fuse2,off2⟩,frm2,seg2,run2,s2,down2⟩ W3 V5.out.is V7.out.is)
 go_wp2_with fail
 refine KS.out.mono ?_
 rintro e w4 ⟨rfl,q4⟩
 have QQ:=hid (QQ.out.trans q4)
 clear q4 KS V5 V7
 clear a0 a1 a2 a3 a4 a5 a6 a7 a8 a9
 clear b0 b1 b2 b3 b4 b5 b6 b7 b8 b9
 go_wp2_with fail
 refine(K3.out _).mono ?_
 rintro e w5 ⟨rfl,q5⟩
 have QQ:=hid (QQ.out.trans q5)
 clear q5
 go_wp2_with fail
 refine(K4.out _).mono ?_
 rintro e w6 ⟨rfl,q6⟩
 have QQ:=hid (QQ.out.trans q6)
 clear q6
 have i1:(er == er)=true:=by simp
 have i2:(nm.toList == nm.toList)=true:=by simp
 have i3:(mb.toList == mb.toList)=true:=by simp
 have i4:(m0 == m0)=true:=by simp
 have i5:(m1 == m1)=true:=by simp
 have i6:(m2 == m2)=true:=by simp
 go_wp2_with fail
 refine(K5.out _ QQ.out).mono ?_
 rintro e w7 ⟨rfl,q7⟩
 have QQ:=hid (QQ.out.trans q7)
 clear q7
 go_wp2_with fail
 refine(K6.out _).mono ?_
 rintro e w8 ⟨rfl,q8⟩
 have QQ:=hid (QQ.out.trans q8)
 clear q8
 go_wp2_with fail
 refine(K7.out _).mono ?_
 rintro e w9 ⟨rfl,q9⟩
 have QQ:=hid (QQ.out.trans q9)
 clear q9
 go_wp2_with fail
 refine(K8.out _).mono ?_
 rintro e w10 ⟨rfl,q10⟩
 have QQ:=hid (QQ.out.trans q10)
 clear q10
 go_wp2
 go_ret
 exact⟨by first | rfl | simp,QQ.out⟩
theorem opened (W:World)(args:Array Value)(hn:args.size=1)(h:∀ (j:Nat) t v,Tryz.f3.params[j]? = some t→args[j]? = some v→RdV W t v∧(true=true→RdU W t v.cells.toList))(hL:laidMetH Tryz.prog Rows.kvOpensUptoRow.laid W) :
  Calls Tryz.prog 3 args W fun e W'=>e=.returned (.bool true)∧Q W W':=by
 obtain⟨v,rfl⟩:=args1 hn
 rw[Tryz.params3] at h
 obtain⟨h1,h2⟩:=h 0 26 v rfl rfl
 obtain⟨cs,rfl,hr⟩:=h1.struct Tryz.underlying26
 have hu:=h2 rfl
 rw[show (Value.agg cs.toArray).cells.toList=cs by simp[Value.cells]] at hu
 obtain⟨hl,_⟩:=hr.struct Tryz.underlying26
 rw[show Tryz.prog.cellsOf 26 = 7 by kernel_rfl] at hl
 match cs,hl with
 | [x0,x1,x2,x3,x4,x5,x6],_ =>
   obtain⟨A,n,c,d,e0,hd⟩:=open_disk (hr.field Tryz.underlying26 0 (ty := 24) 0 4 rfl (by kernel_rfl))
   obtain⟨fr,e1,r1⟩:=(hr.field Tryz.underlying26 1 (ty := 3) 4 1 rfl (by kernel_rfl)).int Tryz.underlying3
   obtain⟨rn,e2,r2⟩:=(hr.field Tryz.underlying26 2 (ty := 3) 5 1 rfl (by kernel_rfl)).int Tryz.underlying3
   obtain⟨s,e3,r3⟩:=(hr.field Tryz.underlying26 3 (ty := 9) 6 1 rfl (by kernel_rfl)).string Tryz.underlying9
   have u0:=hu.field Tryz.underlying26 0 (ty := 24) 0 4 rfl (by kernel_rfl)
   simp at e0 e1 e2 e3 u0
   obtain⟨rfl,rfl,rfl,rfl⟩:=e0
   subst e1 e2 e3
   have hsm:=hd.small u0
   exact walk A n c d fr rn s W (kt_laid hL) hd.dsk ⟨fun f hf=>by have:=hsm f hf;omega,hd.bnd.few,hd.room,hd.fuse⟩ (by unfold maxLen;omega) (wf_i64 r1).1 (wf_i64 r1).2 (wf_i64 r2).1 (wf_i64 r2).2
theorem start_met (os:Os):laidMetH Tryz.prog Rows.kvOpensUptoRow.laid ((World.doorLaid Tryz.prog 600 os).forCall (fun _ _=>0) ⟨#[],#[.agg #[.slice none 0 0,.int .i64 0,.int .i64 0,.bool false,.int .i64 0,.int .i64 0,.string ⟨#[]⟩]],[]⟩).memory:=
  laidMetH_of_parts3 (fuel:=8) (laidMet_of_run' 8 (by kernel_rfl) (by kernel_rfl)) (by kernel_rfl) (by kernel_rfl)
theorem reads (os:Os){H:Type}(enc:TypeId×Value→H):∃ places,DataW.whole enc Tryz.prog ((World.doorLaid Tryz.prog 600 os).forCall (fun _ _=>0) ⟨#[],#[.agg #[.slice none 0 0,.int .i64 0,.int .i64 0,.bool false,.int .i64 0,.int .i64 0,.string ⟨#[]⟩]],[]⟩).memory Tryz.f3.params.toList Rows.kvOpensSpec.vars false (#[.agg #[.slice none 0 0,.int .i64 0,.int .i64 0,.bool false,.int .i64 0,.int .i64 0,.string ⟨#[]⟩]]:Array Value).toList 8=some ([.agg [.agg [.nil,.lit (.int .i64 0),.lit (.int .i64 0),.lit (.bool false)],.lit (.int .i64 0),.lit (.int .i64 0),.lit (.string [])]],[],places):=
  ⟨[],by kernel_rfl⟩
theorem lifted (os:Os)(started:os.Started)(H:Type)(enc:TypeId×Value→H)(F:Stop.Interp) :
  ReturnsInHanded {} Tryz.checked os 3 .any ((Rows.OpenSpec.upto Rows.kvOpensSpec).preRow enc Tryz.prog Tryz.f3 Rows.kvOpensUptoRow.domain false Rows.kvOpensUptoRow.laid) (((Rows.OpenSpec.upto Rows.kvOpensSpec).at F).post enc Tryz.prog Tryz.f3 false true false false):=by
 obtain⟨places,hx⟩:=reads os enc
 refine returnsInHanded_of_row (C:=Tryz.checked) (s:=Rows.OpenSpec.upto Rows.kvOpensSpec) ownKnob_ started (by kernel_rfl) Tryz.func3
   (witness_row_atRef (enc:=enc) (C:=Tryz.checked) false (World.doorLaid Tryz.prog 600 os) #[.agg #[.slice none 0 0,.int .i64 0,.int .i64 0,.bool false,.int .i64 0,.int .i64 0,.string ⟨#[]⟩]] rfl (by kernel_rfl) (by kernel_rfl) (by kernel_rfl)
     (OpenSpec.preRow_of_cond 8 hx (by kernel_rfl) (fun k hk=>by cases hk;kernel_rfl) (by kernel_rfl) (start_met os))) ?_
 intro W base args ds gs before hval hW _ hcond hsz hL _ _
 exact framedC (s:=Rows.kvOpensSpec) true Rows.kvOpensUptoRow.laid 1 (by rw[Tryz.params3];rfl) rfl (by kernel_rfl) (by kernel_rfl)
   (fun H ds h=>by match ds,h with | [d0],_=>exact⟨rfl,rfl,rfl⟩)
   opened H enc W base args ds gs before hval hW (fun _=>of_decide_eq_true (hcond _ rfl)) hsz hL
theorem over:Rows.KvOpensUptoSaid:=
 OpenClaim.holds_of_cond 3 Tryz.f3 rfl rfl rfl rfl rfl rfl rfl ⟨rfl,rfl,rfl,rfl,rfl⟩ rfl rfl rfl rfl rfl (by kernel_rfl) Tryz.func3 (by kernel_rfl)
   (of_decide_eq_true (by kernel_rfl)) (by unfold Func.isWrapper;first | (rw[if_pos (by decide +kernel)];kernel_rfl) | (rw[if_neg (by decide +kernel)];exact⟨rfl,rfl⟩))
   (fun os started H enc _ F=>by rw[OpenClaim.pre_eq_preRow];exact lifted os started H enc F)
theorem plain (f:FuncId)(fn:Func)(hf:Tryz.pinned.checked.prog.funcNamed "stanchion/stanchionlaw08.KvOpens" = some f)(hfn:Tryz.pinned.checked.prog.funcs[f]? = some fn) :
  true=Tryz.pinned.checked.prog.looks []∧∀ (j:Nat) t,fn.params[j]? = some t→Tryz.pinned.checked.prog.wantsStandIn t=false:=by
 obtain rfl:f = 3 := Option.some.inj ((show Tryz.prog.funcNamed "stanchion/stanchionlaw08.KvOpens" = some 3 by kernel_rfl).symm.trans hf) |>.symm
 obtain rfl:fn=Tryz.f3 := (Option.some.inj (Tryz.func3.symm.trans hfn)).symm
 refine⟨by kernel_rfl,fun j t ht=>?_⟩
 have h0:(Tryz.f3.params.toList.all fun t=>!(Tryz.prog.wantsStandIn t))=true:=by kernel_rfl
 have h1:=List.all_eq_true.1 h0 t (by rw[←Array.getElem?_toList] at ht;exact List.mem_of_getElem? ht)
 exact(by simpa using h1:Tryz.prog.wantsStandIn t=false)
theorem proved:Rows.KvOpensUptoCardSaid:=
 Claim7.holds_tied_plain_at .later [] _ _ _ _ over (fun _ h=>by cases h) (by kernel_rfl) (fun _ h=>by cases h) kvOpensUpto_row_tie rfl ⟨rfl,rfl⟩ (by kernel_rfl) rfl plain (by kernel_rfl)
end Go.Proofs.YtccoknaaofmbcaaGreatDoor.kvOpensUpto
